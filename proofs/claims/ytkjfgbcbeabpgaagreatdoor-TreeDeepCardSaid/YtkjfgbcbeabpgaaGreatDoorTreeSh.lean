/-
  Statements as trees, and the rows of memory that hold them; the table of parts.
  Small functions of the rules for statements.
-/
import Derived.Test.YtkjfgbcbeabpgaaGreatDoorTreeF
import Derived.Test.YtkjfgbcbeabpgaaGreatDoorTreeGp
import Derived.Test.YtkjfgbcbeabpgaaGreatDoorTreeGe
namespace Go.Proofs.YtkjfgbcbeabpgaaGreatDoor
open Go.RowKit

structure Cal where
  r : List UInt8
  p : List UInt8
  l : List Ex

def CalAt (w : World) (B : Nat) (p : Addr) (x : Cal) : Prop :=
  ∃ (A : Option Addr) (c : Nat), w.cell? p = some (.string ⟨x.r.toArray⟩) ∧ w.cell? (p.add 1) = some (.string ⟨x.p.toArray⟩) ∧ w.cell? (p.add 2) = some (.slice A x.l.length c) ∧ x.r.length ≤ maxLen ∧ x.p.length ≤ maxLen ∧ x.l.length ≤ maxLen ∧ ExRow w B x.l A

theorem cal_keeps : Keeps CalAt := by
  rintro w w' B B' p x hk hB hp ⟨A, c, h0, h1, h2, h3, h4, h5, h6⟩
  exact ⟨A, c, (hk _ hp).trans h0, (hk _ (by rw [block_adds]; exact hp)).trans h1, (hk _ (by rw [block_adds]; exact hp)).trans h2, h3, h4, h5, h6.keep hk hB⟩

abbrev CalRow := RowX CalAt 3
abbrev callV (r p : ByteArray) (l : Value) : Value := .agg #[.string r, .string p, l]
abbrev callC (r p : ByteArray) (l : Value) : Obj := .cells #[.string r, .string p, l] 89

inductive St where
  | mk (k ln co : Int) (nm fd fr : List UInt8) (e : Ex) (c : Cn) (cl : List Cal) (iv : List Fm) (b o : List St) : St

def St.body : St → List St
  | .mk _ _ _ _ _ _ _ _ _ _ b _ => b
def St.els : St → List St
  | .mk _ _ _ _ _ _ _ _ _ _ _ o => o

/-- Where the lists of a statement lie, and their room. -/
structure SAd where
  e : Option Addr
  a : Option Addr
  b : Option Addr
  l : Option Addr
  c : Option Addr
  i : Option Addr
  s : Option Addr
  t : Option Addr
  ne : Nat
  na : Nat
  nb : Nat
  nl : Nat
  nc : Nat
  ni : Nat
  ns : Nat
  nt : Nat

/-- The 24 cells of a statement. -/
def stCs (d : SAd) : St → Array Value
  | .mk k ln co nm fd fr (.mk ek en es el) (.mk ck (.mk ak an sa al) (.mk bk bn sb bl) l) cl iv b o =>
    #[.int .i64 k, .int .i64 ln, .int .i64 co, .string ⟨nm.toArray⟩, .string ⟨fd.toArray⟩, .string ⟨fr.toArray⟩, .int .i64 ek, .int .i64 en, .string ⟨es.toArray⟩, .slice d.e el.length d.ne,
      .int .i64 ck, .int .i64 ak, .int .i64 an, .string ⟨sa.toArray⟩, .slice d.a al.length d.na, .int .i64 bk, .int .i64 bn, .string ⟨sb.toArray⟩, .slice d.b bl.length d.nb, .slice d.l l.length d.nl,
      .slice d.c cl.length d.nc, .slice d.i iv.length d.ni, .slice d.s b.length d.ns, .slice d.t o.length d.nt]

/-- What a statement has besides its blocks. -/
def StOwn (w : World) (B : Nat) (d : SAd) : St → Prop
  | .mk _ _ _ nm fd fr (.mk _ _ es el) (.mk _ (.mk _ _ sa al) (.mk _ _ sb bl) l) cl iv b o =>
    (nm.length ≤ maxLen ∧ fd.length ≤ maxLen ∧ fr.length ≤ maxLen ∧ es.length ≤ maxLen ∧ el.length ≤ maxLen ∧ sa.length ≤ maxLen ∧ al.length ≤ maxLen ∧ sb.length ≤ maxLen ∧ bl.length ≤ maxLen ∧ l.length ≤ maxLen ∧ cl.length ≤ maxLen ∧ iv.length ≤ maxLen ∧ b.length ≤ maxLen ∧ o.length ≤ maxLen) ∧
      ExRow w B el d.e ∧ ExRow w B al d.a ∧ ExRow w B bl d.b ∧ CnRow w B l d.l ∧ CalRow w B cl d.c ∧ FmRow w B iv d.i

theorem StOwn.keep {w w' : World} {B B' : Nat} (hk : ∀ q : Addr, q.block < B → w'.cell? q = w.cell? q) (hB : B ≤ B') {d : SAd} {s : St} (h : StOwn w B d s) : StOwn w' B' d s := by
  obtain ⟨k, ln, co, nm, fd, fr, ⟨ek, en, es, el⟩, ⟨ck, ⟨ak, an, sa, al⟩, ⟨bk, bn, sb, bl⟩, l⟩, cl, iv, b, o⟩ := s
  obtain ⟨h0, h1, h2, h3, h4, h5, h6⟩ := h
  exact ⟨h0, h1.keep hk hB, h2.keep hk hB, h3.keep hk hB, h4.keep hk hB, h5.keep cal_keeps hk hB, h6.keep fm_keeps hk hB⟩

theorem stCs_size (d : SAd) (s : St) : (stCs d s).size = 24 := by
  obtain ⟨k, ln, co, nm, fd, fr, ⟨ek, en, es, el⟩, ⟨ck, ⟨ak, an, sa, al⟩, ⟨bk, bn, sb, bl⟩, l⟩, cl, iv, b, o⟩ := s
  rfl

theorem stCs_one (d : SAd) (s : St) : (stCs d s).all (·.oneCell') = true := by
  obtain ⟨k, ln, co, nm, fd, fr, ⟨ek, en, es, el⟩, ⟨ck, ⟨ak, an, sa, al⟩, ⟨bk, bn, sb, bl⟩, l⟩, cl, iv, b, o⟩ := s
  unfold stCs
  rw [List.all_toArray]
  rfl

/-- The row at A holds these statements; all their memory is below B. -/
inductive StRow (w : World) (B : Nat) : List St → Option Addr → Prop
  | nil (A : Option Addr) : StRow w B [] A
  | row (a : Addr) (ss : List St) (D : Nat → SAd) (hb : a.block < B)
      (cells : ∀ i s, ss[i]? = some s → (∀ j v, (stCs (D i) s)[j]? = some v → w.cell? ((a.add (i * 24)).add j) = some v) ∧ StOwn w B (D i) s)
      (sub1 : ∀ i s, ss[i]? = some s → StRow w B s.body (D i).s) (sub2 : ∀ i s, ss[i]? = some s → StRow w B s.els (D i).t) : StRow w B ss (some a)

theorem StRow.at_ {w : World} {B : Nat} {ss : List St} {A : Option Addr} (h : StRow w B ss A) {i : Nat} {s : St} (hi : ss[i]? = some s) :
    ∃ a d, A = some a ∧ a.block < B ∧ (∀ j v, (stCs d s)[j]? = some v → w.cell? ((a.add (i * 24)).add j) = some v) ∧ StOwn w B d s ∧ StRow w B s.body d.s ∧ StRow w B s.els d.t := by
  cases h with
  | nil => simp at hi
  | row a ss D hb cells sub1 sub2 => exact ⟨a, D i, rfl, hb, (cells i s hi).1, (cells i s hi).2, sub1 i s hi, sub2 i s hi⟩

theorem StRow.keep {w w' : World} {B B' : Nat} (hk : ∀ q : Addr, q.block < B → w'.cell? q = w.cell? q) (hB : B ≤ B') {ss : List St} {A : Option Addr} (h : StRow w B ss A) : StRow w' B' ss A := by
  induction h with
  | nil A => exact .nil A
  | row a ss D hb cells sub1 sub2 ih1 ih2 =>
    exact .row a ss D (Nat.lt_of_lt_of_le hb hB) (fun i s hi => ⟨fun j v hv => (hk _ (by rw [block_adds, block_adds]; exact hb)).trans ((cells i s hi).1 j v hv), (cells i s hi).2.keep hk hB⟩) ih1 ih2

theorem StRow.on {w w' : World} (hb : Below w.heap.size w w') {ss : List St} {A : Option Addr} (h : StRow w w.heap.size ss A) : StRow w' w'.heap.size ss A := h.keep (fun _ hp => hb.cell hp) hb.size
theorem StOwn.on {w w' : World} (hb : Below w.heap.size w w') {d : SAd} {s : St} (h : StOwn w w.heap.size d s) : StOwn w' w'.heap.size d s := h.keep (fun _ hp => hb.cell hp) hb.size
theorem CnRow.on {w w' : World} (hb : Below w.heap.size w w') {ss : List Cn} {A : Option Addr} (h : CnRow w w.heap.size ss A) : CnRow w' w'.heap.size ss A := h.keep (fun _ hp => hb.cell hp) hb.size

/-- The parts of each kind of statements. -/
def partsL : List Int := [0, 33, 21, 49, 9, 1, 1, 128, 3136, 1600, 64, 1026, 384]

theorem cell_lt2S {w : World} {a : Addr} {v : Value} (h : w.cell? a = some v) : a.block < w.heap.size := World.block_lt_of_cell? w a h

/-- The table of parts lies in memory as the text says. -/
def PartsAt (w : World) : Prop := ∀ i, i < 13 → w.cell? ⟨0, i, none⟩ = some (.int .i64 (partsL.getD i 0))

theorem PartsAt.on {w w' : World} (hb : Below w.heap.size w w') (h : PartsAt w) : PartsAt w' := fun i hi => (hb.cell (cell_lt2S (h i hi))).trans (h i hi)

/-- Whether a part is there. -/
def hasB (p x : Int) : Bool := !decide (bits .and .i64 p x = 0)
def mostB (p x n : Int) : Int := if hasB p x then n else 0

def vCal (var : List UInt8 → Bool) (nu : Int) (x : Cal) : Bool := (x.r.isEmpty || var x.r) && nameL x.p && (decide ((0 : Int) ≤ x.l.length) && decide ((x.l.length : Int) ≤ 8) && x.l.all (vE var nu 30))

def zC : Cn → Bool
  | .mk k a b l => (k == 0) && zX a && zX b && l.isEmpty

theorem zC_eq (k : Int) (a b : Ex) (l : List Cn) : zC (.mk k a b l) = ((k == 0) && zX a && zX b && l.isEmpty) := rfl

def vWord (var : List UInt8 → Bool) (s : List UInt8) (v o : Bool) : Bool := if v then var s else if o then nameL s else s.isEmpty

def vPos (ln co : Int) : Bool := decide (0 ≤ ln) && decide (ln ≤ 65537) && decide (0 ≤ co) && decide (co ≤ 65537)

/-- Whether a statement is valid, where sub says what depth the blocks may have. -/
def vSt (var : List UInt8 → Bool) (nu ex : Int) (sub : List St → Bool) : St → Bool
  | .mk k ln co nm fd fr e c cl iv b o =>
    if 1 ≤ k ∧ k ≤ 12 then
      let p := partsL.getD k.toNat 0
      let n := mostB p 128 1 + mostB p 256 1
      vPos ln co && (vWord var nm (hasB p 1) (hasB p 2) && vWord var fr (hasB p 4) (hasB p 8) && vWord var fd false (hasB p 16)) &&
        (if hasB p 32 then vE var nu 30 e else zX e) && (if hasB p 64 then vC var nu 30 c else zC c) &&
        (decide (n ≤ cl.length) && decide ((cl.length : Int) ≤ n) && cl.all (vCal var nu)) &&
        (decide ((0 : Int) ≤ iv.length) && decide ((iv.length : Int) ≤ mostB p 512 100) && iv.all (vF var nu ex)) &&
        (if hasB p 1024 then sub b else b.isEmpty) && (if hasB p 2048 then sub o else o.isEmpty)
    else false

/-- Whether a list of statements is valid, with at most a depth. -/
def vSs (var : List UInt8 → Bool) (nu ex : Int) : Nat → List St → Bool
  | 0, l => l.isEmpty
  | d + 1, l => l.isEmpty || (decide ((1 : Int) ≤ l.length) && decide ((l.length : Int) ≤ 100) && l.all (vSt var nu ex (vSs var nu ex d)))

end Go.Proofs.YtkjfgbcbeabpgaaGreatDoor

namespace Go.Proofs.YtkjfgbcbeabpgaaGreatDoor
open Go.RowKit

theorem phas_any (p x : Int) (w : World) : Calls Tryz.prog 195 #[.int .i64 p, .int .i64 x] w fun e w' => e = .returned (.bool (hasB p x)) ∧ w = w' := by
  unfold hasB
  by_cases h : bits .and .i64 p x = 0
  · rw [decide_eq_true h]
    go_enter Tryz.func195, Tryz.ntmps195
    go_wp2
    go_ret
    exact ⟨by first | rfl | (simp [h]; done), rfl⟩
  · rw [decide_eq_false h]
    go_enter Tryz.func195, Tryz.ntmps195
    go_wp2
    go_ret
    exact ⟨by first | rfl | (simp [h]; done), rfl⟩

theorem most_any (p x n : Int) (w : World) : Calls Tryz.prog 192 #[.int .i64 p, .int .i64 x, .int .i64 n] w fun e w' => e = .returned (.int .i64 (mostB p x n)) ∧ w = w' := by
  have HH : Hid (∀ w, Calls Tryz.prog 195 #[.int .i64 p, .int .i64 x] w fun e w' => e = .returned (.bool (hasB p x)) ∧ w = w') := Lib.hid (phas_any p x)
  unfold mostB
  generalize hasB p x = b at *
  cases b with
  | false =>
    rw [if_neg Bool.false_ne_true]
    go_enter Tryz.func192, Tryz.ntmps192
    go_wp2_with (go_at_call 195; refine (HH.out _).mono ?_; rintro e w2 ⟨rfl, rfl⟩)
    go_ret
    exact ⟨rfl, rfl⟩
  | true =>
    rw [if_pos rfl]
    go_enter Tryz.func192, Tryz.ntmps192
    go_wp2_with (go_at_call 195; refine (HH.out _).mono ?_; rintro e w2 ⟨rfl, rfl⟩)
    go_ret
    exact ⟨rfl, rfl⟩

theorem most_01 (p x : Int) : 0 ≤ mostB p x 1 ∧ mostB p x 1 ≤ 1 := by unfold mostB; split <;> omega

abbrev posV (ln co : Int) : Value := .agg #[.int .i64 ln, .int .i64 co]

theorem place_any (ln co : Int) (w : World) : Calls Tryz.prog 164 #[posV ln co] w fun e w' => e = .returned (.bool (vPos ln co)) ∧ Below w.heap.size w w' := by
  have HB := Lib.hid (below_alloc w (.cells #[.int .i64 ln, .int .i64 co] 58))
  obtain ⟨res, hres⟩ : ∃ res, res = vPos ln co := ⟨_, rfl⟩
  rw [← hres]
  unfold vPos at hres
  by_cases h1 : 0 ≤ ln
  · by_cases h2 : ln ≤ 65537
    · by_cases h3 : 0 ≤ co
      · by_cases h4 : co ≤ 65537
        · have e : res = true := by rw [hres, decide_eq_true h1, decide_eq_true h2, decide_eq_true h3, decide_eq_true h4]; rfl
          clear hres
          subst e
          go_enter Tryz.func164, Tryz.ntmps164
          go_wp2
          go_ret
          exact ⟨by first | rfl | (simp; done) | (simp; omega), HB.out⟩
        · have e : res = false := by rw [hres, decide_eq_false h4]; simp
          clear hres
          subst e
          go_enter Tryz.func164, Tryz.ntmps164
          go_wp2
          go_ret
          exact ⟨by first | rfl | (simp; done) | (simp; omega), HB.out⟩
      · have e : res = false := by rw [hres, decide_eq_false h3]; simp
        clear hres
        subst e
        go_enter Tryz.func164, Tryz.ntmps164
        go_wp2
        go_ret
        exact ⟨by first | rfl | (simp; done) | (simp; omega), HB.out⟩
    · have e : res = false := by rw [hres, decide_eq_false h2]; simp
      clear hres
      subst e
      go_enter Tryz.func164, Tryz.ntmps164
      go_wp2
      go_ret
      exact ⟨by first | rfl | (simp; done) | (simp; omega), HB.out⟩
  · have e : res = false := by rw [hres, decide_eq_false h1]; simp
    clear hres
    subst e
    go_enter Tryz.func164, Tryz.ntmps164
    go_wp2
    go_ret
    exact ⟨by first | rfl | (simp; done) | (simp; omega), HB.out⟩

set_option maxRecDepth 100000 in
theorem word_any (fv : Nat) (var : List UInt8 → Bool) (hv : VarOk fv var) (nu ex : Int) (s : List UInt8) (v o : Bool) (w : World) (hs : s.length ≤ maxLen) :
    Calls Tryz.prog 229 #[rulesV fv nu ex, .string ⟨s.toArray⟩, .bool v, .bool o] w fun e w' => e = .returned (.bool (vWord var s v o)) ∧ Below w.heap.size w w' := by
  have HB := Lib.hid (below_alloc w (rulesC fv nu ex))
  have hfv := hv.enters
  cases v with
  | true =>
    have HV : Hid (∀ w, Calls Tryz.prog fv #[.string ⟨s.toArray⟩] w fun e w' => e = .returned (.bool (vWord var s true o)) ∧ Below w.heap.size w w') := Lib.hid (fun w => hv.says s w hs)
    generalize vWord var s true o = res at *
    clear hv
    go_enter Tryz.func229, Tryz.ntmps229
    go_wp2_with (with_reducible refine (HV.out _).mono ?_; rintro e w3 ⟨rfl, hb3⟩)
    go_ret
    exact ⟨rfl, HB.out.chain hb3⟩
  | false =>
    cases o with
    | true =>
      have HV : Hid (∀ w, Calls Tryz.prog 106 #[.string ⟨s.toArray⟩] w fun e w' => e = .returned (.bool (vWord var s false true)) ∧ Below w.heap.size w w') := Lib.hid (fun w => name_any s w hs)
      generalize vWord var s false true = res at *
      clear hv
      go_enter Tryz.func229, Tryz.ntmps229
      go_wp2_with (go_at_call 106; refine (HV.out _).mono ?_; rintro e w3 ⟨rfl, hb3⟩)
      go_ret
      exact ⟨rfl, HB.out.chain hb3⟩
    | false =>
      clear hv
      rcases s with _ | ⟨x, s⟩
      · go_enter Tryz.func229, Tryz.ntmps229
        go_wp2
        go_ret
        exact ⟨rfl, HB.out⟩
      · go_enter Tryz.func229, Tryz.ntmps229
        go_wp2
        go_ret
        exact ⟨rfl, HB.out⟩

theorem box3l {W : World} {be : Nat} {r p : ByteArray} {l : Value} (h : W.heap[be]? = some (callC r p l)) :
    W.cell? ⟨be, 0, none⟩ = some (.string r) ∧ W.cell? ⟨be, 1, none⟩ = some (.string p) ∧ W.cell? ⟨be, 2, none⟩ = some l :=
  ⟨cell_of_block h 0 rfl, cell_of_block h 1 rfl, cell_of_block h 2 rfl⟩

set_option maxRecDepth 100000 in
set_option maxHeartbeats 2000000 in
theorem call_any (fv : Nat) (var : List UInt8 → Bool) (hv : VarOk fv var) (nu ex : Int) (h0 : 0 ≤ nu) (h1 : nu ≤ 4611686018427387904) (r p : List UInt8) (l : List Ex) (A : Option Addr) (c : Nat) (w : World) (hr : ExRow w w.heap.size l A) (hrl : r.length ≤ maxLen) (hp : p.length ≤ maxLen) (hl : l.length ≤ maxLen) :
    Calls Tryz.prog 199 #[rulesV fv nu ex, callV ⟨r.toArray⟩ ⟨p.toArray⟩ (.slice A l.length c)] w fun e w' => e = .returned (.bool (vCal var nu ⟨r, p, l⟩)) ∧ Below w.heap.size w w' := by
  have HN : Hid (∀ w, Calls Tryz.prog 106 #[.string ⟨p.toArray⟩] w fun e w' => e = .returned (.bool (nameL p)) ∧ Below w.heap.size w w') := Lib.hid (fun w => name_any p w hp)
  have HR : Hid (∀ w, Calls Tryz.prog fv #[.string ⟨r.toArray⟩] w fun e w' => e = .returned (.bool (var r)) ∧ Below w.heap.size w w') := Lib.hid (fun w => hv.says r w hrl)
  have HV : Hid (∀ W, Below w.heap.size w W → Calls Tryz.prog 144 #[.slice A l.length c, .int .i64 0, .int .i64 8, .func (.func 37) #[rulesV fv nu ex] #[]] W fun e w' =>
      e = .returned (.bool (decide ((0 : Int) ≤ l.length) && decide ((l.length : Int) ≤ 8) && l.all (vE var nu 30))) ∧ Below W.heap.size W w') := Lib.hid (fun W hb => vlr_expr fv var hv nu ex h0 h1 l A c 0 8 W hl (hr.on hb))
  have hfv := hv.enters
  obtain ⟨W1, hW1⟩ : ∃ W1, W1 = (w.alloc (rulesC fv nu ex)).alloc (callC ⟨r.toArray⟩ ⟨p.toArray⟩ (.slice A l.length c)) := ⟨_, rfl⟩
  have HB : Hid (Below w.heap.size w W1) := Lib.hid (by rw [hW1]; exact (below_alloc w _).chain (below_alloc _ _))
  have q1 := heap_keep (o := callC ⟨r.toArray⟩ ⟨p.toArray⟩ (.slice A l.length c)) (heap_of_alloc w (rulesC fv nu ex))
  have q2 := heap_of_alloc (w.alloc (rulesC fv nu ex)) (callC ⟨r.toArray⟩ ⟨p.toArray⟩ (.slice A l.length c))
  rw [size_of_alloc] at q2
  rw [← hW1] at q1 q2
  have HQ := Lib.hid (And.intro q1 q2)
  have he := enters_of Tryz.func37 (by kernel_rfl) rfl
  unfold vCal
  simp only
  generalize nameL p = np at *
  generalize var r = vr at *
  generalize (decide ((0 : Int) ≤ l.length) && decide ((l.length : Int) ≤ 8) && l.all (vE var nu 30)) = v1 at *
  unfold maxLen at hl hrl hp
  clear q1 q2 hv hr h0 h1
  rcases r with _ | ⟨x, r⟩
  · cases np with
    | false =>
      go_enter Tryz.func199, Tryz.ntmps199
      go_wp2_with (go_at_call 106; rw [← hW1]; clear hW1; refine (HN.out _).mono ?_; rintro e w2 ⟨rfl, hb⟩; have HB2 := Lib.hid (HB.out.chain hb); clear hb)
      go_ret
      exact ⟨rfl, HB2.out⟩
    | true =>
      go_enter Tryz.func199, Tryz.ntmps199
      go_wp2_with (first
        | (go_at_call 106; rw [← hW1]; clear hW1; refine (HN.out _).mono ?_; rintro e w2 ⟨rfl, hb⟩; have HB2 := Lib.hid (HB.out.chain hb); obtain ⟨g0, g1, g2⟩ := box3 (kept_box hb HQ.out.1); obtain ⟨y0, y1, y2⟩ := box3l (kept_box hb HQ.out.2); clear hb)
        | (go_at_call 144; refine (HV.out _ HB2.out).mono ?_; rintro e w3 ⟨rfl, hb3⟩; have HB3 := Lib.hid (HB2.out.chain hb3); clear hb3))
      go_ret
      exact ⟨rfl, HB3.out⟩
  · cases vr with
    | false =>
      go_enter Tryz.func199, Tryz.ntmps199
      go_wp2_with (rw [← hW1]; clear hW1; with_reducible refine (HR.out _).mono ?_; rintro e w2 ⟨rfl, hb⟩; have HB2 := Lib.hid (HB.out.chain hb); clear hb)
      go_ret
      exact ⟨rfl, HB2.out⟩
    | true =>
      cases np with
      | false =>
        go_enter Tryz.func199, Tryz.ntmps199
        go_wp2_with (first
          | (go_at_call 106; refine (HN.out _).mono ?_; rintro e w3 ⟨rfl, hb3⟩; have HB3 := Lib.hid (HB2.out.chain hb3); clear hb3)
          | (rw [← hW1]; clear hW1; with_reducible refine (HR.out _).mono ?_; rintro e w2 ⟨rfl, hb⟩; have HB2 := Lib.hid (HB.out.chain hb); have HQ2 := Lib.hid (And.intro (kept_box hb HQ.out.1) (kept_box hb HQ.out.2)); obtain ⟨g0, g1, g2⟩ := box3 HQ2.out.1; obtain ⟨y0, y1, y2⟩ := box3l HQ2.out.2; clear hb))
        go_ret
        exact ⟨rfl, HB3.out⟩
      | true =>
        go_enter Tryz.func199, Tryz.ntmps199
        go_wp2_with (first
          | (go_at_call 106; refine (HN.out _).mono ?_; rintro e w3 ⟨rfl, hb3⟩; have HB3 := Lib.hid (HB2.out.chain hb3); obtain ⟨i0, i1, i2⟩ := box3 (kept_box hb3 HQ2.out.1); obtain ⟨z0, z1, z2⟩ := box3l (kept_box hb3 HQ2.out.2); clear hb3)
          | (go_at_call 144; refine (HV.out _ HB3.out).mono ?_; rintro e w4 ⟨rfl, hb4⟩; have HB4 := Lib.hid (HB3.out.chain hb4); clear hb4)
          | (rw [← hW1]; clear hW1; with_reducible refine (HR.out _).mono ?_; rintro e w2 ⟨rfl, hb⟩; have HB2 := Lib.hid (HB.out.chain hb); have HQ2 := Lib.hid (And.intro (kept_box hb HQ.out.1) (kept_box hb HQ.out.2)); obtain ⟨g0, g1, g2⟩ := box3 HQ2.out.1; obtain ⟨y0, y1, y2⟩ := box3l HQ2.out.2; clear hb))
        go_ret
        exact ⟨rfl, HB4.out⟩

end Go.Proofs.YtkjfgbcbeabpgaaGreatDoor
