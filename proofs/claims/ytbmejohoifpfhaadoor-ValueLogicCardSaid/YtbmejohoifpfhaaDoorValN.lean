/-
  Contract of value.Cond; rows of expressions and conditions built in a call; the law's name, number and awake.
-/
import Derived.Test.YtbmejohoifpfhaaDoorValK
namespace Go.Proofs.YtbmejohoifpfhaaDoor
open Go.RowKit

/-- What value.Cond answers. -/
def kr (rs : Bool) (S : List Bd) (e : Cn) : Bool × Int := if rs && vC varR nuP 30 e then ec S 30 e else (false, 1)

theorem all10 {W : World} {be : Nat} {k ak an : Int} {sa : ByteArray} {la : Value} {bk bn : Int} {sb : ByteArray} {lb ll : Value} (h : W.heap[be]? = some (condC2 k ak an sa la bk bn sb lb ll)) :
    W.cell? ⟨be, 0, none⟩ = some (.int .i64 k) ∧ W.cell? ⟨be, 1, none⟩ = some (.int .i64 ak) ∧ W.cell? ⟨be, 2, none⟩ = some (.int .i64 an) ∧ W.cell? ⟨be, 3, none⟩ = some (.string sa) ∧ W.cell? ⟨be, 4, none⟩ = some la ∧ W.cell? ⟨be, 5, none⟩ = some (.int .i64 bk) ∧ W.cell? ⟨be, 6, none⟩ = some (.int .i64 bn) ∧ W.cell? ⟨be, 7, none⟩ = some (.string sb) ∧ W.cell? ⟨be, 8, none⟩ = some lb ∧ W.cell? ⟨be, 9, none⟩ = some ll :=
  ⟨cell_of_block h 0 rfl, box10 h⟩

set_option maxRecDepth 100000 in
set_option maxHeartbeats 8000000 in
theorem vCond_any (A : Option Addr) (c n : Nat) (S : List Bd) (hn : n = S.length) (h100 : n ≤ 100) (k ak an : Int) (sa : List UInt8) (al : List Ex) (bk bn : Int) (sb : List UInt8) (bl : List Ex) (l : List Cn) (Aa : Option Addr) (ca : Nat) (Ab : Option Addr) (cb : Nat) (Al : Option Addr) (cl : Nat) (w : World) (hA : BdRow w w.heap.size S A)
    (ra : ExRow w w.heap.size al Aa) (rb : ExRow w w.heap.size bl Ab) (rl : CnRow w w.heap.size l Al) (b1 : sa.length ≤ maxLen) (b2 : al.length ≤ maxLen) (b3 : sb.length ≤ maxLen) (b4 : bl.length ≤ maxLen) (b5 : l.length ≤ maxLen) (rs : Bool) (hrs : Tells rs (StOk S)) :
    Calls Tryd.prog 18 #[.slice A n c, condV2 k ak an ⟨sa.toArray⟩ (.slice Aa al.length ca) bk bn ⟨sb.toArray⟩ (.slice Ab bl.length cb) (.slice Al l.length cl)] w fun e w' =>
      e = .returned (.tuple #[.bool (kr rs S (.mk k (.mk ak an sa al) (.mk bk bn sb bl) l)).1, .int .i64 (kr rs S (.mk k (.mk ak an sa al) (.mk bk bn sb bl) l)).2]) ∧ Below w.heap.size w w' := by
  have HJ := Lib.hid (below_alloc w (condC2 k ak an ⟨sa.toArray⟩ (.slice Aa al.length ca) bk bn ⟨sb.toArray⟩ (.slice Ab bl.length cb) (.slice Al l.length cl)))
  have HH := Lib.hid (heap_of_alloc w (condC2 k ak an ⟨sa.toArray⟩ (.slice Aa al.length ca) bk bn ⟨sb.toArray⟩ (.slice Ab bl.length cb) (.slice Al l.length cl)))
  have HV : Hid (∀ W, Below w.heap.size w W → Calls Tryd.prog 12 #[.slice A n c] W fun e w' => e = .returned (.bool rs) ∧ Below W.heap.size W w') := Lib.hid (fun W hb => vvalid_any A c n S hn (by unfold maxLen; omega) W (bd_later hA hb) rs hrs)
  obtain ⟨vb, hvb⟩ : ∃ b, b = vC varR nuP 30 (.mk k (.mk ak an sa al) (.mk bk bn sb bl) l) := ⟨_, rfl⟩
  have HT : Hid (∀ W, Below w.heap.size w W → Calls Tryd.prog 27 #[condV2 k ak an ⟨sa.toArray⟩ (.slice Aa al.length ca) bk bn ⟨sb.toArray⟩ (.slice Ab bl.length cb) (.slice Al l.length cl)] W fun e w' => e = .returned (.bool vb) ∧ Below W.heap.size W w') := Lib.hid (fun W hb => by
    have := tcond_any k ak an sa al bk bn sb bl l Aa ca Ab cb Al cl W (ra.on hb) (rb.on hb) (rl.on hb) b1 b2 b3 b4 b5
    rw [varB_varR] at this
    rw [hvb]
    exact this)
  have HX : Hid (rs = true → vb = true → ∀ W, Below w.heap.size w W → Calls Tryd.prog 28 #[.slice A n c, condV2 k ak an ⟨sa.toArray⟩ (.slice Aa al.length ca) bk bn ⟨sb.toArray⟩ (.slice Ab bl.length cb) (.slice Al l.length cl)] W fun e w' =>
      e = .returned (.tuple #[.bool (ec S 30 (.mk k (.mk ak an sa al) (.mk bk bn sb bl) l)).1, .int .i64 (ec S 30 (.mk k (.mk ak an sa al) (.mk bk bn sb bl) l)).2]) ∧ Below W.heap.size W w') :=
    Lib.hid (fun h1 h2 W hb => vc_any S (by subst h1; exact hrs.t) 30 A c n hn h100 k ak an sa al bk bn sb bl l Aa ca Ab cb Al cl W (bd_later hA hb) ⟨ra.on hb, rb.on hb, rl.on hb⟩ ⟨b1, b2, b3, b4, b5⟩ (by rw [← hvb]; exact h2))
  have HR : Hid (kr rs S (.mk k (.mk ak an sa al) (.mk bk bn sb bl) l) = if rs && vb then ec S 30 (.mk k (.mk ak an sa al) (.mk bk bn sb bl) l) else (false, 1)) := Lib.hid (by rw [kr, hvb])
  generalize kr rs S (.mk k (.mk ak an sa al) (.mk bk bn sb bl) l) = r at *
  generalize ec S 30 (.mk k (.mk ak an sa al) (.mk bk bn sb bl) l) = r0 at *
  clear hA ra rb rl hn hvb b1 b2 b3 b4 b5
  cases rs
  · obtain rfl : r = (false, 1) := HR.out
    go_enter Tryd.func18, Tryd.ntmps18
    go_wp2_with fail
    refine (HV.out _ HJ.out).mono ?_
    rintro e w1 ⟨rfl, hb⟩
    have H1 := Lib.hid (HJ.out.next hb)
    clear hb
    go_wp2
    go_ret2
    exact ⟨rfl, H1.out⟩
  · cases vb
    · obtain rfl : r = (false, 1) := HR.out
      go_enter Tryd.func18, Tryd.ntmps18
      go_wp2_with fail
      refine (HV.out _ HJ.out).mono ?_
      rintro e w1 ⟨rfl, hb⟩
      obtain ⟨t0, t1, t2, t3, t4, t5, t6, t7, t8, t9⟩ := all10 (kept_box hb HH.out)
      have H1 := Lib.hid (HJ.out.next hb)
      clear hb
      go_wp2_with fail
      refine (HT.out _ H1.out).mono ?_
      rintro e w2 ⟨rfl, hb⟩
      have H2 := Lib.hid (H1.out.next hb)
      clear hb
      go_wp2
      go_ret2
      exact ⟨rfl, H2.out⟩
    · obtain rfl : r = r0 := HR.out
      have HX2 := Lib.hid (HX.out rfl rfl)
      clear HX
      obtain ⟨r1, r2⟩ := r
      go_enter Tryd.func18, Tryd.ntmps18
      go_wp2_with fail
      refine (HV.out _ HJ.out).mono ?_
      rintro e w1 ⟨rfl, hb⟩
      obtain ⟨t0, t1, t2, t3, t4, t5, t6, t7, t8, t9⟩ := all10 (kept_box hb HH.out)
      have H1 := Lib.hid (And.intro (HJ.out.next hb) (kept_box hb HH.out))
      clear hb
      go_wp2_with fail
      refine (HT.out _ H1.out.1).mono ?_
      rintro e w2 ⟨rfl, hb⟩
      clear t0 t1 t2 t3 t4 t5 t6 t7 t8 t9
      obtain ⟨t0, t1, t2, t3, t4, t5, t6, t7, t8, t9⟩ := all10 (kept_box hb H1.out.2)
      have H2 := Lib.hid (H1.out.1.next hb)
      clear hb
      go_wp2_with fail
      refine (HX2.out _ H2.out).mono ?_
      rintro e w3 ⟨rfl, hb⟩
      have H3 := Lib.hid (H2.out.next hb)
      clear hb
      go_wp2
      go_ret2
      exact ⟨rfl, H3.out⟩

theorem pair_row {W : World} {g : Nat} {ak an bk bn : Int} {sa sb : List UInt8} {al bl : List Ex} {Aa Ab : Option Addr} {Ca Cb : Nat}
    (hg : W.heap[g]? = some (.cells #[.int .i64 ak, .int .i64 an, .string ⟨sa.toArray⟩, .slice Aa al.length Ca, .int .i64 bk, .int .i64 bn, .string ⟨sb.toArray⟩, .slice Ab bl.length Cb] 36 (0, 0)))
    (h1 : sa.length ≤ maxLen) (h2 : al.length ≤ maxLen) (h3 : sb.length ≤ maxLen) (h4 : bl.length ≤ maxLen) (ha : ExRow W W.heap.size al Aa) (hb : ExRow W W.heap.size bl Ab) :
    ExRow W W.heap.size [.mk ak an sa al, .mk bk bn sb bl] (some ⟨g, 0, none⟩) := by
  refine .row _ _ (fun i => if i = 0 then Aa else Ab) (fun i => if i = 0 then Ca else Cb) (Array.getElem?_eq_some_iff.1 hg).1 (fun i k n s l hi => ?_) (fun i k n s l hi => ?_)
  · match i, hi with
    | 0, hi =>
      injection hi with hi; injection hi with e1 e2 e3 e4; subst e1 e2 e3 e4
      simp only [add_block0]
      exact ⟨cell_of_block hg 0 rfl, cell_of_block hg 1 rfl, cell_of_block hg 2 rfl, cell_of_block hg 3 rfl, h1, h2⟩
    | 1, hi =>
      injection hi with hi; injection hi with e1 e2 e3 e4; subst e1 e2 e3 e4
      simp only [add_block0]
      exact ⟨cell_of_block hg 4 rfl, cell_of_block hg 5 rfl, cell_of_block hg 6 rfl, cell_of_block hg 7 rfl, h3, h4⟩
    | i + 2, hi => simp at hi
  · match i, hi with
    | 0, hi => injection hi with hi; injection hi with e1 e2 e3 e4; subst e4; exact ha
    | 1, hi => injection hi with hi; injection hi with e1 e2 e3 e4; subst e4; exact hb
    | i + 2, hi => simp at hi

theorem single_row {W : World} {g : Nat} {k n : Int} {s : List UInt8} {l : List Ex} {A : Option Addr} {c : Nat} (hg : W.heap[g]? = some (exprC k n ⟨s.toArray⟩ (.slice A l.length c))) (h1 : s.length ≤ maxLen) (h2 : l.length ≤ maxLen) (hr : ExRow W W.heap.size l A) : ExRow W W.heap.size [.mk k n s l] (some ⟨g, 0, none⟩) := by
  refine .row _ _ (fun _ => A) (fun _ => c) (Array.getElem?_eq_some_iff.1 hg).1 (fun i k' n' s' l' hi => ?_) (fun i k' n' s' l' hi => ?_)
  · match i, hi with
    | 0, hi =>
      injection hi with hi; injection hi with e1 e2 e3 e4; subst e1 e2 e3 e4
      simp only [add_block0]
      exact ⟨cell_of_block hg 0 rfl, cell_of_block hg 1 rfl, cell_of_block hg 2 rfl, cell_of_block hg 3 rfl, h1, h2⟩
    | i + 1, hi => simp at hi
  · match i, hi with
    | 0, hi => injection hi with hi; injection hi with e1 e2 e3 e4; subst e4; exact hr
    | i + 1, hi => simp at hi

/-- The cells of a condition whose sides and element are told. -/
structure CnOwn (W : World) (x : Cn) (k ak an : Int) (sa : List UInt8) (al : List Ex) (bk bn : Int) (sb : List UInt8) (bl : List Ex) (l : List Cn) (Aa Ab Al : Option Addr) : Prop where
  eq : x = .mk k (.mk ak an sa al) (.mk bk bn sb bl) l
  len : sa.length ≤ maxLen ∧ al.length ≤ maxLen ∧ sb.length ≤ maxLen ∧ bl.length ≤ maxLen ∧ l.length ≤ maxLen
  ra : ExRow W W.heap.size al Aa
  rb : ExRow W W.heap.size bl Ab
  rl : CnRow W W.heap.size l Al

theorem single_cond {W : World} {g : Nat} {x : Cn} {k ak an : Int} {sa : List UInt8} {al : List Ex} {bk bn : Int} {sb : List UInt8} {bl : List Ex} {l : List Cn} {Aa : Option Addr} {ca : Nat} {Ab : Option Addr} {cb : Nat} {Al : Option Addr} {cl : Nat}
    (hg : W.heap[g]? = some (condC2 k ak an ⟨sa.toArray⟩ (.slice Aa al.length ca) bk bn ⟨sb.toArray⟩ (.slice Ab bl.length cb) (.slice Al l.length cl))) (h : CnOwn W x k ak an sa al bk bn sb bl l Aa Ab Al) : CnRow W W.heap.size [x] (some ⟨g, 0, none⟩) := by
  obtain ⟨rfl, ⟨b1, b2, b3, b4, b5⟩, ra, rb, rl⟩ := h
  refine .row _ _ (fun _ => Aa) (fun _ => Ab) (fun _ => Al) (fun _ => ca) (fun _ => cb) (fun _ => cl) (Array.getElem?_eq_some_iff.1 hg).1 (fun i k' ak' an' sa' al' bk' bn' sb' bl' l' hi => ?_) (fun i k' ak' an' sa' al' bk' bn' sb' bl' l' hi => ?_)
  · match i, hi with
    | 0, hi =>
      injection hi with hi; injection hi with e1 e2 e3 e4; injection e2 with a1 a2 a3 a4; injection e3 with c1 c2 c3 c4; subst e1 e4 a1 a2 a3 a4 c1 c2 c3 c4
      simp only [add_block0]
      exact ⟨⟨cell_of_block hg 0 rfl, cell_of_block hg 1 rfl, cell_of_block hg 2 rfl, cell_of_block hg 3 rfl, cell_of_block hg 4 rfl, cell_of_block hg 5 rfl, cell_of_block hg 6 rfl, cell_of_block hg 7 rfl, cell_of_block hg 8 rfl, cell_of_block hg 9 rfl⟩, b1, b2, b3, b4, b5, ra, rb⟩
    | i + 1, hi => simp at hi
  · match i, hi with
    | 0, hi => injection hi with hi; injection hi with e1 e2 e3 e4; subst e4; exact rl
    | i + 1, hi => simp at hi

theorem pair_cond {W : World} {g : Nat} {x y : Cn} {k ak an : Int} {sa : List UInt8} {al : List Ex} {bk bn : Int} {sb : List UInt8} {bl : List Ex} {l : List Cn} {Aa : Option Addr} {ca : Nat} {Ab : Option Addr} {cb : Nat} {Al : Option Addr} {cl : Nat}
    {k2 ak2 an2 : Int} {sa2 : List UInt8} {al2 : List Ex} {bk2 bn2 : Int} {sb2 : List UInt8} {bl2 : List Ex} {l2 : List Cn} {Aa2 : Option Addr} {ca2 : Nat} {Ab2 : Option Addr} {cb2 : Nat} {Al2 : Option Addr} {cl2 : Nat}
    (hg : W.heap[g]? = some (.cells #[.int .i64 k, .int .i64 ak, .int .i64 an, .string ⟨sa.toArray⟩, .slice Aa al.length ca, .int .i64 bk, .int .i64 bn, .string ⟨sb.toArray⟩, .slice Ab bl.length cb, .slice Al l.length cl,
      .int .i64 k2, .int .i64 ak2, .int .i64 an2, .string ⟨sa2.toArray⟩, .slice Aa2 al2.length ca2, .int .i64 bk2, .int .i64 bn2, .string ⟨sb2.toArray⟩, .slice Ab2 bl2.length cb2, .slice Al2 l2.length cl2] 39 (0, 0)))
    (h : CnOwn W x k ak an sa al bk bn sb bl l Aa Ab Al) (h2 : CnOwn W y k2 ak2 an2 sa2 al2 bk2 bn2 sb2 bl2 l2 Aa2 Ab2 Al2) : CnRow W W.heap.size [x, y] (some ⟨g, 0, none⟩) := by
  obtain ⟨rfl, ⟨b1, b2, b3, b4, b5⟩, ra, rb, rl⟩ := h
  obtain ⟨rfl, ⟨d1, d2, d3, d4, d5⟩, ra2, rb2, rl2⟩ := h2
  refine .row _ _ (fun i => if i = 0 then Aa else Aa2) (fun i => if i = 0 then Ab else Ab2) (fun i => if i = 0 then Al else Al2) (fun i => if i = 0 then ca else ca2) (fun i => if i = 0 then cb else cb2) (fun i => if i = 0 then cl else cl2) (Array.getElem?_eq_some_iff.1 hg).1 (fun i k' ak' an' sa' al' bk' bn' sb' bl' l' hi => ?_) (fun i k' ak' an' sa' al' bk' bn' sb' bl' l' hi => ?_)
  · match i, hi with
    | 0, hi =>
      injection hi with hi; injection hi with e1 e2 e3 e4; injection e2 with a1 a2 a3 a4; injection e3 with c1 c2 c3 c4; subst e1 e4 a1 a2 a3 a4 c1 c2 c3 c4
      simp only [add_block0]
      exact ⟨⟨cell_of_block hg 0 rfl, cell_of_block hg 1 rfl, cell_of_block hg 2 rfl, cell_of_block hg 3 rfl, cell_of_block hg 4 rfl, cell_of_block hg 5 rfl, cell_of_block hg 6 rfl, cell_of_block hg 7 rfl, cell_of_block hg 8 rfl, cell_of_block hg 9 rfl⟩, b1, b2, b3, b4, b5, ra, rb⟩
    | 1, hi =>
      injection hi with hi; injection hi with e1 e2 e3 e4; injection e2 with a1 a2 a3 a4; injection e3 with c1 c2 c3 c4; subst e1 e4 a1 a2 a3 a4 c1 c2 c3 c4
      simp only [add_block0]
      exact ⟨⟨cell_of_block hg 10 rfl, cell_of_block hg 11 rfl, cell_of_block hg 12 rfl, cell_of_block hg 13 rfl, cell_of_block hg 14 rfl, cell_of_block hg 15 rfl, cell_of_block hg 16 rfl, cell_of_block hg 17 rfl, cell_of_block hg 18 rfl, cell_of_block hg 19 rfl⟩, d1, d2, d3, d4, d5, ra2, rb2⟩
    | i + 2, hi => simp at hi
  · match i, hi with
    | 0, hi => injection hi with hi; injection hi with e1 e2 e3 e4; subst e4; exact rl
    | 1, hi => injection hi with hi; injection hi with e1 e2 e3 e4; subst e4; exact rl2
    | i + 2, hi => simp at hi

theorem pair_store {W : World} {g : Nat} {x y : Bd} (hg : W.heap[g]? = some (.cells #[.string ⟨x.n.toArray⟩, .int .i64 x.v, .string ⟨y.n.toArray⟩, .int .i64 y.v] 26 (0, 0))) (h1 : x.n.length ≤ maxLen) (h2 : y.n.length ≤ maxLen) : BdRow W W.heap.size [x, y] (some ⟨g, 0, none⟩) := by
  refine .row _ _ (Array.getElem?_eq_some_iff.1 hg).1 (fun i z hi => ?_)
  match i, hi with
  | 0, hi =>
    obtain rfl := Option.some.inj hi
    simp only [add_block0]
    exact ⟨cell_of_block hg 0 rfl, cell_of_block hg 1 rfl, h1⟩
  | 1, hi =>
    obtain rfl := Option.some.inj hi
    simp only [add_block0]
    exact ⟨cell_of_block hg 2 rfl, cell_of_block hg 3 rfl, h2⟩
  | i + 2, hi => simp at hi

theorem pair_stOk {x y : Bd} (hx : BdOk x) (hy : BdOk y) (h : Op.bytesLess x.n y.n = true) : StOk [x, y] := by
  intro i z hi
  match i, hi with
  | 0, hi =>
    obtain rfl := Option.some.inj hi
    exact ⟨hx, fun y h0 => absurd h0 (by decide)⟩
  | 1, hi =>
    obtain rfl := Option.some.inj hi
    refine ⟨hy, fun u _ hu => ?_⟩
    obtain rfl := Option.some.inj hu
    exact h
  | i + 2, hi => simp at hi

/-- A variable. -/
def nmE (s : List UInt8) : Ex := .mk 2 0 s []

set_option maxRecDepth 100000 in
theorem lname_any (s : ByteArray) (w : World) : Calls Tryd.prog 20 #[.string s] w fun e w' => e = .returned (exprV 2 0 s (.slice none 0 0)) ∧ Below w.heap.size w w' := by
  go_enter Tryd.func20, Tryd.ntmps20
  go_wp2
  refine bodyPost_ret (results_cell_row rfl _ _ w.heap.size 36 #[.int .i64 2, .int .i64 0, .string s, .slice none 0 0] (0, 0) _ rfl (heap_of_alloc _ _) Tryd.underlying36 rfl (by kernel_rfl)) rfl ?_
  exact ⟨rfl, below_alloc _ _⟩

end Go.Proofs.YtbmejohoifpfhaaDoor
