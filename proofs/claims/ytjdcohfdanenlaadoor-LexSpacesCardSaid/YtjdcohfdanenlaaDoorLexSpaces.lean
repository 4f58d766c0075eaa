/-
  sepallaw01.LexSpaces returns true, whatever the tokens, the gaps and the remark are.
-/
import Derived.Test.YtjdcohfdanenlaaDoorLexYs
import Derived.Test.YtjdcohfdanenlaaDoorLexV
import Derived.Test.YtjdcohfdanenlaaDoorLexI
import Derived.Test.YtjdcohfdanenlaaDoorLexMx
import Derived.Test.YtjdcohfdanenlaaDoorLexSr
namespace Go.Proofs.YtjdcohfdanenlaaDoor
open Go.RowKit

def spaceText (ps : List (Tok × List UInt8)) : List UInt8 := ps.flatMap fun p => p.1.t ++ p.2

def toG : List UInt8 → List (Tok × List UInt8) → List (List UInt8 × Tok) × List UInt8
  | g0, [] => ([], g0)
  | g0, (t, g) :: ps => ((g0, t) :: (toG g ps).1, (toG g ps).2)

theorem toG_flat : ∀ (ps : List (Tok × List UInt8)) (g0 : List UInt8), flatG (toG g0 ps).1 (toG g0 ps).2 = g0 ++ spaceText ps
  | [], g0 => by show g0 = g0 ++ []; rw [List.append_nil]
  | (t, g) :: ps, g0 => by
    show g0 ++ (t.t ++ flatG (toG g ps).1 (toG g ps).2) = g0 ++ spaceText ((t, g) :: ps)
    rw [toG_flat ps g]
    unfold spaceText
    rw [List.flatMap_cons, List.append_assoc]

theorem toG_toks : ∀ (ps : List (Tok × List UInt8)) (g0 : List UInt8), (toG g0 ps).1.map (·.2) = ps.map (·.1)
  | [], _ => rfl
  | (t, g) :: ps, g0 => by
    show t :: (toG g ps).1.map (·.2) = t :: ps.map (·.1)
    rw [toG_toks ps g]

theorem toG_gaps : ∀ (ps : List (Tok × List UInt8)) (g0 : List UInt8), GapOK g0 → (∀ p ∈ ps, GapOK p.2) → (∀ x ∈ (toG g0 ps).1, GapOK x.1) ∧ GapOK (toG g0 ps).2
  | [], g0, h, _ => ⟨(fun _ hx => by cases hx), h⟩
  | (t, g) :: ps, g0, h, hp => by
    obtain ⟨a, b⟩ := toG_gaps ps g (hp (t, g) (List.mem_cons_self ..)) (fun p hq => hp p (List.mem_cons_of_mem _ hq))
    refine ⟨fun x hx => ?_, b⟩
    rcases List.mem_cons.1 hx with rfl | hx
    · exact h
    · exact a x hx

theorem toG_valid : ∀ (ps : List (Tok × List UInt8)) (g0 : List UInt8), (∀ p ∈ ps, validB p.1.k p.1.t = true) → ∀ x ∈ (toG g0 ps).1, validB x.2.k x.2.t = true
  | [], _, _ => fun _ hx => by cases hx
  | (t, g) :: ps, g0, hp => fun x hx => by
    rcases List.mem_cons.1 hx with rfl | hx
    · exact hp (t, g) (List.mem_cons_self ..)
    · exact toG_valid ps g (fun p hq => hp p (List.mem_cons_of_mem _ hq)) x hx

theorem spaces_split (ps : List (Tok × List UInt8)) (h : ∀ p ∈ ps, validB p.1.k p.1.t = true ∧ GapOK p.2) :
    ∃ m, splitN [] (spaceText ps) (1, 1) = ⟨m, 0, 0, 0⟩ ∧ m.map (fun x => (x.k, x.t)) = (ps.map (·.1)).map (fun x => (x.k, x.t)) := by
  cases ps with
  | nil => exact ⟨[], splitN_end [] [] (1, 1) rfl, rfl⟩
  | cons p ps =>
    obtain ⟨t, g⟩ := p
    have hg := toG_gaps ps g (h (t, g) (List.mem_cons_self ..)).2 (fun p hq => (h p (List.mem_cons_of_mem _ hq)).2)
    have hv := toG_valid ((t, g) :: ps) [] (fun p hq => (h p hq).1)
    obtain ⟨m, hm, hk⟩ := split_flat (toG [] ((t, g) :: ps)).1 (toG [] ((t, g) :: ps)).2 [] (1, 1) (fun x hx => ⟨hv x hx, fun r => by
      rcases List.mem_cons.1 hx with rfl | hx
      · rfl
      · exact (hg.1 x hx).skip r⟩) (fun x hx => hg.1 x hx) (Or.inr hg.2)
    rw [toG_flat, List.nil_append, List.nil_append] at hm
    refine ⟨m, hm, ?_⟩
    rw [toG_toks] at hk
    exact hk

theorem space_snoc (ps : List (Tok × List UInt8)) (t : Tok) (g : List UInt8) : spaceText (ps ++ [(t, g)]) = spaceText ps ++ (t.t ++ g) := by
  unfold spaceText
  rw [List.flatMap_append]
  simp

/-- What has been put together behind k rounds. -/
structure SpAcc (l : List Tok) (r : List UInt8) (k : Nat) (s : List UInt8) : Prop where
  ex : ∃ ps : List (Tok × List UInt8), ps.map (·.1) = l.take k ∧ (∀ p ∈ ps, validB p.1.k p.1.t = true ∧ p.2 ∈ gaps r) ∧ s = spaceText ps
  len : s.length ≤ 160 * k

theorem SpAcc.start (l : List Tok) (r : List UInt8) : SpAcc l r 0 [] := ⟨⟨[], rfl, (fun _ h => by cases h), rfl⟩, by simp⟩

theorem SpAcc.next {l : List Tok} {r : List UInt8} {k : Nat} {s : List UInt8} (h : SpAcc l r k s) (hk : k < l.length) (hr : r.length ≤ 50) {x : Tok} (hx : l.getD k ⟨0, [], 0, 0⟩ = x) (hv : validB x.k x.t = true) (hl : x.t.length ≤ 100) {g : List UInt8} (hg : g ∈ gaps r) :
    SpAcc l r (k + 1) (s ++ (x.t ++ g)) := by
  obtain ⟨ps, h1, h2, h3⟩ := h.ex
  refine ⟨⟨ps ++ [(x, g)], ?_, ?_, ?_⟩, ?_⟩
  · rw [List.map_append, h1, List.take_succ_eq_append_getElem hk, ← hx, List.getD_eq_getElem?_getD, List.getElem?_eq_getElem hk]; rfl
  · intro p hp
    rcases List.mem_append.1 hp with hp | hp
    · exact h2 p hp
    · rw [List.mem_singleton.1 hp]; exact ⟨hv, hg⟩
  · rw [h3, space_snoc]
  · have := h.len
    have := gaps_len r hr g hg
    simp only [List.length_append]
    omega

theorem SpAcc.split {l : List Tok} {r : List UInt8} {s : List UInt8} (h : SpAcc l r l.length s) (hr : (10 : UInt8) ∉ r) :
    ∃ m, splitN [] s (1, 1) = ⟨m, 0, 0, 0⟩ ∧ l.map (fun x => (x.k, x.t)) = m.map (fun x => (x.k, x.t)) := by
  obtain ⟨ps, h1, h2, rfl⟩ := h.ex
  obtain ⟨m, hm, hk⟩ := spaces_split ps (fun p hp => ⟨(h2 p hp).1, gaps_ok hr _ (h2 p hp).2⟩)
  refine ⟨m, hm, ?_⟩
  rw [hk, h1, List.take_of_length_le (Nat.le_refl _)]

theorem nl_mem (l : List UInt8) : (0 ≤ Lib.indexByte l 10) ↔ (10 : UInt8) ∈ l := by
  have hp : ∀ l : List UInt8, Lib.indexByte l 10 = -1 ∨ 0 ≤ Lib.indexByte l 10 := by
    intro l
    induction l with
    | nil => exact Or.inl rfl
    | cons c l ih => unfold Lib.indexByte; split <;> (try split) <;> omega
  induction l with
  | nil => simp [Lib.indexByte]
  | cons c l ih =>
    have := hp l
    unfold Lib.indexByte
    by_cases h : c = 10
    · subst h; simp
    · have h' : (10 : UInt8) ≠ c := fun e => h e.symm
      simp only [h, h', List.mem_cons, false_or]
      refine Iff.trans ?_ ih
      have hb : (c == 10) = false := beq_eq_false_iff_ne.2 h
      simp only [hb, Bool.false_eq_true, if_false]
      rcases this with e | e
      · rw [e]; simp
      · have e1 : ¬ Lib.indexByte l 10 = -1 := by omega
        simp only [beq_iff_eq, e1, if_false]
        omega

/-- The fill: its bytes. -/
def FillAt (w : World) (B : Option Addr) (n : Nat) (zs : List Int) : Prop := ∀ k, k < n → ∃ a, B = some a ∧ a.block < w.heap.size ∧ w.cell? (a.add k) = some (.int .u8 (zs.getD k 0)) ∧ 0 ≤ zs.getD k 0 ∧ zs.getD k 0 ≤ 255

theorem FillAt.later {w w' : World} {B : Option Addr} {n : Nat} {zs : List Int} (h : FillAt w B n zs) (hb : Below w.heap.size w w') : FillAt w' B n zs := fun k hk => by
  obtain ⟨a, hA, hlt, hc, h0⟩ := h k hk
  exact ⟨a, hA, Nat.lt_of_lt_of_le hlt hb.size, (hb.cell (by rw [block_add]; exact hlt)).trans hc, h0⟩

theorem cat_str (x y : List UInt8) : (⟨x.toArray⟩ : ByteArray) ++ ⟨y.toArray⟩ = ⟨(x ++ y).toArray⟩ := by
  apply ByteArray.ext
  simp

theorem gap_cell (W : World) (r : List UInt8) (t : TypeId) (j : Nat) (hj : j < 6) :
    (W.alloc (.cells #[.string ⟨#[32]⟩, .string ⟨#[9, 9]⟩, .string ⟨#[13, 10]⟩, .string ⟨#[10, 10, 32]⟩, .string (⟨#[32, 35]⟩ ++ ⟨r.toArray⟩ ++ ⟨#[10]⟩), .string ⟨#[35, 32, 35, 10, 9]⟩] t)).cell? ⟨W.heap.size, j, none⟩ = some (.string ⟨((gaps r).getD j []).toArray⟩) := by
  have hb := heap_of_alloc W (.cells #[.string ⟨#[32]⟩, .string ⟨#[9, 9]⟩, .string ⟨#[13, 10]⟩, .string ⟨#[10, 10, 32]⟩, .string (⟨#[32, 35]⟩ ++ ⟨r.toArray⟩ ++ ⟨#[10]⟩), .string ⟨#[35, 32, 35, 10, 9]⟩] t)
  unfold World.cell?
  simp only [hb]
  have h5 : (⟨#[32, 35]⟩ ++ ⟨r.toArray⟩ ++ ⟨#[10]⟩ : ByteArray) = ⟨([32, 35] ++ r ++ [10]).toArray⟩ := by
    rw [show (⟨#[32, 35]⟩ : ByteArray) = ⟨([32, 35] : List UInt8).toArray⟩ from rfl, show (⟨#[10]⟩ : ByteArray) = ⟨([10] : List UInt8).toArray⟩ from rfl, cat_str, cat_str]
  rw [h5]
  match j, hj with
  | 0, _ => rfl
  | 1, _ => rfl
  | 2, _ => rfl
  | 3, _ => rfl
  | 4, _ => rfl
  | 5, _ => rfl

theorem gap_mem (r : List UInt8) (j : Nat) (hj : j < 6) : (gaps r).getD j [] ∈ gaps r := by
  have : j < (gaps r).length := hj
  rw [List.getD_eq_getElem?_getD, List.getElem?_eq_getElem this]
  exact List.getElem_mem _

theorem box_cell {w W w3 : World} {x : Tok} {t : TypeId} (hb : Below W.heap.size W w3) (hW : W = w.alloc (.cells #[.int .i64 x.k, .string ⟨x.t.toArray⟩, .int .i64 x.l, .int .i64 x.c] t)) : w3.cell? ⟨w.heap.size, 1, none⟩ = some (.string ⟨x.t.toArray⟩) ∧ w.heap.size < w3.heap.size := by
  have hs := size_of_alloc w (.cells #[.int .i64 x.k, .string ⟨x.t.toArray⟩, .int .i64 x.l, .int .i64 x.c] t)
  have hz := hb.size
  subst hW
  refine ⟨(hb.cell (p := ⟨w.heap.size, 1, none⟩) (by show w.heap.size < _; omega)).trans ?_, by omega⟩
  have h := heap_of_alloc w (.cells #[.int .i64 x.k, .string ⟨x.t.toArray⟩, .int .i64 x.l, .int .i64 x.c] t)
  unfold World.cell?
  simp only [h]
  simp

set_option maxRecDepth 100000 in
set_option maxHeartbeats 8000000 in
theorem spaces_main (A B : Option Addr) (c nb cb : Nat) (l : List Tok) (zs : List Int) (r : List UInt8) (w : World) (hM : MaxAt w) (hl : l.length ≤ 60) (hr : r.length ≤ 50) (hnl : (10 : UInt8) ∉ r)
    (hA : ArgRead w A l) (hB : FillAt w B nb zs) (hnb : nb ≤ maxLen) (ht : ∀ x ∈ l, x.t.length ≤ maxLen) :
    Calls Tryd.prog 4 #[.slice A l.length c, .slice B nb cb, .string ⟨r.toArray⟩] w fun e w' => e = .returned (.bool true) ∧ Below w.heap.size w w' := by
  have HM := Lib.hid hM
  have HA : Hid (Calls Tryd.prog 5 #[] w fun e w' => e = .returned (.bool true) ∧ Below w.heap.size w w') := Lib.hid (by obtain ⟨hg, m, hm⟩ := hM; exact awake_any m w hg hm)
  have HF := Lib.hid (And.intro hA hB)
  have HN := Lib.hid (And.intro trivial (And.intro hnl ht))
  have HC : Hid (∀ w, Calls Tryd.prog 14 #[.string ⟨r.toArray⟩, .string ⟨#[10]⟩] w fun e w' => e = .returned (.bool false) ∧ w = w') := Lib.hid (fun w => by
    have := Tryd.strings_Contains_one ⟨r.toArray⟩ 10 w
    have e0 : ¬ 0 ≤ Lib.indexByte r 10 := fun h => hnl ((nl_mem r).1 h)
    have e1 : decide (0 ≤ Lib.indexByte r 10) = false := decide_eq_false e0
    rw [show (⟨r.toArray⟩ : ByteArray).data.toList = r from rfl, e1] at this
    exact this.mono fun _ _ ⟨h1, h2⟩ => ⟨h1, h2.symm⟩)
  have HV : Hid (∀ (x : Tok) (W : World), x.t.length ≤ 100 → Calls Tryd.prog 15 #[tokV x] W fun e w' => e = .returned (.bool (validB x.k x.t)) ∧ Below W.heap.size W w') := Lib.hid (fun x W h => rvalid_any x.k x.t x.l x.c W (by omega))
  clear hM hA hB hnl ht
  unfold maxLen at hnb
  have h1 : ¬ (60 : Int) < l.length := by omega
  have h2 : ¬ (50 : Int) < r.length := by omega
  go_enter Tryd.func4, Tryd.ntmps4
  go_wp2_with (first
    | (go_at_call 5; refine HA.out.mono ?_; rintro e w1 ⟨rfl, hb⟩; have HB := Lib.hid hb; clear hb)
    | (go_at_call 14; refine (HC.out _).mono ?_; rintro e w2 ⟨rfl, rfl⟩))
  clear h1 HA HC
  have HM1 := Lib.hid (HM.out.next HB.out)
  have HF1 := Lib.hid (And.intro (HF.out.1.later HB.out) (HF.out.2.later HB.out))
  go_loopg [7, 30] l.length (fun n s j wr => ∃ (k : Nat) (t : List UInt8), n = l.length - k ∧ k ≤ l.length ∧ s = .string ⟨t.toArray⟩ ∧ j = .int .i64 k ∧ SpAcc l r k t ∧ Below w1.heap.size w1 wr)
  case atStart => exact ⟨0, [], rfl, Nat.zero_le _, rfl, rfl, SpAcc.start l r, Below.refl _ _⟩
  case round =>
    obtain ⟨k, t, rfl, hk, rfl, rfl, hacc, hbel⟩ := hrel
    have HW := Lib.hid hbel
    have HS := Lib.hid hacc
    have HL := Lib.hid (And.intro trivial hacc.len)
    clear hbel hacc
    by_cases hlt : k < l.length
    · obtain ⟨a, rfl, hT⟩ := (HF1.out.1.later HW.out) (by omega)
      have hT4 := hT.at_ hlt
      have HX : Hid (l.getD k ⟨0, [], 0, 0⟩ = l.getD k ⟨0, [], 0, 0⟩ ∧ l.getD k ⟨0, [], 0, 0⟩ ∈ l) := Lib.hid ⟨rfl, by rw [List.getD_eq_getElem?_getD, List.getElem?_eq_getElem hlt]; exact List.getElem_mem _⟩
      revert HX hT4
      generalize hgx : l.getD k ⟨0, [], 0, 0⟩ = x
      intro hT4 HX
      have HG := Lib.hid hgx
      clear hgx hT
      obtain ⟨b1, p0, p1, p2, p3⟩ := hT4
      have hxm := HN.out.2.2 x HX.out.2
      unfold maxLen at hxm
      by_cases h100 : (100 : Int) < x.t.length
      · go_wp2
        go_ret
        exact ⟨rfl, HB.out.chain (HW.out.trans ((below_alloc _ _).mono HW.out.size))⟩
      · have HV1 := Lib.hid (HV.out x (wr.alloc (.cells #[.int .i64 x.k, .string ⟨x.t.toArray⟩, .int .i64 x.l, .int .i64 x.c] 28)) (by omega))
        have h100' : x.t.length ≤ 100 := by omega
        cases hv : validB x.k x.t with
        | false =>
          rw [hv] at HV1
          clear hv
          go_wp2_with (go_at_call 15; refine HV1.out.mono ?_; rintro e w4 ⟨rfl, hb⟩; have HB4 := Lib.hid (HW.out.trans (((below_alloc wr _).chain hb).mono HW.out.size)); clear hb)
          go_ret
          exact ⟨rfl, HB.out.chain HB4.out⟩
        | true =>
          rw [hv] at HV1
          have HVV := Lib.hid hv
          clear hv
          have hll := HL.out.2
          by_cases hkn : k < nb
          · obtain ⟨a2, rfl, hlt2, hz, hz0, hz1⟩ := (HF1.out.2.later HW.out) k hkn
            have hbl : (a2.add k).block < wr.heap.size := by rw [block_add]; exact hlt2
            have HZ := Lib.hid (And.intro hz hbl)
            obtain ⟨z, hze⟩ := Int.eq_ofNat_of_zero_le hz0
            rw [hze] at HZ hz1
            clear hz hze hz0 hbl
            have hz6 : z % 6 < 6 := Nat.mod_lt _ (by decide)
            have hzl : z ≤ 255 := by omega
            have HGC := Lib.hid (And.intro (gap_mem r (z % 6) hz6) (fun W => gap_cell W r 9 (z % 6) hz6))
            have hgl := gaps_len r hr _ HGC.out.1
            generalize (gaps r).getD (z % 6) [] = g at *
            go_wp2_with (go_at_call 15; refine HV1.out.mono ?_; rintro e w4 ⟨rfl, hb⟩; have HB4 := Lib.hid (HW.out.trans (((below_alloc wr _).chain hb).mono HW.out.size)); obtain ⟨q1, q2⟩ := box_cell hb rfl; have q3 := ((((below_alloc wr (.cells #[.int .i64 x.k, .string ⟨x.t.toArray⟩, .int .i64 x.l, .int .i64 x.c] 28))).chain hb).cell HZ.out.2).trans HZ.out.1; have q4 : (a2.add k).block < w4.heap.size := (Nat.lt_trans HZ.out.2 q2); have q5 := HGC.out.2 w4; clear hb)
            go_roundg (l.length - (k + 1))
            case measure => omega
            case rel => exact ⟨k + 1, t ++ (x.t ++ g), rfl, by omega, by rw [cat_str, cat_str], by go_num, HS.out.next hlt hr HG.out HVV.out h100' HGC.out.1, HB4.out.trans ((below_alloc w4 _).mono HB4.out.size)⟩
          · go_wp2_with (go_at_call 15; refine HV1.out.mono ?_; rintro e w4 ⟨rfl, hb⟩; have HB4 := Lib.hid (HW.out.trans (((below_alloc wr _).chain hb).mono HW.out.size)); obtain ⟨q1, q2⟩ := box_cell hb rfl; clear hb)
            go_roundg (l.length - (k + 1))
            case measure => omega
            case rel => exact ⟨k + 1, t ++ (x.t ++ [32]), rfl, by omega, by rw [show (⟨#[32]⟩ : ByteArray) = ⟨([32] : List UInt8).toArray⟩ from rfl, cat_str, cat_str], by go_num, HS.out.next hlt hr HG.out HVV.out h100' (List.mem_cons_self ..), HB4.out⟩
    · obtain rfl : k = l.length := by omega
      obtain ⟨m, hm, hk⟩ := HS.out.split HN.out.2.1
      have hlm := len_kt hk
      have HKT := Lib.hid (And.intro hk hlm)
      have HM2 := Lib.hid (HM1.out.next HW.out)
      have HSp := Lib.hid (split_row t (by have := HL.out.2; omega) wr HM2.out)
      rw [hm] at HSp
      dsimp only at HSp
      have HA2 := Lib.hid (HF1.out.1.later HW.out)
      have hlen2 : m.length ≤ 60 := by omega
      clear hm hk hlm
      go_wp2_with (first
        | (go_at_call 11; refine HSp.out.mono ?_; rintro e w3 ⟨x3, k3, rfl, ho, hb⟩; have HO := Lib.hid (And.intro ho hb); have HE := Lib.hid (eqf_spaces A x3 l.length m.length c k3 l m (w3.alloc (.cells #[.int .i64 0, .int .i64 0] 26)) (by omega) HKT.out.1 rfl rfl ((HA2.out.later hb).later (below_alloc _ _)) (argRead_of_tok (ho.alloc _))); clear ho hb)
        | (go_at_call 12; refine HE.out.mono ?_; rintro e w5 ⟨rfl, hb⟩; have HB5 := Lib.hid (HB.out.chain (HW.out.trans (((HO.out.2.chain (below_alloc _ _)).chain hb).mono HW.out.size))); clear hb))
      go_ret
      exact ⟨rfl, HB5.out⟩

set_option maxRecDepth 100000 in
set_option maxHeartbeats 2000000 in
theorem spaces_skip (A B : Option Addr) (n c nb cb : Nat) (r : List UInt8) (w : World) (hM : MaxAt w) (hn : n ≤ maxLen) (hr : r.length ≤ maxLen) (h : 60 < n ∨ 50 < r.length ∨ (10 : UInt8) ∈ r) :
    Calls Tryd.prog 4 #[.slice A n c, .slice B nb cb, .string ⟨r.toArray⟩] w fun e w' => e = .returned (.bool true) ∧ Below w.heap.size w w' := by
  have HA : Hid (Calls Tryd.prog 5 #[] w fun e w' => e = .returned (.bool true) ∧ Below w.heap.size w w') := Lib.hid (by obtain ⟨hg, m, hm⟩ := hM; exact awake_any m w hg hm)
  clear hM
  unfold maxLen at hn hr
  by_cases h1 : (60 : Int) < n
  · go_enter Tryd.func4, Tryd.ntmps4
    go_wp2_with (go_at_call 5; refine HA.out.mono ?_; rintro e w1 ⟨rfl, hb⟩; have HB := Lib.hid hb; clear hb)
    go_ret
    exact ⟨rfl, HB.out⟩
  · by_cases h2 : (50 : Int) < r.length
    · go_enter Tryd.func4, Tryd.ntmps4
      go_wp2_with (go_at_call 5; refine HA.out.mono ?_; rintro e w1 ⟨rfl, hb⟩; have HB := Lib.hid hb; clear hb)
      go_ret
      exact ⟨rfl, HB.out⟩
    · have hnl : (10 : UInt8) ∈ r := by
        rcases h with h | h | h
        · omega
        · omega
        · exact h
      have HC : Hid (∀ w, Calls Tryd.prog 14 #[.string ⟨r.toArray⟩, .string ⟨#[10]⟩] w fun e w' => e = .returned (.bool true) ∧ w = w') := Lib.hid (fun w => by
        have := Tryd.strings_Contains_one ⟨r.toArray⟩ 10 w
        have e1 : decide (0 ≤ Lib.indexByte r 10) = true := decide_eq_true ((nl_mem r).2 hnl)
        rw [show (⟨r.toArray⟩ : ByteArray).data.toList = r from rfl, e1] at this
        exact this.mono fun _ _ ⟨h1, h2⟩ => ⟨h1, h2.symm⟩)
      clear h hnl
      go_enter Tryd.func4, Tryd.ntmps4
      go_wp2_with (first
        | (go_at_call 5; refine HA.out.mono ?_; rintro e w1 ⟨rfl, hb⟩; have HB := Lib.hid hb; clear hb)
        | (go_at_call 14; refine (HC.out _).mono ?_; rintro e w2 ⟨rfl, rfl⟩))
      go_ret
      exact ⟨rfl, HB.out⟩

theorem spaces_any (A B : Option Addr) (c nb cb : Nat) (l : List Tok) (zs : List Int) (r : ByteArray) (m : Int) (w : World) (hg : 0 < w.heap.size) (hm : w.cell? ⟨0, 0, none⟩ = some (.int .i64 m))
    (hl : l.length ≤ maxLen) (hr : r.size ≤ maxLen) (hA : ArgRead w A l) (hB : FillAt w B nb zs) (hnb : nb ≤ maxLen) (ht : ∀ x ∈ l, x.t.length ≤ maxLen) :
    Calls Tryd.prog 4 #[.slice A l.length c, .slice B nb cb, .string r] w fun e w' => e = .returned (.bool true) ∧ Below w.heap.size w w' := by
  by_cases h : 60 < l.length ∨ 50 < r.data.toList.length ∨ (10 : UInt8) ∈ r.data.toList
  · have := spaces_skip A B l.length c nb cb r.data.toList w ⟨hg, m, hm⟩ hl hr h
    rwa [str_list] at this
  · have := spaces_main A B c nb cb l zs r.data.toList w ⟨hg, m, hm⟩ (by omega) (by omega) (fun x => h (Or.inr (Or.inr x))) hA hB hnb ht
    rwa [str_list] at this

end Go.Proofs.YtjdcohfdanenlaaDoor
