/-
  Looking for a name: slices.BinarySearchFunc at a store, find, get.
-/
import Derived.Test.YtbmejohoifpfhaaDoorValB
import Derived.Deep.LoopGhost
import Derived.Outline
namespace Go.Proofs.YtbmejohoifpfhaaDoor
open Go.RowKit

/-- Behind a binary search: the lower bound, and whether the binding there has the name. -/
def FindPostN (l : List Bd) (t : List UInt8) (w : World) (e : Ending) (w' : World) : Prop := ∃ (i : Nat) (ok : Bool), e = .returned (.tuple #[.int .i64 i, .bool ok]) ∧ IsLbN l t i ∧ Tells ok (HasN l t i) ∧ Below w.heap.size w w'

/-- The bindings below i have smaller names, those from j on have not. -/
def BetweenN (l : List Bd) (t : List UInt8) (i j : Nat) : Prop := (∀ (k : Nat) x, k < i → l[k]? = some x → Op.bytesLess x.n t = true) ∧ ∀ (k : Nat) x, j ≤ k → l[k]? = some x → Op.bytesLess x.n t = false

theorem betweenN_start (l : List Bd) (t : List UInt8) (n : Nat) (hn : n = l.length) : BetweenN l t 0 n :=
  ⟨fun k x hk => absurd hk (Nat.not_lt_zero k), fun k x hk hx => by have := (List.getElem?_eq_some_iff.1 hx).1; omega⟩

theorem BetweenN.left {l : List Bd} {t : List UInt8} {i j h : Nat} {x : Bd} (hb : BetweenN l t i j) (hm : StOk l) (hx : l[h]? = some x) (hlt : Op.bytesLess x.n t = true) : BetweenN l t (h + 1) j :=
  ⟨fun k y hk hy => by
    rcases Nat.lt_or_eq_of_le (Nat.lt_succ_iff.1 hk) with h1 | rfl
    · exact bl_trans (hm.lt h1 hy hx) hlt
    · have : y = x := Option.some.inj (hy.symm.trans hx)
      rw [this]; exact hlt, hb.2⟩

theorem BetweenN.right {l : List Bd} {t : List UInt8} {i j h : Nat} {x : Bd} (hb : BetweenN l t i j) (hm : StOk l) (hx : l[h]? = some x) (hge : Op.bytesLess x.n t = false) : BetweenN l t i h :=
  ⟨hb.1, fun k y hk hy => by
    rcases Nat.lt_or_eq_of_le hk with h1 | rfl
    · cases h2 : Op.bytesLess y.n t
      · rfl
      · rw [bl_trans (hm.lt h1 hx hy) h2] at hge
        cases hge
    · have : y = x := Option.some.inj (hy.symm.trans hx)
      rw [this]; exact hge⟩

/-- The comparison of the binding at h. -/
def CmpAtN (l : List Bd) (h : Nat) (t : List UInt8) (r : Int) : Prop := ∃ x, l[h]? = some x ∧ r = cmpS x.n t

theorem CmpAtN.left {l : List Bd} {t : List UInt8} {r : Int} {i j h : Nat} (hc : CmpAtN l h t r) (hneg : r < 0) (hb : BetweenN l t i j) (hm : StOk l) : BetweenN l t (h + 1) j := by
  obtain ⟨x, hx, rfl⟩ := hc
  exact hb.left hm hx (cmpS_neg.1 hneg)

theorem CmpAtN.right {l : List Bd} {t : List UInt8} {r : Int} {i j h : Nat} (hc : CmpAtN l h t r) (hneg : ¬ r < 0) (hb : BetweenN l t i j) (hm : StOk l) : BetweenN l t i h := by
  obtain ⟨x, hx, rfl⟩ := hc
  refine hb.right hm hx ?_
  have := mt cmpS_neg.2 hneg
  simpa using this

theorem HasN.lb {l : List Bd} {t : List UInt8} {i : Nat} (h : HasN l t i) (hl : StOk l) : IsLbN l t i := by
  have hlt := h.lt
  obtain ⟨x, hx, rfl⟩ := h
  refine ⟨by omega, fun k y hk hy => hl.lt hk hy hx, fun k y hk hy => ?_⟩
  rcases Nat.lt_or_eq_of_le hk with h1 | rfl
  · exact bl_asymm (hl.lt h1 hx hy)
  · have : x = y := Option.some.inj (hx.symm.trans hy)
    rw [this]; exact bl_irrefl _

theorem IsLbN.uniq {l : List Bd} {t : List UInt8} {i j : Nat} (h : IsLbN l t i) (g : IsLbN l t j) : i = j := by
  rcases Nat.lt_trichotomy i j with h1 | h1 | h1
  · have hlt : i < l.length := by have := g.1; omega
    have a := g.2.1 i l[i] h1 (List.getElem?_eq_getElem hlt)
    have b := h.2.2 i l[i] (Nat.le_refl _) (List.getElem?_eq_getElem hlt)
    rw [a] at b; cases b
  · exact h1
  · have hlt : j < l.length := by have := h.1; omega
    have a := h.2.1 j l[j] h1 (List.getElem?_eq_getElem hlt)
    have b := g.2.2 j l[j] (Nat.le_refl _) (List.getElem?_eq_getElem hlt)
    rw [a] at b; cases b

theorem noN_found {l : List Bd} {t : List UInt8} {i : Nat} (hl : StOk l) (h : IsLbN l t i) (hn : ¬ HasN l t i) : NoN l t := by
  intro k x hx e
  have h1 : HasN l t k := ⟨x, hx, e⟩
  have := h.uniq (h1.lb hl)
  subst this
  exact hn h1

theorem half_i {m : Int} (h0 : 0 ≤ m) (h : m ≤ 1000) : IntKind.i64.wrap (m / 2) = m / 2 := by rw [IntKind.wrap_i64]; omega

set_option maxRecDepth 100000 in
set_option maxHeartbeats 4000000 in
theorem bsearchN_any (A : Option Addr) (c n : Nat) (l : List Bd) (hn : n = l.length) (h100 : n ≤ 100) (t : List UInt8) (w : World) (hok : StOk l) (hm : BdRow w w.heap.size l A) :
    Calls Tryd.prog 31 #[.slice A n c, .string ⟨t.toArray⟩, .func (.func 32) #[] #[]] w (FindPostN l t w) := by
  have HM := Lib.hid (And.intro hm (And.intro hn hok))
  clear hm hn hok
  go_enter Tryd.func31, Tryd.ntmps31
  go_wp2
  go_loopg [9, 10] n (fun m u v wr => ∃ i j : Nat, m = j - i ∧ i ≤ j ∧ j ≤ n ∧ u = .int .i64 i ∧ v = .int .i64 j ∧ Hid (Below w.heap.size w wr ∧ BetweenN l t i j))
  case atStart => exact ⟨0, n, rfl, Nat.zero_le _, Nat.le_refl _, rfl, rfl, Lib.hid ⟨Below.refl _ _, betweenN_start l t n HM.out.2.1⟩⟩
  case round =>
    obtain ⟨i, j, rfl, hij, hjn, rfl, rfl, HI⟩ := hrel
    by_cases hlt : i < j
    · have hlt' : (i : Int) < j := by omega
      obtain ⟨h, hh⟩ : ∃ h : Nat, h = (i + j) / 2 := ⟨_, rfl⟩
      have hhn : h < n := by omega
      have hh1 : i ≤ h := by omega
      have hh2 : h < j := by omega
      have hi0 : (0 : Int) ≤ ((i : Int) + j) / 2 := by omega
      have hi1 : ((i : Int) + j) / 2 < n := by omega
      have hi2 : (((i : Int) + j) / 2).toNat = h := by omega
      have HH : Hid (((i : Int) + j) / 2 = (h : Int)) := Lib.hid (by omega)
      obtain ⟨x, hx⟩ := bd_ex (l := l) (i := h) (by rw [← HM.out.2.1]; exact hhn)
      obtain ⟨a, rfl, _, c0, c1, _⟩ := bd_cells (bd_later HM.out.1 HI.out.1) hx
      obtain ⟨r, hr⟩ : ∃ r, r = cmpS x.n t := ⟨_, rfl⟩
      have HC : Hid (∀ W, Calls Tryd.prog 32 #[.agg #[.string ⟨x.n.toArray⟩, .int .i64 x.v], .string ⟨t.toArray⟩] W fun e w' => e = .returned (.int .i64 r) ∧ Below W.heap.size W w') :=
        Lib.hid (fun W => by rw [hr]; exact findcmpS_any x t W)
      have HX : Hid (CmpAtN l h t r) := Lib.hid ⟨x, hx, hr⟩
      generalize x.n = xn at *
      generalize x.v = xv at *
      clear hx hr hh
      by_cases hneg : r < 0
      · go_wp2_with (refine (HC.out _).mono ?_; rintro e w3 ⟨rfl, hb⟩; have HB3 := Lib.hid (HI.out.1.next hb); clear hb)
        rw [HH.out]
        go_roundg (j - (h + 1))
        case measure => omega
        case rel => exact ⟨h + 1, j, rfl, by omega, hjn, by go_num, rfl, Lib.hid ⟨HB3.out, HX.out.left hneg HI.out.2 HM.out.2.2⟩⟩
      · go_wp2_with (refine (HC.out _).mono ?_; rintro e w3 ⟨rfl, hb⟩; have HB3 := Lib.hid (HI.out.1.next hb); clear hb)
        rw [HH.out]
        go_roundg (h - i)
        case measure => omega
        case rel => exact ⟨i, h, rfl, hh1, by omega, rfl, rfl, Lib.hid ⟨HB3.out, HX.out.right (by omega) HI.out.2 HM.out.2.2⟩⟩
    · have hlt' : ¬ (i : Int) < j := by omega
      obtain rfl : i = j := by omega
      have HL : Hid (IsLbN l t i) := Lib.hid ⟨by rw [← HM.out.2.1]; exact hjn, HI.out.2.1, HI.out.2.2⟩
      by_cases hin : i < n
      · have hin' : (i : Int) < n := by omega
        obtain ⟨x, hx⟩ := bd_ex (l := l) (i := i) (by rw [← HM.out.2.1]; exact hin)
        obtain ⟨a, rfl, _, c0, c1, _⟩ := bd_cells (bd_later HM.out.1 HI.out.1) hx
        obtain ⟨r, hr⟩ : ∃ r, r = cmpS x.n t := ⟨_, rfl⟩
        have HC : Hid (∀ W, Calls Tryd.prog 32 #[.agg #[.string ⟨x.n.toArray⟩, .int .i64 x.v], .string ⟨t.toArray⟩] W fun e w' => e = .returned (.int .i64 r) ∧ Below W.heap.size W w') :=
          Lib.hid (fun W => by rw [hr]; exact findcmpS_any x t W)
        have HX : Hid (Tells (r == 0) (HasN l t i)) := Lib.hid (by
          unfold Tells
          rw [hr, beq_iff_eq, cmpS_zero]
          exact ⟨fun h => ⟨x, hx, h⟩, fun ⟨y, hy, h⟩ => by
            have : x = y := Option.some.inj (hx.symm.trans hy)
            rw [this]; exact h⟩)
        generalize x.n = xn at *
        generalize x.v = xv at *
        clear hx hr
        go_wp2_with (refine (HC.out _).mono ?_; rintro e w3 ⟨rfl, hb⟩; have HB3 := Lib.hid (HI.out.1.next hb); clear hb)
        go_ret2
        exact ⟨i, _, rfl, HL.out, HX.out, HB3.out⟩
      · have hin' : ¬ (i : Int) < n := by omega
        go_wp2
        go_ret2
        exact ⟨i, _, rfl, HL.out, ⟨fun h => absurd h (by simp), fun h => absurd h.lt (by rw [← HM.out.2.1]; exact hin)⟩, HI.out.1⟩

set_option maxHeartbeats 400000 in
theorem findN_any (A : Option Addr) (c n : Nat) (l : List Bd) (hn : n = l.length) (h100 : n ≤ 100) (t : List UInt8) (w : World) (hok : StOk l) (hm : BdRow w w.heap.size l A) :
    Calls Tryd.prog 22 #[.slice A n c, .string ⟨t.toArray⟩] w (FindPostN l t w) := by
  have HM := Lib.hid (And.intro hm (And.intro hn (And.intro hok h100)))
  clear hm hn hok h100
  go_enter Tryd.func22, Tryd.ntmps22
  go_wp2_with (refine (bsearchN_any _ _ _ l HM.out.2.1 HM.out.2.2.2 _ _ HM.out.2.2.1 HM.out.1).mono ?_; rintro e w1 ⟨i, ok, rfl, h1, h2, h3⟩; have H := Lib.hid (And.intro h1 (And.intro h2 h3)); clear h1 h2 h3)
  go_ret2
  exact ⟨i, ok, rfl, H.out.1, H.out.2.1, H.out.2.2⟩

set_option maxHeartbeats 400000 in
/-- What get answers: the value of the name. -/
theorem vget_any (A : Option Addr) (c n : Nat) (l : List Bd) (hn : n = l.length) (h100 : n ≤ 100) (t : List UInt8) (w : World) (hok : StOk l) (hm : BdRow w w.heap.size l A) :
    Calls Tryd.prog 24 #[.slice A n c, .string ⟨t.toArray⟩] w fun e w' => e = .returned (.tuple #[.int .i64 (getS l t).1, .int .i64 (getS l t).2]) ∧ Below w.heap.size w w' := by
  have HM := Lib.hid (And.intro hm (And.intro hn (And.intro hok h100)))
  clear hm hn hok h100
  rcases hasN_or_not l t with ⟨i, hi⟩ | hno
  · have hin : i < n := by have := hi.lt; have := HM.out.2.1; omega
    have hin' : (i : Int) < n := by omega
    have HT := Lib.hid hi
    obtain ⟨x, hx, hxt⟩ := hi
    have hg : getS l t = (x.v, 0) := by rw [← hxt]; exact getS_has HM.out.2.2.1 hx
    rw [hg]
    have HX := Lib.hid hx
    obtain ⟨xv, hxv⟩ : ∃ xv, xv = x.v := ⟨_, rfl⟩
    rw [← hxv]
    have HXV := Lib.hid hxv
    clear hx hxt hg hxv
    go_enter Tryd.func24, Tryd.ntmps24
    go_wp2_with (refine (findN_any _ _ _ l HM.out.2.1 HM.out.2.2.2 _ _ HM.out.2.2.1 HM.out.1).mono ?_; rintro e w1 ⟨j, ok, rfl, h1, h2, h3⟩; obtain rfl : i = j := (HT.out.lb HM.out.2.2.1).uniq h1; obtain rfl : ok = true := h2.yes HT.out; have H := Lib.hid h3; obtain ⟨a, rfl, _, _, c1, _⟩ := bd_cells (bd_later HM.out.1 h3) HX.out; rw [← HXV.out] at c1; clear h1 h2 h3)
    go_ret2
    exact ⟨rfl, H.out⟩
  · rw [getS_no hno]
    have HT := Lib.hid hno
    clear hno
    go_enter Tryd.func24, Tryd.ntmps24
    go_wp2_with (refine (findN_any _ _ _ l HM.out.2.1 HM.out.2.2.2 _ _ HM.out.2.2.1 HM.out.1).mono ?_; rintro e w1 ⟨j, ok, rfl, h1, h2, h3⟩; obtain rfl : ok = false := h2.no (fun ⟨x, hx, e⟩ => HT.out j x hx e); have H := Lib.hid h3; clear h1 h2 h3)
    go_ret2
    exact ⟨rfl, H.out⟩

/-- What the reference's Get answers. -/
def getB (l : List Bd) (t : List UInt8) : Bool := (getS l t).2 == 0

end Go.Proofs.YtbmejohoifpfhaaDoor
