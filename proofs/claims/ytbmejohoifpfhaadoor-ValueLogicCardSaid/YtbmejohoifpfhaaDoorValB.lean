/-
  Contracts of small functions of package value: ranges, comparison of strings, Valid's parts (the code's and the reference's).
-/
import Derived.Test.YtbmejohoifpfhaaDoorValW
import Derived.Test.YtbmejohoifpfhaaDoorMemQ
import Derived.Test.YtbmejohoifpfhaaDoorLexW
namespace Go.Proofs.YtbmejohoifpfhaaDoor
open Go.RowKit

set_option maxHeartbeats 400000 in
theorem vin_any (n : Int) (w : World) : Calls Tryd.prog 21 #[.int .i64 n] w fun e w' => e = .returned (.bool (inB n)) ∧ w = w' := by
  obtain ⟨r, hr⟩ : ∃ r, r = inB n := ⟨_, rfl⟩
  rw [← hr]
  have HR : Hid (Tells r (InR n)) := Lib.hid (hr ▸ inB_tells n)
  clear hr
  by_cases h1 : -1048576 ≤ n <;> by_cases h2 : n ≤ 1048576
  all_goals
    go_enter Tryd.func21, Tryd.ntmps21
    go_wp2
    go_ret
    refine ⟨?_, rfl⟩
    first
      | exact ret_yes HR.out ⟨by omega, by omega⟩
      | exact ret_no HR.out (fun h => by have := h.1; have := h.2; omega)

set_option maxHeartbeats 400000 in
theorem rin_any (n : Int) (w : World) : Calls Tryd.prog 10 #[.int .i64 n] w fun e w' => e = .returned (.bool (inB n)) ∧ w = w' := by
  obtain ⟨r, hr⟩ : ∃ r, r = inB n := ⟨_, rfl⟩
  rw [← hr]
  have HR : Hid (Tells r (InR n)) := Lib.hid (hr ▸ inB_tells n)
  clear hr
  by_cases h1 : -1048576 ≤ n <;> by_cases h2 : n ≤ 1048576
  all_goals
    go_enter Tryd.func10, Tryd.ntmps10
    go_wp2
    go_ret
    refine ⟨?_, rfl⟩
    first
      | exact ret_yes HR.out ⟨by omega, by omega⟩
      | exact ret_no HR.out (fun h => by have := h.1; have := h.2; omega)

set_option maxHeartbeats 400000 in
theorem bounded_any (n : Int) (w : World) : Calls Tryd.prog 42 #[.int .i64 n] w fun e w' => e = .returned (.tuple #[.int .i64 (bnd n).1, .int .i64 (bnd n).2]) ∧ w = w' := by
  have HV : Hid (∀ W, Calls Tryd.prog 21 #[.int .i64 n] W fun e w' => e = .returned (.bool (inB n)) ∧ W = w') := Lib.hid (vin_any n)
  unfold bnd
  cases h : inB n
  all_goals
    rw [h] at HV
    clear h
    go_enter Tryd.func42, Tryd.ntmps42
    go_wp2_with (go_at_call 21; refine (HV.out _).mono ?_; rintro e w' ⟨rfl, rfl⟩)
    go_ret2
    exact ⟨rfl, rfl⟩

set_option maxHeartbeats 400000 in
theorem isNaNs_any (s : List UInt8) (w : World) : Calls Tryd.prog 43 #[.string ⟨s.toArray⟩] w fun e w' => e = .returned (.bool false) ∧ w = w' := by
  go_enter Tryd.func43, Tryd.ntmps43
  go_wp2
  go_ret
  exact ⟨by simp, rfl⟩

/-- The comparison of two strings. -/
def cmpS (x y : List UInt8) : Int := if Op.bytesLess x y then -1 else if Op.bytesLess y x then 1 else 0

theorem cmpS_neg {x y : List UInt8} : cmpS x y < 0 ↔ Op.bytesLess x y = true := by
  unfold cmpS
  cases h : Op.bytesLess x y
  · cases h2 : Op.bytesLess y x <;> simp
  · simp

theorem cmpS_zero {x y : List UInt8} : cmpS x y = 0 ↔ x = y := by
  unfold cmpS
  cases h : Op.bytesLess x y
  · cases h2 : Op.bytesLess y x
    · simp [bl_tri h h2]
    · simp only [Bool.false_eq_true, if_false, if_true]
      exact ⟨fun h => absurd h (by decide), fun e => by subst e; rw [bl_irrefl] at h2; cases h2⟩
  · simp only [if_true]
    exact ⟨fun h => absurd h (by decide), fun e => by subst e; rw [bl_irrefl] at h; cases h⟩

/-- Greater: neither less nor the same. -/
theorem gtr_eq (x y : List UInt8) : (!(Op.bytesLess x y || x == y)) = Op.bytesLess y x := by
  cases h : Op.bytesLess x y
  · cases h2 : Op.bytesLess y x
    · rw [bl_tri h h2]; simp
    · have : (x == y) = false := beq_eq_false_iff_ne.2 (bl_ne h2).symm
      rw [this]; rfl
  · rw [bl_asymm h]; simp

theorem not_flip {a b : Bool} (h : (!(false || a)) = b) : a = !b := by
  cases a <;> cases b <;> first | rfl | cases h

set_option maxHeartbeats 400000 in
theorem compareS_any (x y : List UInt8) (w : World) :
    Calls Tryd.prog 33 #[.string ⟨x.toArray⟩, .string ⟨y.toArray⟩] w fun e w' => e = .returned (.int .i64 (cmpS x y)) ∧ w = w' := by
  obtain ⟨z, hz⟩ : ∃ z, z = cmpS x y := ⟨_, rfl⟩
  rw [← hz]
  unfold cmpS at hz
  have HG := gtr_eq x y
  cases h1 : Op.bytesLess x y
  · cases h2 : Op.bytesLess y x
    all_goals
      rw [h1, h2] at hz
      rw [h1, h2] at HG
      have HZ := Lib.hid hz
      first | have hq : (x == y) = true := not_flip HG | have hq : (x == y) = false := not_flip HG
      clear hz HG h2
      go_enter Tryd.func33, Tryd.ntmps33
      go_wp2_with (go_at_call 43; refine (isNaNs_any _ _).mono ?_; rintro e w' ⟨rfl, rfl⟩)
      go_ret
      exact ⟨ret_int (by rw [HZ.out]; rfl), rfl⟩
  · rw [h1] at hz
    have HZ := Lib.hid hz
    clear hz HG
    go_enter Tryd.func33, Tryd.ntmps33
    go_wp2_with (go_at_call 43; refine (isNaNs_any _ _).mono ?_; rintro e w' ⟨rfl, rfl⟩)
    go_ret
    exact ⟨ret_int (by rw [HZ.out]; rfl), rfl⟩

set_option maxHeartbeats 400000 in
theorem findcmpS_any (x : Bd) (t : List UInt8) (w : World) :
    Calls Tryd.prog 32 #[.agg #[.string ⟨x.n.toArray⟩, .int .i64 x.v], .string ⟨t.toArray⟩] w fun e w' => e = .returned (.int .i64 (cmpS x.n t)) ∧ Below w.heap.size w w' := by
  obtain ⟨xn, xv⟩ := x
  simp only
  go_enter Tryd.func32, Tryd.ntmps32
  go_wp2_with (go_at_call 33; refine (compareS_any _ _ _).mono ?_; rintro e w' ⟨rfl, rfl⟩)
  go_ret
  exact ⟨rfl, below_alloc _ _⟩

end Go.Proofs.YtbmejohoifpfhaaDoor
