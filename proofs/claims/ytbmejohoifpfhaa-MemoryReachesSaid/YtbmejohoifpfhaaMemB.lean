/-
  Contracts of small functions: ranges, comparison of integers, validity of a block (the code's and the reference's).
-/
import Derived.Test.YtbmejohoifpfhaaMemW
namespace Go.Proofs.Ytbmejohoifpfhaa
open Go.RowKit

set_option maxHeartbeats 400000 in
theorem inRange_any (n : Int) (w : World) (r : Bool) (h : Tells r (InR n)) :
    Calls Try.prog 58 #[.int .i64 n] w fun e w' => e = .returned (.bool r) ∧ w = w' := by
  have HR := Lib.hid h
  clear h
  by_cases h1 : -1048576 ≤ n <;> by_cases h2 : n ≤ 1048576
  all_goals
    go_enter Try.func58, Try.ntmps58
    go_wp2
    go_ret
    refine ⟨?_, rfl⟩
    first
      | exact ret_yes HR.out ⟨by omega, by omega⟩
      | exact ret_no HR.out (fun h => by have := h.1; have := h.2; omega)

set_option maxHeartbeats 400000 in
theorem within_any (n : Int) (w : World) (r : Bool) (h : Tells r (InR n)) :
    Calls Try.prog 51 #[.int .i64 n] w fun e w' => e = .returned (.bool r) ∧ w = w' := by
  have HR := Lib.hid h
  clear h
  by_cases h1 : -1048576 ≤ n <;> by_cases h2 : n ≤ 1048576
  all_goals
    go_enter Try.func51, Try.ntmps51
    go_wp2
    go_ret
    refine ⟨?_, rfl⟩
    first
      | exact ret_yes HR.out ⟨by omega, by omega⟩
      | exact ret_no HR.out (fun h => by have := h.1; have := h.2; omega)

set_option maxHeartbeats 400000 in
theorem isNaN_any (n : Int) (w : World) :
    Calls Try.prog 46 #[.int .i64 n] w fun e w' => e = .returned (.bool false) ∧ w = w' := by
  go_enter Try.func46, Try.ntmps46
  go_wp2
  go_ret
  exact ⟨rfl, rfl⟩

/-- The comparison of two integers. -/
def cmpI (x y : Int) : Int := if x < y then -1 else if y < x then 1 else 0

set_option maxHeartbeats 400000 in
theorem compare_any (x y : Int) (w : World) :
    Calls Try.prog 24 #[.int .i64 x, .int .i64 y] w fun e w' => e = .returned (.int .i64 (cmpI x y)) ∧ w = w' := by
  obtain ⟨z, hz⟩ : ∃ z, z = cmpI x y := ⟨_, rfl⟩
  rw [← hz]
  unfold cmpI at hz
  have HZ := Lib.hid hz
  clear hz
  by_cases h1 : x < y
  · go_enter Try.func24, Try.ntmps24
    go_wp2_with (go_at_call 46; refine (isNaN_any _ _).mono ?_; rintro e w' ⟨rfl, rfl⟩)
    go_ret
    exact ⟨ret_int (by rw [HZ.out, if_pos h1]), rfl⟩
  · by_cases h2 : y < x
    · go_enter Try.func24, Try.ntmps24
      go_wp2_with (go_at_call 46; refine (isNaN_any _ _).mono ?_; rintro e w' ⟨rfl, rfl⟩)
      go_ret
      exact ⟨ret_int (by rw [HZ.out, if_neg (by omega), if_pos h2]), rfl⟩
    · go_enter Try.func24, Try.ntmps24
      go_wp2_with (go_at_call 46; refine (isNaN_any _ _).mono ?_; rintro e w' ⟨rfl, rfl⟩)
      go_ret
      exact ⟨ret_int (by rw [HZ.out, if_neg (by omega), if_neg (by omega)]), rfl⟩

set_option maxHeartbeats 400000 in
theorem findcmp_any (x : Bk) (F : Option Addr) (c : Nat) (t : Int) (w : World) :
    Calls Try.prog 41 #[.agg (bkV x F c), .int .i64 t] w fun e w' => e = .returned (.int .i64 (cmpI x.a t)) ∧ Below w.heap.size w w' := by
  obtain ⟨xa, xr, xf⟩ := x
  unfold bkV
  simp only
  go_enter Try.func41, Try.ntmps41
  go_wp2_with (go_at_call 24; refine (compare_any _ _ _).mono ?_; rintro e w' ⟨rfl, rfl⟩)
  go_ret
  exact ⟨rfl, below_alloc _ _⟩

set_option maxHeartbeats 400000 in
theorem notInRange_any (n : Int) (w : World) (r : Bool) (h : Tells r (InR n)) :
    Calls Try.prog 57 #[.int .i64 n] w fun e w' => e = .returned (.bool (!r)) ∧ w = w' := by
  have HR := Lib.hid h
  clear h
  cases r
  all_goals
    go_enter Try.func57, Try.ntmps57
    go_wp2_with (go_at_call 58; refine (inRange_any _ _ _ HR.out).mono ?_; rintro e w' ⟨rfl, rfl⟩)
    go_ret
    exact ⟨rfl, rfl⟩

/-- The index of the first integer out of range, or -1. -/
def IdxNot (f : List Int) (r : Int) : Prop := (r = -1 ∧ ∀ n ∈ f, InR n) ∨ (0 ≤ r ∧ ¬ ∀ n ∈ f, InR n)

def IdxPost (f : List Int) (w : World) (e : Ending) (w' : World) : Prop := ∃ r, e = .returned (.int .i64 r) ∧ IdxNot f r ∧ w = w'

theorem all_upto {f : List Int} {k : Nat} (h : ∀ (i : Nat) v, i < k → f[i]? = some v → InR v) (hk : f.length ≤ k) : ∀ n ∈ f, InR n := by
  intro n hn
  obtain ⟨i, hi⟩ := List.getElem?_of_mem hn
  have := (List.getElem?_eq_some_iff.1 hi).1
  exact h i n (by omega) hi

set_option maxHeartbeats 1000000 in
theorem indexNot_any (F : Option Addr) (c n : Nat) (f : List Int) (hn : n = f.length) (w : World) (hl : n ≤ maxLen) (hf : FieldsAt w w.heap.size F f) :
    Calls Try.prog 85 #[.slice F n c, .func (.func 57) #[] #[]] w (IdxPost f w) := by
  unfold maxLen at hl
  have HF := Lib.hid (And.intro hf hn)
  clear hf hn
  go_enter Try.func85, Try.ntmps85
  go_wp2
  go_loop [8] (fun j => ∃ k : Nat, k ≤ n ∧ j = .int .i64 k ∧ Hid (∀ (i : Nat) v, i < k → f[i]? = some v → InR v)) (fun j => n - (intOf j).toNat)
  case atStart => exact ⟨0, Nat.zero_le _, rfl, Lib.hid (fun i v hi => absurd hi (Nat.not_lt_zero i))⟩
  case round =>
    obtain ⟨k, hk, rfl, HA⟩ := hrel
    by_cases hlt : k < n
    · obtain ⟨v, hv⟩ : ∃ v, f[k]? = some v := ⟨f[k]'(by rw [← HF.out.2]; exact hlt), List.getElem?_eq_getElem _⟩
      obtain ⟨a, rfl, hab, hc⟩ := HF.out.1 k v hv
      obtain ⟨r, hr⟩ := says (InR v)
      have HR := Lib.hid hr
      have HV := Lib.hid hv
      clear hr hv
      cases r
      · go_wp2_with (refine (notInRange_any _ _ _ HR.out).mono ?_; rintro e w' ⟨rfl, rfl⟩)
        go_ret
        exact ⟨_, rfl, .inr ⟨by omega, fun h => HR.out.f (h v (List.mem_of_getElem? HV.out))⟩, rfl⟩
      · go_wp2_with (refine (notInRange_any _ _ _ HR.out).mono ?_; rintro e w' ⟨rfl, rfl⟩)
        go_round
        case rel =>
          refine ⟨k + 1, by omega, by go_num, Lib.hid (fun i u hi hu => ?_)⟩
          by_cases he : i = k
          · subst he
            have : u = v := Option.some.inj (hu.symm.trans HV.out)
            subst this
            exact HR.out.t
          · exact HA.out i u (by omega) hu
        case measure => simp [intOf]; omega
    · go_wp2
      go_ret
      exact ⟨_, rfl, .inl ⟨rfl, all_upto HA.out (by rw [← HF.out.2]; omega)⟩, rfl⟩

set_option maxHeartbeats 400000 in
theorem containsNot_any (F : Option Addr) (c n : Nat) (f : List Int) (hn : n = f.length) (w : World) (hl : n ≤ maxLen) (hf : FieldsAt w w.heap.size F f) (q : Bool) (hq : Tells q (∀ n ∈ f, InR n)) :
    Calls Try.prog 56 #[.slice F n c, .func (.func 57) #[] #[]] w fun e w' => e = .returned (.bool (!q)) ∧ w = w' := by
  have HQ := Lib.hid hq
  have HF := Lib.hid (And.intro hf hn)
  clear hq hf hn
  go_enter Try.func56, Try.ntmps56
  go_wp2_with (go_at_call 85; refine (indexNot_any _ _ _ f HF.out.2 _ hl HF.out.1).mono ?_; rintro e w' ⟨r, rfl, hr, rfl⟩; have HR := Lib.hid hr; clear hr)
  go_ret
  refine ⟨?_, rfl⟩
  rcases HR.out with ⟨h1, h2⟩ | ⟨h1, h2⟩
  · rw [h1, HQ.out.yes h2]; rfl
  · rw [HQ.out.no h2, show decide (0 ≤ r) = true by simpa using h1]; rfl

set_option maxRecDepth 100000 in
set_option maxHeartbeats 2000000 in
theorem validBlock_any (x : Bk) (F : Option Addr) (c : Nat) (w : World) (hl : BkLen x) (hf : FieldsAt w w.heap.size F x.f) (r : Bool) (hr : Tells r (BkOk x)) :
    Calls Try.prog 39 #[.agg (bkV x F c)] w fun e w' => e = .returned (.bool r) ∧ Below w.heap.size w w' := by
  obtain ⟨xa, xr, xf⟩ := x
  obtain ⟨hl1, hl2⟩ := hl
  unfold BkOk at hr
  unfold bkV
  simp only at hl1 hl2 hr hf ⊢
  obtain ⟨n, hn⟩ : ∃ n, n = xf.length := ⟨_, rfl⟩
  rw [← hn] at hl2 ⊢
  obtain ⟨q, hq⟩ := says (∀ n ∈ xf, InR n)
  obtain ⟨nb, hnb⟩ : ∃ b, b = nameL xr := ⟨_, rfl⟩
  rw [← hnb] at hr
  have HN : Hid (∀ W, Calls Try.prog 36 #[.string ⟨xr.toArray⟩] W fun e w' => e = .returned (.bool nb) ∧ Below W.heap.size W w') := Lib.hid (fun W => by rw [hnb]; exact name_any xr W hl1)
  have HF := Lib.hid (And.intro hf (And.intro hn hq))
  have HR := Lib.hid hr
  unfold maxLen at hl2
  clear hf hn hq hnb hr
  by_cases h1 : 1 ≤ xa
  case neg =>
    go_enter Try.func39, Try.ntmps39
    go_wp2
    go_ret
    exact ⟨ret_no HR.out (fun h => by have := h.1.1; omega), below_alloc _ _⟩
  by_cases h2 : xa ≤ 1048576
  case neg =>
    go_enter Try.func39, Try.ntmps39
    go_wp2
    go_ret
    exact ⟨ret_no HR.out (fun h => by have := h.1.2; omega), below_alloc _ _⟩
  cases nb
  case false =>
    go_enter Try.func39, Try.ntmps39
    go_wp2_with (go_at_call 36; refine (HN.out _).mono ?_; rintro e w1 ⟨rfl, hb⟩; have HB := Lib.hid hb; clear hb)
    go_ret
    exact ⟨ret_no HR.out (fun h => absurd h.2.1 (by simp)), (below_alloc _ _).next HB.out⟩
  by_cases h3 : 1 ≤ n
  case neg =>
    have h3' : ¬ (1 : Int) ≤ (n : Int) := by omega
    go_enter Try.func39, Try.ntmps39
    go_wp2_with (go_at_call 36; refine (HN.out _).mono ?_; rintro e w1 ⟨rfl, hb⟩; obtain ⟨hc, hf⟩ := bcell hb; have HB := Lib.hid hb; clear hb)
    go_ret
    exact ⟨ret_no HR.out (fun h => by have := h.2.2.1.1; have := HF.out.2.1; omega), (below_alloc _ _).next HB.out⟩
  by_cases h4 : n ≤ 8
  case neg =>
    have h4' : ¬ (n : Int) ≤ 8 := by omega
    go_enter Try.func39, Try.ntmps39
    go_wp2_with (go_at_call 36; refine (HN.out _).mono ?_; rintro e w1 ⟨rfl, hb⟩; obtain ⟨hc, hf⟩ := bcell hb; have HB := Lib.hid hb; clear hb)
    go_ret
    exact ⟨ret_no HR.out (fun h => by have := h.2.2.1.2; have := HF.out.2.1; omega), (below_alloc _ _).next HB.out⟩
  cases q
  all_goals
    have h3' : (1 : Int) ≤ (n : Int) := by omega
    have h4' : (n : Int) ≤ 8 := by omega
    go_enter Try.func39, Try.ntmps39
    go_wp2_with (first
      | (go_at_call 36; refine (HN.out _).mono ?_; rintro e w1 ⟨rfl, hb⟩; obtain ⟨hc, hf⟩ := bcell hb; have HB := Lib.hid hb; clear hb)
      | (go_at_call 56; (refine (containsNot_any F _ n xf HF.out.2.1 _ (by unfold maxLen; omega) (HF.out.1.keep (fun _ hq => ((below_alloc _ _).next HB.out).cell hq) ((below_alloc _ _).next HB.out).size) _ HF.out.2.2).mono ?_; rintro e w2 ⟨rfl, rfl⟩)))
    go_ret
    refine ⟨?_, (below_alloc _ _).next HB.out⟩
    first
      | exact ret_no HR.out (fun h => HF.out.2.2.f h.2.2.2)
      | exact ret_yes HR.out ⟨⟨h1, h2⟩, by trivial, by have := HF.out.2.1; omega, HF.out.2.2.t⟩

end Go.Proofs.Ytbmejohoifpfhaa
