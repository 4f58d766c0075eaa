/-
  Plain mathematics of package lex, part 3: places.
-/
import Derived.Test.YtbmejohoifpfhaaLexM2
namespace Go.Proofs.Ytbmejohoifpfhaa

def posStep (p : Int × Int) (c : UInt8) : Int × Int := if c = 10 then (p.1 + 1, 1) else (p.1, p.2 + 1)
/-- The place behind a text that begins at a place. -/
def afterL (p : Int × Int) (l : List UInt8) : Int × Int := l.foldl posStep p

theorem afterL_snoc (p : Int × Int) (l : List UInt8) (c : UInt8) : afterL p (l ++ [c]) = posStep (afterL p l) c := by
  unfold afterL; rw [List.foldl_append]; rfl

theorem afterL_append (p : Int × Int) (l m : List UInt8) : afterL p (l ++ m) = afterL (afterL p l) m := by
  unfold afterL; rw [List.foldl_append]

theorem after_take (a b : Int) (s : ByteArray) : ∀ k : Nat, k ≤ s.size → afterL (a, b) (s.data.toList.take k) =
    if (s.data.toList.take k).count 10 = 0 then (a, b + k) else (a + ((s.data.toList.take k).count 10 : Nat), k - Lib.lastIdx s 10 k)
  | 0, _ => by simp [afterL]
  | k + 1, h => by
    have hk : k < s.size := by omega
    rw [take_snoc s k hk, afterL_snoc, after_take a b s k (by omega)]
    have hb : s.data[k]! = s[k] := by rw [getElem!_pos s.data k (by simpa using hk)]; rfl
    rw [List.count_append]
    unfold posStep
    by_cases hc : s[k] = 10
    · have h1 : List.count 10 [s[k]] = 1 := by rw [hc]; rfl
      have h2 : Lib.lastIdx s 10 (k + 1) = k := by
        unfold Lib.lastIdx
        rw [hb, hc]; rfl
      rw [if_pos hc, h1, h2]
      by_cases h0 : List.count 10 (s.data.toList.take k) = 0
      · rw [if_pos h0, if_neg (by omega), h0]; simp; omega
      · rw [if_neg h0, if_neg (by omega)]; simp; omega
    · have h1 : List.count 10 [s[k]] = 0 := by rw [List.count_eq_zero]; simpa using fun h => hc h.symm
      have h2 : Lib.lastIdx s 10 (k + 1) = Lib.lastIdx s 10 k := by
        conv => lhs; unfold Lib.lastIdx
        rw [hb, if_neg]
        intro h
        apply hc
        apply UInt8.toNat_inj.1
        have : ((s[k].toNat : Int)) = 10 := by simpa using h
        show s[k].toNat = 10
        omega
      rw [if_neg hc, h1, h2, Nat.add_zero]
      split <;> rename_i h0
      · simp; omega
      · simp; omega

theorem after_all (a b : Int) (s : ByteArray) : afterL (a, b) s.data.toList =
    if s.data.toList.count 10 = 0 then (a, b + s.size) else (a + (s.data.toList.count 10 : Nat), s.size - Lib.lastIndexByte s 10) := by
  have h := after_take a b s s.size (Nat.le_refl _)
  rw [List.take_of_length_le (Nat.le_of_eq (size_list s))] at h
  exact h

theorem after_bd (p : Int × Int) (l : List UInt8) : p.1 ≤ (afterL p l).1 ∧ (afterL p l).1 ≤ p.1 + l.length ∧ (1 ≤ p.2 → 1 ≤ (afterL p l).2 ∧ (afterL p l).2 ≤ p.2 + l.length) := by
  induction l generalizing p with
  | nil => simp [afterL]
  | cons c r ih =>
    have h := ih (posStep p c)
    have e : afterL p (c :: r) = afterL (posStep p c) r := rfl
    rw [e, List.length_cons]
    have hs : (posStep p c = (p.1 + 1, 1)) ∨ (posStep p c = (p.1, p.2 + 1)) := by unfold posStep; split <;> simp
    rcases hs with hs | hs
    · rw [hs] at h ⊢
      simp only at h
      refine ⟨by omega, by omega, fun h1 => ?_⟩
      have := h.2.2 (by omega)
      omega
    · rw [hs] at h ⊢
      simp only at h
      refine ⟨by omega, by omega, fun h1 => ?_⟩
      have := h.2.2 (by omega)
      omega

end Go.Proofs.Ytbmejohoifpfhaa
