/-
  Plain mathematics of package lex, part 9: what strings.Split gives at a newline.
-/
import Derived.Test.YtjbbelmmnlohlaaDoorLexM8
import Derived.Lib.CountLaws
import Derived.Lib.Split
namespace Go.Proofs.YtjbbelmmnlohlaaDoor

theorem idx_nl (l : List UInt8) : (Lib.index l [10] = -1 ∧ ∀ c ∈ l, c ≠ 10) ∨ ∃ a b : List UInt8, Lib.index l [10] = (a.length : Nat) ∧ l = a ++ 10 :: b ∧ ∀ c ∈ a, c ≠ 10 := by
  induction l with
  | nil => exact Or.inl ⟨rfl, fun c hc => by cases hc⟩
  | cons c r ih =>
    by_cases hc : c = 10
    · subst hc
      refine Or.inr ⟨[], r, ?_, rfl, fun c hc => by cases hc⟩
      unfold Lib.index
      have hp : List.isPrefixOf [(10 : UInt8)] (10 :: r) = true := by simp [List.isPrefixOf]
      rw [hp]; rfl
    · have hp : List.isPrefixOf [(10 : UInt8)] (c :: r) = false := by
        simp [List.isPrefixOf]; exact fun h => hc h.symm
      rcases ih with ⟨h1, h2⟩ | ⟨a, b, h1, h2, h3⟩
      · refine Or.inl ⟨?_, fun d hd => ?_⟩
        · unfold Lib.index
          rw [hp, h1]; rfl
        · rcases List.mem_cons.1 hd with rfl | hd
          · exact hc
          · exact h2 d hd
      · refine Or.inr ⟨c :: a, b, ?_, by rw [h2]; rfl, fun d hd => ?_⟩
        · unfold Lib.index
          have hne : (Lib.index r [10] == -1) = false := by rw [h1, beq_eq_false_iff_ne]; omega
          rw [hp, hne, h1]
          simp
        · rcases List.mem_cons.1 hd with rfl | hd
          · exact hc
          · exact h3 d hd

theorem segsA_miss (acc l : List UInt8) (h : ∀ c ∈ l, c ≠ 10) : segsA acc l = [acc ++ l] := by
  induction l generalizing acc with
  | nil => simp [segsA]
  | cons c r ih =>
    unfold segsA
    rw [if_neg (h c (List.mem_cons_self ..)), ih _ fun d hd => h d (List.mem_cons_of_mem _ hd)]
    simp

theorem segsA_hit (acc a b : List UInt8) (h : ∀ c ∈ a, c ≠ 10) : segsA acc (a ++ 10 :: b) = (acc ++ a) :: segsA [] b := by
  induction a generalizing acc with
  | nil => simp [segsA]
  | cons c r ih =>
    rw [List.cons_append]
    conv => lhs; unfold segsA
    rw [if_neg (h c (List.mem_cons_self ..)), ih _ fun d hd => h d (List.mem_cons_of_mem _ hd)]
    simp

theorem lines_eq : ∀ (n : Nat) (l : List UInt8), l.length ≤ n → Lib.splitK [10] 0 (Lib.count l [10]) l = segsA [] l ∧ Lib.count l [10] + 1 = (segsA [] l).length := by
  intro n
  induction n with
  | zero =>
    intro l hl
    have : l = [] := List.eq_nil_of_length_eq_zero (by omega)
    subst this
    exact ⟨rfl, rfl⟩
  | succ n ih =>
    intro l hl
    rcases idx_nl l with ⟨h1, h2⟩ | ⟨a, b, h1, h2, h3⟩
    · rw [Lib.count_miss h1, segsA_miss [] l h2]
      exact ⟨rfl, rfl⟩
    · have hd : l.drop (a.length + [(10 : UInt8)].length) = b := by
        rw [h2, List.length_singleton]
        have : a ++ 10 :: b = (a ++ [10]) ++ b := by simp
        rw [this, List.drop_left' (by simp)]
      have hb : b.length ≤ n := by rw [h2] at hl; simp at hl; omega
      have hc := Lib.count_hit (s := l) (sub := [10]) (by simp) h1
      rw [hd] at hc
      obtain ⟨i1, i2⟩ := ih b hb
      have hs : segsA [] l = a :: segsA [] b := by rw [h2, segsA_hit [] a b h3]; rfl
      rw [hs, hc, Nat.add_comm 1]
      constructor
      · unfold Lib.splitK
        have hne : (Lib.index l [10] == -1) = false := by rw [h1, beq_eq_false_iff_ne]; omega
        rw [hne, h1]
        simp only [Bool.false_eq_true, if_false, Int.toNat_natCast, Nat.add_zero]
        rw [hd, i1, h2, List.take_left' rfl]
      · rw [List.length_cons, ← i2]

end Go.Proofs.YtjbbelmmnlohlaaDoor
