/-
  Plain mathematics of package lex, part 2: blanks and comments, places.
-/
import Derived.Test.YtbmejohoifpfhaaLexM
import Derived.Lib.IndexMore
import Derived.Lib.LastIndexByte
import Derived.Lib.SlTrimSet
namespace Go.Proofs.Ytbmejohoifpfhaa

def wsList : List UInt8 := [32, 9, 13, 10]

/-- What is left of a text behind its blanks and comments; 'true': inside a comment. -/
def skipM : Bool → List UInt8 → List UInt8
  | _, [] => []
  | true, c :: r => if c = 10 then skipM false r else skipM true r
  | false, c :: r => if wsList.contains c then skipM false r else if c = 35 then skipM true r else c :: r

def skipL (l : List UInt8) : List UInt8 := skipM false l

/-- What stands behind the first newline. -/
def afterNl : List UInt8 → List UInt8
  | [] => []
  | c :: r => if c = 10 then r else afterNl r

theorem afterNl_length : ∀ l : List UInt8, (afterNl l).length ≤ l.length
  | [] => Nat.le_refl _
  | c :: r => by
    unfold afterNl
    split
    · simp
    · have := afterNl_length r; simp; omega

theorem skipM_true (l : List UInt8) : skipM true l = skipM false (afterNl l) := by
  induction l with
  | nil => rfl
  | cons c r ih =>
    show (if c = 10 then skipM false r else skipM true r) = skipM false (if c = 10 then r else afterNl r)
    by_cases h : c = 10
    · rw [if_pos h, if_pos h]
    · rw [if_neg h, if_neg h]; exact ih

theorem skip_trim (l : List UInt8) : skipL (Lib.trimLeftS l wsList) = skipL l := by
  unfold Lib.trimLeftS skipL
  induction l with
  | nil => rfl
  | cons c r ih =>
    rw [List.dropWhile_cons]
    cases h : wsList.contains c with
    | true =>
      simp only [if_true]
      rw [ih]
      conv => rhs; unfold skipM
      rw [h]; rfl
    | false => rfl

theorem cut_nl (l : List UInt8) : (Lib.cut l [10]).2.1 = afterNl l := by
  have key : ∀ l : List UInt8, (0 ≤ Lib.index l [10] → l.drop ((Lib.index l [10]).toNat + 1) = afterNl l) ∧ (¬ 0 ≤ Lib.index l [10] → afterNl l = []) := by
    intro l
    induction l with
    | nil => exact ⟨fun h => absurd h (by decide), fun _ => rfl⟩
    | cons c r ih =>
      have hge := Lib.index_ge r [10]
      unfold Lib.index afterNl
      by_cases hc : c = 10
      · subst hc
        have hp : List.isPrefixOf [(10 : UInt8)] (10 :: r) = true := by simp [List.isPrefixOf]
        rw [hp]
        simp
      · have hp : List.isPrefixOf [(10 : UInt8)] (c :: r) = false := by
          simp [List.isPrefixOf]; exact fun h => hc h.symm
        rw [hp, if_neg hc]
        simp only [Bool.false_eq_true, if_false]
        by_cases h1 : Lib.index r [10] = -1
        · rw [h1]
          simp only [BEq.rfl, if_true]
          exact ⟨fun h => absurd h (by decide), fun _ => ih.2 (by rw [h1]; decide)⟩
        · have hb : (Lib.index r [10] == -1) = false := by rw [beq_eq_false_iff_ne]; exact h1
          rw [hb]
          simp only [Bool.false_eq_true, if_false]
          refine ⟨fun _ => ?_, fun h => absurd (by omega) h⟩
          rw [show (Lib.index r [10] + 1).toNat + 1 = ((Lib.index r [10]).toNat + 1) + 1 by omega, List.drop_succ_cons]
          exact ih.1 (by omega)
  unfold Lib.cut
  by_cases h : 0 ≤ Lib.index l [10]
  · rw [if_pos h]; exact (key l).1 h
  · rw [if_neg h]; exact ((key l).2 h).symm

theorem skip_hash (l : List UInt8) (h : Lib.hasPrefix l [35] = true) : skipL (Lib.cut l [10]).2.1 = skipL l ∧ (Lib.cut l [10]).2.1.length < l.length := by
  rw [cut_nl]
  cases l with
  | nil => cases h
  | cons c r =>
    have hc : c = 35 := by
      have : (35 : UInt8) = c := by simpa [Lib.hasPrefix, List.isPrefixOf] using h
      exact this.symm
    subst hc
    have e : afterNl (35 :: r) = afterNl r := rfl
    rw [e]
    refine ⟨?_, by have := afterNl_length r; simp; omega⟩
    unfold skipL
    conv => rhs; unfold skipM
    rw [← skipM_true]
    rfl

theorem skip_stop (l : List UInt8) (h : Lib.hasPrefix (Lib.trimLeftS l wsList) [35] = false) : skipL (Lib.trimLeftS l wsList) = Lib.trimLeftS l wsList := by
  generalize hu : Lib.trimLeftS l wsList = u at *
  cases u with
  | nil => rfl
  | cons c r =>
    have hw : wsList.contains c = false := by
      have := List.head?_dropWhile_not (p := (wsList.contains ·)) (l := l)
      unfold Lib.trimLeftS at hu
      rw [hu] at this
      simpa using this
    have h35 : ¬ c = 35 := by
      rintro rfl
      simp [Lib.hasPrefix, List.isPrefixOf] at h
    unfold skipL skipM
    rw [hw, if_neg h35]
    rfl

theorem trim_length (l : List UInt8) : (Lib.trimLeftS l wsList).length ≤ l.length := (List.dropWhile_suffix _).length_le

end Go.Proofs.Ytbmejohoifpfhaa
