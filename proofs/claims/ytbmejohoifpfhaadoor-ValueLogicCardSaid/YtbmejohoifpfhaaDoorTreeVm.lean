/-
  Both say the same of a variable's name; so of expressions and conditions.
-/
import Derived.Test.YtbmejohoifpfhaaDoorTreeR
import Derived.Test.YtbmejohoifpfhaaDoorTreeK
namespace Go.Proofs.YtbmejohoifpfhaaDoor
open Go.RowKit

theorem nameBs_prt (c : UInt8) : nameBs.contains c = prt c := by
  have h : ∀ n : Fin 256, nameBs.contains (UInt8.ofNat n.val) = prt (UInt8.ofNat n.val) := by decide +kernel
  have := h ⟨c.toNat, c.toNat_lt⟩
  simpa using this

theorem dropWhile_nil (p : UInt8 → Bool) : ∀ r : List UInt8, r.dropWhile p = [] ↔ ∀ x ∈ r, p x = true := by
  intro r
  induction r with
  | nil => simp
  | cons x r ih =>
    rw [List.dropWhile_cons]
    cases hp : p x with
    | true => simp [ih, hp]
    | false => simp [hp]

theorem all_dropWhile (p : UInt8 → Bool) : ∀ r : List UInt8, (∀ x ∈ r.dropWhile p, p x = true) ↔ ∀ x ∈ r, p x = true := by
  intro r
  induction r with
  | nil => simp
  | cons x r ih =>
    rw [List.dropWhile_cons]
    cases hp : p x with
    | true => simp [ih, hp]
    | false => simp [hp]

theorem trimS_nil (l cs : List UInt8) : (Lib.trimS l cs == []) = l.all (cs.contains ·) := by
  rw [Bool.eq_iff_iff, beq_iff_eq, List.all_eq_true]
  unfold Lib.trimS Lib.trimLeftS Lib.trimRightS
  rw [dropWhile_nil]
  have := all_dropWhile (cs.contains ·) l.reverse
  constructor
  · intro h x hx
    exact this.1 (fun y hy => h y (List.mem_reverse.2 hy)) x (List.mem_reverse.2 hx)
  · intro h x hx
    exact this.2 (fun y hy => h y (List.mem_reverse.1 hy)) x (List.mem_reverse.1 hx)

theorem nameR_dollar (t : List UInt8) : nameR (36 :: t) = false := by
  unfold nameR wordB
  rw [show headIs ltr (36 :: t) = false from rfl]
  rfl

theorem varB_varR : varB = varR := by
  funext s
  unfold varB varR
  cases s with
  | nil =>
    rw [show Lib.hasPrefix [] [36] = false from rfl, if_neg (by decide), name_eq]
    rfl
  | cons x t =>
    by_cases hx : x = 36
    · subst hx
      have hp : Lib.hasPrefix (36 :: t) [36] = true := by unfold Lib.hasPrefix; simp
      have ht : Lib.trimPrefix (36 :: t) [36] = t := by unfold Lib.trimPrefix; rw [if_pos hp]; rfl
      rw [if_pos hp, ht, trimS_nil, nameR_dollar, Bool.false_or]
      have e1 : (fun c => nameBs.contains c) = prt := by funext c; exact nameBs_prt c
      rw [show t.all (nameBs.contains ·) = t.all prt from by rw [← e1]]
      have e2 : (!(t == [])) = decide (2 ≤ (36 :: t).length) := by cases t <;> simp
      rw [e2]
      simp
    · have hp : Lib.hasPrefix (x :: t) [36] = false := by
        have h36 : ((36 : UInt8) == x) = false := by rw [beq_eq_false_iff_ne]; exact fun e => hx e.symm
        show ((36 : UInt8) == x && List.isPrefixOf [] t) = false
        rw [h36]
        rfl
      have hh : ((x :: t).head? == some 36) = false := by
        rw [beq_eq_false_iff_ne]
        intro e
        exact hx (Option.some.inj e)
      rw [if_neg (by rw [hp]; exact Bool.false_ne_true), name_eq, hh, Bool.and_false, Bool.false_and, Bool.or_false]

end Go.Proofs.YtbmejohoifpfhaaDoor
