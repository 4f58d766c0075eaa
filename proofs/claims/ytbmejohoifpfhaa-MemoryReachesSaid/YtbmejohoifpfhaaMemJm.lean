/-
  Plain mathematics of memory.Join: ordered lists of blocks.
-/
import Derived.Test.YtbmejohoifpfhaaMemM
namespace Go.Proofs.Ytbmejohoifpfhaa

/-- The addresses ascend. -/
def Asc (l : List Bk) : Prop := ∀ (i j : Nat) x y, i < j → l[i]? = some x → l[j]? = some y → x.a < y.a

theorem Asc.tail {x : Bk} {l : List Bk} (h : Asc (x :: l)) : Asc l := fun i j y z hij hi hj => h (i + 1) (j + 1) y z (by omega) hi hj

theorem Asc.head {x y : Bk} {l : List Bk} (h : Asc (x :: l)) (hy : y ∈ l) : x.a < y.a := by
  obtain ⟨k, hk⟩ := List.getElem?_of_mem hy
  exact h 0 (k + 1) x y (by omega) rfl hk

theorem MemOk.asc {l : List Bk} (h : MemOk l) : Asc l := fun _ _ _ _ hij hx hy => h.lt hij hx hy

/-- Two ordered lists of the same blocks are one. -/
theorem Asc.uniq : ∀ {l m : List Bk}, Asc l → Asc m → l.Perm m → l = m
  | [], m, _, _, hp => (List.nil_perm.1 hp).symm
  | x :: l, [], _, _, hp => absurd hp.length_eq (by simp)
  | x :: l, y :: m, hl, hm, hp => by
    have hxy : x = y := by
      have h1 := hp.mem_iff.1 (List.mem_cons_self (a := x) (l := l))
      have h2 := hp.mem_iff.2 (List.mem_cons_self (a := y) (l := m))
      rcases List.mem_cons.1 h1 with h1 | h1
      · exact h1
      · rcases List.mem_cons.1 h2 with h2 | h2
        · exact h2.symm
        · have a := hm.head h1
          have b := hl.head h2
          omega
    subst hxy
    rw [Asc.uniq hl.tail hm.tail (List.perm_cons x |>.1 hp)]

/-- Both lists have a block at one address. -/
def Meets (l m : List Bk) : Prop := ∃ x ∈ l, ∃ y ∈ m, x.a = y.a

/-- What Join answers. -/
def JoinIs (l m l' : List Bk) (e : Int) : Prop :=
  (¬ (MemOk l ∧ MemOk m) ∧ l' = [] ∧ e = 1) ∨ (MemOk l ∧ MemOk m ∧ Meets l m ∧ l' = [] ∧ e = 8) ∨ (MemOk l ∧ MemOk m ∧ ¬ Meets l m ∧ 100 < l.length + m.length ∧ l' = [] ∧ e = 5) ∨
  (MemOk l ∧ MemOk m ∧ ¬ Meets l m ∧ l.length + m.length ≤ 100 ∧ l'.Perm (l ++ m) ∧ Asc l' ∧ e = 0)

theorem JoinIs.uniq {l m l1 l2 : List Bk} {e1 e2 : Int} (h : JoinIs l m l1 e1) (g : JoinIs l m l2 e2) : l1 = l2 ∧ e1 = e2 := by
  rcases h with ⟨h1, rfl, rfl⟩ | ⟨h1, h2, h3, rfl, rfl⟩ | ⟨h1, h2, h3, h4, rfl, rfl⟩ | ⟨h1, h2, h3, h4, h5, h6, rfl⟩ <;>
  rcases g with ⟨g1, rfl, rfl⟩ | ⟨g1, g2, g3, rfl, rfl⟩ | ⟨g1, g2, g3, g4, rfl, rfl⟩ | ⟨g1, g2, g3, g4, g5, g6, rfl⟩ <;>
  first
    | exact ⟨rfl, rfl⟩
    | exact absurd ⟨‹MemOk l›, ‹MemOk m›⟩ ‹¬ (MemOk l ∧ MemOk m)›
    | exact absurd ‹Meets l m› ‹¬ Meets l m›
    | (exfalso; omega)
    | exact ⟨h6.uniq g6 (h5.trans g5.symm), rfl⟩

end Go.Proofs.Ytbmejohoifpfhaa
