/-
  Looking for a block: mathematics.
-/
import Derived.Test.YtbmejohoifpfhaaMemF
namespace Go.Proofs.Ytbmejohoifpfhaa
open Go.RowKit

theorem located_err {l : List Bk} {t : Int} {i : Nat} {e : Int} (h : Located l t i e) (he : e ≠ 0) : i = 0 := by
  rcases h with h | h | h | h
  · exact h.2.1
  · exact h.2.2.1
  · exact h.2.2.2.1
  · exact absurd h.2.2.2 he

theorem noAt_has {l : List Bk} {t : Int} {i : Nat} (h : NoAt l t) (g : HasAt l t i) : False := by
  obtain ⟨x, hx, he⟩ := g
  exact h i x hx he

theorem hasAt_uniq {l : List Bk} {t : Int} {i j : Nat} (hl : MemOk l) (h : HasAt l t i) (g : HasAt l t j) : i = j := (h.lb hl).uniq (g.lb hl)

end Go.Proofs.Ytbmejohoifpfhaa
