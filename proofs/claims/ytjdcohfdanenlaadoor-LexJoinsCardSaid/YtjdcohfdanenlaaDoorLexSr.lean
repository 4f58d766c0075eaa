/-
  lex.Split, with its answer as a row of tokens.
-/
import Derived.Test.YtjdcohfdanenlaaDoorLexG
import Derived.Test.YtjdcohfdanenlaaDoorLexM5
import Derived.Test.YtjdcohfdanenlaaDoorLexMx
namespace Go.Proofs.YtjdcohfdanenlaaDoor
open Go.RowKit

theorem split_row (l : List UInt8) (hl : l.length ≤ 60000) (w : World) (h : MaxAt w) :
    Calls Tryd.prog 11 #[.string ⟨l.toArray⟩] w fun r w' => ∃ x c, r = .returned (.tuple #[.slice x (splitN [] l (1, 1)).toks.length c, .agg #[.int .i64 (splitN [] l (1, 1)).l, .int .i64 (splitN [] l (1, 1)).c], .int .i64 (splitN [] l (1, 1)).e]) ∧
      w'.ownsRow w.heap.size 28 4 (.slice x (splitN [] l (1, 1)).toks.length c) (splitN [] l (1, 1)).toks.length (toksVals (splitN [] l (1, 1)).toks) ∧ Below w.heap.size w w' := by
  obtain ⟨hg, m, hm⟩ := h
  have hs := split_any ⟨l.toArray⟩ m w (by show l.length ≤ maxLen; unfold maxLen; omega) hg hm
  rw [List.toList_toArray, splitL_eq l (by omega)] at hs
  refine hs.mono fun r w' ⟨sv, hr, ho, hb⟩ => ?_
  obtain ⟨x, c, rfl⟩ := own_slice ho
  exact ⟨x, c, hr, ho, hb⟩

end Go.Proofs.YtjdcohfdanenlaaDoor
