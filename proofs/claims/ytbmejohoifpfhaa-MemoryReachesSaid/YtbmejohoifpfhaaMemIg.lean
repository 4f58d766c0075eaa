/-
  General words for an insertion into a row of the call's own: copy at elements of several cells.
-/
import Derived.Test.YtbmejohoifpfhaaMemO
import Derived.Shelf.Spec.SlicesInsertGrow
import Derived.Laws.CopyRow
import Derived.Laws.CopyOwn
namespace Go.Proofs.Ytbmejohoifpfhaa
open Go.RowKit Go.Lib

/-- copy at elements of several cells: onto a row whose block is known. -/
theorem run_copy_rows {P : Program} (w : World) (dT sT ty elem : TypeId) (i0 : TypeInfo) (g o dLen dCap : Nat) (a : Addr) (sLen sCap m : Nat) (cur : Array Value) (t : TypeId) (cs : List Value)
    (hu : P.underlying dT = some (.slice elem)) (hi : P.info? elem = some i0) (hg : w.heap[g]? = some (.cells cur t (0, 0))) (hm : m = Nat.min sLen dLen) (hn : cs.length = m * i0.size)
    (hsrc : ∀ j v, cs[j]? = some v → w.cell? (a.add j) = some v) (hfit : o + cs.length ≤ cur.size) (h1 : ∀ v ∈ cs, v.oneCell' = true) :
    (Builtin.copy_ #[dT, sT] ty #[.slice (some ⟨g, o, none⟩) dLen dCap, .slice (some a) sLen sCap]).run P w =
      .ok (goInt m) (w.setRow g (cur.toList.take o ++ (cs ++ cur.toList.drop (o + cs.length))).toArray) := by
  have hl := run_loadCells_list (P := P) w a cs hsrc
  have hst := run_storeCells_at P g o t cs 0 cur w hg (by simpa using hfit) h1
  rw [hn] at hl
  simp [Builtin.copy_, run_underlying hu, Builtin.lenOf, Builtin.firstCells, sizeOf, typeInfo, hi, ← hm, hl, hst]

theorem splice_at {α : Type} (X Z Y : List α) (k : Nat) (hk : X.length = k) : (X ++ Z).take k ++ (Y ++ (X ++ Z).drop (k + Y.length)) = (X ++ Y) ++ Z.drop Y.length := by
  subst hk
  rw [List.take_left, List.drop_append, List.drop_of_length_le (by omega), List.nil_append, show X.length + Y.length - X.length = Y.length by omega, List.append_assoc]

theorem below_grown_at {B g : Nat} {W W' : World} (hg : W.grownBy W' (some g)) (hB : B ≤ g) (hS : B ≤ W.heap.size) : Below B W W' :=
  ⟨hg.os, hg.tape, hg.output, hg.size, fun k hk => hg.block k (by omega) (fun e => by have := Option.some.inj e; omega)⟩

theorem grownCap_small {w : World} {n c : Nat} {e : TypeId} (h : n ≤ 2000) : grownCap w n c e ≤ 9223372036854775807 := by
  have := grownCap_le_maxLen w n c e (by unfold maxLen; omega)
  unfold maxLen at this
  omega

end Go.Proofs.Ytbmejohoifpfhaa
