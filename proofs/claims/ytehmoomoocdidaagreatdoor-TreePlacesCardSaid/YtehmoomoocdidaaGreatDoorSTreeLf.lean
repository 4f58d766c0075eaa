/-
  LeftConds.
  LeftStmts, at any row of statements.
-/
import Derived.Test.YtehmoomoocdidaaGreatDoorSTreeL
import Derived.Deep.RegionHeld3
import Derived.MakeChecks
import Derived.OpenShut
set_option linter.unusedVariables false
set_option linter.unusedSimpArgs false
namespace Go.Proofs.YtehmoomoocdidaaGreatDoor
open Go.RowKit
theorem pair_row {W : World} {g : Nat} {ak an bk bn : Int} {sa sb : List UInt8} {al bl : List Ex} {Aa Ab : Option Addr} {Ca Cb : Nat}
 (hg : W.heap[g]? = some (.cells #[.int .i64 ak,.int .i64 an,.string ⟨sa.toArray⟩,.slice Aa al.length Ca,.int .i64 bk,.int .i64 bn,.string ⟨sb.toArray⟩,.slice Ab bl.length Cb] 44 (0,0)))
 (h1 : sa.length ≤ maxLen) (h2 : al.length ≤ maxLen) (h3 : sb.length ≤ maxLen) (h4 : bl.length ≤ maxLen) (ha : ExRow W W.heap.size al Aa) (hb : ExRow W W.heap.size bl Ab) :
 ExRow W W.heap.size [.mk ak an sa al,.mk bk bn sb bl] (some ⟨g,0,none⟩):=by
 refine .row _ _ (fun i => if i = 0 then Aa else Ab) (fun i => if i = 0 then Ca else Cb) (Array.getElem?_eq_some_iff.1 hg).1 (fun i k n s l hi => ?_) (fun i k n s l hi => ?_)
 ·match i,hi with
  | 0,hi =>
    injection hi with hi;injection hi with e1 e2 e3 e4;subst e1 e2 e3 e4
    simp only [add_block0]
    exact ⟨cell_of_block hg 0 rfl,cell_of_block hg 1 rfl,cell_of_block hg 2 rfl,cell_of_block hg 3 rfl,h1,h2⟩
  | 1,hi =>
    injection hi with hi;injection hi with e1 e2 e3 e4;subst e1 e2 e3 e4
    simp only [add_block0]
    exact ⟨cell_of_block hg 4 rfl,cell_of_block hg 5 rfl,cell_of_block hg 6 rfl,cell_of_block hg 7 rfl,h3,h4⟩
  | i + 2,hi => simp at hi
 ·match i,hi with
  | 0,hi => injection hi with hi;injection hi with e1 e2 e3 e4;subst e4;exact ha
  | 1,hi => injection hi with hi;injection hi with e1 e2 e3 e4;subst e4;exact hb
  | i + 2,hi => simp at hi
end Go.Proofs.YtehmoomoocdidaaGreatDoor
namespace Go.Proofs.YtehmoomoocdidaaGreatDoor
open Go.RowKit
theorem one_condT {W : World} {g : Nat} {k2 ak an : Int} {sa : List UInt8} {al : List Ex} {bk bn : Int} {sb : List UInt8} {bl : List Ex} {l2 : List Cn} {Aa : Option Addr} {ca : Nat} {Ab : Option Addr} {cb : Nat} {Al : Option Addr} {cl : Nat} (hg : W.heap[g]? = some (condC2 k2 ak an ⟨sa.toArray⟩ (.slice Aa al.length ca) bk bn ⟨sb.toArray⟩ (.slice Ab bl.length cb) (.slice Al l2.length cl)))
 (h1 : sa.length ≤ maxLen) (h2 : al.length ≤ maxLen) (h3 : sb.length ≤ maxLen) (h4 : bl.length ≤ maxLen) (h5 : l2.length ≤ maxLen) (ra : ExRow W W.heap.size al Aa) (rb : ExRow W W.heap.size bl Ab) (rl : CnRow W W.heap.size l2 Al) : CnRow W W.heap.size [.mk k2 (.mk ak an sa al) (.mk bk bn sb bl) l2] (some ⟨g,0,none⟩):=by
 refine .row _ _ (fun _ => Aa) (fun _ => Ab) (fun _ => Al) (fun _ => ca) (fun _ => cb) (fun _ => cl) (Array.getElem?_eq_some_iff.1 hg).1 (fun i k ak an sa al bk bn sb bl l hi => ?_) (fun i k ak an sa al bk bn sb bl l hi => ?_)
 ·match i,hi with
  | 0,hi =>
    injection hi with hi;injection hi with e1 e2 e3 e4
    injection e2 with f1 f2 f3 f4
    injection e3 with g1 g2 g3 g4
    subst e1 e4 f1 f2 f3 f4 g1 g2 g3 g4
    exact ⟨⟨by simp only [add_block0];exact cell_of_block hg 0 rfl,by simp only [add_block0];exact cell_of_block hg 1 rfl,by simp only [add_block0];exact cell_of_block hg 2 rfl,by simp only [add_block0];exact cell_of_block hg 3 rfl,by simp only [add_block0];exact cell_of_block hg 4 rfl,by simp only [add_block0];exact cell_of_block hg 5 rfl,by simp only [add_block0];exact cell_of_block hg 6 rfl,by simp only [add_block0];exact cell_of_block hg 7 rfl,by simp only [add_block0];exact cell_of_block hg 8 rfl,by simp only [add_block0];exact cell_of_block hg 9 rfl⟩,h1,h2,h3,h4,h5,ra,rb⟩
  | i + 1,hi => simp at hi
 ·match i,hi with
  | 0,hi => injection hi with hi;injection hi with e1 e2 e3 e4;subst e4;exact rl
  | i + 1,hi => simp at hi
theorem one_expr {W : World} {g : Nat} {k n : Int} {s : List UInt8} {l : List Ex} {A : Option Addr} {c : Nat} (hg : W.heap[g]? = some (.cells #[.int .i64 k,.int .i64 n,.string ⟨s.toArray⟩,.slice A l.length c] 44 (0,0))) (h1 : s.length ≤ maxLen) (h2 : l.length ≤ maxLen) (hr : ExRow W W.heap.size l A) : ExRow W W.heap.size [.mk k n s l] (some ⟨g,0,none⟩):=by
 refine .row _ _ (fun _ => A) (fun _ => c) (Array.getElem?_eq_some_iff.1 hg).1 (fun i k n s l hi => ?_) (fun i k n s l hi => ?_)
 ·match i,hi with
  | 0,hi =>
    injection hi with hi;injection hi with e1 e2 e3 e4;subst e1 e2 e3 e4
    simp only [add_block0]
    exact ⟨cell_of_block hg 0 rfl,cell_of_block hg 1 rfl,cell_of_block hg 2 rfl,cell_of_block hg 3 rfl,h1,h2⟩
  | i + 1,hi => simp at hi
 ·match i,hi with
  | 0,hi => injection hi with hi;injection hi with e1 e2 e3 e4;subst e4;exact hr
  | i + 1,hi => simp at hi
end Go.Proofs.YtehmoomoocdidaaGreatDoor
