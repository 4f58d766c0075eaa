/-
  LeftProgram, at any program.
-/
import Derived.Test.YtehmoomoocdidaaGreatDoorSTreeLf
import Derived.Test.YtehmoomoocdidaaGreatDoorSTreeO
import Derived.Test.YtehmoomoocdidaaGreatDoorSTreeQ
set_option linter.unusedVariables false
set_option linter.unusedSimpArgs false
namespace Go.Proofs.YtehmoomoocdidaaGreatDoor
open Go.RowKit
theorem fm_two {W : World} {g : Nat} {f h : Fm} {d e : FAd} (hg : W.heap[g]? = some (.cells #[.slice d.p f.ps.length d.np,.slice d.a f.ats.length d.na,.slice d.c f.cls.length d.nc,.slice e.p h.ps.length e.np,.slice e.a h.ats.length e.na,.slice e.c h.cls.length e.nc] 69 (0,0)))
 (rf : FmOwn W W.heap.size d f) (rh : FmOwn W W.heap.size e h) : FmRow W W.heap.size [f,h] (some ⟨g,0,none⟩):=by
 refine .row _ _ (Array.getElem?_eq_some_iff.1 hg).1 (fun i x hi => ?_)
 match i,hi with
 | 0,hi =>
   injection hi with hi
   subst hi
   exact ⟨d.p,d.np,d.a,d.na,d.c,d.nc,by simp only [add_block0];exact cell_of_block hg 0 rfl,by simp only [add_block0];exact cell_of_block hg 1 rfl,by simp only [add_block0];exact cell_of_block hg 2 rfl,rf.1,rf.2.1,rf.2.2.1,rf.2.2.2⟩
 | 1,hi =>
   injection hi with hi
   subst hi
   exact ⟨e.p,e.np,e.a,e.na,e.c,e.nc,by simp only [add_block0];exact cell_of_block hg 3 rfl,by simp only [add_block0];exact cell_of_block hg 4 rfl,by simp only [add_block0];exact cell_of_block hg 5 rfl,rh.1,rh.2.1,rh.2.2.1,rh.2.2.2⟩
 | i + 2,hi => simp at hi
end Go.Proofs.YtehmoomoocdidaaGreatDoor
