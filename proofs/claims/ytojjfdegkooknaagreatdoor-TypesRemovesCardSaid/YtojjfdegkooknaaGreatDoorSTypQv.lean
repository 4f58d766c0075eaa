import Derived.Test.YtojjfdegkooknaaGreatDoorSTypQy
import Derived.Test.YtojjfdegkooknaaGreatDoorRows
import Derived.MakeChecks
import Derived.OpenShut
import Derived.Deep.Slices
import GoSem.ClaimJoined
set_option linter.unusedVariables false
set_option linter.unusedSimpArgs false
namespace Go.Proofs.YtojjfdegkooknaaGreatDoor
open Go.RowKit Go.ChangeShapes Go.WideShapes Go.Deep
theorem qlo {W : World} (h : laidMetH Tryz.prog Rows.typesRemovesRow.laid W) : yY W:=by
 intro r hr
 rw [MakeChecks.laidMetH_plain _ _ _ (by kernel_rfl)] at h
 obtain ⟨ps,⟨g,t,cs,fuel,p,q,hg,ht,hv,hd,_,_⟩,_,_⟩:=h
 obtain rfl:=Option.some.inj ((show Tryz.prog.globalNamed "sepal/tree.partsOf" = some 0 by kernel_rfl).symm.trans hg)
 obtain rfl:=Option.some.inj ((show (Tryz.prog.globals[0]?).map (·.type) = some 272 by kernel_rfl).symm.trans ht)
 obtain ⟨xs,m,_,ex,_,hl,jf⟩:=DataW.trod_array Tryz.underlying272 hd
 have c5 : Tryz.prog.cellsOf 271 = 1:=by kernel_rfl
 have hE:=jf r hr
 rw [c5,Nat.mul_one,List.getElem?_eq_getElem (by omega)] at hE
 obtain ⟨z,e1,e2,_⟩:=DataW.trod_int Tryz.underlying271 hE
 have qE : zY.length = 13:=rfl
 have e3 : (xs.map (·.1)) = zY.map fun n => (DataW.lit (.int .i64 n) : DataW Unit):=(DataW.agg.inj (Prod.mk.inj ex).1).symm
 have e4 : (xs.map (·.1))[r]? = (zY.map fun n => (DataW.lit (.int .i64 n) : DataW Unit))[r]?:=by rw [e3]
 rw [List.getElem?_map,List.getElem?_map,List.getElem?_eq_getElem (by omega : r < xs.length),List.getElem?_eq_getElem (by omega : r < zY.length),e2] at e4
 have hz : z = zY.getD r 0:=by
  simp only [Option.map_some,Option.some.injEq,DataW.lit.injEq,Lit.int.injEq,true_and] at e4
  rw [e4,List.getD,List.getElem?_eq_getElem (by omega : r < zY.length)];rfl
 rw [World.var?_cell hg hv r,<- hz]
 have : cs.toList[r]? = some (.int .i64 z):=by
  have h0 : ((cs.toList.drop r).take 1)[0]? = some (.int .i64 z):=by rw [e1];rfl
  simpa using h0
 simpa using this
end Go.Proofs.YtojjfdegkooknaaGreatDoor
