import Derived.Test.YtbalioicgpgehaaGreatDoorRows
import Derived.WideKeyArgs
import Derived.OpenShut
import Derived.ChangeSame
import Derived.ProofKit
import Derived.Test.YtbalioicgpgehaaGreatDoorSTreeCw
import GoSem.ClaimJoined
import Derived.Test.YtbalioicgpgehaaGreatDoorSTreeSh
import Derived.MakeChecks
set_option linter.unusedVariables false
set_option linter.unusedSimpArgs false
namespace Go.Proofs.YtbalioicgpgehaaGreatDoor
open Go.ChangeShapes Go.WideShapes Go.RowKit Go.WideElems
theorem trodAll_stays {H : Type} {enc : TypeId × Value → H} {P : Program} {base : Nat} {W W' : World} {sp' : Nat → Bool} (hl : laidOutB P = true) :
 ∀ {ts : List TypeId} {vs : List Value} {ds : List (DataW H)} {ps : List MemPlace},(∀ t ∈ ts,P.readableRec t = true ∧ t < P.types.size) → DataW.TrodAll enc P W base (fun _ => true) true ts vs ds ps →
  (∀ p ∈ ps,W.sameAt W' p) → (∀ p ∈ ps,sp' p.block = true) → DataW.TrodAll enc P W' base sp' true ts vs ds ps
 | [],vs,ds,ps,_,h,_,_ => by
   obtain ⟨rfl,rfl,rfl⟩:=trodAll_nil h
   exact rfl
 | t :: ts,vs,ds,ps,ht,h,hs,hsp => by
   obtain ⟨v,vs1,d,ds1,a,b,rfl,rfl,rfl,h1,h2⟩:=trodAll_cons h
   have hr:=ht t (List.mem_cons_self ..)
   exact trodAll_cons_mk (Trod_stays hl hr.1 hr.2 h1 (fun p hp => hs p (List.mem_append_left _ hp)) (fun p hp => hsp p (List.mem_append_left _ hp)))
    (trodAll_stays hl (fun t' h' => ht t' (List.mem_cons_of_mem _ h')) h2 (fun p hp => hs p (List.mem_append_right _ hp)) (fun p hp => hsp p (List.mem_append_right _ hp)))
end Go.Proofs.YtbalioicgpgehaaGreatDoor
namespace Go.Proofs.YtbalioicgpgehaaGreatDoor
open Go.RowKit
def InReachP {H : Type} (t : TypeId) (d : DataW H) : Prop:=(d.weights Tryz.prog t).all (fun n => decide (n ≤ reachBytes)) = true
end Go.Proofs.YtbalioicgpgehaaGreatDoor
namespace Go.Proofs.YtbalioicgpgehaaGreatDoor
open Go.RowKit
theorem parts_laidF {W : World} (h : laidMetH Tryz.prog Rows.flowJoinsRow.laid W) : PartsAt W:=by
 intro r hr
 rw [MakeChecks.laidMetH_plain _ _ _ (by kernel_rfl)] at h
 obtain ⟨ps,⟨_,_,_,_,_,q0,_,_,_,_,⟨g,t,cs,fuel,p,q,hg,ht,hv,hd,_,_⟩,_⟩,_,_⟩:=h
 obtain rfl:=Option.some.inj ((show Tryz.prog.globalNamed "sepal/tree.partsOf" = some 0 by kernel_rfl).symm.trans hg)
 obtain rfl:=Option.some.inj ((show (Tryz.prog.globals[0]?).map (·.type) = some 186 by kernel_rfl).symm.trans ht)
 obtain ⟨xs,m,_,ex,_,hl,hel⟩:=DataW.trod_array Tryz.underlying186 hd
 have c5 : Tryz.prog.cellsOf 185 = 1:=by kernel_rfl
 have hE:=hel r hr
 rw [c5,Nat.mul_one,List.getElem?_eq_getElem (by omega)] at hE
 obtain ⟨z,e1,e2,_⟩:=DataW.trod_int Tryz.underlying185 hE
 have hlen : partsL.length = 13:=rfl
 have e3 : (xs.map (·.1)) = partsL.map fun n => (DataW.lit (.int .i64 n) : DataW Unit):=(DataW.agg.inj (Prod.mk.inj ex).1).symm
 have e4 : (xs.map (·.1))[r]? = (partsL.map fun n => (DataW.lit (.int .i64 n) : DataW Unit))[r]?:=by rw [e3]
 rw [List.getElem?_map,List.getElem?_map,List.getElem?_eq_getElem (by omega : r < xs.length),List.getElem?_eq_getElem (by omega : r < partsL.length),e2] at e4
 have hz : z = partsL.getD r 0:=by
  simp only [Option.map_some,Option.some.injEq,DataW.lit.injEq,Lit.int.injEq,true_and] at e4
  rw [e4,List.getD,List.getElem?_eq_getElem (by omega : r < partsL.length)];rfl
 rw [World.var?_cell hg hv r,← hz]
 have : cs.toList[r]? = some (.int .i64 z):=by
  have h0 : ((cs.toList.drop r).take 1)[0]? = some (.int .i64 z):=by rw [e1];rfl
  simpa using h0
 simpa using this
end Go.Proofs.YtbalioicgpgehaaGreatDoor
