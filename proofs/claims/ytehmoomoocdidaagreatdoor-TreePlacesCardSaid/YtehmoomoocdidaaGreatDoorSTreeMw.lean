/-
  Arguments of any types read behind a call that turned nothing of what was there as they read before.
  What a program that came in weighs: its row of procedures.
-/
import Derived.Test.YtehmoomoocdidaaGreatDoorRows
import Derived.WideKeyArgs
import Derived.OpenShut
import Derived.ChangeSame
import Derived.ProofKit
import Derived.Test.YtehmoomoocdidaaGreatDoorSTreeO
import Derived.Test.YtehmoomoocdidaaGreatDoorSTreeSz
import Derived.MakeChecks
import Derived.Deep.Slices
import GoSem.ClaimJoined
set_option linter.unusedVariables false
set_option linter.unusedSimpArgs false
namespace Go.Proofs.YtehmoomoocdidaaGreatDoor
open Go.ChangeShapes Go.WideShapes Go.RowKit Go.WideElems
theorem trodAll_stays {H : Type} {enc : TypeId × Value → H} {P : Program} {base : Nat} {W W' : World} {sp' : Nat → Bool} (hl : laidOutB P = true) :
 ∀ {ts : List TypeId} {vs : List Value} {ds : List (DataW H)} {ps : List MemPlace},(∀ t ∈ ts,P.readableRec t = true ∧ t < P.types.size) → DataW.TrodAll enc P W base (fun _ => true) true ts vs ds ps →
  (∀ p ∈ ps,W.sameAt W' p) → (∀ p ∈ ps,sp' p.block = true) → DataW.TrodAll enc P W' base sp' true ts vs ds ps
 | [],vs,ds,ps,_,h,_,_ => by
   obtain ⟨rfl,rfl,rfl⟩:=trodAll_nil h
   exact rfl
 | t :: ts,vs,ds,ps,ht,h,hs,hsp => by
   obtain ⟨v,vs1,d,ds1,a,b,rfl,rfl,rfl,h1,h2⟩:=trodAll_cons h
   have hr:=ht t (List.mem_cons_self ..)
   exact trodAll_cons_mk (Trod_stays hl hr.1 hr.2 h1 (fun p hp => hs p (List.mem_append_left _ hp)) (fun p hp => hsp p (List.mem_append_left _ hp)))
    (trodAll_stays hl (fun t' h' => ht t' (List.mem_cons_of_mem _ h')) h2 (fun p hp => hs p (List.mem_append_right _ hp)) (fun p hp => hsp p (List.mem_append_right _ hp)))
end Go.Proofs.YtehmoomoocdidaaGreatDoor
namespace Go.Proofs.YtehmoomoocdidaaGreatDoor
set_option maxRecDepth 100000
open Go.RowKit Go.ChangeShapes Go.WideShapes Go.Deep
variable {H : Type} {enc : TypeId × Value → H} {w : World} {spare : Nat → Bool} {held : Bool}
def InReachP {H : Type} (t : TypeId) (d : DataW H) : Prop:=(d.weights Tryz.prog t).all (fun n => decide (n ≤ reachBytes)) = true
theorem bytes_pr : Tryz.prog.bytesOf 40 = 216:=by kernel_rfl
theorem prog_weight {g : GAd} {x : Pg} {d : DataW H} {p : List MemPlace} (h : DataW.Trod enc Tryz.prog w 0 spare held 29 (progV g x) d p) (hr : InReachP 29 d) : x.xs.length * 216 ≤ 140737488355328:=by
 obtain ⟨fuel,hf⟩:=h
 have hf : DataW.trod enc Tryz.prog w 0 spare held fuel 29 [.slice g.r x.rs.length g.nr,.slice g.g x.gs.length g.ng,.slice g.k x.ks.length g.nk,.slice g.d x.ds.length g.nd,.slice g.m x.ms.length g.nm,.slice g.x x.xs.length g.nx] = some (d,p):=by simpa [Value.cells,progV] using hf
 obtain ⟨ys,n,_,hx1,hlen,hyl,hf⟩:=DataW.trod_struct (fs:=_) Tryz.underlying29 hf
 have e5:=hf 5 _ rfl
 match ys,hyl with
 | [y0,y1,y2,y3,y4,y5],_ =>
   have k6 : Tryz.prog.cellsOf 27 = 1:=by kernel_rfl
   have hd : d = _:=congrArg Prod.fst hx1
   unfold InReachP at hr
   rw [hd] at hr
   simp only [DataW.weights,Tryz.underlying29,List.map_cons,List.map_nil] at hr
   simp only [DataW.weightsEach,List.all_append,Bool.and_eq_true] at hr
   have hr5:=hr.2.2.2.2.2.1
   rcases open_slice (x:=y5) (fuel:=n) (cs:=[.slice g.x x.xs.length g.nx]) Tryz.underlying27 (by simpa [k6] using e5) with ⟨e0,_⟩ | ⟨a,len,cap,m,n',D,Pl,e0,hb,hl,hm,hmm,hxx,hi⟩
   ·injection e0 with e0
    injection e0 with _ e1 _
    omega
   ·injection e0 with e0
    injection e0 with _ e1 _
    have hlm : len ≤ m:=by rw [hmm];split <;> omega
    rw [show y5.1 = _ from congrArg Prod.fst hxx] at hr5
    simp only [DataW.weights,Tryz.underlying27,bytes_pr,List.all_cons,List.all_append,Bool.and_eq_true,decide_eq_true_eq,List.length_map,List.length_range] at hr5
    have h1:=hr5.1
    unfold reachBytes at h1
    omega
theorem parts_laidP {W : World} (h : laidMetH Tryz.prog Rows.treePlacesRow.laid W) : PartsAt W:=by
 intro r hr
 rw [MakeChecks.laidMetH_plain _ _ _ (by kernel_rfl)] at h
 obtain ⟨ps,⟨_,_,_,_,_,q0,_,_,_,_,⟨g,t,cs,fuel,p,q,hg,ht,hv,hd,_,_⟩,_⟩,_,_⟩:=h
 obtain rfl:=Option.some.inj ((show Tryz.prog.globalNamed "sepal/tree.partsOf" = some 0 by kernel_rfl).symm.trans hg)
 obtain rfl:=Option.some.inj ((show (Tryz.prog.globals[0]?).map (·.type) = some 223 by kernel_rfl).symm.trans ht)
 obtain ⟨xs,m,_,ex,_,hl,hel⟩:=DataW.trod_array Tryz.underlying223 hd
 have c5 : Tryz.prog.cellsOf 222 = 1:=by kernel_rfl
 have hE:=hel r hr
 rw [c5,Nat.mul_one,List.getElem?_eq_getElem (by omega)] at hE
 obtain ⟨z,e1,e2,_⟩:=DataW.trod_int Tryz.underlying222 hE
 have hlen : partsL.length = 13:=rfl
 have e3 : (xs.map (·.1)) = partsL.map fun n => (DataW.lit (.int .i64 n) : DataW Unit):=(DataW.agg.inj (Prod.mk.inj ex).1).symm
 have e4 : (xs.map (·.1))[r]? = (partsL.map fun n => (DataW.lit (.int .i64 n) : DataW Unit))[r]?:=by rw [e3]
 rw [List.getElem?_map,List.getElem?_map,List.getElem?_eq_getElem (by omega : r < xs.length),List.getElem?_eq_getElem (by omega : r < partsL.length),e2] at e4
 have hz : z = partsL.getD r 0:=by
  simp only [Option.map_some,Option.some.injEq,DataW.lit.injEq,Lit.int.injEq,true_and] at e4
  rw [e4,List.getD,List.getElem?_eq_getElem (by omega : r < partsL.length)];rfl
 rw [World.var?_cell hg hv r,← hz]
 have : cs.toList[r]? = some (.int .i64 z):=by
  have h0 : ((cs.toList.drop r).take 1)[0]? = some (.int .i64 z):=by rw [e1];rfl
  simpa using h0
 simpa using this
end Go.Proofs.YtehmoomoocdidaaGreatDoor
