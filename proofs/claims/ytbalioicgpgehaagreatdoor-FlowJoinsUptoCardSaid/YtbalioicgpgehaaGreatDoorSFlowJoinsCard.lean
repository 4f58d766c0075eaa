import Derived.Test.YtbalioicgpgehaaGreatDoorCards
import Derived.Test.YtbalioicgpgehaaGreatDoorTie
import Derived.Test.YtbalioicgpgehaaGreatDoorSFloJl
import Derived.ProofKit
import Derived.OpenShut
import Derived.Deep.DeepHandedRow
import Derived.Lay
import Derived.LaidOnce
import Derived.SevenTiedAt
import Derived.Shelf.Vars
import Derived.Test.YtbalioicgpgehaaGreatDoorSStay
import Derived.Test.YtbalioicgpgehaaGreatDoorSTreeO
set_option linter.unusedVariables false
set_option linter.unusedSimpArgs false
namespace Go.Proofs.YtbalioicgpgehaaGreatDoor.lawFlowJoins
set_option maxRecDepth 100000
open Go.ChangeShapes Go.WideShapes Go.ChangeAt Go.WideMaps Go.WideElems Go.RowKit
open Go.ChangeMaps (open_string shut_string)
theorem own : ownKnob Tryz.prog.godebug = none:=by kernel_rfl
theorem cell_lt {w : World} {b : Nat} {v : Value} (h : w.cell? ⟨b,0,none⟩ = some v) : b < w.heap.size:=by
 unfold World.cell? at h
 cases e : w.heap[b]? with
 | none => simp [e] at h
 | some o => exact (Array.getElem?_eq_some_iff.1 e).1
theorem contract (H : Type) (enc : TypeId × Value → H) (W : World) (base : Nat) (args : Array Value) (ds gs : List (DataW H)) (before : List MemPlace)
 (hval0 : ∀ (j : Nat) t v,Tryz.f7.params[j]? = some t → args[j]? = some v → Value.okWide Tryz.prog W .any base t v)
 (hW : DataW.Whole enc Tryz.prog Tryz.f7.params.toList Rows.flowJoinsSpec.vars false W args.toList ds gs before) (hz0 : (DataW.weightsEach Tryz.prog (Tryz.f7.params.toList ++ Rows.flowJoinsSpec.plain.varTypes Tryz.prog) (ds ++ gs)).all (· ≤ reachBytes) = true) (hk0 : Rows.uptoSmall H (ds ++ gs) = true) (hsh : W.ShapedOpen Tryz.prog) (hL : laidMetH Tryz.prog Rows.flowJoinsUptoRow.laid W) :
 Calls Tryz.prog 7 args W fun e W' => ∃ v,e = .returned v ∧ Rows.flowJoinsSpec.post enc Tryz.prog Tryz.f7 false true false false W args v W':=by
 have hval : ∀ (j : Nat) t v,Tryz.f7.params[j]? = some t → args[j]? = some v → Value.okWide Tryz.prog W .any base t v:=hval0
 have hW':=hW
 obtain ⟨p,q,hA0,hV,rfl,_,_⟩:=hW
 have hA : DataW.TrodAll enc Tryz.prog W 0 (fun _ => true) true Tryz.f7.params.toList args.toList ds p:=hA0
 rw [Tryz.params7] at hA hval
 have hAll:=hA
 obtain ⟨v0,vs0,d0,ds0,p0,q0,hargs0,rfl,rfl,r0,s0⟩:=trodAll_cons hA
 obtain ⟨v1,vs1,d1,ds1,p1,q1,hargs1,rfl,rfl,r1,s1⟩:=trodAll_cons s0
 obtain ⟨v2,vs2,d2,ds2,p2,q2,hargs2,rfl,rfl,r2,s2⟩:=trodAll_cons s1
 obtain ⟨hargs3,rfl,rfl⟩:=trodAll_nil s2
 obtain rfl : args = #[v0,v1,v2]:=by cases args;simp_all
 obtain ⟨rfl,rfl⟩:=trodVars_none hV
 clear hA0 hA
 have hlt:=hW'.lt
 have hR : InReachP 22 d0:=by
  have hz : (DataW.weightsEach Tryz.prog [22,22,5] (d0 :: d1 :: d2 :: [])).all (fun n => decide (n ≤ reachBytes)) = true:=by simpa [show Rows.flowJoinsSpec.plain.varTypes Tryz.prog = [] by kernel_rfl] using hz0
  rw [DataW.weightsEach,List.all_append,Bool.and_eq_true] at hz
  exact hz.1
 have hR1 : InReachP 22 d1:=by
  have hz : (DataW.weightsEach Tryz.prog [22,22,5] (d0 :: d1 :: d2 :: [])).all (fun n => decide (n ≤ reachBytes)) = true:=by simpa [show Rows.flowJoinsSpec.plain.varTypes Tryz.prog = [] by kernel_rfl] using hz0
  rw [DataW.weightsEach,List.all_append,Bool.and_eq_true] at hz
  have hz2:=hz.2
  rw [DataW.weightsEach,List.all_append,Bool.and_eq_true] at hz2
  exact hz2.1
 obtain ⟨A0,c0,l0,rfl,rl0,hl0⟩:=open_stmtsA (hval 0 22 v0 rfl rfl) r0
 obtain ⟨A1,c1,l1,rfl,rl1,hl1⟩:=open_stmtsA (hval 1 22 v1 rfl rfl) r1
 obtain ⟨x2,rfl,rfl,rfl,wx2⟩:=open_int Tryz.underlying5 (hval 2 5 v2 rfl rfl) r2
 have h2 : 0 ≤ x2 ∧ x2 ≤ 255:=by simpa [Lit.wf,IntKind.min,IntKind.max,IntKind.signed,IntKind.bits] using wx2
 simp only [List.append_nil] at hW'
 obtain ⟨m,hm⟩:=cell_of_shapedOpen_int (g:=3) (t:=3) (zero:=#[.int .i64 0]) (k:=.i64) hsh (of_decide_eq_true (by kernel_rfl)) (by kernel_rfl) rfl (by kernel_rfl) (by kernel_rfl) Tryz.underlying3
 have hg:=cell_lt hm
 have walk : Calls Tryz.prog 7 #[.slice A0 l0.length c0,.slice A1 l1.length c1,.int .u8 x2] W fun e w' => e = .returned (.bool true) ∧ Below W.heap.size W w':=joins_law l0 l1 A0 A1 c0 c1 x2 h2.1 h2.2 W (parts_laidF hL) rl0 rl1 (sts_len rl0 r0 (bulk_first hk0)) (sts_len rl1 r1 (bulk_second hk0)) (sts_light rl0 r0 hR) (sts_light rl1 r1 hR1) (sts_bulk rl0 r0 (bulk_first hk0)) (sts_bulk rl1 r1 (bulk_second hk0))
 refine walk.mono fun e W' ⟨he,hb⟩ => ?_
 subst he
 simp only [List.append_nil] at hlt hAll
 refine ⟨_,rfl,_,_,_,[],_,[],hW',trodAll_mk1 (shut_bool Tryz.underlying4 _),trodAll_stays (by kernel_rfl) ?_ hAll (fun p hp => hb.same (hlt p hp)) (fun p hp => decide_eq_true (hlt p hp)),rfl,hb.frame _,fun h => by cases h⟩
 intro t ht
 have hall : ([22,22,5].all fun u => Tryz.prog.readableRec u && decide (u < Tryz.prog.types.size)) = true:=by kernel_rfl
 have := List.all_eq_true.1 hall t ht
 simpa using this
theorem lifted (os : Os) (started : os.Started) (H : Type) (enc : TypeId × Value → H) (F : Stop.Interp) :
 ReturnsInHanded {} Tryz.checked os 7 .any ((Rows.OpenSpec.upto Rows.flowJoinsSpec).preRow enc Tryz.prog Tryz.f7 Rows.flowJoinsUptoRow.domain false Rows.flowJoinsUptoRow.laid) (((Rows.OpenSpec.upto Rows.flowJoinsSpec).at F).post enc Tryz.prog Tryz.f7 false true false false):=by
 have hx : ∃ places,DataW.whole enc Tryz.prog ((World.laidAll Tryz.prog os Rows.flowJoinsUptoRow.laid).forCall (fun _ _ => 0) ⟨#[],#[.slice none 0 0,.slice none 0 0,.int .u8 0],[]⟩).memory Tryz.f7.params.toList Rows.flowJoinsSpec.vars false (#[.slice none 0 0,.slice none 0 0,.int .u8 0] : Array Value).toList 8 = some ([.nil,.nil,.lit (.int .u8 0)],[],places):=⟨[],by kernel_rfl⟩
 obtain ⟨places,hx⟩:=hx
 refine returnsInHanded_of_row (C:=Tryz.checked) (s:=Rows.OpenSpec.upto Rows.flowJoinsSpec) own started (by kernel_rfl) Tryz.func7
  (witness_row_at (enc:=enc) (C:=Tryz.checked) false (World.laidAll Tryz.prog os Rows.flowJoinsUptoRow.laid) #[.slice none 0 0,.slice none 0 0,.int .u8 0] (World.laidAll_os _ _ _) (by kernel_rfl) (by kernel_rfl) (by kernel_rfl)
    (OpenSpec.preRow_of_cond 8 hx (by kernel_rfl) (fun k hk => by cases hk;kernel_rfl) (by kernel_rfl) (laidMet_laidAll _ (by kernel_rfl) (by kernel_rfl)))) ?_
 intro W base args ds gs before hval hW _ hc hz hL hsh _
 exact contract H enc W base args ds gs before hval hW hz (hc _ rfl) hsh hL
theorem said : Rows.FlowJoinsUptoSaid :=
 OpenClaim.holds_of_cond 7 Tryz.f7 rfl rfl rfl rfl rfl rfl rfl ⟨rfl,rfl,rfl,rfl,rfl⟩ rfl rfl rfl rfl rfl (by kernel_rfl) Tryz.func7 (by kernel_rfl)
  (of_decide_eq_true (by kernel_rfl)) (by unfold Func.isWrapper;first | (rw [if_pos (by decide +kernel)];kernel_rfl) | (rw [if_neg (by decide +kernel)];exact ⟨rfl,rfl⟩))
  (fun os started H enc _ F => by rw [OpenClaim.pre_eq_preRow];exact lifted os started H enc F)
theorem plain (f : FuncId) (fn : Func) (hf : Tryz.pinned.checked.prog.funcNamed "sepal/sepallaw11.FlowJoins" = some f) (hfn : Tryz.pinned.checked.prog.funcs[f]? = some fn) :
 false = Tryz.pinned.checked.prog.looks [] ∧ ∀ (j : Nat) t,fn.params[j]? = some t → Tryz.pinned.checked.prog.wantsStandIn t = false:=by
 obtain rfl : f = 7:=Option.some.inj ((show Tryz.prog.funcNamed "sepal/sepallaw11.FlowJoins" = some 7 by kernel_rfl).symm.trans hf) |>.symm
 obtain rfl : fn = Tryz.f7:=(Option.some.inj (Tryz.func7.symm.trans hfn)).symm
 refine ⟨by kernel_rfl,fun j t ht => ?_⟩
 rw [Tryz.params7] at ht
 have hm : t ∈ [22,22,5]:=by simpa using Array.mem_of_getElem? ht
 have hall : ([22,22,5].all fun u => !Tryz.prog.wantsStandIn u) = true:=by kernel_rfl
 exact (show Tryz.prog.wantsStandIn t = false by simpa using List.all_eq_true.1 hall t hm)
theorem card : Rows.FlowJoinsUptoCardSaid :=
 Claim7.holds_tied_plain_at .later [] _ _ _ _ said (fun _ h => by cases h) (by kernel_rfl) (fun _ h => by cases h) flowJoinsUpto_row_tie rfl ⟨rfl,rfl⟩ (by kernel_rfl) rfl plain (by kernel_rfl)
#print axioms card
end Go.Proofs.YtbalioicgpgehaaGreatDoor.lawFlowJoins
