/-
  The law TypesFind of package sepallaw05 holds: for every input it returns true, and each argument reads afterwards as it read before. Condition: unicode/utf8's two tables read as the program's text lays them (the card ties them).
-/
import Derived.Test.YtojjfdegkooknaaGreatDoorCards
import Derived.Test.YtojjfdegkooknaaGreatDoorTie
import Derived.Test.YtojjfdegkooknaaGreatDoorQTypRk
import Derived.ProofKit
import Derived.OpenShut
import Derived.Deep.DeepHandedRow
import Derived.Lay
import Derived.LaidOnce
import Derived.SevenTiedAt
import Derived.Shelf.Vars
import Derived.Test.YtojjfdegkooknaaGreatDoorQTypWt
import Derived.Test.YtojjfdegkooknaaGreatDoorQTreeO
set_option linter.unusedVariables false
set_option linter.unusedSimpArgs false
namespace Go.Proofs.YtojjfdegkooknaaGreatDoor.lawTypesFind
set_option maxRecDepth 100000
open Go.ChangeShapes Go.WideShapes Go.ChangeAt Go.WideMaps Go.WideElems Go.RowKit
open Go.ChangeMaps (open_string shut_string)
theorem own : ownKnob Tryz.prog.godebug = none:=by kernel_rfl
theorem cell_lt {w : World} {b : Nat} {v : Value} (h : w.cell? ⟨b,0,none⟩ = some v) : b < w.heap.size:=by
 unfold World.cell? at h
 cases e : w.heap[b]? with
 | none => simp [e] at h
 | some o => exact (Array.getElem?_eq_some_iff.1 e).1
theorem contract (H : Type) (enc : TypeId × Value → H) (W : World) (base : Nat) (args : Array Value) (ds gs : List (DataW H)) (before : List MemPlace)
 (hval0 : ∀ (j : Nat) t v,Tryz.f3.params[j]? = some t → args[j]? = some v → Value.okWide Tryz.prog W .any base t v)
 (hW : DataW.Whole enc Tryz.prog Tryz.f3.params.toList Rows.typesFindSpec.vars false W args.toList ds gs before) (hz0 : (DataW.weightsEach Tryz.prog (Tryz.f3.params.toList ++ Rows.typesFindSpec.plain.varTypes Tryz.prog) (ds ++ gs)).all (· ≤ reachBytes) = true) (hk0 : Rows.uptoSmall H (ds ++ gs) = true) (hsh : W.ShapedOpen Tryz.prog) (hL : laidMetH Tryz.prog Rows.typesFindUptoRow.laid W) :
 Calls Tryz.prog 3 args W fun e W' => ∃ v,e = .returned v ∧ Rows.typesFindSpec.post enc Tryz.prog Tryz.f3 false true false false W args v W':=by
 have hval : ∀ (j : Nat) t v,Tryz.f3.params[j]? = some t → args[j]? = some v → Value.okWide Tryz.prog W .any base t v:=hval0
 have hW':=hW
 obtain ⟨p,q,hA0,hV,rfl,_,_⟩:=hW
 have hA : DataW.TrodAll enc Tryz.prog W 0 (fun _ => true) true Tryz.f3.params.toList args.toList ds p:=hA0
 rw [Tryz.params3] at hA hval
 have hAll:=hA
 obtain ⟨v0,vs0,d0,ds0,p0,q0,hargs0,rfl,rfl,r0,s0⟩:=trodAll_cons hA
 obtain ⟨v1,vs1,d1,ds1,p1,q1,hargs1,rfl,rfl,r1,s1⟩:=trodAll_cons s0
 obtain ⟨v2,vs2,d2,ds2,p2,q2,hargs2,rfl,rfl,r2,s2⟩:=trodAll_cons s1
 obtain ⟨hargs3,rfl,rfl⟩:=trodAll_nil s2
 obtain rfl : args = #[v0,v1,v2]:=by cases args;simp_all
 obtain ⟨rfl,rfl⟩:=trodVars_none hV
 clear hA0 hA
 have hlt:=hW'.lt
 have hR : InReachP 29 d0:=by
  have hz : (DataW.weightsEach Tryz.prog [29,9,9] (d0 :: d1 :: d2 :: [])).all (fun n => decide (n ≤ reachBytes)) = true:=by simpa [show Rows.typesFindSpec.plain.varTypes Tryz.prog = [] by kernel_rfl] using hz0
  rw [DataW.weightsEach,List.all_append,Bool.and_eq_true] at hz
  exact hz.1
 obtain ⟨x0,g0,rfl,hP0⟩:=open_programA (hval 0 29 v0 rfl rfl) r0
 obtain ⟨x1,rfl,rfl,rfl,h1⟩:=open_string Tryz.underlying9 (hval 1 9 v1 rfl rfl) r1
 obtain ⟨x2,rfl,rfl,rfl,h2⟩:=open_string Tryz.underlying9 (hval 2 9 v2 rfl rfl) r2
 simp only [List.append_nil] at hW'
 obtain ⟨m,hm⟩:=cell_of_shapedOpen_int (g:=3) (t:=3) (zero:=#[.int .i64 0]) (k:=.i64) hsh (of_decide_eq_true (by kernel_rfl)) (by kernel_rfl) rfl (by kernel_rfl) (by kernel_rfl) Tryz.underlying3
 have hg:=cell_lt hm
 have walk : Calls Tryz.prog 3 #[progV g0 x0,.string x1,.string x2] W fun e w' => e = .returned (.bool true) ∧ Below W.heap.size W w':=find_any x0 g0 x1.data.toList x2.data.toList W hP0 (parts_laidF hL) (pgw_small hP0 r0 (bulk_first hk0)) (pgw_light hP0 r0 hR).1 (pgw_light hP0 r0 hR).2 _ _ _ _ _ _ rfl rfl rfl rfl rfl rfl
 refine walk.mono fun e W' ⟨he,hb⟩ => ?_
 subst he
 simp only [List.append_nil] at hlt hAll
 refine ⟨_,rfl,_,_,_,[],_,[],hW',trodAll_mk1 (shut_bool Tryz.underlying4 _),trodAll_stays (by kernel_rfl) ?_ hAll (fun p hp => hb.same (hlt p hp)) (fun p hp => decide_eq_true (hlt p hp)),rfl,hb.frame _,fun h => by cases h⟩
 intro t ht
 have hall : ([29,9,9].all fun u => Tryz.prog.readableRec u && decide (u < Tryz.prog.types.size)) = true:=by kernel_rfl
 have := List.all_eq_true.1 hall t ht
 simpa using this
theorem lifted (os : Os) (started : os.Started) (H : Type) (enc : TypeId × Value → H) (F : Stop.Interp) :
 ReturnsInHanded {} Tryz.checked os 3 .any ((Rows.OpenSpec.upto Rows.typesFindSpec).preRow enc Tryz.prog Tryz.f3 Rows.typesFindUptoRow.domain false Rows.typesFindUptoRow.laid) (((Rows.OpenSpec.upto Rows.typesFindSpec).at F).post enc Tryz.prog Tryz.f3 false true false false):=by
 have hx : ∃ places,DataW.whole enc Tryz.prog ((World.laidAll Tryz.prog os Rows.typesFindUptoRow.laid).forCall (fun _ _ => 0) ⟨#[],#[.agg #[.slice none 0 0,.slice none 0 0,.slice none 0 0,.slice none 0 0,.slice none 0 0,.slice none 0 0],.string ⟨#[]⟩,.string ⟨#[]⟩],[]⟩).memory Tryz.f3.params.toList Rows.typesFindSpec.vars false (#[.agg #[.slice none 0 0,.slice none 0 0,.slice none 0 0,.slice none 0 0,.slice none 0 0,.slice none 0 0],.string ⟨#[]⟩,.string ⟨#[]⟩] : Array Value).toList 8 = some ([.agg [.nil,.nil,.nil,.nil,.nil,.nil],.lit (.string []),.lit (.string [])],[],places):=⟨[],by kernel_rfl⟩
 obtain ⟨places,hx⟩:=hx
 refine returnsInHanded_of_row (C:=Tryz.checked) (s:=Rows.OpenSpec.upto Rows.typesFindSpec) own started (by kernel_rfl) Tryz.func3
  (witness_row_at (enc:=enc) (C:=Tryz.checked) false (World.laidAll Tryz.prog os Rows.typesFindUptoRow.laid) #[.agg #[.slice none 0 0,.slice none 0 0,.slice none 0 0,.slice none 0 0,.slice none 0 0,.slice none 0 0],.string ⟨#[]⟩,.string ⟨#[]⟩] (World.laidAll_os _ _ _) (by kernel_rfl) (by kernel_rfl) (by kernel_rfl)
    (OpenSpec.preRow_of_cond 8 hx (by kernel_rfl) (fun k hk => by cases hk;kernel_rfl) (by kernel_rfl) (laidMet_laidAll _ (by kernel_rfl) (by kernel_rfl)))) ?_
 intro W base args ds gs before hval hW _ hc hz hL hsh _
 exact contract H enc W base args ds gs before hval hW hz (hc _ rfl) hsh hL
theorem said : Rows.TypesFindUptoSaid :=
 OpenClaim.holds_of_cond 3 Tryz.f3 rfl rfl rfl rfl rfl rfl rfl ⟨rfl,rfl,rfl,rfl,rfl⟩ rfl rfl rfl rfl rfl (by kernel_rfl) Tryz.func3 (by kernel_rfl)
  (of_decide_eq_true (by kernel_rfl)) (by unfold Func.isWrapper;first | (rw [if_pos (by decide +kernel)];kernel_rfl) | (rw [if_neg (by decide +kernel)];exact ⟨rfl,rfl⟩))
  (fun os started H enc _ F => by rw [OpenClaim.pre_eq_preRow];exact lifted os started H enc F)
theorem plain (f : FuncId) (fn : Func) (hf : Tryz.pinned.checked.prog.funcNamed "sepal/sepallaw05.TypesFind" = some f) (hfn : Tryz.pinned.checked.prog.funcs[f]? = some fn) :
 true = Tryz.pinned.checked.prog.looks [] ∧ ∀ (j : Nat) t,fn.params[j]? = some t → Tryz.pinned.checked.prog.wantsStandIn t = false:=by
 obtain rfl : f = 3:=Option.some.inj ((show Tryz.prog.funcNamed "sepal/sepallaw05.TypesFind" = some 3 by kernel_rfl).symm.trans hf) |>.symm
 obtain rfl : fn = Tryz.f3:=(Option.some.inj (Tryz.func3.symm.trans hfn)).symm
 refine ⟨by kernel_rfl,fun j t ht => ?_⟩
 rw [Tryz.params3] at ht
 have hm : t ∈ [29,9,9]:=by simpa using Array.mem_of_getElem? ht
 have hall : ([29,9,9].all fun u => !Tryz.prog.wantsStandIn u) = true:=by kernel_rfl
 exact (show Tryz.prog.wantsStandIn t = false by simpa using List.all_eq_true.1 hall t hm)
theorem card : Rows.TypesFindUptoCardSaid :=
 Claim7.holds_tied_plain_at .later [] _ _ _ _ said (fun _ h => by cases h) (by kernel_rfl) (fun _ h => by cases h) typesFindUpto_row_tie rfl ⟨rfl,rfl⟩ (by kernel_rfl) rfl plain (by kernel_rfl)
#print axioms card
end Go.Proofs.YtojjfdegkooknaaGreatDoor.lawTypesFind
