/-
  The law TypesRemoves of package sepallaw05 holds: for every input it returns true, and each argument reads afterwards as it read before. Condition: unicode/utf8's two tables read as the program's text lays them (the card ties them).
-/
import Derived.Test.YtojjfdegkooknaaGreatDoorCards
import Derived.Test.YtojjfdegkooknaaGreatDoorTie
import Derived.Test.YtojjfdegkooknaaGreatDoorSTypQv
import Derived.ProofKit
import Derived.OpenShut
import Derived.Deep.DeepHandedRow
import Derived.Lay
import Derived.LaidOnce
import Derived.SevenTiedAt
import Derived.Shelf.Vars
import Derived.Test.YtojjfdegkooknaaGreatDoorSTypSp
import Derived.Test.YtojjfdegkooknaaGreatDoorSTreeO
import Derived.Test.YtojjfdegkooknaaGreatDoorSTypQy
set_option linter.unusedVariables false
set_option linter.unusedSimpArgs false
namespace Go.Proofs.YtojjfdegkooknaaGreatDoor.lawTypesRemoves
set_option maxRecDepth 100000
open Go.ChangeShapes Go.WideShapes Go.ChangeAt Go.WideMaps Go.WideElems Go.RowKit
open Go.ChangeMaps (open_string shut_string)
theorem own : ownKnob Tryz.prog.godebug = none:=by kernel_rfl
theorem cell_lt {w : World} {b : Nat} {v : Value} (h : w.cell? ⟨b,0,none⟩ = some v) : b < w.heap.size:=by
 unfold World.cell? at h
 cases e : w.heap[b]? with
 | none => simp [e] at h
 | some o => exact (Array.getElem?_eq_some_iff.1 e).1
theorem contract (H : Type) (enc : TypeId × Value → H) (W : World) (base : Nat) (args : Array Value) (ds gs : List (DataW H)) (before : List MemPlace)
 (hval0 : ∀ (j : Nat) t v,Tryz.f5.params[j]? = some t → args[j]? = some v → Value.okWide Tryz.prog W .any base t v)
 (hW : DataW.Whole enc Tryz.prog Tryz.f5.params.toList Rows.typesRemovesSpec.vars false W args.toList ds gs before) (hsh : W.ShapedOpen Tryz.prog) (hL : laidMetH Tryz.prog Rows.typesRemovesRow.laid W) :
 Calls Tryz.prog 5 args W fun e W' => ∃ v,e = .returned v ∧ Rows.typesRemovesSpec.post enc Tryz.prog Tryz.f5 false true false false W args v W':=by
 have qcW : ∀ (j : Nat) t v,Tryz.f5.params[j]? = some t → args[j]? = some v → Value.okWide Tryz.prog W .any base t v:=hval0
 have hW':=hW
 obtain ⟨p,q,hA0,hV,rfl,_,_⟩:=hW
 have hA : DataW.TrodAll enc Tryz.prog W 0 (fun _ => true) true Tryz.f5.params.toList args.toList ds p:=hA0
 rw [Tryz.params5] at hA qcW
 have qkz:=hA
 obtain ⟨v0,vs0,d0,ds0,p0,q0,qtR,rfl,rfl,r0,s0⟩:=trodAll_cons hA
 obtain ⟨v1,vs1,d1,ds1,p1,q1,qtQ,rfl,rfl,r1,s1⟩:=trodAll_cons s0
 obtain ⟨hargs2,rfl,rfl⟩:=trodAll_nil s1
 obtain rfl : args = #[v0,v1]:=by cases args;simp_all
 obtain ⟨rfl,rfl⟩:=trodVars_none hV
 clear hA0 hA
 have qB:=hW'.lt
 obtain ⟨x0,g0,rfl,hP0,hPR⟩:=qjF (qcW 0 29 v0 rfl rfl) r0
 obtain ⟨x1,rfl,rfl,rfl,wx1⟩:=open_int Tryz.underlying5 (qcW 1 5 v1 rfl rfl) r1
 have h1 : 0 ≤ x1 ∧ x1 ≤ 255:=by simpa [Lit.wf,IntKind.min,IntKind.max,IntKind.signed,IntKind.bits] using wx1
 simp only [List.append_nil] at hW'
 obtain ⟨m,hm⟩:=cell_of_shapedOpen_int (g:=3) (t:=3) (zero:=#[.int .i64 0]) (k:=.i64) hsh (of_decide_eq_true (by kernel_rfl)) (by kernel_rfl) rfl (by kernel_rfl) (by kernel_rfl) Tryz.underlying3
 have hg:=cell_lt hm
 have walk : Calls Tryz.prog 5 #[qc7 g0 x0,.int .u8 x1] W fun e w' => e = .returned (.bool true) ∧ Below W.heap.size W w':=(by have h:=qlk x0 g0 x1.toNat (by omega) W (qlo hL) hP0 hPR;rwa [Int.toNat_of_nonneg h1.1] at h)
 refine walk.mono fun e W' ⟨he,hb⟩ => ?_
 subst he
 simp only [List.append_nil] at qB qkz
 refine ⟨_,rfl,_,_,_,[],_,[],hW',trodAll_mk1 (shut_bool Tryz.underlying4 _),qcU (by kernel_rfl) ?_ qkz (fun p hp => hb.same (qB p hp)) (fun p hp => decide_eq_true (qB p hp)),rfl,hb.frame _,fun h => by cases h⟩
 intro t ht
 have ja : ([29,5].all fun u => Tryz.prog.readableRec u && decide (u < Tryz.prog.types.size)) = true:=by kernel_rfl
 have := List.all_eq_true.1 ja t ht
 simpa using this
theorem lifted (os : Os) (started : os.Started) (H : Type) (enc : TypeId × Value → H) (F : Stop.Interp) :
 ReturnsInHanded {} Tryz.checked os 5 .any ((OpenSpec.ofChange Rows.typesRemovesSpec).preRow enc Tryz.prog Tryz.f5 Rows.typesRemovesRow.domain false Rows.typesRemovesRow.laid) (((OpenSpec.ofChange Rows.typesRemovesSpec).at F).post enc Tryz.prog Tryz.f5 false true false false):=by
 have hx : ∃ places,DataW.whole enc Tryz.prog ((World.laidAll Tryz.prog os Rows.typesRemovesRow.laid).forCall (fun _ _ => 0) ⟨#[],#[.agg #[.slice none 0 0,.slice none 0 0,.slice none 0 0,.slice none 0 0,.slice none 0 0,.slice none 0 0],.int .u8 0],[]⟩).memory Tryz.f5.params.toList Rows.typesRemovesSpec.vars false (#[.agg #[.slice none 0 0,.slice none 0 0,.slice none 0 0,.slice none 0 0,.slice none 0 0,.slice none 0 0],.int .u8 0] : Array Value).toList 8 = some ([.agg [.nil,.nil,.nil,.nil,.nil,.nil],.lit (.int .u8 0)],[],places):=⟨[],by kernel_rfl⟩
 obtain ⟨places,hx⟩:=hx
 refine returnsInHanded_of_row (C:=Tryz.checked) (s:=OpenSpec.ofChange Rows.typesRemovesSpec) own started (by kernel_rfl) Tryz.func5
  (witness_row_at (enc:=enc) (C:=Tryz.checked) false (World.laidAll Tryz.prog os Rows.typesRemovesRow.laid) #[.agg #[.slice none 0 0,.slice none 0 0,.slice none 0 0,.slice none 0 0,.slice none 0 0,.slice none 0 0],.int .u8 0] (World.laidAll_os _ _ _) (by kernel_rfl) (by kernel_rfl) (by kernel_rfl)
    (OpenSpec.preRow_of_cond 8 hx (by kernel_rfl) (fun k hk => by cases hk) (by kernel_rfl) (laidMet_laidAll _ (by kernel_rfl) (by kernel_rfl)))) ?_
 intro W base args ds gs before qcW hW _ _ _ hL hsh _
 exact contract H enc W base args ds gs before qcW hW hsh hL
theorem said : Rows.TypesRemovesSaid :=
 OpenClaim.holds_of_cond 5 Tryz.f5 rfl rfl rfl rfl rfl rfl rfl ⟨rfl,rfl,rfl,rfl,rfl⟩ rfl rfl rfl rfl rfl (by kernel_rfl) Tryz.func5 (by kernel_rfl)
  (of_decide_eq_true (by kernel_rfl)) (by unfold Func.isWrapper;first | (rw [if_pos (by decide +kernel)];kernel_rfl) | (rw [if_neg (by decide +kernel)];exact ⟨rfl,rfl⟩))
  (fun os started H enc _ F => by rw [OpenClaim.pre_eq_preRow];exact lifted os started H enc F)
theorem plain (f : FuncId) (fn : Func) (hf : Tryz.pinned.checked.prog.funcNamed "sepal/sepallaw05.TypesRemoves" = some f) (hfn : Tryz.pinned.checked.prog.funcs[f]? = some fn) :
 true = Tryz.pinned.checked.prog.looks [] ∧ ∀ (j : Nat) t,fn.params[j]? = some t → Tryz.pinned.checked.prog.wantsStandIn t = false:=by
 obtain rfl : f = 5:=Option.some.inj ((show Tryz.prog.funcNamed "sepal/sepallaw05.TypesRemoves" = some 5 by kernel_rfl).symm.trans hf) |>.symm
 obtain rfl : fn = Tryz.f5:=(Option.some.inj (Tryz.func5.symm.trans hfn)).symm
 refine ⟨by kernel_rfl,fun j t ht => ?_⟩
 rw [Tryz.params5] at ht
 have hm : t ∈ [29,5]:=by simpa using Array.mem_of_getElem? ht
 have ja : ([29,5].all fun u => !Tryz.prog.wantsStandIn u) = true:=by kernel_rfl
 exact (show Tryz.prog.wantsStandIn t = false by simpa using List.all_eq_true.1 ja t hm)
theorem card : Rows.TypesRemovesCardSaid :=
 Claim7.holds_tied_plain_at .later [] _ _ _ _ said (fun _ h => by cases h) (by kernel_rfl) (fun _ h => by cases h) typesRemoves_row_tie rfl ⟨rfl,rfl⟩ (by kernel_rfl) rfl plain (by kernel_rfl)
#print axioms card
end Go.Proofs.YtojjfdegkooknaaGreatDoor.lawTypesRemoves
