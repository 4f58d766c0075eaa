/-
  Arguments of any types read behind a call that turned nothing of what was there as they read before.
  What a card says of an argument within reach.
-/
import Derived.Test.YtnkpgpmaiicdeaaGreatDoorRows
import Derived.WideKeyArgs
import Derived.OpenShut
import Derived.ChangeSame
import Derived.ProofKit
import Derived.Test.YtnkpgpmaiicdeaaGreatDoorSTreeCw
import GoSem.ClaimJoined
set_option linter.unusedVariables false
set_option linter.unusedSimpArgs false
namespace Go.Proofs.YtnkpgpmaiicdeaaGreatDoor
open Go.ChangeShapes Go.WideShapes Go.RowKit Go.WideElems
theorem trodAll_stays {H : Type} {enc : TypeId × Value → H} {P : Program} {base : Nat} {W W' : World} {sp' : Nat → Bool} (hl : laidOutB P = true) :
 ∀ {ts : List TypeId} {vs : List Value} {ds : List (DataW H)} {ps : List MemPlace},(∀ t ∈ ts,P.readableRec t = true ∧ t < P.types.size) → DataW.TrodAll enc P W base (fun _ => true) true ts vs ds ps →
  (∀ p ∈ ps,W.sameAt W' p) → (∀ p ∈ ps,sp' p.block = true) → DataW.TrodAll enc P W' base sp' true ts vs ds ps
 | [],vs,ds,ps,_,h,_,_ => by
   obtain ⟨rfl,rfl,rfl⟩:=trodAll_nil h
   exact rfl
 | t :: ts,vs,ds,ps,ht,h,hs,hsp => by
   obtain ⟨v,vs1,d,ds1,a,b,rfl,rfl,rfl,h1,h2⟩:=trodAll_cons h
   have hr:=ht t (List.mem_cons_self ..)
   exact trodAll_cons_mk (Trod_stays hl hr.1 hr.2 h1 (fun p hp => hs p (List.mem_append_left _ hp)) (fun p hp => hsp p (List.mem_append_left _ hp)))
    (trodAll_stays hl (fun t' h' => ht t' (List.mem_cons_of_mem _ h')) h2 (fun p hp => hs p (List.mem_append_right _ hp)) (fun p hp => hsp p (List.mem_append_right _ hp)))
end Go.Proofs.YtnkpgpmaiicdeaaGreatDoor
namespace Go.Proofs.YtnkpgpmaiicdeaaGreatDoor
open Go.RowKit
def InReachP {H : Type} (t : TypeId) (d : DataW H) : Prop:=(d.weights Tryz.prog t).all (fun n => decide (n ≤ reachBytes)) = true
end Go.Proofs.YtnkpgpmaiicdeaaGreatDoor
