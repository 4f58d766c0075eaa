import Derived.Test.YtbalioicgpgehaaGreatDoorSTreeSz
set_option linter.unusedVariables false
set_option linter.unusedSimpArgs false
namespace Go.Proofs.YtbalioicgpgehaaGreatDoor
set_option maxRecDepth 100000
set_option maxHeartbeats 4000000
open Go.RowKit
theorem tstmts_any (l : List St) (A : Option Addr) (c : Nat) (w : World) (hp : PartsAt w) (hr : StRow w w.heap.size l A) (hl : l.length ≤ maxLen) :
 Calls Tryz.prog 30 #[.slice A l.length c] w fun e w' => e = .returned (.bool (vSs varB 1125899906842624 100 30 l)) ∧ Below w.heap.size w w':=by
 have HB:=Lib.hid (below_alloc w (rulesC 78 1125899906842624 100))
 have HC:=Lib.hid (rstmts_any _ varB variable_ok 1125899906842624 100 (by omega) (by omega) l A c (w.alloc (rulesC 78 1125899906842624 100)) (hp.on HB.out) (hr.on HB.out) hl)
 have HP : Hid (∀ W,Calls Tryz.prog 52 #[] W fun e w' => e = .returned (rulesV 78 1125899906842624 100) ∧ w' = W.alloc (rulesC 78 1125899906842624 100)):=Lib.hid proof_rules
 generalize vSs varB 1125899906842624 100 30 l = res at *
 unfold maxLen at hl
 clear hp hr
 go_enter Tryz.func30,Tryz.ntmps30
 go_wp2_with (first
  | (go_at_call 52;refine (HP.out _).mono ?_;rintro e w2 ⟨rfl,rfl⟩)
  | (go_at_call 53;refine HC.out.mono ?_;rintro e w3 ⟨rfl,hb⟩))
 go_ret
 exact ⟨rfl,HB.out.chain hb⟩
end Go.Proofs.YtbalioicgpgehaaGreatDoor
