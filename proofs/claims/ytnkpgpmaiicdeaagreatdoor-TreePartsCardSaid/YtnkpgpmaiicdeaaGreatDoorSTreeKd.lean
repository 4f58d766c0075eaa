/-
  tree.Cond at any condition.
  tree.Stmts at any statements.
-/
import Derived.Test.YtnkpgpmaiicdeaaGreatDoorSTreeKc
import Derived.Test.YtnkpgpmaiicdeaaGreatDoorSTreeSz
set_option linter.unusedVariables false
set_option linter.unusedSimpArgs false
namespace Go.Proofs.YtnkpgpmaiicdeaaGreatDoor
set_option maxRecDepth 100000
set_option maxHeartbeats 8000000
open Go.RowKit
theorem tcond_any (k ak an : Int) (sa : List UInt8) (al : List Ex) (bk bn : Int) (sb : List UInt8) (bl : List Ex) (l : List Cn) (Aa : Option Addr) (ca : Nat) (Ab : Option Addr) (cb : Nat) (Al : Option Addr) (cl : Nat) (w : World)
 (ra : ExRow w w.heap.size al Aa) (rb : ExRow w w.heap.size bl Ab) (rl : CnRow w w.heap.size l Al) (b1 : sa.length ≤ maxLen) (b2 : al.length ≤ maxLen) (b3 : sb.length ≤ maxLen) (b4 : bl.length ≤ maxLen) (b5 : l.length ≤ maxLen) :
 Calls Tryz.prog 21 #[condV2 k ak an ⟨sa.toArray⟩ (.slice Aa al.length ca) bk bn ⟨sb.toArray⟩ (.slice Ab bl.length cb) (.slice Al l.length cl)] w fun e w' => e = .returned (.bool (vC varB nuP 30 (.mk k (.mk ak an sa al) (.mk bk bn sb bl) l))) ∧ Below w.heap.size w w':=by
 obtain ⟨W1,hW1⟩ : ∃ W1,W1 = w.alloc (condC2 k ak an ⟨sa.toArray⟩ (.slice Aa al.length ca) bk bn ⟨sb.toArray⟩ (.slice Ab bl.length cb) (.slice Al l.length cl)):=⟨_,rfl⟩
 have HB : Hid (Below w.heap.size w W1):=Lib.hid (by rw [hW1];exact below_alloc w _)
 have HC : Hid (Calls Tryz.prog 41 #[rulesV 73 1125899906842624 100,condV2 k ak an ⟨sa.toArray⟩ (.slice Aa al.length ca) bk bn ⟨sb.toArray⟩ (.slice Ab bl.length cb) (.slice Al l.length cl)] (W1.alloc (rulesC 73 1125899906842624 100)).drew fun e w' => e = .returned (.bool (vC varB nuP 30 (.mk k (.mk ak an sa al) (.mk bk bn sb bl) l))) ∧ Below W1.heap.size W1 w'):=Lib.hid (by
  have hb3 : Below W1.heap.size W1 (W1.alloc (rulesC 73 1125899906842624 100)).drew:=(below_alloc W1 _).drew
  have hb4:=HB.out.chain hb3
  exact (rcond_any _ varB variable_ok 1125899906842624 100 (by omega) (by omega) k ak an sa al bk bn sb bl l Aa ca Ab cb Al cl _ ((ra.stay hb4 (Nat.le_refl _)).more hb4.size) ((rb.stay hb4 (Nat.le_refl _)).more hb4.size) ((rl.stay hb4 (Nat.le_refl _)).more hb4.size) b1 b2 b3 b4 b5).mono fun e w' ⟨he,hb⟩ => ⟨he,hb3.chain hb⟩)
 have HP : Hid (∀ W,Calls Tryz.prog 35 #[] W fun e w' => e = .returned (rulesV 73 1125899906842624 100) ∧ w' = W.alloc (rulesC 73 1125899906842624 100)):=Lib.hid proof_rules
 generalize vC varB nuP 30 (.mk k (.mk ak an sa al) (.mk bk bn sb bl) l) = res at *
 have q2:=heap_of_alloc w (condC2 k ak an ⟨sa.toArray⟩ (.slice Aa al.length ca) bk bn ⟨sb.toArray⟩ (.slice Ab bl.length cb) (.slice Al l.length cl))
 rw [← hW1] at q2
 have d0:=cell_of_block q2 0 (v:=.int .i64 k) rfl
 obtain ⟨d1,d2,d3,d4,d5,d6,d7,d8,d9⟩:=box10 q2
 have HQ:=Lib.hid q2
 unfold maxLen at b1 b2 b3 b4 b5
 clear ra rb rl q2
 go_enter Tryz.func21,Tryz.ntmps21
 go_wp2
 rw [← hW1]
 clear hW1
 go_region_held3 (fun W => W.cell? ⟨w.heap.size,0,none⟩ = some (.int .i64 k) ∧
  W.cell? ⟨w.heap.size,1,none⟩ = some (.int .i64 ak) ∧ W.cell? ⟨w.heap.size,2,none⟩ = some (.int .i64 an) ∧ W.cell? ⟨w.heap.size,3,none⟩ = some (.string ⟨sa.toArray⟩) ∧ W.cell? ⟨w.heap.size,4,none⟩ = some (.slice Aa al.length ca) ∧ W.cell? ⟨w.heap.size,5,none⟩ = some (.int .i64 bk) ∧ W.cell? ⟨w.heap.size,6,none⟩ = some (.int .i64 bn) ∧ W.cell? ⟨w.heap.size,7,none⟩ = some (.string ⟨sb.toArray⟩) ∧ W.cell? ⟨w.heap.size,8,none⟩ = some (.slice Ab bl.length cb) ∧ W.cell? ⟨w.heap.size,9,none⟩ = some (.slice Al l.length cl))
  (first | go_keep | (trace_state;fail))
  (first
    | (go_at_call 35;refine (HP.out _).mono ?_;rintro e w2 ⟨rfl,rfl⟩)
    | (go_at_call 41;refine HC.out.mono ?_;rintro e w3 ⟨rfl,hb3⟩;have HB3:=Lib.hid hb3;have q2:=(hb3.block _ (Array.getElem?_eq_some_iff.1 HQ.out).1).trans HQ.out;clear hb3;have g3:=cell_of_block q2 0 (v:=.int .i64 k) rfl;obtain ⟨y1,y2,y3,y4,y5,y6,y7,y8,y9⟩:=box10 q2;clear q2))
 all_goals go_wp2
 all_goals go_ret
 all_goals exact ⟨rfl,HB.out.chain HB3.out⟩
end Go.Proofs.YtnkpgpmaiicdeaaGreatDoor
namespace Go.Proofs.YtnkpgpmaiicdeaaGreatDoor
set_option maxRecDepth 100000
set_option maxHeartbeats 4000000
open Go.RowKit
theorem tstmts_any (l : List St) (A : Option Addr) (c : Nat) (w : World) (hp : PartsAt w) (hr : StRow w w.heap.size l A) (hl : l.length ≤ maxLen) :
 Calls Tryz.prog 20 #[.slice A l.length c] w fun e w' => e = .returned (.bool (vSs varB 1125899906842624 100 30 l)) ∧ Below w.heap.size w w':=by
 have HB:=Lib.hid (below_alloc w (rulesC 73 1125899906842624 100))
 have HC:=Lib.hid (rstmts_any _ varB variable_ok 1125899906842624 100 (by omega) (by omega) l A c (w.alloc (rulesC 73 1125899906842624 100)) (hp.on HB.out) (hr.on HB.out) hl)
 have HP : Hid (∀ W,Calls Tryz.prog 35 #[] W fun e w' => e = .returned (rulesV 73 1125899906842624 100) ∧ w' = W.alloc (rulesC 73 1125899906842624 100)):=Lib.hid proof_rules
 generalize vSs varB 1125899906842624 100 30 l = res at *
 unfold maxLen at hl
 clear hp hr
 go_enter Tryz.func20,Tryz.ntmps20
 go_wp2_with (first
  | (go_at_call 35;refine (HP.out _).mono ?_;rintro e w2 ⟨rfl,rfl⟩)
  | (go_at_call 40;refine HC.out.mono ?_;rintro e w3 ⟨rfl,hb⟩))
 go_ret
 exact ⟨rfl,HB.out.chain hb⟩
end Go.Proofs.YtnkpgpmaiicdeaaGreatDoor
