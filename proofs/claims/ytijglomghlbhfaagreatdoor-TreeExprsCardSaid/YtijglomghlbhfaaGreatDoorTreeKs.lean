/-
  The reference's cond and Cond.
-/
import Derived.Test.YtijglomghlbhfaaGreatDoorTreeKsB
namespace Go.Proofs.YtijglomghlbhfaaGreatDoor
open Go.RowKit

set_option maxRecDepth 100000 in
theorem sc_any : ∀ d : Nat, d ≤ 1000 → ScOk d (vC varR nuP d) := by
  intro d
  induction d with
  | zero =>
    intro _ k ak an sa al bk bn sb bl l Aa ca Ab cb Al cl W ra rb rl b1 b2 b3 b4 b5
    have HB := Lib.hid (below_alloc W (condC2 k ak an ⟨sa.toArray⟩ (.slice Aa al.length ca) bk bn ⟨sb.toArray⟩ (.slice Ab bl.length cb) (.slice Al l.length cl)))
    clear ra rb rl
    go_enter Tryz.func52, Tryz.ntmps52
    go_wp2
    go_ret
    exact ⟨rfl, HB.out⟩
  | succ d ih =>
    intro hd k ak an sa al bk bn sb bl l Aa ca Ab cb Al cl W
    by_cases k1 : k = 1
    · exact sc_1 d hd (ih (by omega)) k ak an sa al bk bn sb bl l Aa ca Ab cb Al cl W k1
    by_cases k2 : k = 2
    · exact sc_2 d hd (ih (by omega)) k ak an sa al bk bn sb bl l Aa ca Ab cb Al cl W k2
    by_cases k3 : k = 3
    · exact sc_3 d hd (ih (by omega)) k ak an sa al bk bn sb bl l Aa ca Ab cb Al cl W k3
    by_cases k4 : k = 4
    · exact sc_4 d hd (ih (by omega)) k ak an sa al bk bn sb bl l Aa ca Ab cb Al cl W k4
    by_cases k5 : k = 5
    · exact sc_5 d hd (ih (by omega)) k ak an sa al bk bn sb bl l Aa ca Ab cb Al cl W k5
    by_cases k6 : k = 6
    · exact sc_6 d hd (ih (by omega)) k ak an sa al bk bn sb bl l Aa ca Ab cb Al cl W k6
    by_cases k7 : k = 7
    · exact sc_7 d hd (ih (by omega)) k ak an sa al bk bn sb bl l Aa ca Ab cb Al cl W k7
    exact sc_8 d hd (ih (by omega)) k ak an sa al bk bn sb bl l Aa ca Ab cb Al cl W (by omega) k5 k6 k7

set_option maxRecDepth 100000 in
set_option maxHeartbeats 4000000 in
theorem scond_any (k ak an : Int) (sa : List UInt8) (al : List Ex) (bk bn : Int) (sb : List UInt8) (bl : List Ex) (l : List Cn) (Aa : Option Addr) (ca : Nat) (Ab : Option Addr) (cb : Nat) (Al : Option Addr) (cl : Nat) (w : World)
    (ra : ExRow w w.heap.size al Aa) (rb : ExRow w w.heap.size bl Ab) (rl : CnRow w w.heap.size l Al) (b1 : sa.length ≤ maxLen) (b2 : al.length ≤ maxLen) (b3 : sb.length ≤ maxLen) (b4 : bl.length ≤ maxLen) (b5 : l.length ≤ maxLen) :
    Calls Tryz.prog 18 #[condV2 k ak an ⟨sa.toArray⟩ (.slice Aa al.length ca) bk bn ⟨sb.toArray⟩ (.slice Ab bl.length cb) (.slice Al l.length cl)] w fun e w' => e = .returned (.bool (vC varR nuP 30 (.mk k (.mk ak an sa al) (.mk bk bn sb bl) l))) ∧ Below w.heap.size w w' := by
  have HB := Lib.hid (below_alloc w (condC2 k ak an ⟨sa.toArray⟩ (.slice Aa al.length ca) bk bn ⟨sb.toArray⟩ (.slice Ab bl.length cb) (.slice Al l.length cl)))
  have HC := Lib.hid (sc_any 30 (by omega) k ak an sa al bk bn sb bl l Aa ca Ab cb Al cl (w.alloc (condC2 k ak an ⟨sa.toArray⟩ (.slice Aa al.length ca) bk bn ⟨sb.toArray⟩ (.slice Ab bl.length cb) (.slice Al l.length cl))) ((ra.stay HB.out (Nat.le_refl _)).more HB.out.size) ((rb.stay HB.out (Nat.le_refl _)).more HB.out.size) ((rl.stay HB.out (Nat.le_refl _)).more HB.out.size) b1 b2 b3 b4 b5)
  generalize vC varR nuP 30 (.mk k (.mk ak an sa al) (.mk bk bn sb bl) l) = res at *
  unfold maxLen at b1 b2 b3 b4 b5
  clear ra rb rl
  go_enter Tryz.func18, Tryz.ntmps18
  go_wp2_with (go_at_call 52; refine HC.out.mono ?_; rintro e w3 ⟨rfl, hb⟩)
  go_ret
  exact ⟨rfl, HB.out.chain hb⟩

end Go.Proofs.YtijglomghlbhfaaGreatDoor
