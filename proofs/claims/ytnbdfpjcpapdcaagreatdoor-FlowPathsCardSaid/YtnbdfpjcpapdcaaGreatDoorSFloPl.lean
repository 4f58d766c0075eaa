/-
  The law FlowPaths: its walk.
-/
import Derived.Test.YtnbdfpjcpapdcaaGreatDoorSTreeSy
import Derived.Test.YtnbdfpjcpapdcaaGreatDoorSFloM
import Derived.Test.YtnbdfpjcpapdcaaGreatDoorSFloAw
import Derived.Test.YtnbdfpjcpapdcaaGreatDoorSTreeUs
set_option linter.unusedVariables false
set_option linter.unusedSimpArgs false
namespace Go.Proofs.YtnbdfpjcpapdcaaGreatDoor
set_option maxRecDepth 100000
set_option maxHeartbeats 4000000
open Go.RowKit
theorem paths_law (l : List St) (A : Option Addr) (c : Nat) (lp : Int) (w : World) (hp : PartsAt w) (hr : StRow w w.heap.size l A) (hl : l.length ≤ maxLen) :
 Calls Tryz.prog 4 #[.slice A l.length c,.int .i64 lp] w fun e w' => e = .returned (.bool true) ∧ Below w.heap.size w w':=by
 obtain ⟨v1,hv1⟩ : ∃ v1,v1 = vSs varB 1125899906842624 100 30 l:=⟨_,rfl⟩
 have HAw : Hid (BC w 10 #[] true):=Lib.hid (fun W hb => aw_any W (hp.on hb))
 have HFw : Hid (∀ W,Below w.heap.size w W → Calls Tryz.prog 11 #[.slice A l.length c] W fun e w' => ∃ r : Int,e = .returned (.int .i64 r) ∧ Below W.heap.size W w'):=Lib.hid (fun W hb => (few_any _ l (Nat.lt_succ_self _) A c W (hr.on hb) hl).mono fun e w' ⟨r,he,_,_,_,hb2⟩ => ⟨r,he,hb2⟩)
 obtain ⟨z,hz⟩ : ∃ z : Int,z = if 0 ≤ lp ∧ lp ≤ 100 ∧ v1 = true then ((limN (paL lp.toNat l) : Nat) : Int) else 0:=⟨_,rfl⟩
 have HP : Hid (∀ W,Below w.heap.size w W → Calls Tryz.prog 22 #[.slice A l.length c,.int .i64 lp] W fun e w' => e = .returned (.int .i64 z) ∧ Below W.heap.size W w'):=Lib.hid (fun W hb => by
  have h:=Paths_any l A c lp W (hp.on hb) (hr.on hb) hl
  rw [← hv1,← hz] at h
  exact h)
 have HS : Hid (BC w 12 #[.slice A l.length c] v1):=Lib.hid (fun W hb => by
  have h:=sstmts_any l A c W (hr.on hb) hl
  rw [← varB_varR] at h
  rw [hv1]
  exact h)
 have HR : Hid (0 ≤ lp → lp ≤ 100 → v1 = true → ∀ W,Below w.heap.size w W → Calls Tryz.prog 23 #[.slice A l.length c,.int .i64 lp] W fun e w' => e = .returned (.int .i64 z) ∧ Below W.heap.size W w'):=Lib.hid (fun h0 h1 h2 W hb => by
  have h:=rpaths_any _ l (Nat.lt_succ_self _) A c lp.toNat W (hr.on hb) hl (by omega)
  rw [hz,if_pos ⟨h0,h1,h2⟩]
  rwa [show ((lp.toNat : Nat) : Int) = lp by omega] at h)
 have HZ : Hid (¬ (0 ≤ lp ∧ lp ≤ 100 ∧ v1 = true) → z = 0):=Lib.hid (fun h => by rw [hz,if_neg h])
 have HB0:=Lib.hid (Below.refl w.heap.size w)
 generalize l.length = n at *
 clear hp hr hv1 hl hz
 go_enter Tryz.func4,Tryz.ntmps4
 go_wp2_with (first
  | (go_at_call 10;with_reducible refine (HAw.out _ HB0.out).mono ?_;rintro e w2 ⟨rfl,hb2⟩;have HB2:=Lib.hid hb2;clear hb2)
  | (go_at_call 11;refine (HFw.out _ HB2.out).mono ?_;rintro e w3 ⟨r,rfl,hb3⟩;have HB3:=Lib.hid (HB2.out.chain hb3);clear hb3)
  | (go_at_call 10;refine (HAw.out _ HB3.out).mono ?_;rintro e w4 ⟨rfl,hb4⟩;have HB4:=Lib.hid (HB3.out.chain hb4);clear hb4)
  | (go_at_call 22;refine (HP.out _ HB3.out).mono ?_;rintro e w4 ⟨rfl,hb4⟩;have HB4:=Lib.hid (HB3.out.chain hb4);clear hb4)
  | (go_at_call 12;refine (HS.out _ HB4.out).mono ?_;rintro e w5 ⟨rfl,hb5⟩;have HB5:=Lib.hid (HB4.out.chain hb5);clear hb5)
  | (go_at_call 23;refine (HR.out (by omega) (by omega) (by assumption) _ HB5.out).mono ?_;rintro e w6 ⟨rfl,hb6⟩;have HB6:=Lib.hid (HB5.out.chain hb6);clear hb6))
 all_goals go_ret
 all_goals first
  | exact ⟨rfl,HB4.out⟩
  | exact ⟨by simp,HB6.out⟩
  | (rw [HZ.out (fun ⟨a,b,_⟩ => by omega)];exact ⟨rfl,HB5.out⟩)
  | (rw [HZ.out (fun ⟨_,_,c⟩ => by simp_all)];exact ⟨rfl,HB5.out⟩)
end Go.Proofs.YtnbdfpjcpapdcaaGreatDoor
