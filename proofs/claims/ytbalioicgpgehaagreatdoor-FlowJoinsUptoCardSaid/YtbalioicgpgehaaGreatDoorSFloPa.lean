import Derived.Test.YtbalioicgpgehaaGreatDoorSFloP
import Derived.Test.YtbalioicgpgehaaGreatDoorSTreeSy
set_option linter.unusedVariables false
set_option linter.unusedSimpArgs false
namespace Go.Proofs.YtbalioicgpgehaaGreatDoor
set_option maxRecDepth 100000
set_option maxHeartbeats 8000000
open Go.RowKit
theorem Paths_any (ss : List St) (A : Option Addr) (c : Nat) (lp : Int) (w : World) (hp : PartsAt w) (hr : StRow w w.heap.size ss A) (hl : ss.length ≤ maxLen) :
 Calls Tryz.prog 24 #[.slice A ss.length c,.int .i64 lp] w fun e w' => e = .returned (.int .i64 (if 0 ≤ lp ∧ lp ≤ 100 ∧ vSs varB 1125899906842624 100 30 ss = true then (limN (paL lp.toNat ss) : Nat) else 0)) ∧ Below w.heap.size w w':=by
 have HT:=Lib.hid (tstmts_any ss A c w hp hr hl)
 have HP : Hid (0 ≤ lp ∧ lp ≤ 100 → ∀ W,Below w.heap.size w W → Calls Tryz.prog 46 #[.slice A ss.length c,.int .i64 lp] W fun e w' => e = .returned (.int .i64 (limN (paL lp.toNat ss) : Nat)) ∧ Below W.heap.size W w'):=Lib.hid (fun h W hb => by
  have := paths_any _ ss (Nat.lt_succ_self _) A c lp.toNat W (hr.on hb) hl (by omega)
  rwa [show ((lp.toNat : Nat) : Int) = lp by omega] at this)
 have HB0:=Lib.hid (Below.refl w.heap.size w)
 generalize vSs varB 1125899906842624 100 30 ss = res at *
 generalize limN (paL lp.toNat ss) = q at *
 generalize ss.length = n at *
 clear hp hr hl
 by_cases h1 : lp < 0
 ·rw [if_neg (by omega)]
  go_enter Tryz.func24,Tryz.ntmps24
  go_wp2
  go_ret
  exact ⟨rfl,HB0.out⟩
 ·by_cases h2 : lp ≤ 100
  ·have HP2:=Lib.hid (HP.out ⟨by omega,h2⟩)
   cases res
   ·rw [if_neg (by simp)]
    go_enter Tryz.func24,Tryz.ntmps24
    go_wp2_with (first
     | (go_at_call 30;(with_reducible refine HT.out.mono ?_);rintro e w3 ⟨rfl,hb3⟩;have H3:=Lib.hid hb3;clear hb3))
    go_ret
    exact ⟨rfl,H3.out⟩
   ·rw [if_pos ⟨by omega,h2,rfl⟩]
    go_enter Tryz.func24,Tryz.ntmps24
    go_wp2_with (first
     | (go_at_call 30;(with_reducible refine HT.out.mono ?_);rintro e w3 ⟨rfl,hb3⟩;have H3:=Lib.hid hb3;clear hb3)
     | (go_at_call 46;(with_reducible refine (HP2.out _ H3.out).mono ?_);rintro e w4 ⟨rfl,hb4⟩;have H4:=Lib.hid (H3.out.chain hb4);clear hb4))
    go_ret
    exact ⟨rfl,H4.out⟩
  ·rw [if_neg (by omega)]
   go_enter Tryz.func24,Tryz.ntmps24
   go_wp2
   go_ret
   exact ⟨rfl,HB0.out⟩
end Go.Proofs.YtbalioicgpgehaaGreatDoor
