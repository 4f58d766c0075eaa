/-
  validList at parameters. validList at atoms. validList at cells of formulas.
-/
import Derived.Test.YtkopbfndfkibbaaGreatDoorSTreeF
set_option linter.unusedVariables false
set_option linter.unusedSimpArgs false
namespace Go.Proofs.YtkopbfndfkibbaaGreatDoor
set_option maxRecDepth 100000
set_option maxHeartbeats 4000000
open Go.RowKit
theorem vl_param (ok : Pm → Bool) (G : Nat) (Fi Ca : Array Value) (hG : ∀ args w,(callFunc G args).run Tryz.prog w = .ok (.enter G args) w) (es : List Pm) (A : Option Addr) (c : Nat) (least most : Int) (w : World) (hn : es.length ≤ maxLen) (hr : RowX PmAt 2 w w.heap.size es A)
 (hC : ∀ t nm W,(⟨t,nm⟩ : Pm) ∈ es → Below w.heap.size w W → t.length ≤ maxLen → nm.length ≤ maxLen →
   Calls Tryz.prog G (Fi.push (paramV ⟨t.toArray⟩ ⟨nm.toArray⟩) ++ Ca) W fun e w' => e = .returned (.bool (ok ⟨t,nm⟩)) ∧ Below W.heap.size W w') :
 Calls Tryz.prog 36 #[.slice A es.length c,.int .i64 least,.int .i64 most,.func (.func G) Fi Ca] w fun e w' =>
  e = .returned (.bool (decide (least ≤ es.length) && decide ((es.length : Int) ≤ most) && es.all ok)) ∧ Below w.heap.size w w':=by
 obtain ⟨n,hnn⟩ : ∃ n,n = es.length:=⟨_,rfl⟩
 have HH:=Lib.hid (And.intro hr (And.intro hC hnn))
 have HB0:=Lib.hid (Below.refl w.heap.size w)
 rw [← hnn] at hn ⊢
 clear hr hC hnn
 unfold maxLen at hn
 go_enter Tryz.func36,Tryz.ntmps36
 by_cases hl : (n : Int) < least
 ·go_wp2
  go_ret
  exact ⟨by rw [show decide (least ≤ (n : Int)) = false by simp;omega];rfl,HB0.out⟩
 by_cases hm : (n : Int) > most
 ·go_wp2
  go_ret
  exact ⟨by rw [show decide ((n : Int) ≤ most) = false by simp;omega];simp,HB0.out⟩
 go_wp2
 go_loopg [23] n (fun m j wr => ∃ k : Nat,m = n - k ∧ k ≤ n ∧ j = .int .i64 k ∧ Hid (Below w.heap.size w wr ∧ (es.take k).all ok = true))
 case atStart => exact ⟨0,rfl,Nat.zero_le _,rfl,Lib.hid ⟨HB0.out,rfl⟩⟩
 case round =>
  obtain ⟨k,rfl,hk,rfl,HI⟩:=hrel
  by_cases hlt : k < n
  ·have hki : (k : Int) < n:=by omega
   obtain ⟨⟨t,nm⟩,hi⟩ : ∃ x,es[k]? = some x:=⟨es[k]'(by rw [← HH.out.2.2];exact hlt),List.getElem?_eq_getElem _⟩
   obtain ⟨a,rfl,hab,hp⟩:=(HH.out.1.stay pm_keeps HI.out.1 (Nat.le_refl _)).at_ hi
   obtain ⟨d0,d1,ht,hnm⟩:=hp
   have c0 : wr.cell? (a.add (k * 2)) = some (.string ⟨t.toArray⟩):=d0
   have c1 : wr.cell? ⟨(a.add (k * 2)).block,(a.add (k * 2)).off + 1,none⟩ = some (.string ⟨nm.toArray⟩):=d1
   have HJ:=Lib.hid (HI.out.1.alloc HI.out.1.size (.cells #[.string ⟨t.toArray⟩,.string ⟨nm.toArray⟩] 65))
   have HC2:=Lib.hid (HH.out.2.1 t nm (wr.alloc (.cells #[.string ⟨t.toArray⟩,.string ⟨nm.toArray⟩] 65)) (List.mem_of_getElem? hi) HJ.out ht hnm)
   obtain ⟨okx,hokx⟩ : ∃ b,b = ok ⟨t,nm⟩:=⟨_,rfl⟩
   have HX:=Lib.hid (And.intro hi (all_take_succ ok es k _ hi))
   rw [← hokx] at HC2 HX
   have HO:=Lib.hid hokx
   clear hokx hi d0 d1 ht hnm
   go_wp2_with (refine HC2.out.mono ?_;rintro e w3 ⟨rfl,hb⟩;have HB3:=Lib.hid (HJ.out.trans (hb.mono HJ.out.size));clear hb)
   ·rename_i hf
    have hf' : ok ⟨t,nm⟩ = false:=by rw [← HO.out];simpa using hf
    go_ret
    exact ⟨by rw [all_of_false ok es k _ HX.out.1 hf',Bool.and_false];rfl,HB3.out⟩
   ·rename_i hf
    have hf' : okx = true:=by simpa using hf
    go_roundg (n - (k + 1))
    case measure => omega
    case rel => exact ⟨k + 1,rfl,by omega,by go_num,Lib.hid ⟨HB3.out,by rw [HX.out.2,HI.out.2,hf'];rfl⟩⟩
  ·obtain rfl : k = n:=by omega
   go_wp2
   go_ret
   refine ⟨?_,HI.out.1⟩
   have := HI.out.2
   rw [List.take_of_length_le (by rw [HH.out.2.2];exact Nat.le_refl _)] at this
   rw [this,Bool.and_true,show decide (least ≤ (k : Int)) = true by simp;omega,show decide ((k : Int) ≤ most) = true by simp;omega]
   rfl
end Go.Proofs.YtkopbfndfkibbaaGreatDoor
namespace Go.Proofs.YtkopbfndfkibbaaGreatDoor
set_option maxRecDepth 100000
set_option maxHeartbeats 4000000
open Go.RowKit
theorem vl_atom (ok : At → Bool) (G : Nat) (Fi Ca : Array Value) (hG : ∀ args w,(callFunc G args).run Tryz.prog w = .ok (.enter G args) w) (es : List At) (A : Option Addr) (c : Nat) (least most : Int) (w : World) (hn : es.length ≤ maxLen) (hr : RowX AtAt 9 w w.heap.size es A)
 (hC : ∀ k ak an sa al bk bn sb bl Aa ca Ab cb W,(⟨k,.mk ak an sa al,.mk bk bn sb bl⟩ : At) ∈ es → Below w.heap.size w W → ExRow W W.heap.size al Aa → ExRow W W.heap.size bl Ab → sa.length ≤ maxLen → al.length ≤ maxLen → sb.length ≤ maxLen → bl.length ≤ maxLen →
   Calls Tryz.prog G (Fi.push (atomV k ak an ⟨sa.toArray⟩ (.slice Aa al.length ca) bk bn ⟨sb.toArray⟩ (.slice Ab bl.length cb)) ++ Ca) W fun e w' => e = .returned (.bool (ok ⟨k,.mk ak an sa al,.mk bk bn sb bl⟩)) ∧ Below W.heap.size W w') :
 Calls Tryz.prog 117 #[.slice A es.length c,.int .i64 least,.int .i64 most,.func (.func G) Fi Ca] w fun e w' =>
  e = .returned (.bool (decide (least ≤ es.length) && decide ((es.length : Int) ≤ most) && es.all ok)) ∧ Below w.heap.size w w':=by
 obtain ⟨n,hnn⟩ : ∃ n,n = es.length:=⟨_,rfl⟩
 have HH:=Lib.hid (And.intro hr (And.intro hC hnn))
 have HB0:=Lib.hid (Below.refl w.heap.size w)
 rw [← hnn] at hn ⊢
 clear hr hC hnn
 unfold maxLen at hn
 go_enter Tryz.func117,Tryz.ntmps117
 by_cases hl : (n : Int) < least
 ·go_wp2
  go_ret
  exact ⟨by rw [show decide (least ≤ (n : Int)) = false by simp;omega];rfl,HB0.out⟩
 by_cases hm : (n : Int) > most
 ·go_wp2
  go_ret
  exact ⟨by rw [show decide ((n : Int) ≤ most) = false by simp;omega];simp,HB0.out⟩
 go_wp2
 go_loopg [23] n (fun m j wr => ∃ k : Nat,m = n - k ∧ k ≤ n ∧ j = .int .i64 k ∧ Hid (Below w.heap.size w wr ∧ (es.take k).all ok = true))
 case atStart => exact ⟨0,rfl,Nat.zero_le _,rfl,Lib.hid ⟨HB0.out,rfl⟩⟩
 case round =>
  obtain ⟨k,rfl,hk,rfl,HI⟩:=hrel
  by_cases hlt : k < n
  ·have hki : (k : Int) < n:=by omega
   obtain ⟨⟨k0,xa,xb⟩,hi⟩ : ∃ x,es[k]? = some x:=⟨es[k]'(by rw [← HH.out.2.2];exact hlt),List.getElem?_eq_getElem _⟩
   obtain ⟨a,rfl,hab,hp⟩:=(HH.out.1.stay at_keeps HI.out.1 (Nat.le_refl _)).at_ hi
   obtain ⟨ak,an,sa,al,bk,bn,sb,bl,Aa,ca,Ab,cb,rfl,rfl,hc,⟨b1,b2,b3,b4⟩,ra,rb⟩:=hp
   simp only at hc
   have c0 : wr.cell? (a.add (k * 9)) = some (.int .i64 k0):=hc.c0
   have c1 : wr.cell? ⟨(a.add (k * 9)).block,(a.add (k * 9)).off + 1,none⟩ = some (.int .i64 ak):=hc.c1
   have c2 : wr.cell? ⟨(a.add (k * 9)).block,(a.add (k * 9)).off + 2,none⟩ = some (.int .i64 an):=hc.c2
   have c3 : wr.cell? ⟨(a.add (k * 9)).block,(a.add (k * 9)).off + 3,none⟩ = some (.string ⟨sa.toArray⟩):=hc.c3
   have c4 : wr.cell? ⟨(a.add (k * 9)).block,(a.add (k * 9)).off + 4,none⟩ = some (.slice Aa al.length ca):=hc.c4
   have c5 : wr.cell? ⟨(a.add (k * 9)).block,(a.add (k * 9)).off + 5,none⟩ = some (.int .i64 bk):=hc.c5
   have c6 : wr.cell? ⟨(a.add (k * 9)).block,(a.add (k * 9)).off + 6,none⟩ = some (.int .i64 bn):=hc.c6
   have c7 : wr.cell? ⟨(a.add (k * 9)).block,(a.add (k * 9)).off + 7,none⟩ = some (.string ⟨sb.toArray⟩):=hc.c7
   have c8 : wr.cell? ⟨(a.add (k * 9)).block,(a.add (k * 9)).off + 8,none⟩ = some (.slice Ab bl.length cb):=hc.c8
   have HJ:=Lib.hid (HI.out.1.alloc HI.out.1.size (.cells #[.int .i64 k0,.int .i64 ak,.int .i64 an,.string ⟨sa.toArray⟩,.slice Aa al.length ca,.int .i64 bk,.int .i64 bn,.string ⟨sb.toArray⟩,.slice Ab bl.length cb] 94))
   have HC2:=Lib.hid (HH.out.2.1 k0 ak an sa al bk bn sb bl Aa ca Ab cb (wr.alloc (.cells #[.int .i64 k0,.int .i64 ak,.int .i64 an,.string ⟨sa.toArray⟩,.slice Aa al.length ca,.int .i64 bk,.int .i64 bn,.string ⟨sb.toArray⟩,.slice Ab bl.length cb] 94)) (List.mem_of_getElem? hi) HJ.out ((ra.stay (below_alloc wr _) HI.out.1.size).more HJ.out.size) ((rb.stay (below_alloc wr _) HI.out.1.size).more HJ.out.size) b1 b2 b3 b4)
   obtain ⟨okx,hokx⟩ : ∃ b,b = ok ⟨k0,.mk ak an sa al,.mk bk bn sb bl⟩:=⟨_,rfl⟩
   have HX:=Lib.hid (And.intro hi (all_take_succ ok es k _ hi))
   rw [← hokx] at HC2 HX
   have HO:=Lib.hid hokx
   clear hokx hi hc ra rb b1 b2 b3 b4
   go_wp2_with (refine HC2.out.mono ?_;rintro e w3 ⟨rfl,hb⟩;have HB3:=Lib.hid (HJ.out.trans (hb.mono HJ.out.size));clear hb)
   ·rename_i hf
    have hf' : ok ⟨k0,.mk ak an sa al,.mk bk bn sb bl⟩ = false:=by rw [← HO.out];simpa using hf
    go_ret
    exact ⟨by rw [all_of_false ok es k _ HX.out.1 hf',Bool.and_false];rfl,HB3.out⟩
   ·rename_i hf
    have hf' : okx = true:=by simpa using hf
    go_roundg (n - (k + 1))
    case measure => omega
    case rel => exact ⟨k + 1,rfl,by omega,by go_num,Lib.hid ⟨HB3.out,by rw [HX.out.2,HI.out.2,hf'];rfl⟩⟩
  ·obtain rfl : k = n:=by omega
   go_wp2
   go_ret
   refine ⟨?_,HI.out.1⟩
   have := HI.out.2
   rw [List.take_of_length_le (by rw [HH.out.2.2];exact Nat.le_refl _)] at this
   rw [this,Bool.and_true,show decide (least ≤ (k : Int)) = true by simp;omega,show decide ((k : Int) ≤ most) = true by simp;omega]
   rfl
end Go.Proofs.YtkopbfndfkibbaaGreatDoor
namespace Go.Proofs.YtkopbfndfkibbaaGreatDoor
set_option maxRecDepth 100000
set_option maxHeartbeats 4000000
open Go.RowKit
theorem vl_cell (ok : Cl → Bool) (G : Nat) (Fi Ca : Array Value) (hG : ∀ args w,(callFunc G args).run Tryz.prog w = .ok (.enter G args) w) (es : List Cl) (A : Option Addr) (c : Nat) (least most : Int) (w : World) (hn : es.length ≤ maxLen) (hr : RowX ClAt 3 w w.heap.size es A)
 (hC : ∀ k nm l A c W,(⟨k,nm,l⟩ : Cl) ∈ es → Below w.heap.size w W → ExRow W W.heap.size l A → nm.length ≤ maxLen → l.length ≤ maxLen →
   Calls Tryz.prog G (Fi.push (cellV k ⟨nm.toArray⟩ (.slice A l.length c)) ++ Ca) W fun e w' => e = .returned (.bool (ok ⟨k,nm,l⟩)) ∧ Below W.heap.size W w') :
 Calls Tryz.prog 119 #[.slice A es.length c,.int .i64 least,.int .i64 most,.func (.func G) Fi Ca] w fun e w' =>
  e = .returned (.bool (decide (least ≤ es.length) && decide ((es.length : Int) ≤ most) && es.all ok)) ∧ Below w.heap.size w w':=by
 obtain ⟨n,hnn⟩ : ∃ n,n = es.length:=⟨_,rfl⟩
 have HH:=Lib.hid (And.intro hr (And.intro hC hnn))
 have HB0:=Lib.hid (Below.refl w.heap.size w)
 rw [← hnn] at hn ⊢
 clear hr hC hnn
 unfold maxLen at hn
 go_enter Tryz.func119,Tryz.ntmps119
 by_cases hl : (n : Int) < least
 ·go_wp2
  go_ret
  exact ⟨by rw [show decide (least ≤ (n : Int)) = false by simp;omega];rfl,HB0.out⟩
 by_cases hm : (n : Int) > most
 ·go_wp2
  go_ret
  exact ⟨by rw [show decide ((n : Int) ≤ most) = false by simp;omega];simp,HB0.out⟩
 go_wp2
 go_loopg [23] n (fun m j wr => ∃ k : Nat,m = n - k ∧ k ≤ n ∧ j = .int .i64 k ∧ Hid (Below w.heap.size w wr ∧ (es.take k).all ok = true))
 case atStart => exact ⟨0,rfl,Nat.zero_le _,rfl,Lib.hid ⟨HB0.out,rfl⟩⟩
 case round =>
  obtain ⟨k,rfl,hk,rfl,HI⟩:=hrel
  by_cases hlt : k < n
  ·have hki : (k : Int) < n:=by omega
   obtain ⟨⟨k0,nm,l⟩,hi⟩ : ∃ x,es[k]? = some x:=⟨es[k]'(by rw [← HH.out.2.2];exact hlt),List.getElem?_eq_getElem _⟩
   obtain ⟨a,rfl,hab,hp⟩:=(HH.out.1.stay cl_keeps HI.out.1 (Nat.le_refl _)).at_ hi
   obtain ⟨Al,cl,d0,d1,d2,hnm,hll,rl⟩:=hp
   simp only at d0 d1 d2 hnm hll rl
   have c0 : wr.cell? (a.add (k * 3)) = some (.int .i64 k0):=d0
   have c1 : wr.cell? ⟨(a.add (k * 3)).block,(a.add (k * 3)).off + 1,none⟩ = some (.string ⟨nm.toArray⟩):=d1
   have c2 : wr.cell? ⟨(a.add (k * 3)).block,(a.add (k * 3)).off + 2,none⟩ = some (.slice Al l.length cl):=d2
   have HJ:=Lib.hid (HI.out.1.alloc HI.out.1.size (.cells #[.int .i64 k0,.string ⟨nm.toArray⟩,.slice Al l.length cl] 96))
   have HC2:=Lib.hid (HH.out.2.1 k0 nm l Al cl (wr.alloc (.cells #[.int .i64 k0,.string ⟨nm.toArray⟩,.slice Al l.length cl] 96)) (List.mem_of_getElem? hi) HJ.out ((rl.stay (below_alloc wr _) HI.out.1.size).more HJ.out.size) hnm hll)
   obtain ⟨okx,hokx⟩ : ∃ b,b = ok ⟨k0,nm,l⟩:=⟨_,rfl⟩
   have HX:=Lib.hid (And.intro hi (all_take_succ ok es k _ hi))
   rw [← hokx] at HC2 HX
   have HO:=Lib.hid hokx
   clear hokx hi d0 d1 d2 hnm hll rl
   go_wp2_with (refine HC2.out.mono ?_;rintro e w3 ⟨rfl,hb⟩;have HB3:=Lib.hid (HJ.out.trans (hb.mono HJ.out.size));clear hb)
   ·rename_i hf
    have hf' : ok ⟨k0,nm,l⟩ = false:=by rw [← HO.out];simpa using hf
    go_ret
    exact ⟨by rw [all_of_false ok es k _ HX.out.1 hf',Bool.and_false];rfl,HB3.out⟩
   ·rename_i hf
    have hf' : okx = true:=by simpa using hf
    go_roundg (n - (k + 1))
    case measure => omega
    case rel => exact ⟨k + 1,rfl,by omega,by go_num,Lib.hid ⟨HB3.out,by rw [HX.out.2,HI.out.2,hf'];rfl⟩⟩
  ·obtain rfl : k = n:=by omega
   go_wp2
   go_ret
   refine ⟨?_,HI.out.1⟩
   have := HI.out.2
   rw [List.take_of_length_le (by rw [HH.out.2.2];exact Nat.le_refl _)] at this
   rw [this,Bool.and_true,show decide (least ≤ (k : Int)) = true by simp;omega,show decide ((k : Int) ≤ most) = true by simp;omega]
   rfl
end Go.Proofs.YtkopbfndfkibbaaGreatDoor
