import Derived.Test.YtojjfdegkooknaaGreatDoorQTreeXv
import Derived.Test.YtojjfdegkooknaaGreatDoorQTreeK
import Derived.Test.YtojjfdegkooknaaGreatDoorQTreeKw
set_option linter.unusedVariables false
set_option linter.unusedSimpArgs false
namespace Go.Proofs.YtojjfdegkooknaaGreatDoor
set_option maxRecDepth 100000
set_option maxHeartbeats 2000000
open Go.RowKit
def tyB (s : List UInt8) : Bool:=(s == [105,110,116]) || nameL s
theorem type_any (s : List UInt8) (w : World) (hs : s.length ≤ maxLen) : Calls Tryz.prog 139 #[.string ⟨s.toArray⟩] w fun e w' => e = .returned (.bool (tyB s)) ∧ Below w.heap.size w w':=by
 have HN : Hid (∀ w,Calls Tryz.prog 125 #[.string ⟨s.toArray⟩] w fun e w' => e = .returned (.bool (nameL s)) ∧ Below w.heap.size w w'):=Lib.hid (fun w => name_any s w hs)
 have HB:=Lib.hid (Below.refl w.heap.size w)
 unfold tyB
 generalize nameL s = nl at *
 cases h1 : (s == [105,110,116]) with
 | true =>
   go_enter Tryz.func139,Tryz.ntmps139
   go_wp2
   go_ret
   exact ⟨rfl,HB.out⟩
 | false =>
   go_enter Tryz.func139,Tryz.ntmps139
   go_wp2_with (go_at_call 125;refine (HN.out _).mono ?_;rintro e w2 ⟨rfl,hb⟩)
   go_ret
   exact ⟨rfl,hb⟩
abbrev paramV (t nm : ByteArray) : Value:=.agg #[.string t,.string nm]
abbrev paramC (t nm : ByteArray) : Obj:=.cells #[.string t,.string nm] 42
theorem param_any (fv : Nat) (var : List UInt8 → Bool) (hv : VarOk fv var) (nu ex : Int) (t nm : List UInt8) (w : World) (ht : t.length ≤ maxLen) (hn : nm.length ≤ maxLen) :
 Calls Tryz.prog 107 #[rulesV fv nu ex,paramV ⟨t.toArray⟩ ⟨nm.toArray⟩] w fun e w' => e = .returned (.bool (tyB t && var nm)) ∧ Below w.heap.size w w':=by
 have HT : Hid (∀ w,Calls Tryz.prog 139 #[.string ⟨t.toArray⟩] w fun e w' => e = .returned (.bool (tyB t)) ∧ Below w.heap.size w w'):=Lib.hid (fun w => type_any t w ht)
 have HV : Hid (∀ w,Calls Tryz.prog fv #[.string ⟨nm.toArray⟩] w fun e w' => e = .returned (.bool (var nm)) ∧ Below w.heap.size w w'):=Lib.hid (fun w => hv.says nm w hn)
 have hfv:=hv.enters
 obtain ⟨W1,hW1⟩ : ∃ W1,W1 = (w.alloc (rulesC fv nu ex)).alloc (paramC ⟨t.toArray⟩ ⟨nm.toArray⟩):=⟨_,rfl⟩
 have HB : Hid (Below w.heap.size w W1):=Lib.hid (by rw [hW1];exact (below_alloc w _).chain (below_alloc _ _))
 have q1:=heap_keep (o:=paramC ⟨t.toArray⟩ ⟨nm.toArray⟩) (heap_of_alloc w (rulesC fv nu ex))
 have q2:=heap_of_alloc (w.alloc (rulesC fv nu ex)) (paramC ⟨t.toArray⟩ ⟨nm.toArray⟩)
 rw [size_of_alloc] at q2
 rw [← hW1] at q1 q2
 have HQ:=Lib.hid (And.intro q1 q2)
 generalize tyB t = ty at *
 generalize var nm = vn at *
 clear q1 q2 hv ht hn
 cases ty with
 | false =>
   go_enter Tryz.func107,Tryz.ntmps107
   go_wp2_with (go_at_call 139;rw [← hW1];refine (HT.out _).mono ?_;rintro e w2 ⟨rfl,hb⟩)
   go_ret
   exact ⟨rfl,HB.out.chain hb⟩
 | true =>
   go_enter Tryz.func107,Tryz.ntmps107
   go_wp2_with (first
    | (go_at_call 139;rw [← hW1];refine (HT.out _).mono ?_;rintro e w2 ⟨rfl,hb⟩;have HB2:=Lib.hid (HB.out.chain hb);have g1:=cell_of_block (kept_box hb HQ.out.1) 0 (v:=.func (.func fv) #[] #[]) rfl;have g2:=cell_of_block (kept_box hb HQ.out.2) 1 (v:=.string ⟨nm.toArray⟩) rfl;clear hb)
    | (with_reducible refine (HV.out _).mono ?_;rintro e w3 ⟨rfl,hb3⟩;have HB3:=Lib.hid (HB2.out.chain hb3);clear hb3))
   go_ret
   exact ⟨rfl,HB3.out⟩
end Go.Proofs.YtojjfdegkooknaaGreatDoor
namespace Go.Proofs.YtojjfdegkooknaaGreatDoor
set_option maxRecDepth 100000
set_option maxHeartbeats 2000000
open Go.RowKit
abbrev atomV (k ak an : Int) (sa : ByteArray) (la : Value) (bk bn : Int) (sb : ByteArray) (lb : Value) : Value:=.agg #[.int .i64 k,.int .i64 ak,.int .i64 an,.string sa,la,.int .i64 bk,.int .i64 bn,.string sb,lb]
abbrev atomC (k ak an : Int) (sa : ByteArray) (la : Value) (bk bn : Int) (sb : ByteArray) (lb : Value) : Obj:=.cells #[.int .i64 k,.int .i64 ak,.int .i64 an,.string sa,la,.int .i64 bk,.int .i64 bn,.string sb,lb] 148
theorem box9 {W : World} {be : Nat} {k ak an : Int} {sa : ByteArray} {la : Value} {bk bn : Int} {sb : ByteArray} {lb : Value} (h : W.heap[be]? = some (atomC k ak an sa la bk bn sb lb)) :
 W.cell? ⟨be,1,none⟩ = some (.int .i64 ak) ∧ W.cell? ⟨be,2,none⟩ = some (.int .i64 an) ∧ W.cell? ⟨be,3,none⟩ = some (.string sa) ∧ W.cell? ⟨be,4,none⟩ = some la ∧ W.cell? ⟨be,5,none⟩ = some (.int .i64 bk) ∧ W.cell? ⟨be,6,none⟩ = some (.int .i64 bn) ∧ W.cell? ⟨be,7,none⟩ = some (.string sb) ∧ W.cell? ⟨be,8,none⟩ = some lb :=
 ⟨cell_of_block h 1 rfl,cell_of_block h 2 rfl,cell_of_block h 3 rfl,cell_of_block h 4 rfl,cell_of_block h 5 rfl,cell_of_block h 6 rfl,cell_of_block h 7 rfl,cell_of_block h 8 rfl⟩
theorem box3 {W : World} {be fv : Nat} {nu ex : Int} (h : W.heap[be]? = some (rulesC fv nu ex)) :
 W.cell? ⟨be,0,none⟩ = some (.func (.func fv) #[] #[]) ∧ W.cell? ⟨be,1,none⟩ = some (.int .i64 nu) ∧ W.cell? ⟨be,2,none⟩ = some (.int .i64 ex) :=
 ⟨cell_of_block h 0 rfl,cell_of_block h 1 rfl,cell_of_block h 2 rfl⟩
theorem atom_any (fv : Nat) (var : List UInt8 → Bool) (hv : VarOk fv var) (nu ex : Int) (h0 : 0 ≤ nu) (h1 : nu ≤ 4611686018427387904) (k ak an : Int) (sa : List UInt8) (al : List Ex) (bk bn : Int) (sb : List UInt8) (bl : List Ex) (Aa : Option Addr) (ca : Nat) (Ab : Option Addr) (cb : Nat) (w : World)
 (ra : ExRow w w.heap.size al Aa) (rb : ExRow w w.heap.size bl Ab) (b1 : sa.length ≤ maxLen) (b2 : al.length ≤ maxLen) (b3 : sb.length ≤ maxLen) (b4 : bl.length ≤ maxLen) :
 Calls Tryz.prog 110 #[rulesV fv nu ex,atomV k ak an ⟨sa.toArray⟩ (.slice Aa al.length ca) bk bn ⟨sb.toArray⟩ (.slice Ab bl.length cb)] w fun e w' => e = .returned (.bool ((decide (1 ≤ k) && decide (k ≤ 4)) && vE var nu 30 (.mk ak an sa al) && vE var nu 30 (.mk bk bn sb bl))) ∧ Below w.heap.size w w':=by
 have HCM : Hid (∀ w,Calls Tryz.prog 140 #[.int .i64 k] w fun e w' => e = .returned (.bool (decide (1 ≤ k) && decide (k ≤ 4))) ∧ w = w'):=Lib.hid (comparison_any k)
 have HA : Hid (∀ W3,Below w.heap.size w W3 → Calls Tryz.prog 141 #[rulesV fv nu ex,exprV ak an ⟨sa.toArray⟩ (.slice Aa al.length ca)] W3 fun e w' => e = .returned (.bool (vE var nu 30 (.mk ak an sa al))) ∧ Below W3.heap.size W3 w'):=Lib.hid (fun W3 hb => rexpr_any fv var hv nu ex h0 h1 ak an sa al Aa ca W3 ((ra.stay hb (Nat.le_refl _)).more hb.size) b1 b2)
 have HE : Hid (∀ W3,Below w.heap.size w W3 → Calls Tryz.prog 141 #[rulesV fv nu ex,exprV bk bn ⟨sb.toArray⟩ (.slice Ab bl.length cb)] W3 fun e w' => e = .returned (.bool (vE var nu 30 (.mk bk bn sb bl))) ∧ Below W3.heap.size W3 w'):=Lib.hid (fun W3 hb => rexpr_any fv var hv nu ex h0 h1 bk bn sb bl Ab cb W3 ((rb.stay hb (Nat.le_refl _)).more hb.size) b3 b4)
 obtain ⟨W1,hW1⟩ : ∃ W1,W1 = (w.alloc (rulesC fv nu ex)).alloc (atomC k ak an ⟨sa.toArray⟩ (.slice Aa al.length ca) bk bn ⟨sb.toArray⟩ (.slice Ab bl.length cb)):=⟨_,rfl⟩
 have HB : Hid (Below w.heap.size w W1):=Lib.hid (by rw [hW1];exact (below_alloc w _).chain (below_alloc _ _))
 have q1:=heap_keep (o:=atomC k ak an ⟨sa.toArray⟩ (.slice Aa al.length ca) bk bn ⟨sb.toArray⟩ (.slice Ab bl.length cb)) (heap_of_alloc w (rulesC fv nu ex))
 have q2:=heap_of_alloc (w.alloc (rulesC fv nu ex)) (atomC k ak an ⟨sa.toArray⟩ (.slice Aa al.length ca) bk bn ⟨sb.toArray⟩ (.slice Ab bl.length cb))
 rw [size_of_alloc] at q2
 rw [← hW1] at q1 q2
 have HQ:=Lib.hid (And.intro q1 q2)
 generalize (decide (1 ≤ k) && decide (k ≤ 4)) = cm at *
 generalize vE var nu 30 (.mk ak an sa al) = ea at *
 generalize vE var nu 30 (.mk bk bn sb bl) = eb at *
 unfold maxLen at b1 b2 b3 b4
 clear q1 q2 hv ra rb
 cases cm with
 | false =>
   go_enter Tryz.func110,Tryz.ntmps110
   go_wp2_with (go_at_call 140;rw [← hW1];clear hW1;refine (HCM.out _).mono ?_;rintro e w2 ⟨rfl,rfl⟩)
   go_ret
   exact ⟨rfl,HB.out⟩
 | true =>
   cases ea with
   | false =>
     go_enter Tryz.func110,Tryz.ntmps110
     go_wp2_with (first
      | (go_at_call 140;rw [← hW1];clear hW1;refine (HCM.out _).mono ?_;rintro e w2 ⟨rfl,rfl⟩;obtain ⟨g0,g1,g2⟩:=box3 HQ.out.1;obtain ⟨y1,y2,y3,y4,y5,y6,y7,y8⟩:=box9 HQ.out.2)
      | (go_at_call 141;refine (HA.out _ HB.out).mono ?_;rintro e w3 ⟨rfl,hb3⟩;have HB3:=Lib.hid (HB.out.chain hb3);clear hb3))
     go_ret
     exact ⟨rfl,HB3.out⟩
   | true =>
     go_enter Tryz.func110,Tryz.ntmps110
     go_wp2_with (first
      | (go_at_call 140;rw [← hW1];clear hW1;refine (HCM.out _).mono ?_;rintro e w2 ⟨rfl,rfl⟩;obtain ⟨g0,g1,g2⟩:=box3 HQ.out.1;obtain ⟨y1,y2,y3,y4,y5,y6,y7,y8⟩:=box9 HQ.out.2)
      | (go_at_call 141;refine (HA.out _ HB.out).mono ?_;rintro e w3 ⟨rfl,hb3⟩;have HB3:=Lib.hid (HB.out.chain hb3);obtain ⟨p0,p1,p2⟩:=box3 (kept_box hb3 HQ.out.1);obtain ⟨z1,z2,z3,z4,z5,z6,z7,z8⟩:=box9 (kept_box hb3 HQ.out.2);clear hb3)
      | (go_at_call 141;refine (HE.out _ HB3.out).mono ?_;rintro e w4 ⟨rfl,hb4⟩;have HB4:=Lib.hid (HB3.out.chain hb4);clear hb4))
     go_ret
     exact ⟨rfl,HB4.out⟩
end Go.Proofs.YtojjfdegkooknaaGreatDoor
namespace Go.Proofs.YtojjfdegkooknaaGreatDoor
set_option maxRecDepth 100000
set_option maxHeartbeats 2000000
open Go.RowKit
end Go.Proofs.YtojjfdegkooknaaGreatDoor
namespace Go.Proofs.YtojjfdegkooknaaGreatDoor
set_option maxRecDepth 100000
set_option maxHeartbeats 2000000
open Go.RowKit
def vP (var : List UInt8 → Bool) (x : Pm) : Bool:=tyB x.t && var x.nm
def vAt (var : List UInt8 → Bool) (nu : Int) (x : At) : Bool:=(decide (1 ≤ x.k) && decide (x.k ≤ 4)) && vE var nu 30 x.a && vE var nu 30 x.b
def vCl (var : List UInt8 → Bool) (nu : Int) (x : Cl) : Bool :=
 nameL x.nm && (if x.k = 1 then decide ((2 : Int) ≤ x.l.length) && decide ((x.l.length : Int) ≤ 9) && x.l.all (vE var nu 30) else if x.k = 2 then decide ((1 : Int) ≤ x.l.length) && decide ((x.l.length : Int) ≤ 8) && x.l.all (vE var nu 30) else false)
def vF (var : List UInt8 → Bool) (nu ex : Int) (x : Fm) : Bool :=
 decide ((x.ps.length : Int) ≤ ex) && x.ps.all (vP var) && decide ((x.ps.map (·.nm)).Nodup) && decide ((x.ats.length : Int) ≤ 100) && x.ats.all (vAt var nu) && decide ((x.cls.length : Int) ≤ 100) && x.cls.all (vCl var nu)
end Go.Proofs.YtojjfdegkooknaaGreatDoor
namespace Go.Proofs.YtojjfdegkooknaaGreatDoor
set_option maxRecDepth 100000
set_option maxHeartbeats 4000000
open Go.RowKit
theorem vl_param (ok : Pm → Bool) (G : Nat) (Fi Ca : Array Value) (hG : ∀ args w,(callFunc G args).run Tryz.prog w = .ok (.enter G args) w) (es : List Pm) (A : Option Addr) (c : Nat) (least most : Int) (w : World) (hn : es.length ≤ maxLen) (hr : RowX PmAt 2 w w.heap.size es A)
 (hC : ∀ t nm W,(⟨t,nm⟩ : Pm) ∈ es → Below w.heap.size w W → t.length ≤ maxLen → nm.length ≤ maxLen →
   Calls Tryz.prog G (Fi.push (paramV ⟨t.toArray⟩ ⟨nm.toArray⟩) ++ Ca) W fun e w' => e = .returned (.bool (ok ⟨t,nm⟩)) ∧ Below W.heap.size W w') :
 Calls Tryz.prog 106 #[.slice A es.length c,.int .i64 least,.int .i64 most,.func (.func G) Fi Ca] w fun e w' =>
  e = .returned (.bool (decide (least ≤ es.length) && decide ((es.length : Int) ≤ most) && es.all ok)) ∧ Below w.heap.size w w':=by
 obtain ⟨n,hnn⟩ : ∃ n,n = es.length:=⟨_,rfl⟩
 have HH:=Lib.hid (And.intro hr (And.intro hC hnn))
 have HB0:=Lib.hid (Below.refl w.heap.size w)
 rw [← hnn] at hn ⊢
 clear hr hC hnn
 unfold maxLen at hn
 go_enter Tryz.func106,Tryz.ntmps106
 by_cases hl : (n : Int) < least
 ·go_wp2
  go_ret
  exact ⟨by rw [show decide (least ≤ (n : Int)) = false by simp;omega];rfl,HB0.out⟩
 by_cases hm : (n : Int) > most
 ·go_wp2
  go_ret
  exact ⟨by rw [show decide ((n : Int) ≤ most) = false by simp;omega];simp,HB0.out⟩
 go_wp2
 go_loopg [23] n (fun m j wr => ∃ k : Nat,m = n - k ∧ k ≤ n ∧ j = .int .i64 k ∧ Hid (Below w.heap.size w wr ∧ (es.take k).all ok = true))
 case atStart => exact ⟨0,rfl,Nat.zero_le _,rfl,Lib.hid ⟨HB0.out,rfl⟩⟩
 case round =>
  obtain ⟨k,rfl,hk,rfl,HI⟩:=hrel
  by_cases hlt : k < n
  ·have hki : (k : Int) < n:=by omega
   obtain ⟨⟨t,nm⟩,hi⟩ : ∃ x,es[k]? = some x:=⟨es[k]'(by rw [← HH.out.2.2];exact hlt),List.getElem?_eq_getElem _⟩
   obtain ⟨a,rfl,hab,hp⟩:=(HH.out.1.stay pm_keeps HI.out.1 (Nat.le_refl _)).at_ hi
   obtain ⟨d0,d1,ht,hnm⟩:=hp
   have c0 : wr.cell? (a.add (k * 2)) = some (.string ⟨t.toArray⟩):=d0
   have c1 : wr.cell? ⟨(a.add (k * 2)).block,(a.add (k * 2)).off + 1,none⟩ = some (.string ⟨nm.toArray⟩):=d1
   have HJ:=Lib.hid (HI.out.1.alloc HI.out.1.size (.cells #[.string ⟨t.toArray⟩,.string ⟨nm.toArray⟩] 42))
   have HC2:=Lib.hid (HH.out.2.1 t nm (wr.alloc (.cells #[.string ⟨t.toArray⟩,.string ⟨nm.toArray⟩] 42)) (List.mem_of_getElem? hi) HJ.out ht hnm)
   obtain ⟨okx,hokx⟩ : ∃ b,b = ok ⟨t,nm⟩:=⟨_,rfl⟩
   have HX:=Lib.hid (And.intro hi (all_take_succ ok es k _ hi))
   rw [← hokx] at HC2 HX
   have HO:=Lib.hid hokx
   clear hokx hi d0 d1 ht hnm
   go_wp2_with (refine HC2.out.mono ?_;rintro e w3 ⟨rfl,hb⟩;have HB3:=Lib.hid (HJ.out.trans (hb.mono HJ.out.size));clear hb)
   ·rename_i hf
    have hf' : ok ⟨t,nm⟩ = false:=by rw [← HO.out];simpa using hf
    go_ret
    exact ⟨by rw [all_of_false ok es k _ HX.out.1 hf',Bool.and_false];rfl,HB3.out⟩
   ·rename_i hf
    have hf' : okx = true:=by simpa using hf
    go_roundg (n - (k + 1))
    case measure => omega
    case rel => exact ⟨k + 1,rfl,by omega,by go_num,Lib.hid ⟨HB3.out,by rw [HX.out.2,HI.out.2,hf'];rfl⟩⟩
  ·obtain rfl : k = n:=by omega
   go_wp2
   go_ret
   refine ⟨?_,HI.out.1⟩
   have := HI.out.2
   rw [List.take_of_length_le (by rw [HH.out.2.2];exact Nat.le_refl _)] at this
   rw [this,Bool.and_true,show decide (least ≤ (k : Int)) = true by simp;omega,show decide ((k : Int) ≤ most) = true by simp;omega]
   rfl
end Go.Proofs.YtojjfdegkooknaaGreatDoor
namespace Go.Proofs.YtojjfdegkooknaaGreatDoor
set_option maxRecDepth 100000
set_option maxHeartbeats 4000000
open Go.RowKit
theorem vl_atom (ok : At → Bool) (G : Nat) (Fi Ca : Array Value) (hG : ∀ args w,(callFunc G args).run Tryz.prog w = .ok (.enter G args) w) (es : List At) (A : Option Addr) (c : Nat) (least most : Int) (w : World) (hn : es.length ≤ maxLen) (hr : RowX AtAt 9 w w.heap.size es A)
 (hC : ∀ k ak an sa al bk bn sb bl Aa ca Ab cb W,(⟨k,.mk ak an sa al,.mk bk bn sb bl⟩ : At) ∈ es → Below w.heap.size w W → ExRow W W.heap.size al Aa → ExRow W W.heap.size bl Ab → sa.length ≤ maxLen → al.length ≤ maxLen → sb.length ≤ maxLen → bl.length ≤ maxLen →
   Calls Tryz.prog G (Fi.push (atomV k ak an ⟨sa.toArray⟩ (.slice Aa al.length ca) bk bn ⟨sb.toArray⟩ (.slice Ab bl.length cb)) ++ Ca) W fun e w' => e = .returned (.bool (ok ⟨k,.mk ak an sa al,.mk bk bn sb bl⟩)) ∧ Below W.heap.size W w') :
 Calls Tryz.prog 109 #[.slice A es.length c,.int .i64 least,.int .i64 most,.func (.func G) Fi Ca] w fun e w' =>
  e = .returned (.bool (decide (least ≤ es.length) && decide ((es.length : Int) ≤ most) && es.all ok)) ∧ Below w.heap.size w w':=by
 obtain ⟨n,hnn⟩ : ∃ n,n = es.length:=⟨_,rfl⟩
 have HH:=Lib.hid (And.intro hr (And.intro hC hnn))
 have HB0:=Lib.hid (Below.refl w.heap.size w)
 rw [← hnn] at hn ⊢
 clear hr hC hnn
 unfold maxLen at hn
 go_enter Tryz.func109,Tryz.ntmps109
 by_cases hl : (n : Int) < least
 ·go_wp2
  go_ret
  exact ⟨by rw [show decide (least ≤ (n : Int)) = false by simp;omega];rfl,HB0.out⟩
 by_cases hm : (n : Int) > most
 ·go_wp2
  go_ret
  exact ⟨by rw [show decide ((n : Int) ≤ most) = false by simp;omega];simp,HB0.out⟩
 go_wp2
 go_loopg [23] n (fun m j wr => ∃ k : Nat,m = n - k ∧ k ≤ n ∧ j = .int .i64 k ∧ Hid (Below w.heap.size w wr ∧ (es.take k).all ok = true))
 case atStart => exact ⟨0,rfl,Nat.zero_le _,rfl,Lib.hid ⟨HB0.out,rfl⟩⟩
 case round =>
  obtain ⟨k,rfl,hk,rfl,HI⟩:=hrel
  by_cases hlt : k < n
  ·have hki : (k : Int) < n:=by omega
   obtain ⟨⟨k0,xa,xb⟩,hi⟩ : ∃ x,es[k]? = some x:=⟨es[k]'(by rw [← HH.out.2.2];exact hlt),List.getElem?_eq_getElem _⟩
   obtain ⟨a,rfl,hab,hp⟩:=(HH.out.1.stay at_keeps HI.out.1 (Nat.le_refl _)).at_ hi
   obtain ⟨ak,an,sa,al,bk,bn,sb,bl,Aa,ca,Ab,cb,rfl,rfl,hc,⟨b1,b2,b3,b4⟩,ra,rb⟩:=hp
   simp only at hc
   have c0 : wr.cell? (a.add (k * 9)) = some (.int .i64 k0):=hc.c0
   have c1 : wr.cell? ⟨(a.add (k * 9)).block,(a.add (k * 9)).off + 1,none⟩ = some (.int .i64 ak):=hc.c1
   have c2 : wr.cell? ⟨(a.add (k * 9)).block,(a.add (k * 9)).off + 2,none⟩ = some (.int .i64 an):=hc.c2
   have c3 : wr.cell? ⟨(a.add (k * 9)).block,(a.add (k * 9)).off + 3,none⟩ = some (.string ⟨sa.toArray⟩):=hc.c3
   have c4 : wr.cell? ⟨(a.add (k * 9)).block,(a.add (k * 9)).off + 4,none⟩ = some (.slice Aa al.length ca):=hc.c4
   have c5 : wr.cell? ⟨(a.add (k * 9)).block,(a.add (k * 9)).off + 5,none⟩ = some (.int .i64 bk):=hc.c5
   have c6 : wr.cell? ⟨(a.add (k * 9)).block,(a.add (k * 9)).off + 6,none⟩ = some (.int .i64 bn):=hc.c6
   have c7 : wr.cell? ⟨(a.add (k * 9)).block,(a.add (k * 9)).off + 7,none⟩ = some (.string ⟨sb.toArray⟩):=hc.c7
   have c8 : wr.cell? ⟨(a.add (k * 9)).block,(a.add (k * 9)).off + 8,none⟩ = some (.slice Ab bl.length cb):=hc.c8
   have HJ:=Lib.hid (HI.out.1.alloc HI.out.1.size (.cells #[.int .i64 k0,.int .i64 ak,.int .i64 an,.string ⟨sa.toArray⟩,.slice Aa al.length ca,.int .i64 bk,.int .i64 bn,.string ⟨sb.toArray⟩,.slice Ab bl.length cb] 148))
   have HC2:=Lib.hid (HH.out.2.1 k0 ak an sa al bk bn sb bl Aa ca Ab cb (wr.alloc (.cells #[.int .i64 k0,.int .i64 ak,.int .i64 an,.string ⟨sa.toArray⟩,.slice Aa al.length ca,.int .i64 bk,.int .i64 bn,.string ⟨sb.toArray⟩,.slice Ab bl.length cb] 148)) (List.mem_of_getElem? hi) HJ.out ((ra.stay (below_alloc wr _) HI.out.1.size).more HJ.out.size) ((rb.stay (below_alloc wr _) HI.out.1.size).more HJ.out.size) b1 b2 b3 b4)
   obtain ⟨okx,hokx⟩ : ∃ b,b = ok ⟨k0,.mk ak an sa al,.mk bk bn sb bl⟩:=⟨_,rfl⟩
   have HX:=Lib.hid (And.intro hi (all_take_succ ok es k _ hi))
   rw [← hokx] at HC2 HX
   have HO:=Lib.hid hokx
   clear hokx hi hc ra rb b1 b2 b3 b4
   go_wp2_with (refine HC2.out.mono ?_;rintro e w3 ⟨rfl,hb⟩;have HB3:=Lib.hid (HJ.out.trans (hb.mono HJ.out.size));clear hb)
   ·rename_i hf
    have hf' : ok ⟨k0,.mk ak an sa al,.mk bk bn sb bl⟩ = false:=by rw [← HO.out];simpa using hf
    go_ret
    exact ⟨by rw [all_of_false ok es k _ HX.out.1 hf',Bool.and_false];rfl,HB3.out⟩
   ·rename_i hf
    have hf' : okx = true:=by simpa using hf
    go_roundg (n - (k + 1))
    case measure => omega
    case rel => exact ⟨k + 1,rfl,by omega,by go_num,Lib.hid ⟨HB3.out,by rw [HX.out.2,HI.out.2,hf'];rfl⟩⟩
  ·obtain rfl : k = n:=by omega
   go_wp2
   go_ret
   refine ⟨?_,HI.out.1⟩
   have := HI.out.2
   rw [List.take_of_length_le (by rw [HH.out.2.2];exact Nat.le_refl _)] at this
   rw [this,Bool.and_true,show decide (least ≤ (k : Int)) = true by simp;omega,show decide ((k : Int) ≤ most) = true by simp;omega]
   rfl
end Go.Proofs.YtojjfdegkooknaaGreatDoor
namespace Go.Proofs.YtojjfdegkooknaaGreatDoor
set_option maxRecDepth 100000
set_option maxHeartbeats 4000000
open Go.RowKit
theorem vl_cell (ok : Cl → Bool) (G : Nat) (Fi Ca : Array Value) (hG : ∀ args w,(callFunc G args).run Tryz.prog w = .ok (.enter G args) w) (es : List Cl) (A : Option Addr) (c : Nat) (least most : Int) (w : World) (hn : es.length ≤ maxLen) (hr : RowX ClAt 3 w w.heap.size es A)
 (hC : ∀ k nm l A c W,(⟨k,nm,l⟩ : Cl) ∈ es → Below w.heap.size w W → ExRow W W.heap.size l A → nm.length ≤ maxLen → l.length ≤ maxLen →
   Calls Tryz.prog G (Fi.push (cellV k ⟨nm.toArray⟩ (.slice A l.length c)) ++ Ca) W fun e w' => e = .returned (.bool (ok ⟨k,nm,l⟩)) ∧ Below W.heap.size W w') :
 Calls Tryz.prog 111 #[.slice A es.length c,.int .i64 least,.int .i64 most,.func (.func G) Fi Ca] w fun e w' =>
  e = .returned (.bool (decide (least ≤ es.length) && decide ((es.length : Int) ≤ most) && es.all ok)) ∧ Below w.heap.size w w':=by
 obtain ⟨n,hnn⟩ : ∃ n,n = es.length:=⟨_,rfl⟩
 have HH:=Lib.hid (And.intro hr (And.intro hC hnn))
 have HB0:=Lib.hid (Below.refl w.heap.size w)
 rw [← hnn] at hn ⊢
 clear hr hC hnn
 unfold maxLen at hn
 go_enter Tryz.func111,Tryz.ntmps111
 by_cases hl : (n : Int) < least
 ·go_wp2
  go_ret
  exact ⟨by rw [show decide (least ≤ (n : Int)) = false by simp;omega];rfl,HB0.out⟩
 by_cases hm : (n : Int) > most
 ·go_wp2
  go_ret
  exact ⟨by rw [show decide ((n : Int) ≤ most) = false by simp;omega];simp,HB0.out⟩
 go_wp2
 go_loopg [23] n (fun m j wr => ∃ k : Nat,m = n - k ∧ k ≤ n ∧ j = .int .i64 k ∧ Hid (Below w.heap.size w wr ∧ (es.take k).all ok = true))
 case atStart => exact ⟨0,rfl,Nat.zero_le _,rfl,Lib.hid ⟨HB0.out,rfl⟩⟩
 case round =>
  obtain ⟨k,rfl,hk,rfl,HI⟩:=hrel
  by_cases hlt : k < n
  ·have hki : (k : Int) < n:=by omega
   obtain ⟨⟨k0,nm,l⟩,hi⟩ : ∃ x,es[k]? = some x:=⟨es[k]'(by rw [← HH.out.2.2];exact hlt),List.getElem?_eq_getElem _⟩
   obtain ⟨a,rfl,hab,hp⟩:=(HH.out.1.stay cl_keeps HI.out.1 (Nat.le_refl _)).at_ hi
   obtain ⟨Al,cl,d0,d1,d2,hnm,hll,rl,hcap⟩:=hp
   simp only at d0 d1 d2 hnm hll rl
   have c0 : wr.cell? (a.add (k * 3)) = some (.int .i64 k0):=d0
   have c1 : wr.cell? ⟨(a.add (k * 3)).block,(a.add (k * 3)).off + 1,none⟩ = some (.string ⟨nm.toArray⟩):=d1
   have c2 : wr.cell? ⟨(a.add (k * 3)).block,(a.add (k * 3)).off + 2,none⟩ = some (.slice Al l.length cl):=d2
   have HJ:=Lib.hid (HI.out.1.alloc HI.out.1.size (.cells #[.int .i64 k0,.string ⟨nm.toArray⟩,.slice Al l.length cl] 97))
   have HC2:=Lib.hid (HH.out.2.1 k0 nm l Al cl (wr.alloc (.cells #[.int .i64 k0,.string ⟨nm.toArray⟩,.slice Al l.length cl] 97)) (List.mem_of_getElem? hi) HJ.out ((rl.stay (below_alloc wr _) HI.out.1.size).more HJ.out.size) hnm hll)
   obtain ⟨okx,hokx⟩ : ∃ b,b = ok ⟨k0,nm,l⟩:=⟨_,rfl⟩
   have HX:=Lib.hid (And.intro hi (all_take_succ ok es k _ hi))
   rw [← hokx] at HC2 HX
   have HO:=Lib.hid hokx
   clear hokx hi d0 d1 d2 hnm hll rl
   go_wp2_with (refine HC2.out.mono ?_;rintro e w3 ⟨rfl,hb⟩;have HB3:=Lib.hid (HJ.out.trans (hb.mono HJ.out.size));clear hb)
   ·rename_i hf
    have hf' : ok ⟨k0,nm,l⟩ = false:=by rw [← HO.out];simpa using hf
    go_ret
    exact ⟨by rw [all_of_false ok es k _ HX.out.1 hf',Bool.and_false];rfl,HB3.out⟩
   ·rename_i hf
    have hf' : okx = true:=by simpa using hf
    go_roundg (n - (k + 1))
    case measure => omega
    case rel => exact ⟨k + 1,rfl,by omega,by go_num,Lib.hid ⟨HB3.out,by rw [HX.out.2,HI.out.2,hf'];rfl⟩⟩
  ·obtain rfl : k = n:=by omega
   go_wp2
   go_ret
   refine ⟨?_,HI.out.1⟩
   have := HI.out.2
   rw [List.take_of_length_le (by rw [HH.out.2.2];exact Nat.le_refl _)] at this
   rw [this,Bool.and_true,show decide (least ≤ (k : Int)) = true by simp;omega,show decide ((k : Int) ≤ most) = true by simp;omega]
   rfl
end Go.Proofs.YtojjfdegkooknaaGreatDoor
namespace Go.Proofs.YtojjfdegkooknaaGreatDoor
set_option maxRecDepth 100000
set_option maxHeartbeats 2000000
open Go.RowKit
theorem vlr_expr (fv : Nat) (var : List UInt8 → Bool) (hv : VarOk fv var) (nu ex : Int) (h0 : 0 ≤ nu) (h1 : nu ≤ 4611686018427387904) (es : List Ex) (A : Option Addr) (c : Nat) (least most : Int) (w : World) (hn : es.length ≤ maxLen) (hr : ExRow w w.heap.size es A) :
 Calls Tryz.prog 142 #[.slice A es.length c,.int .i64 least,.int .i64 most,.func (.func 141) #[rulesV fv nu ex] #[]] w fun e w' =>
  e = .returned (.bool (decide (least ≤ es.length) && decide ((es.length : Int) ≤ most) && es.all (vE var nu 30))) ∧ Below w.heap.size w w':=by
 refine vl_expr (vE var nu 30) 141 #[rulesV fv nu ex] #[] (enters_of Tryz.func141 (by kernel_rfl) rfl) es A c least most w hn hr (fun k n s l A' c' W _ hb hrow hs hl => ?_)
 exact rexpr_any fv var hv nu ex h0 h1 k n s l A' c' W (hrow.more hb.size) hs hl
theorem box3c {W : World} {be : Nat} {k : Int} {nm : ByteArray} {l : Value} (h : W.heap[be]? = some (cellC k nm l)) :
 W.cell? ⟨be,0,none⟩ = some (.int .i64 k) ∧ W.cell? ⟨be,1,none⟩ = some (.string nm) ∧ W.cell? ⟨be,2,none⟩ = some l :=
 ⟨cell_of_block h 0 rfl,cell_of_block h 1 rfl,cell_of_block h 2 rfl⟩
theorem cell_any (fv : Nat) (var : List UInt8 → Bool) (hv : VarOk fv var) (nu ex : Int) (h0 : 0 ≤ nu) (h1 : nu ≤ 4611686018427387904) (k : Int) (nm : List UInt8) (l : List Ex) (A : Option Addr) (c : Nat) (w : World) (hr : ExRow w w.heap.size l A) (hs : nm.length ≤ maxLen) (hl : l.length ≤ maxLen) :
 Calls Tryz.prog 112 #[rulesV fv nu ex,cellV k ⟨nm.toArray⟩ (.slice A l.length c)] w fun e w' => e = .returned (.bool (vCl var nu ⟨k,nm,l⟩)) ∧ Below w.heap.size w w':=by
 have HN : Hid (∀ w,Calls Tryz.prog 125 #[.string ⟨nm.toArray⟩] w fun e w' => e = .returned (.bool (nameL nm)) ∧ Below w.heap.size w w'):=Lib.hid (fun w => name_any nm w hs)
 have HV : Hid (∀ (least most : Int) W,Below w.heap.size w W → Calls Tryz.prog 142 #[.slice A l.length c,.int .i64 least,.int .i64 most,.func (.func 141) #[rulesV fv nu ex] #[]] W fun e w' =>
  e = .returned (.bool (decide (least ≤ l.length) && decide ((l.length : Int) ≤ most) && l.all (vE var nu 30))) ∧ Below W.heap.size W w'):=Lib.hid (fun least most W hb => vlr_expr fv var hv nu ex h0 h1 l A c least most W hl (hr.on hb))
 have HV1:=Lib.hid (HV.out 2 9)
 have HV2:=Lib.hid (HV.out 1 8)
 obtain ⟨W1,hW1⟩ : ∃ W1,W1 = (w.alloc (rulesC fv nu ex)).alloc (cellC k ⟨nm.toArray⟩ (.slice A l.length c)):=⟨_,rfl⟩
 have HB : Hid (Below w.heap.size w W1):=Lib.hid (by rw [hW1];exact (below_alloc w _).chain (below_alloc _ _))
 have q1:=heap_keep (o:=cellC k ⟨nm.toArray⟩ (.slice A l.length c)) (heap_of_alloc w (rulesC fv nu ex))
 have q2:=heap_of_alloc (w.alloc (rulesC fv nu ex)) (cellC k ⟨nm.toArray⟩ (.slice A l.length c))
 rw [size_of_alloc] at q2
 rw [← hW1] at q1 q2
 have HQ:=Lib.hid (And.intro q1 q2)
 have he:=enters_of Tryz.func141 (by kernel_rfl) rfl
 unfold vCl
 simp only
 generalize nameL nm = nl at *
 generalize (decide ((2 : Int) ≤ l.length) && decide ((l.length : Int) ≤ 9) && l.all (vE var nu 30)) = v1 at *
 generalize (decide ((1 : Int) ≤ l.length) && decide ((l.length : Int) ≤ 8) && l.all (vE var nu 30)) = v2 at *
 obtain ⟨res,hres⟩ : ∃ res,res = (nl && if k = 1 then v1 else if k = 2 then v2 else false):=⟨_,rfl⟩
 rw [← hres]
 unfold maxLen at hl hs
 clear q1 q2 hv hr HV h0 h1
 cases nl with
 | false =>
   have e : res = false:=hres
   clear hres
   subst e
   go_enter Tryz.func112,Tryz.ntmps112
   go_wp2_with (go_at_call 125;rw [← hW1];clear hW1;refine (HN.out _).mono ?_;rintro e w2 ⟨rfl,hb⟩;have HB2:=Lib.hid (HB.out.chain hb);clear hb)
   go_ret
   exact ⟨rfl,HB2.out⟩
 | true =>
   by_cases k1 : k = 1
   ·subst k1
    have e : res = v1:=by rw [hres,if_pos rfl];rfl
    clear hres
    subst e
    go_enter Tryz.func112,Tryz.ntmps112
    go_wp2_with (first
     | (go_at_call 125;rw [← hW1];clear hW1;refine (HN.out _).mono ?_;rintro e w2 ⟨rfl,hb⟩;have HB2:=Lib.hid (HB.out.chain hb);obtain ⟨g0,g1,g2⟩:=box3 (kept_box hb HQ.out.1);obtain ⟨y0,y1,y2⟩:=box3c (kept_box hb HQ.out.2);clear hb)
     | (go_at_call 142;refine (HV1.out _ HB2.out).mono ?_;rintro e w3 ⟨rfl,hb3⟩;have HB3:=Lib.hid (HB2.out.chain hb3);clear hb3))
    go_ret
    exact ⟨rfl,HB3.out⟩
   by_cases k2 : k = 2
   ·subst k2
    have e : res = v2:=by rw [hres,if_neg (by decide),if_pos rfl];rfl
    clear hres
    subst e
    go_enter Tryz.func112,Tryz.ntmps112
    go_wp2_with (first
     | (go_at_call 125;rw [← hW1];clear hW1;refine (HN.out _).mono ?_;rintro e w2 ⟨rfl,hb⟩;have HB2:=Lib.hid (HB.out.chain hb);obtain ⟨g0,g1,g2⟩:=box3 (kept_box hb HQ.out.1);obtain ⟨y0,y1,y2⟩:=box3c (kept_box hb HQ.out.2);clear hb)
     | (go_at_call 142;refine (HV2.out _ HB2.out).mono ?_;rintro e w3 ⟨rfl,hb3⟩;have HB3:=Lib.hid (HB2.out.chain hb3);clear hb3))
    go_ret
    exact ⟨rfl,HB3.out⟩
   have e : res = false:=by rw [hres,if_neg k1,if_neg k2];rfl
   clear hres
   subst e
   go_enter Tryz.func112,Tryz.ntmps112
   go_wp2_with (go_at_call 125;rw [← hW1];clear hW1;refine (HN.out _).mono ?_;rintro e w2 ⟨rfl,hb⟩;have HB2:=Lib.hid (HB.out.chain hb);obtain ⟨g0,g1,g2⟩:=box3 (kept_box hb HQ.out.1);obtain ⟨y0,y1,y2⟩:=box3c (kept_box hb HQ.out.2);clear hb)
   go_ret
   exact ⟨rfl,HB2.out⟩
end Go.Proofs.YtojjfdegkooknaaGreatDoor
