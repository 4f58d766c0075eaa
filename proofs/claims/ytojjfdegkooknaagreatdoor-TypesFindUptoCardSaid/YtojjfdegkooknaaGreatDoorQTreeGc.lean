import Derived.Test.YtojjfdegkooknaaGreatDoorQTreeO
import Derived.Test.YtojjfdegkooknaaGreatDoorQTreeGp
set_option linter.unusedVariables false
set_option linter.unusedSimpArgs false
namespace Go.Proofs.YtojjfdegkooknaaGreatDoor
set_option maxRecDepth 100000
set_option maxHeartbeats 4000000
open Go.RowKit
theorem addr_zeroG (a : Addr) : a.add 0 = a:=by simp [Addr.add]
def RcVal (W : World) (x : Rc) (v : Value) : Prop:=∃ (A : Option Addr) (c : Nat),v = .agg #[.string ⟨x.nm.toArray⟩,.slice A x.fs.length c] ∧ x.nm.length ≤ maxLen ∧ x.fs.length ≤ maxLen ∧ PmRow W W.heap.size x.fs A
def LkVal (W : World) (x : Lk) (v : Value) : Prop:=∃ (A : Option Addr) (c : Nat),v = .agg #[.string ⟨x.nm.toArray⟩,.slice A x.iv.length c] ∧ x.nm.length ≤ maxLen ∧ x.iv.length ≤ maxLen ∧ FmRow W W.heap.size x.iv A
def DfVal (W : World) (x : Df) (v : Value) : Prop:=∃ (A : Option Addr) (c : Nat) (A2 : Option Addr) (c2 : Nat),v = .agg #[.string ⟨x.nm.toArray⟩,.slice A x.ps.length c,.slice A2 x.cs.length c2] ∧
 x.nm.length ≤ maxLen ∧ x.ps.length ≤ maxLen ∧ x.cs.length ≤ maxLen ∧ PmRow W W.heap.size x.ps A ∧ FmRow W W.heap.size x.cs A2
def LmVal (W : World) (x : Lm) (v : Value) : Prop:=∃ (A : Option Addr) (c : Nat) (d e : FAd),v = .agg (lmCs A c d e x) ∧ x.nm.length ≤ maxLen ∧ x.ps.length ≤ maxLen ∧ PmRow W W.heap.size x.ps A ∧ FmOwn W W.heap.size d x.lf ∧ FmOwn W W.heap.size e x.rt
def PrVal (W : World) (x : Pr) (v : Value) : Prop:=∃ d : PAd,v = .agg (prCs d x) ∧ PrOwn W W.heap.size d x
theorem vl_rec (ok : Rc → Bool) (G : Nat) (Fi Ca : Array Value) (hG : ∀ args w,(callFunc G args).run Tryz.prog w = .ok (.enter G args) w) (es : List Rc) (A : Option Addr) (c : Nat) (least most : Int) (w : World) (hn : es.length ≤ maxLen) (hr : RowX RcAt 2 w w.heap.size es A)
 (hC : ∀ x v W,x ∈ es → Below w.heap.size w W → RcVal W x v → Calls Tryz.prog G (Fi.push v ++ Ca) W fun e w' => e = .returned (.bool (ok x)) ∧ Below W.heap.size W w') :
 Calls Tryz.prog 126 #[.slice A es.length c,.int .i64 least,.int .i64 most,.func (.func G) Fi Ca] w fun e w' =>
  e = .returned (.bool (decide (least ≤ es.length) && decide ((es.length : Int) ≤ most) && es.all ok)) ∧ Below w.heap.size w w':=by
 obtain ⟨n,hnn⟩ : ∃ n,n = es.length:=⟨_,rfl⟩
 have HH:=Lib.hid (And.intro hr (And.intro hC hnn))
 have HB0:=Lib.hid (Below.refl w.heap.size w)
 rw [← hnn] at hn ⊢
 clear hr hC hnn
 unfold maxLen at hn
 go_enter Tryz.func126,Tryz.ntmps126
 by_cases hl : (n : Int) < least
 ·go_wp2
  go_ret
  exact ⟨by rw [show decide (least ≤ (n : Int)) = false by simp;omega];rfl,HB0.out⟩
 by_cases hm : (n : Int) > most
 ·go_wp2
  go_ret
  exact ⟨by rw [show decide ((n : Int) ≤ most) = false by simp;omega];simp,HB0.out⟩
 go_wp2
 go_loopg [23] n (fun m j wr => ∃ k : Nat,m = n - k ∧ k ≤ n ∧ j = .int .i64 k ∧ Hid (Below w.heap.size w wr ∧ (es.take k).all ok = true))
 case atStart => exact ⟨0,rfl,Nat.zero_le _,rfl,Lib.hid ⟨HB0.out,rfl⟩⟩
 case round =>
  obtain ⟨k,rfl,hk,rfl,HI⟩:=hrel
  by_cases hlt : k < n
  ·have hki : (k : Int) < n:=by omega
   obtain ⟨⟨nm,fs⟩,hi⟩ : ∃ x,es[k]? = some x:=⟨es[k]'(by rw [← HH.out.2.2];exact hlt),List.getElem?_eq_getElem _⟩
   obtain ⟨a,rfl,hab,hp⟩:=(HH.out.1.stay rc_keeps HI.out.1 (Nat.le_refl _)).at_ hi
   obtain ⟨A1,c1,d0,d1,l0,l1,r0⟩:=hp
   have c0 : wr.cell? (a.add (k * 2)) = some (.string ⟨nm.toArray⟩):=d0
   have c1' : wr.cell? ⟨(a.add (k * 2)).block,(a.add (k * 2)).off + 1,none⟩ = some (.slice A1 fs.length c1):=d1
   have hbj:=below_alloc wr (.cells #[.string ⟨nm.toArray⟩,.slice A1 fs.length c1] 36)
   have HJ:=Lib.hid (HI.out.1.alloc HI.out.1.size (.cells #[.string ⟨nm.toArray⟩,.slice A1 fs.length c1] 36))
   have R0:=(r0.more pm_keeps HI.out.1.size).on pm_keeps hbj
   have HC2:=Lib.hid (HH.out.2.1 ⟨nm,fs⟩ (.agg #[.string ⟨nm.toArray⟩,.slice A1 fs.length c1]) (wr.alloc (.cells #[.string ⟨nm.toArray⟩,.slice A1 fs.length c1] 36)) (List.mem_of_getElem? hi) HJ.out ⟨A1,c1,rfl,l0,l1,R0⟩)
   obtain ⟨okx,hokx⟩ : ∃ b,b = ok ⟨nm,fs⟩:=⟨_,rfl⟩
   have HX:=Lib.hid (And.intro hi (all_take_succ ok es k _ hi))
   rw [← hokx] at HC2 HX
   have HO:=Lib.hid hokx
   clear hokx hi hbj
   go_wp2_with (refine HC2.out.mono ?_;rintro e w3 ⟨rfl,hb⟩;have HB3:=Lib.hid (HJ.out.trans (hb.mono HJ.out.size));clear hb)
   ·rename_i hf
    have hf' : ok ⟨nm,fs⟩ = false:=by rw [← HO.out];simpa using hf
    go_ret
    exact ⟨by rw [all_of_false ok es k _ HX.out.1 hf',Bool.and_false];rfl,HB3.out⟩
   ·rename_i hf
    have hf' : okx = true:=by simpa using hf
    go_roundg (n - (k + 1))
    case measure => omega
    case rel => exact ⟨k + 1,rfl,by omega,by go_num,Lib.hid ⟨HB3.out,by rw [HX.out.2,HI.out.2,hf'];rfl⟩⟩
  ·obtain rfl : k = n:=by omega
   go_wp2
   go_ret
   refine ⟨?_,HI.out.1⟩
   have := HI.out.2
   rw [List.take_of_length_le (by rw [HH.out.2.2];exact Nat.le_refl _)] at this
   rw [this,Bool.and_true,show decide (least ≤ (k : Int)) = true by simp;omega,show decide ((k : Int) ≤ most) = true by simp;omega]
   rfl
theorem vl_lock (ok : Lk → Bool) (G : Nat) (Fi Ca : Array Value) (hG : ∀ args w,(callFunc G args).run Tryz.prog w = .ok (.enter G args) w) (es : List Lk) (A : Option Addr) (c : Nat) (least most : Int) (w : World) (hn : es.length ≤ maxLen) (hr : RowX LkAt 2 w w.heap.size es A)
 (hC : ∀ x v W,x ∈ es → Below w.heap.size w W → LkVal W x v → Calls Tryz.prog G (Fi.push v ++ Ca) W fun e w' => e = .returned (.bool (ok x)) ∧ Below W.heap.size W w') :
 Calls Tryz.prog 128 #[.slice A es.length c,.int .i64 least,.int .i64 most,.func (.func G) Fi Ca] w fun e w' =>
  e = .returned (.bool (decide (least ≤ es.length) && decide ((es.length : Int) ≤ most) && es.all ok)) ∧ Below w.heap.size w w':=by
 obtain ⟨n,hnn⟩ : ∃ n,n = es.length:=⟨_,rfl⟩
 have HH:=Lib.hid (And.intro hr (And.intro hC hnn))
 have HB0:=Lib.hid (Below.refl w.heap.size w)
 rw [← hnn] at hn ⊢
 clear hr hC hnn
 unfold maxLen at hn
 go_enter Tryz.func128,Tryz.ntmps128
 by_cases hl : (n : Int) < least
 ·go_wp2
  go_ret
  exact ⟨by rw [show decide (least ≤ (n : Int)) = false by simp;omega];rfl,HB0.out⟩
 by_cases hm : (n : Int) > most
 ·go_wp2
  go_ret
  exact ⟨by rw [show decide ((n : Int) ≤ most) = false by simp;omega];simp,HB0.out⟩
 go_wp2
 go_loopg [23] n (fun m j wr => ∃ k : Nat,m = n - k ∧ k ≤ n ∧ j = .int .i64 k ∧ Hid (Below w.heap.size w wr ∧ (es.take k).all ok = true))
 case atStart => exact ⟨0,rfl,Nat.zero_le _,rfl,Lib.hid ⟨HB0.out,rfl⟩⟩
 case round =>
  obtain ⟨k,rfl,hk,rfl,HI⟩:=hrel
  by_cases hlt : k < n
  ·have hki : (k : Int) < n:=by omega
   obtain ⟨⟨nm,fs⟩,hi⟩ : ∃ x,es[k]? = some x:=⟨es[k]'(by rw [← HH.out.2.2];exact hlt),List.getElem?_eq_getElem _⟩
   obtain ⟨a,rfl,hab,hp⟩:=(HH.out.1.stay lk_keeps HI.out.1 (Nat.le_refl _)).at_ hi
   obtain ⟨A1,c1,d0,d1,l0,l1,r0⟩:=hp
   have c0 : wr.cell? (a.add (k * 2)) = some (.string ⟨nm.toArray⟩):=d0
   have c1' : wr.cell? ⟨(a.add (k * 2)).block,(a.add (k * 2)).off + 1,none⟩ = some (.slice A1 fs.length c1):=d1
   have hbj:=below_alloc wr (.cells #[.string ⟨nm.toArray⟩,.slice A1 fs.length c1] 61)
   have HJ:=Lib.hid (HI.out.1.alloc HI.out.1.size (.cells #[.string ⟨nm.toArray⟩,.slice A1 fs.length c1] 61))
   have R0:=(r0.more fm_keeps HI.out.1.size).on fm_keeps hbj
   have HC2:=Lib.hid (HH.out.2.1 ⟨nm,fs⟩ (.agg #[.string ⟨nm.toArray⟩,.slice A1 fs.length c1]) (wr.alloc (.cells #[.string ⟨nm.toArray⟩,.slice A1 fs.length c1] 61)) (List.mem_of_getElem? hi) HJ.out ⟨A1,c1,rfl,l0,l1,R0⟩)
   obtain ⟨okx,hokx⟩ : ∃ b,b = ok ⟨nm,fs⟩:=⟨_,rfl⟩
   have HX:=Lib.hid (And.intro hi (all_take_succ ok es k _ hi))
   rw [← hokx] at HC2 HX
   have HO:=Lib.hid hokx
   clear hokx hi hbj
   go_wp2_with (refine HC2.out.mono ?_;rintro e w3 ⟨rfl,hb⟩;have HB3:=Lib.hid (HJ.out.trans (hb.mono HJ.out.size));clear hb)
   ·rename_i hf
    have hf' : ok ⟨nm,fs⟩ = false:=by rw [← HO.out];simpa using hf
    go_ret
    exact ⟨by rw [all_of_false ok es k _ HX.out.1 hf',Bool.and_false];rfl,HB3.out⟩
   ·rename_i hf
    have hf' : okx = true:=by simpa using hf
    go_roundg (n - (k + 1))
    case measure => omega
    case rel => exact ⟨k + 1,rfl,by omega,by go_num,Lib.hid ⟨HB3.out,by rw [HX.out.2,HI.out.2,hf'];rfl⟩⟩
  ·obtain rfl : k = n:=by omega
   go_wp2
   go_ret
   refine ⟨?_,HI.out.1⟩
   have := HI.out.2
   rw [List.take_of_length_le (by rw [HH.out.2.2];exact Nat.le_refl _)] at this
   rw [this,Bool.and_true,show decide (least ≤ (k : Int)) = true by simp;omega,show decide ((k : Int) ≤ most) = true by simp;omega]
   rfl
theorem vl_def (ok : Df → Bool) (G : Nat) (Fi Ca : Array Value) (hG : ∀ args w,(callFunc G args).run Tryz.prog w = .ok (.enter G args) w) (es : List Df) (A : Option Addr) (c : Nat) (least most : Int) (w : World) (hn : es.length ≤ maxLen) (hr : RowX DfAt 3 w w.heap.size es A)
 (hC : ∀ x v W,x ∈ es → Below w.heap.size w W → DfVal W x v → Calls Tryz.prog G (Fi.push v ++ Ca) W fun e w' => e = .returned (.bool (ok x)) ∧ Below W.heap.size W w') :
 Calls Tryz.prog 130 #[.slice A es.length c,.int .i64 least,.int .i64 most,.func (.func G) Fi Ca] w fun e w' =>
  e = .returned (.bool (decide (least ≤ es.length) && decide ((es.length : Int) ≤ most) && es.all ok)) ∧ Below w.heap.size w w':=by
 obtain ⟨n,hnn⟩ : ∃ n,n = es.length:=⟨_,rfl⟩
 have HH:=Lib.hid (And.intro hr (And.intro hC hnn))
 have HB0:=Lib.hid (Below.refl w.heap.size w)
 rw [← hnn] at hn ⊢
 clear hr hC hnn
 unfold maxLen at hn
 go_enter Tryz.func130,Tryz.ntmps130
 by_cases hl : (n : Int) < least
 ·go_wp2
  go_ret
  exact ⟨by rw [show decide (least ≤ (n : Int)) = false by simp;omega];rfl,HB0.out⟩
 by_cases hm : (n : Int) > most
 ·go_wp2
  go_ret
  exact ⟨by rw [show decide ((n : Int) ≤ most) = false by simp;omega];simp,HB0.out⟩
 go_wp2
 go_loopg [23] n (fun m j wr => ∃ k : Nat,m = n - k ∧ k ≤ n ∧ j = .int .i64 k ∧ Hid (Below w.heap.size w wr ∧ (es.take k).all ok = true))
 case atStart => exact ⟨0,rfl,Nat.zero_le _,rfl,Lib.hid ⟨HB0.out,rfl⟩⟩
 case round =>
  obtain ⟨k,rfl,hk,rfl,HI⟩:=hrel
  by_cases hlt : k < n
  ·have hki : (k : Int) < n:=by omega
   obtain ⟨⟨nm,ps,cs⟩,hi⟩ : ∃ x,es[k]? = some x:=⟨es[k]'(by rw [← HH.out.2.2];exact hlt),List.getElem?_eq_getElem _⟩
   obtain ⟨a,rfl,hab,hp⟩:=(HH.out.1.stay df_keeps HI.out.1 (Nat.le_refl _)).at_ hi
   obtain ⟨A1,c1,A2,c2,d0,d1,d2,l0,l1,l2,r0,r1⟩:=hp
   have c0 : wr.cell? (a.add (k * 3)) = some (.string ⟨nm.toArray⟩):=d0
   have c1' : wr.cell? ⟨(a.add (k * 3)).block,(a.add (k * 3)).off + 1,none⟩ = some (.slice A1 ps.length c1):=d1
   have c2' : wr.cell? ⟨(a.add (k * 3)).block,(a.add (k * 3)).off + 2,none⟩ = some (.slice A2 cs.length c2):=d2
   have hbj:=below_alloc wr (.cells #[.string ⟨nm.toArray⟩,.slice A1 ps.length c1,.slice A2 cs.length c2] 64)
   have HJ:=Lib.hid (HI.out.1.alloc HI.out.1.size (.cells #[.string ⟨nm.toArray⟩,.slice A1 ps.length c1,.slice A2 cs.length c2] 64))
   have R0:=(r0.more pm_keeps HI.out.1.size).on pm_keeps hbj
   have R1:=(r1.more fm_keeps HI.out.1.size).on fm_keeps hbj
   have HC2:=Lib.hid (HH.out.2.1 ⟨nm,ps,cs⟩ (.agg #[.string ⟨nm.toArray⟩,.slice A1 ps.length c1,.slice A2 cs.length c2]) (wr.alloc (.cells #[.string ⟨nm.toArray⟩,.slice A1 ps.length c1,.slice A2 cs.length c2] 64)) (List.mem_of_getElem? hi) HJ.out ⟨A1,c1,A2,c2,rfl,l0,l1,l2,R0,R1⟩)
   obtain ⟨okx,hokx⟩ : ∃ b,b = ok ⟨nm,ps,cs⟩:=⟨_,rfl⟩
   have HX:=Lib.hid (And.intro hi (all_take_succ ok es k _ hi))
   rw [← hokx] at HC2 HX
   have HO:=Lib.hid hokx
   clear hokx hi hbj
   go_wp2_with (refine HC2.out.mono ?_;rintro e w3 ⟨rfl,hb⟩;have HB3:=Lib.hid (HJ.out.trans (hb.mono HJ.out.size));clear hb)
   ·rename_i hf
    have hf' : ok ⟨nm,ps,cs⟩ = false:=by rw [← HO.out];simpa using hf
    go_ret
    exact ⟨by rw [all_of_false ok es k _ HX.out.1 hf',Bool.and_false];rfl,HB3.out⟩
   ·rename_i hf
    have hf' : okx = true:=by simpa using hf
    go_roundg (n - (k + 1))
    case measure => omega
    case rel => exact ⟨k + 1,rfl,by omega,by go_num,Lib.hid ⟨HB3.out,by rw [HX.out.2,HI.out.2,hf'];rfl⟩⟩
  ·obtain rfl : k = n:=by omega
   go_wp2
   go_ret
   refine ⟨?_,HI.out.1⟩
   have := HI.out.2
   rw [List.take_of_length_le (by rw [HH.out.2.2];exact Nat.le_refl _)] at this
   rw [this,Bool.and_true,show decide (least ≤ (k : Int)) = true by simp;omega,show decide ((k : Int) ≤ most) = true by simp;omega]
   rfl
theorem vl_lemma (ok : Lm → Bool) (G : Nat) (Fi Ca : Array Value) (hG : ∀ args w,(callFunc G args).run Tryz.prog w = .ok (.enter G args) w) (es : List Lm) (A : Option Addr) (c : Nat) (least most : Int) (w : World) (hn : es.length ≤ maxLen) (hr : RowX LmAt 8 w w.heap.size es A)
 (hC : ∀ x v W,x ∈ es → Below w.heap.size w W → LmVal W x v → Calls Tryz.prog G (Fi.push v ++ Ca) W fun e w' => e = .returned (.bool (ok x)) ∧ Below W.heap.size W w') :
 Calls Tryz.prog 132 #[.slice A es.length c,.int .i64 least,.int .i64 most,.func (.func G) Fi Ca] w fun e w' =>
  e = .returned (.bool (decide (least ≤ es.length) && decide ((es.length : Int) ≤ most) && es.all ok)) ∧ Below w.heap.size w w':=by
 obtain ⟨n,hnn⟩ : ∃ n,n = es.length:=⟨_,rfl⟩
 have HH:=Lib.hid (And.intro hr (And.intro hC hnn))
 have HB0:=Lib.hid (Below.refl w.heap.size w)
 rw [← hnn] at hn ⊢
 clear hr hC hnn
 unfold maxLen at hn
 go_enter Tryz.func132,Tryz.ntmps132
 by_cases hl : (n : Int) < least
 ·go_wp2
  go_ret
  exact ⟨by rw [show decide (least ≤ (n : Int)) = false by simp;omega];rfl,HB0.out⟩
 by_cases hm : (n : Int) > most
 ·go_wp2
  go_ret
  exact ⟨by rw [show decide ((n : Int) ≤ most) = false by simp;omega];simp,HB0.out⟩
 go_wp2
 go_loopg [23] n (fun m j wr => ∃ k : Nat,m = n - k ∧ k ≤ n ∧ j = .int .i64 k ∧ Hid (Below w.heap.size w wr ∧ (es.take k).all ok = true))
 case atStart => exact ⟨0,rfl,Nat.zero_le _,rfl,Lib.hid ⟨HB0.out,rfl⟩⟩
 case round =>
  obtain ⟨k,rfl,hk,rfl,HI⟩:=hrel
  by_cases hlt : k < n
  ·have hki : (k : Int) < n:=by omega
   obtain ⟨⟨nm,ps,⟨p1,a1,q1⟩,⟨p2,a2,q2⟩⟩,hi⟩ : ∃ x,es[k]? = some x:=⟨es[k]'(by rw [← HH.out.2.2];exact hlt),List.getElem?_eq_getElem _⟩
   obtain ⟨a,rfl,hab,hp⟩:=(HH.out.1.stay lm_keeps HI.out.1 (Nat.le_refl _)).at_ hi
   obtain ⟨A1,c1,d,e,h0,l0,l1,r0,r1,r2⟩:=hp
   have c0 : wr.cell? (a.add (k * 8)) = some (.string ⟨nm.toArray⟩):=by have := h0 0 _ rfl;rwa [addr_zeroG] at this
   have c1' : wr.cell? ⟨(a.add (k * 8)).block,(a.add (k * 8)).off + 1,none⟩ = some (.slice A1 ps.length c1):=h0 1 _ rfl
   have c2' : wr.cell? ⟨(a.add (k * 8)).block,(a.add (k * 8)).off + 2,none⟩ = some (.slice d.p p1.length d.np):=h0 2 _ rfl
   have c3' : wr.cell? ⟨(a.add (k * 8)).block,(a.add (k * 8)).off + 3,none⟩ = some (.slice d.a a1.length d.na):=h0 3 _ rfl
   have c4' : wr.cell? ⟨(a.add (k * 8)).block,(a.add (k * 8)).off + 4,none⟩ = some (.slice d.c q1.length d.nc):=h0 4 _ rfl
   have c5' : wr.cell? ⟨(a.add (k * 8)).block,(a.add (k * 8)).off + 5,none⟩ = some (.slice e.p p2.length e.np):=h0 5 _ rfl
   have c6' : wr.cell? ⟨(a.add (k * 8)).block,(a.add (k * 8)).off + 6,none⟩ = some (.slice e.a a2.length e.na):=h0 6 _ rfl
   have c7' : wr.cell? ⟨(a.add (k * 8)).block,(a.add (k * 8)).off + 7,none⟩ = some (.slice e.c q2.length e.nc):=h0 7 _ rfl
   have hbj:=below_alloc wr (.cells #[.string ⟨nm.toArray⟩,.slice A1 ps.length c1,.slice d.p p1.length d.np,.slice d.a a1.length d.na,.slice d.c q1.length d.nc,.slice e.p p2.length e.np,.slice e.a a2.length e.na,.slice e.c q2.length e.nc] 71)
   have HJ:=Lib.hid (HI.out.1.alloc HI.out.1.size (.cells #[.string ⟨nm.toArray⟩,.slice A1 ps.length c1,.slice d.p p1.length d.np,.slice d.a a1.length d.na,.slice d.c q1.length d.nc,.slice e.p p2.length e.np,.slice e.a a2.length e.na,.slice e.c q2.length e.nc] 71))
   have R0:=(r0.more pm_keeps HI.out.1.size).on pm_keeps hbj
   have R1:=(r1.keep (fun _ _ => rfl) HI.out.1.size).on hbj
   have R2:=(r2.keep (fun _ _ => rfl) HI.out.1.size).on hbj
   have HC2:=Lib.hid (HH.out.2.1 ⟨nm,ps,⟨p1,a1,q1⟩,⟨p2,a2,q2⟩⟩ (.agg #[.string ⟨nm.toArray⟩,.slice A1 ps.length c1,.slice d.p p1.length d.np,.slice d.a a1.length d.na,.slice d.c q1.length d.nc,.slice e.p p2.length e.np,.slice e.a a2.length e.na,.slice e.c q2.length e.nc]) (wr.alloc (.cells #[.string ⟨nm.toArray⟩,.slice A1 ps.length c1,.slice d.p p1.length d.np,.slice d.a a1.length d.na,.slice d.c q1.length d.nc,.slice e.p p2.length e.np,.slice e.a a2.length e.na,.slice e.c q2.length e.nc] 71)) (List.mem_of_getElem? hi) HJ.out ⟨A1,c1,d,e,rfl,l0,l1,R0,R1,R2⟩)
   obtain ⟨okx,hokx⟩ : ∃ b,b = ok ⟨nm,ps,⟨p1,a1,q1⟩,⟨p2,a2,q2⟩⟩:=⟨_,rfl⟩
   have HX:=Lib.hid (And.intro hi (all_take_succ ok es k _ hi))
   rw [← hokx] at HC2 HX
   have HO:=Lib.hid hokx
   clear hokx hi hbj
   go_wp2_with (refine HC2.out.mono ?_;rintro e w3 ⟨rfl,hb⟩;have HB3:=Lib.hid (HJ.out.trans (hb.mono HJ.out.size));clear hb)
   ·rename_i hf
    have hf' : ok ⟨nm,ps,⟨p1,a1,q1⟩,⟨p2,a2,q2⟩⟩ = false:=by rw [← HO.out];simpa using hf
    go_ret
    exact ⟨by rw [all_of_false ok es k _ HX.out.1 hf',Bool.and_false];rfl,HB3.out⟩
   ·rename_i hf
    have hf' : okx = true:=by simpa using hf
    go_roundg (n - (k + 1))
    case measure => omega
    case rel => exact ⟨k + 1,rfl,by omega,by go_num,Lib.hid ⟨HB3.out,by rw [HX.out.2,HI.out.2,hf'];rfl⟩⟩
  ·obtain rfl : k = n:=by omega
   go_wp2
   go_ret
   refine ⟨?_,HI.out.1⟩
   have := HI.out.2
   rw [List.take_of_length_le (by rw [HH.out.2.2];exact Nat.le_refl _)] at this
   rw [this,Bool.and_true,show decide (least ≤ (k : Int)) = true by simp;omega,show decide ((k : Int) ≤ most) = true by simp;omega]
   rfl
theorem vl_proc (ok : Pr → Bool) (G : Nat) (Fi Ca : Array Value) (hG : ∀ args w,(callFunc G args).run Tryz.prog w = .ok (.enter G args) w) (es : List Pr) (A : Option Addr) (c : Nat) (least most : Int) (w : World) (hn : es.length ≤ maxLen) (hr : RowX PrAt 12 w w.heap.size es A)
 (hC : ∀ x v W,x ∈ es → Below w.heap.size w W → PrVal W x v → Calls Tryz.prog G (Fi.push v ++ Ca) W fun e w' => e = .returned (.bool (ok x)) ∧ Below W.heap.size W w') :
 Calls Tryz.prog 134 #[.slice A es.length c,.int .i64 least,.int .i64 most,.func (.func G) Fi Ca] w fun e w' =>
  e = .returned (.bool (decide (least ≤ es.length) && decide ((es.length : Int) ≤ most) && es.all ok)) ∧ Below w.heap.size w w':=by
 obtain ⟨n,hnn⟩ : ∃ n,n = es.length:=⟨_,rfl⟩
 have HH:=Lib.hid (And.intro hr (And.intro hC hnn))
 have HB0:=Lib.hid (Below.refl w.heap.size w)
 rw [← hnn] at hn ⊢
 clear hr hC hnn
 unfold maxLen at hn
 go_enter Tryz.func134,Tryz.ntmps134
 by_cases hl : (n : Int) < least
 ·go_wp2
  go_ret
  exact ⟨by rw [show decide (least ≤ (n : Int)) = false by simp;omega];rfl,HB0.out⟩
 by_cases hm : (n : Int) > most
 ·go_wp2
  go_ret
  exact ⟨by rw [show decide ((n : Int) ≤ most) = false by simp;omega];simp,HB0.out⟩
 go_wp2
 go_loopg [23] n (fun m j wr => ∃ k : Nat,m = n - k ∧ k ≤ n ∧ j = .int .i64 k ∧ Hid (Below w.heap.size w wr ∧ (es.take k).all ok = true))
 case atStart => exact ⟨0,rfl,Nat.zero_le _,rfl,Lib.hid ⟨HB0.out,rfl⟩⟩
 case round =>
  obtain ⟨k,rfl,hk,rfl,HI⟩:=hrel
  by_cases hlt : k < n
  ·have hki : (k : Int) < n:=by omega
   obtain ⟨⟨nm,ln,co,ps,lg,rt,rn,ct,rq,es2,lo,bd⟩,hi⟩ : ∃ x,es[k]? = some x:=⟨es[k]'(by rw [← HH.out.2.2];exact hlt),List.getElem?_eq_getElem _⟩
   obtain ⟨a,rfl,hab,hp⟩:=(HH.out.1.stay pr_keeps HI.out.1 (Nat.le_refl _)).at_ hi
   obtain ⟨d,h0,r0⟩:=hp
   have c0 : wr.cell? (a.add (k * 12)) = some (.string ⟨nm.toArray⟩):=by have := h0 0 _ rfl;rwa [addr_zeroG] at this
   have c1' : wr.cell? ⟨(a.add (k * 12)).block,(a.add (k * 12)).off + 1,none⟩ = some (.int .i64 ln):=h0 1 _ rfl
   have c2' : wr.cell? ⟨(a.add (k * 12)).block,(a.add (k * 12)).off + 2,none⟩ = some (.int .i64 co):=h0 2 _ rfl
   have c3' : wr.cell? ⟨(a.add (k * 12)).block,(a.add (k * 12)).off + 3,none⟩ = some (.slice d.p ps.length d.np):=h0 3 _ rfl
   have c4' : wr.cell? ⟨(a.add (k * 12)).block,(a.add (k * 12)).off + 4,none⟩ = some (.slice d.g lg.length d.ng):=h0 4 _ rfl
   have c5' : wr.cell? ⟨(a.add (k * 12)).block,(a.add (k * 12)).off + 5,none⟩ = some (.string ⟨rt.toArray⟩):=h0 5 _ rfl
   have c6' : wr.cell? ⟨(a.add (k * 12)).block,(a.add (k * 12)).off + 6,none⟩ = some (.string ⟨rn.toArray⟩):=h0 6 _ rfl
   have c7' : wr.cell? ⟨(a.add (k * 12)).block,(a.add (k * 12)).off + 7,none⟩ = some (.bool ct):=h0 7 _ rfl
   have c8' : wr.cell? ⟨(a.add (k * 12)).block,(a.add (k * 12)).off + 8,none⟩ = some (.slice d.r rq.length d.nr):=h0 8 _ rfl
   have c9' : wr.cell? ⟨(a.add (k * 12)).block,(a.add (k * 12)).off + 9,none⟩ = some (.slice d.e es2.length d.ne):=h0 9 _ rfl
   have c10' : wr.cell? ⟨(a.add (k * 12)).block,(a.add (k * 12)).off + 10,none⟩ = some (.slice d.l lo.length d.nl):=h0 10 _ rfl
   have c11' : wr.cell? ⟨(a.add (k * 12)).block,(a.add (k * 12)).off + 11,none⟩ = some (.slice d.b bd.length d.nb):=h0 11 _ rfl
   have hbj:=below_alloc wr (.cells #[.string ⟨nm.toArray⟩,.int .i64 ln,.int .i64 co,.slice d.p ps.length d.np,.slice d.g lg.length d.ng,.string ⟨rt.toArray⟩,.string ⟨rn.toArray⟩,.bool ct,.slice d.r rq.length d.nr,.slice d.e es2.length d.ne,.slice d.l lo.length d.nl,.slice d.b bd.length d.nb] 46)
   have HJ:=Lib.hid (HI.out.1.alloc HI.out.1.size (.cells #[.string ⟨nm.toArray⟩,.int .i64 ln,.int .i64 co,.slice d.p ps.length d.np,.slice d.g lg.length d.ng,.string ⟨rt.toArray⟩,.string ⟨rn.toArray⟩,.bool ct,.slice d.r rq.length d.nr,.slice d.e es2.length d.ne,.slice d.l lo.length d.nl,.slice d.b bd.length d.nb] 46))
   have R0:=(r0.keep (fun _ _ => rfl) HI.out.1.size).on hbj
   have HC2:=Lib.hid (HH.out.2.1 ⟨nm,ln,co,ps,lg,rt,rn,ct,rq,es2,lo,bd⟩ (.agg #[.string ⟨nm.toArray⟩,.int .i64 ln,.int .i64 co,.slice d.p ps.length d.np,.slice d.g lg.length d.ng,.string ⟨rt.toArray⟩,.string ⟨rn.toArray⟩,.bool ct,.slice d.r rq.length d.nr,.slice d.e es2.length d.ne,.slice d.l lo.length d.nl,.slice d.b bd.length d.nb]) (wr.alloc (.cells #[.string ⟨nm.toArray⟩,.int .i64 ln,.int .i64 co,.slice d.p ps.length d.np,.slice d.g lg.length d.ng,.string ⟨rt.toArray⟩,.string ⟨rn.toArray⟩,.bool ct,.slice d.r rq.length d.nr,.slice d.e es2.length d.ne,.slice d.l lo.length d.nl,.slice d.b bd.length d.nb] 46)) (List.mem_of_getElem? hi) HJ.out ⟨d,rfl,R0⟩)
   obtain ⟨okx,hokx⟩ : ∃ b,b = ok ⟨nm,ln,co,ps,lg,rt,rn,ct,rq,es2,lo,bd⟩:=⟨_,rfl⟩
   have HX:=Lib.hid (And.intro hi (all_take_succ ok es k _ hi))
   rw [← hokx] at HC2 HX
   have HO:=Lib.hid hokx
   clear hokx hi hbj
   go_wp2_with (refine HC2.out.mono ?_;rintro e w3 ⟨rfl,hb⟩;have HB3:=Lib.hid (HJ.out.trans (hb.mono HJ.out.size));clear hb)
   ·rename_i hf
    have hf' : ok ⟨nm,ln,co,ps,lg,rt,rn,ct,rq,es2,lo,bd⟩ = false:=by rw [← HO.out];simpa using hf
    go_ret
    exact ⟨by rw [all_of_false ok es k _ HX.out.1 hf',Bool.and_false];rfl,HB3.out⟩
   ·rename_i hf
    have hf' : okx = true:=by simpa using hf
    go_roundg (n - (k + 1))
    case measure => omega
    case rel => exact ⟨k + 1,rfl,by omega,by go_num,Lib.hid ⟨HB3.out,by rw [HX.out.2,HI.out.2,hf'];rfl⟩⟩
  ·obtain rfl : k = n:=by omega
   go_wp2
   go_ret
   refine ⟨?_,HI.out.1⟩
   have := HI.out.2
   rw [List.take_of_length_le (by rw [HH.out.2.2];exact Nat.le_refl _)] at this
   rw [this,Bool.and_true,show decide (least ≤ (k : Int)) = true by simp;omega,show decide ((k : Int) ≤ most) = true by simp;omega]
   rfl
end Go.Proofs.YtojjfdegkooknaaGreatDoor
