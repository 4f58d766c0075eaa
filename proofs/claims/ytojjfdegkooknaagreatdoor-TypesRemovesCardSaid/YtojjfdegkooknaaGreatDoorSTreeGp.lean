import Derived.Test.YtojjfdegkooknaaGreatDoorSTreeXv
import Derived.Test.YtojjfdegkooknaaGreatDoorSTreeK
import Derived.Test.YtojjfdegkooknaaGreatDoorSTreeKw
set_option linter.unusedVariables false
set_option linter.unusedSimpArgs false
namespace Go.Proofs.YtojjfdegkooknaaGreatDoor
section
set_option maxRecDepth 100000
set_option maxHeartbeats 2000000
open Go.RowKit
def tyB (s : List UInt8) : Bool:=(s == [105,110,116]) || zu s
theorem qpN (s : List UInt8) (w : World) (hs : s.length <= maxLen) : Calls Tryz.prog 139 #[.string ⟨s.toArray⟩] w fun e w' => e = .returned (.bool (tyB s)) /\ Below w.heap.size w w':=by
 have HN : Hid (∀ w,Calls Tryz.prog 125 #[.string ⟨s.toArray⟩] w fun e w' => e = .returned (.bool (zu s)) /\ Below w.heap.size w w'):=hZ (fun w => vo s w hs)
 have HB:=hZ (Below.refl w.heap.size w)
 unfold tyB
 generalize zu s = nl at *
 cases h1 : (s == [105,110,116]) with
 | true =>
   go_enter Tryz.func139,Tryz.ntmps139
   go_wp2
   go_ret
   exact ⟨rfl,HB.out⟩
 | false =>
   go_enter Tryz.func139,Tryz.ntmps139
   go_wp2_with (go_at_call 125;refine (HN.out _).mono ?_;rintro e w2 ⟨rfl,hb⟩)
   go_ret
   exact ⟨rfl,hb⟩
abbrev qkb (t nm : ByteArray) : Value:=.agg #[.string t,.string nm]
abbrev qfN (t nm : ByteArray) : Obj:=.cells #[.string t,.string nm] 42
theorem qi5 (fv : Nat) (var : List UInt8 -> Bool) (hv : VarOk fv var) (nu ex : Int) (t nm : List UInt8) (w : World) (ht : t.length <= maxLen) (hn : nm.length <= maxLen) :
 Calls Tryz.prog 107 #[qp fv nu ex,qkb ⟨t.toArray⟩ ⟨nm.toArray⟩] w fun e w' => e = .returned (.bool (tyB t && var nm)) /\ Below w.heap.size w w':=by
 have HT : Hid (∀ w,Calls Tryz.prog 139 #[.string ⟨t.toArray⟩] w fun e w' => e = .returned (.bool (tyB t)) /\ Below w.heap.size w w'):=hZ (fun w => qpN t w ht)
 have HV : Hid (∀ w,Calls Tryz.prog fv #[.string ⟨nm.toArray⟩] w fun e w' => e = .returned (.bool (var nm)) /\ Below w.heap.size w w'):=hZ (fun w => hv.says nm w hn)
 have hfv:=hv.enters
 obtain ⟨W1,qh⟩ : ∃ W1,W1 = (w.alloc (qv fv nu ex)).alloc (qfN ⟨t.toArray⟩ ⟨nm.toArray⟩):=⟨_,rfl⟩
 have HB : Hid (Below w.heap.size w W1):=hZ (by rw [qh];exact (qd w _).chain (qd _ _))
 have q1:=qr (o:=qfN ⟨t.toArray⟩ ⟨nm.toArray⟩) (qe w (qv fv nu ex))
 have q2:=qe (w.alloc (qv fv nu ex)) (qfN ⟨t.toArray⟩ ⟨nm.toArray⟩)
 rw [qj] at q2
 rw [<- qh] at q1 q2
 have HQ:=hZ (aZ q1 q2)
 generalize tyB t = ty at *
 generalize var nm = vn at *
 clear q1 q2 hv ht hn
 cases ty with
 | false =>
   go_enter Tryz.func107,Tryz.ntmps107
   go_wp2_with (go_at_call 139;rw [<- qh];refine (HT.out _).mono ?_;rintro e w2 ⟨rfl,hb⟩)
   go_ret
   exact ⟨rfl,HB.out.chain hb⟩
 | true =>
   go_enter Tryz.func107,Tryz.ntmps107
   go_wp2_with (first
    | (go_at_call 139;rw [<- qh];refine (HT.out _).mono ?_;rintro e w2 ⟨rfl,hb⟩;have zq:=hZ (HB.out.chain hb);have g1:=qc (qg hb HQ.out.1) 0 (v:=.func (.func fv) #[] #[]) rfl;have g2:=qc (qg hb HQ.out.2) 1 (v:=.string ⟨nm.toArray⟩) rfl;clear hb)
    | (with_reducible refine (HV.out _).mono ?_;rintro e w3 ⟨rfl,qt⟩;have qO:=hZ (zq.out.chain qt);clear qt))
   go_ret
   exact ⟨rfl,qO.out⟩
end
section
set_option maxRecDepth 100000
set_option maxHeartbeats 2000000
open Go.RowKit
abbrev qrN (k ak an : Int) (sa : ByteArray) (la : Value) (bk bn : Int) (sb : ByteArray) (lb : Value) : Value:=.agg #[.int .i64 k,.int .i64 ak,.int .i64 an,.string sa,la,.int .i64 bk,.int .i64 bn,.string sb,lb]
abbrev qjL (k ak an : Int) (sa : ByteArray) (la : Value) (bk bn : Int) (sb : ByteArray) (lb : Value) : Obj:=.cells #[.int .i64 k,.int .i64 ak,.int .i64 an,.string sa,la,.int .i64 bk,.int .i64 bn,.string sb,lb] 148
theorem qq3 {W : World} {be : Nat} {k ak an : Int} {sa : ByteArray} {la : Value} {bk bn : Int} {sb : ByteArray} {lb : Value} (h : W.heap[be]? = some (qjL k ak an sa la bk bn sb lb)) :
 W.cell? ⟨be,1,none⟩ = some (.int .i64 ak) /\ W.cell? ⟨be,2,none⟩ = some (.int .i64 an) /\ W.cell? ⟨be,3,none⟩ = some (.string sa) /\ W.cell? ⟨be,4,none⟩ = some la /\ W.cell? ⟨be,5,none⟩ = some (.int .i64 bk) /\ W.cell? ⟨be,6,none⟩ = some (.int .i64 bn) /\ W.cell? ⟨be,7,none⟩ = some (.string sb) /\ W.cell? ⟨be,8,none⟩ = some lb :=
 ⟨qc h 1 rfl,qc h 2 rfl,qc h 3 rfl,qc h 4 rfl,qc h 5 rfl,qc h 6 rfl,qc h 7 rfl,qc h 8 rfl⟩
theorem vQ {W : World} {be fv : Nat} {nu ex : Int} (h : W.heap[be]? = some (qv fv nu ex)) :
 W.cell? ⟨be,0,none⟩ = some (.func (.func fv) #[] #[]) /\ W.cell? ⟨be,1,none⟩ = some (.int .i64 nu) /\ W.cell? ⟨be,2,none⟩ = some (.int .i64 ex) :=
 ⟨qc h 0 rfl,qc h 1 rfl,qc h 2 rfl⟩
theorem qq7 (fv : Nat) (var : List UInt8 -> Bool) (hv : VarOk fv var) (nu ex : Int) (h0 : 0 <= nu) (h1 : nu <= 4611686018427387904) (k ak an : Int) (sa : List UInt8) (al : List Ex) (bk bn : Int) (sb : List UInt8) (bl : List Ex) (Aa : Option Addr) (ca : Nat) (Ab : Option Addr) (cb : Nat) (w : World)
 (ra : ExRow w w.heap.size al Aa) (rb : ExRow w w.heap.size bl Ab) (b1 : sa.length <= maxLen) (b2 : al.length <= maxLen) (b3 : sb.length <= maxLen) (b4 : bl.length <= maxLen) :
 Calls Tryz.prog 110 #[qp fv nu ex,qrN k ak an ⟨sa.toArray⟩ (.slice Aa al.length ca) bk bn ⟨sb.toArray⟩ (.slice Ab bl.length cb)] w fun e w' => e = .returned (.bool ((decide (1 <= k) && decide (k <= 4)) && vE var nu 30 (.mk ak an sa al) && vE var nu 30 (.mk bk bn sb bl))) /\ Below w.heap.size w w':=by
 have HCM : Hid (∀ w,Calls Tryz.prog 140 #[.int .i64 k] w fun e w' => e = .returned (.bool (decide (1 <= k) && decide (k <= 4))) /\ w = w'):=hZ (qeP k)
 have HA : Hid (∀ W3,Below w.heap.size w W3 -> Calls Tryz.prog 141 #[qp fv nu ex,zG ak an ⟨sa.toArray⟩ (.slice Aa al.length ca)] W3 fun e w' => e = .returned (.bool (vE var nu 30 (.mk ak an sa al))) /\ Below W3.heap.size W3 w'):=hZ (fun W3 hb => qbo fv var hv nu ex h0 h1 ak an sa al Aa ca W3 ((ra.stay hb (Nat.le_refl _)).more hb.size) b1 b2)
 have HE : Hid (∀ W3,Below w.heap.size w W3 -> Calls Tryz.prog 141 #[qp fv nu ex,zG bk bn ⟨sb.toArray⟩ (.slice Ab bl.length cb)] W3 fun e w' => e = .returned (.bool (vE var nu 30 (.mk bk bn sb bl))) /\ Below W3.heap.size W3 w'):=hZ (fun W3 hb => qbo fv var hv nu ex h0 h1 bk bn sb bl Ab cb W3 ((rb.stay hb (Nat.le_refl _)).more hb.size) b3 b4)
 obtain ⟨W1,qh⟩ : ∃ W1,W1 = (w.alloc (qv fv nu ex)).alloc (qjL k ak an ⟨sa.toArray⟩ (.slice Aa al.length ca) bk bn ⟨sb.toArray⟩ (.slice Ab bl.length cb)):=⟨_,rfl⟩
 have HB : Hid (Below w.heap.size w W1):=hZ (by rw [qh];exact (qd w _).chain (qd _ _))
 have q1:=qr (o:=qjL k ak an ⟨sa.toArray⟩ (.slice Aa al.length ca) bk bn ⟨sb.toArray⟩ (.slice Ab bl.length cb)) (qe w (qv fv nu ex))
 have q2:=qe (w.alloc (qv fv nu ex)) (qjL k ak an ⟨sa.toArray⟩ (.slice Aa al.length ca) bk bn ⟨sb.toArray⟩ (.slice Ab bl.length cb))
 rw [qj] at q2
 rw [<- qh] at q1 q2
 have HQ:=hZ (aZ q1 q2)
 generalize (decide (1 <= k) && decide (k <= 4)) = cm at *
 generalize vE var nu 30 (.mk ak an sa al) = ea at *
 generalize vE var nu 30 (.mk bk bn sb bl) = eb at *
 unfold maxLen at b1 b2 b3 b4
 clear q1 q2 hv ra rb
 cases cm with
 | false =>
   go_enter Tryz.func110,Tryz.ntmps110
   go_wp2_with (go_at_call 140;rw [<- qh];clear qh;refine (HCM.out _).mono ?_;rintro e w2 ⟨rfl,rfl⟩)
   go_ret
   exact ⟨rfl,HB.out⟩
 | true =>
   cases ea with
   | false =>
     go_enter Tryz.func110,Tryz.ntmps110
     go_wp2_with (first
      | (go_at_call 140;rw [<- qh];clear qh;refine (HCM.out _).mono ?_;rintro e w2 ⟨rfl,rfl⟩;obtain ⟨g0,g1,g2⟩:=vQ HQ.out.1;obtain ⟨y1,y2,y3,y4,y5,y6,y7,y8⟩:=qq3 HQ.out.2)
      | (go_at_call 141;refine (HA.out _ HB.out).mono ?_;rintro e w3 ⟨rfl,qt⟩;have qO:=hZ (HB.out.chain qt);clear qt))
     go_ret
     exact ⟨rfl,qO.out⟩
   | true =>
     go_enter Tryz.func110,Tryz.ntmps110
     go_wp2_with (first
      | (go_at_call 140;rw [<- qh];clear qh;refine (HCM.out _).mono ?_;rintro e w2 ⟨rfl,rfl⟩;obtain ⟨g0,g1,g2⟩:=vQ HQ.out.1;obtain ⟨y1,y2,y3,y4,y5,y6,y7,y8⟩:=qq3 HQ.out.2)
      | (go_at_call 141;refine (HA.out _ HB.out).mono ?_;rintro e w3 ⟨rfl,qt⟩;have qO:=hZ (HB.out.chain qt);obtain ⟨p0,p1,p2⟩:=vQ (qg qt HQ.out.1);obtain ⟨z1,z2,z3,z4,z5,z6,z7,z8⟩:=qq3 (qg qt HQ.out.2);clear qt)
      | (go_at_call 141;refine (HE.out _ qO.out).mono ?_;rintro e w4 ⟨rfl,xp⟩;have HB4:=hZ (qO.out.chain xp);clear xp))
     go_ret
     exact ⟨rfl,HB4.out⟩
end
section
set_option maxRecDepth 100000
set_option maxHeartbeats 2000000
open Go.RowKit
end
section
set_option maxRecDepth 100000
set_option maxHeartbeats 2000000
open Go.RowKit
def vP (var : List UInt8 -> Bool) (x : Pm) : Bool:=tyB x.t && var x.nm
def vAt (var : List UInt8 -> Bool) (nu : Int) (x : At) : Bool:=(decide (1 <= x.k) && decide (x.k <= 4)) && vE var nu 30 x.a && vE var nu 30 x.b
def vCl (var : List UInt8 -> Bool) (nu : Int) (x : Cl) : Bool :=
 zu x.nm && (if x.k = 1 then decide ((2 : Int) <= x.l.length) && decide ((x.l.length : Int) <= 9) && x.l.all (vE var nu 30) else if x.k = 2 then decide ((1 : Int) <= x.l.length) && decide ((x.l.length : Int) <= 8) && x.l.all (vE var nu 30) else false)
def vF (var : List UInt8 -> Bool) (nu ex : Int) (x : Fm) : Bool :=
 decide ((x.ps.length : Int) <= ex) && x.ps.all (vP var) && decide ((x.ps.map (·.nm)).Nodup) && decide ((x.ats.length : Int) <= 100) && x.ats.all (vAt var nu) && decide ((x.cls.length : Int) <= 100) && x.cls.all (vCl var nu)
end
section
set_option maxRecDepth 100000
set_option maxHeartbeats 4000000
open Go.RowKit
theorem qpD (ok : Pm -> Bool) (G : Nat) (Fi Ca : Array Value) (hG : ∀ args w,(callFunc G args).run Tryz.prog w = .ok (.enter G args) w) (es : List Pm) (A : Option Addr) (c : Nat) (least most : Int) (w : World) (hn : es.length <= maxLen) (hr : RowX qgg 2 w w.heap.size es A)
 (hC : ∀ t nm W,(⟨t,nm⟩ : Pm) ∈ es -> Below w.heap.size w W -> t.length <= maxLen -> nm.length <= maxLen ->
   Calls Tryz.prog G (Fi.push (qkb ⟨t.toArray⟩ ⟨nm.toArray⟩) ++ Ca) W fun e w' => e = .returned (.bool (ok ⟨t,nm⟩)) /\ Below W.heap.size W w') :
 Calls Tryz.prog 106 #[.slice A es.length c,.int .i64 least,.int .i64 most,.func (.func G) Fi Ca] w fun e w' =>
  e = .returned (.bool (decide (least <= es.length) && decide ((es.length : Int) <= most) && es.all ok)) /\ Below w.heap.size w w':=by
 obtain ⟨n,zS⟩ : ∃ n,n = es.length:=⟨_,rfl⟩
 have HH:=hZ (aZ hr (aZ hC zS))
 have zo:=hZ (Below.refl w.heap.size w)
 rw [<- zS] at hn ⊢
 clear hr hC zS
 unfold maxLen at hn
 go_enter Tryz.func106,Tryz.ntmps106
 by_cases hl : (n : Int) < least
 ·go_wp2
  go_ret
  exact ⟨by rw [show decide (least <= (n : Int)) = false by simp;omega];rfl,zo.out⟩
 by_cases hm : (n : Int) > most
 ·go_wp2
  go_ret
  exact ⟨by rw [show decide ((n : Int) <= most) = false by simp;omega];simp,zo.out⟩
 go_wp2
 go_loopg [23] n (fun m j wr => ∃ k : Nat,m = n - k /\ k <= n /\ j = .int .i64 k /\ Hid (Below w.heap.size w wr /\ (es.take k).all ok = true))
 case atStart => exact ⟨0,rfl,Nat.zero_le _,rfl,hZ ⟨zo.out,rfl⟩⟩
 case round =>
  obtain ⟨k,rfl,hk,rfl,HI⟩:=hrel
  by_cases qB : k < n
  ·have jD : (k : Int) < n:=by omega
   obtain ⟨⟨t,nm⟩,hi⟩ : ∃ x,es[k]? = some x:=⟨es[k]'(by rw [<- HH.out.2.2];exact qB),List.getElem?_eq_getElem _⟩
   obtain ⟨a,rfl,qx,hp⟩:=(HH.out.1.stay zj HI.out.1 (Nat.le_refl _)).at_ hi
   obtain ⟨d0,d1,ht,yS⟩:=hp
   have c0 : wr.cell? (a.add (k * 2)) = some (.string ⟨t.toArray⟩):=d0
   have c1 : wr.cell? ⟨(a.add (k * 2)).block,(a.add (k * 2)).off + 1,none⟩ = some (.string ⟨nm.toArray⟩):=d1
   have HJ:=hZ (HI.out.1.alloc HI.out.1.size (.cells #[.string ⟨t.toArray⟩,.string ⟨nm.toArray⟩] 42))
   have yp:=hZ (HH.out.2.1 t nm (wr.alloc (.cells #[.string ⟨t.toArray⟩,.string ⟨nm.toArray⟩] 42)) (List.mem_of_getElem? hi) HJ.out ht yS)
   obtain ⟨okx,zV⟩ : ∃ b,b = ok ⟨t,nm⟩:=⟨_,rfl⟩
   have HX:=hZ (aZ hi (zB ok es k _ hi))
   rw [<- zV] at yp HX
   have HO:=hZ zV
   clear zV hi d0 d1 ht yS
   go_wp2_with (refine yp.out.mono ?_;rintro e w3 ⟨rfl,hb⟩;have qO:=hZ (HJ.out.trans (hb.mono HJ.out.size));clear hb)
   ·rename_i hf
    have hf' : ok ⟨t,nm⟩ = false:=by rw [<- HO.out];simpa using hf
    go_ret
    exact ⟨by rw [yy ok es k _ HX.out.1 hf',Bool.and_false];rfl,qO.out⟩
   ·rename_i hf
    have hf' : okx = true:=by simpa using hf
    go_roundg (n - (k + 1))
    case measure => omega
    case rel => exact ⟨k + 1,rfl,by omega,by go_num,hZ ⟨qO.out,by rw [HX.out.2,HI.out.2,hf'];rfl⟩⟩
  ·obtain rfl : k = n:=by omega
   go_wp2
   go_ret
   refine ⟨?_,HI.out.1⟩
   have := HI.out.2
   rw [List.take_of_length_le (by rw [HH.out.2.2];exact Nat.le_refl _)] at this
   rw [this,Bool.and_true,show decide (least <= (k : Int)) = true by simp;omega,show decide ((k : Int) <= most) = true by simp;omega]
   rfl
end
section
set_option maxRecDepth 100000
set_option maxHeartbeats 4000000
open Go.RowKit
theorem qsb (ok : At -> Bool) (G : Nat) (Fi Ca : Array Value) (hG : ∀ args w,(callFunc G args).run Tryz.prog w = .ok (.enter G args) w) (es : List At) (A : Option Addr) (c : Nat) (least most : Int) (w : World) (hn : es.length <= maxLen) (hr : RowX qiN 9 w w.heap.size es A)
 (hC : ∀ k ak an sa al bk bn sb bl Aa ca Ab cb W,(⟨k,.mk ak an sa al,.mk bk bn sb bl⟩ : At) ∈ es -> Below w.heap.size w W -> ExRow W W.heap.size al Aa -> ExRow W W.heap.size bl Ab -> sa.length <= maxLen -> al.length <= maxLen -> sb.length <= maxLen -> bl.length <= maxLen ->
   Calls Tryz.prog G (Fi.push (qrN k ak an ⟨sa.toArray⟩ (.slice Aa al.length ca) bk bn ⟨sb.toArray⟩ (.slice Ab bl.length cb)) ++ Ca) W fun e w' => e = .returned (.bool (ok ⟨k,.mk ak an sa al,.mk bk bn sb bl⟩)) /\ Below W.heap.size W w') :
 Calls Tryz.prog 109 #[.slice A es.length c,.int .i64 least,.int .i64 most,.func (.func G) Fi Ca] w fun e w' =>
  e = .returned (.bool (decide (least <= es.length) && decide ((es.length : Int) <= most) && es.all ok)) /\ Below w.heap.size w w':=by
 obtain ⟨n,zS⟩ : ∃ n,n = es.length:=⟨_,rfl⟩
 have HH:=hZ (aZ hr (aZ hC zS))
 have zo:=hZ (Below.refl w.heap.size w)
 rw [<- zS] at hn ⊢
 clear hr hC zS
 unfold maxLen at hn
 go_enter Tryz.func109,Tryz.ntmps109
 by_cases hl : (n : Int) < least
 ·go_wp2
  go_ret
  exact ⟨by rw [show decide (least <= (n : Int)) = false by simp;omega];rfl,zo.out⟩
 by_cases hm : (n : Int) > most
 ·go_wp2
  go_ret
  exact ⟨by rw [show decide ((n : Int) <= most) = false by simp;omega];simp,zo.out⟩
 go_wp2
 go_loopg [23] n (fun m j wr => ∃ k : Nat,m = n - k /\ k <= n /\ j = .int .i64 k /\ Hid (Below w.heap.size w wr /\ (es.take k).all ok = true))
 case atStart => exact ⟨0,rfl,Nat.zero_le _,rfl,hZ ⟨zo.out,rfl⟩⟩
 case round =>
  obtain ⟨k,rfl,hk,rfl,HI⟩:=hrel
  by_cases qB : k < n
  ·have jD : (k : Int) < n:=by omega
   obtain ⟨⟨k0,xa,xb⟩,hi⟩ : ∃ x,es[k]? = some x:=⟨es[k]'(by rw [<- HH.out.2.2];exact qB),List.getElem?_eq_getElem _⟩
   obtain ⟨a,rfl,qx,hp⟩:=(HH.out.1.stay jd HI.out.1 (Nat.le_refl _)).at_ hi
   obtain ⟨ak,an,sa,al,bk,bn,sb,bl,Aa,ca,Ab,cb,rfl,rfl,hc,⟨b1,b2,b3,b4⟩,ra,rb⟩:=hp
   simp only at hc
   have c0 : wr.cell? (a.add (k * 9)) = some (.int .i64 k0):=hc.c0
   have c1 : wr.cell? ⟨(a.add (k * 9)).block,(a.add (k * 9)).off + 1,none⟩ = some (.int .i64 ak):=hc.c1
   have c2 : wr.cell? ⟨(a.add (k * 9)).block,(a.add (k * 9)).off + 2,none⟩ = some (.int .i64 an):=hc.c2
   have c3 : wr.cell? ⟨(a.add (k * 9)).block,(a.add (k * 9)).off + 3,none⟩ = some (.string ⟨sa.toArray⟩):=hc.c3
   have c4 : wr.cell? ⟨(a.add (k * 9)).block,(a.add (k * 9)).off + 4,none⟩ = some (.slice Aa al.length ca):=hc.c4
   have c5 : wr.cell? ⟨(a.add (k * 9)).block,(a.add (k * 9)).off + 5,none⟩ = some (.int .i64 bk):=hc.c5
   have c6 : wr.cell? ⟨(a.add (k * 9)).block,(a.add (k * 9)).off + 6,none⟩ = some (.int .i64 bn):=hc.c6
   have c7 : wr.cell? ⟨(a.add (k * 9)).block,(a.add (k * 9)).off + 7,none⟩ = some (.string ⟨sb.toArray⟩):=hc.c7
   have c8 : wr.cell? ⟨(a.add (k * 9)).block,(a.add (k * 9)).off + 8,none⟩ = some (.slice Ab bl.length cb):=hc.c8
   have HJ:=hZ (HI.out.1.alloc HI.out.1.size (.cells #[.int .i64 k0,.int .i64 ak,.int .i64 an,.string ⟨sa.toArray⟩,.slice Aa al.length ca,.int .i64 bk,.int .i64 bn,.string ⟨sb.toArray⟩,.slice Ab bl.length cb] 148))
   have yp:=hZ (HH.out.2.1 k0 ak an sa al bk bn sb bl Aa ca Ab cb (wr.alloc (.cells #[.int .i64 k0,.int .i64 ak,.int .i64 an,.string ⟨sa.toArray⟩,.slice Aa al.length ca,.int .i64 bk,.int .i64 bn,.string ⟨sb.toArray⟩,.slice Ab bl.length cb] 148)) (List.mem_of_getElem? hi) HJ.out ((ra.stay (qd wr _) HI.out.1.size).more HJ.out.size) ((rb.stay (qd wr _) HI.out.1.size).more HJ.out.size) b1 b2 b3 b4)
   obtain ⟨okx,zV⟩ : ∃ b,b = ok ⟨k0,.mk ak an sa al,.mk bk bn sb bl⟩:=⟨_,rfl⟩
   have HX:=hZ (aZ hi (zB ok es k _ hi))
   rw [<- zV] at yp HX
   have HO:=hZ zV
   clear zV hi hc ra rb b1 b2 b3 b4
   go_wp2_with (refine yp.out.mono ?_;rintro e w3 ⟨rfl,hb⟩;have qO:=hZ (HJ.out.trans (hb.mono HJ.out.size));clear hb)
   ·rename_i hf
    have hf' : ok ⟨k0,.mk ak an sa al,.mk bk bn sb bl⟩ = false:=by rw [<- HO.out];simpa using hf
    go_ret
    exact ⟨by rw [yy ok es k _ HX.out.1 hf',Bool.and_false];rfl,qO.out⟩
   ·rename_i hf
    have hf' : okx = true:=by simpa using hf
    go_roundg (n - (k + 1))
    case measure => omega
    case rel => exact ⟨k + 1,rfl,by omega,by go_num,hZ ⟨qO.out,by rw [HX.out.2,HI.out.2,hf'];rfl⟩⟩
  ·obtain rfl : k = n:=by omega
   go_wp2
   go_ret
   refine ⟨?_,HI.out.1⟩
   have := HI.out.2
   rw [List.take_of_length_le (by rw [HH.out.2.2];exact Nat.le_refl _)] at this
   rw [this,Bool.and_true,show decide (least <= (k : Int)) = true by simp;omega,show decide ((k : Int) <= most) = true by simp;omega]
   rfl
end
section
set_option maxRecDepth 100000
set_option maxHeartbeats 4000000
open Go.RowKit
theorem qr9 (ok : Cl -> Bool) (G : Nat) (Fi Ca : Array Value) (hG : ∀ args w,(callFunc G args).run Tryz.prog w = .ok (.enter G args) w) (es : List Cl) (A : Option Addr) (c : Nat) (least most : Int) (w : World) (hn : es.length <= maxLen) (hr : RowX qiM 3 w w.heap.size es A)
 (hC : ∀ k nm l A c W,(⟨k,nm,l⟩ : Cl) ∈ es -> Below w.heap.size w W -> ExRow W W.heap.size l A -> nm.length <= maxLen -> l.length <= maxLen ->
   Calls Tryz.prog G (Fi.push (qgz k ⟨nm.toArray⟩ (.slice A l.length c)) ++ Ca) W fun e w' => e = .returned (.bool (ok ⟨k,nm,l⟩)) /\ Below W.heap.size W w') :
 Calls Tryz.prog 111 #[.slice A es.length c,.int .i64 least,.int .i64 most,.func (.func G) Fi Ca] w fun e w' =>
  e = .returned (.bool (decide (least <= es.length) && decide ((es.length : Int) <= most) && es.all ok)) /\ Below w.heap.size w w':=by
 obtain ⟨n,zS⟩ : ∃ n,n = es.length:=⟨_,rfl⟩
 have HH:=hZ (aZ hr (aZ hC zS))
 have zo:=hZ (Below.refl w.heap.size w)
 rw [<- zS] at hn ⊢
 clear hr hC zS
 unfold maxLen at hn
 go_enter Tryz.func111,Tryz.ntmps111
 by_cases hl : (n : Int) < least
 ·go_wp2
  go_ret
  exact ⟨by rw [show decide (least <= (n : Int)) = false by simp;omega];rfl,zo.out⟩
 by_cases hm : (n : Int) > most
 ·go_wp2
  go_ret
  exact ⟨by rw [show decide ((n : Int) <= most) = false by simp;omega];simp,zo.out⟩
 go_wp2
 go_loopg [23] n (fun m j wr => ∃ k : Nat,m = n - k /\ k <= n /\ j = .int .i64 k /\ Hid (Below w.heap.size w wr /\ (es.take k).all ok = true))
 case atStart => exact ⟨0,rfl,Nat.zero_le _,rfl,hZ ⟨zo.out,rfl⟩⟩
 case round =>
  obtain ⟨k,rfl,hk,rfl,HI⟩:=hrel
  by_cases qB : k < n
  ·have jD : (k : Int) < n:=by omega
   obtain ⟨⟨k0,nm,l⟩,hi⟩ : ∃ x,es[k]? = some x:=⟨es[k]'(by rw [<- HH.out.2.2];exact qB),List.getElem?_eq_getElem _⟩
   obtain ⟨a,rfl,qx,hp⟩:=(HH.out.1.stay jc HI.out.1 (Nat.le_refl _)).at_ hi
   obtain ⟨Al,cl,d0,d1,d2,yS,hll,rl,qbj⟩:=hp
   simp only at d0 d1 d2 yS hll rl
   have c0 : wr.cell? (a.add (k * 3)) = some (.int .i64 k0):=d0
   have c1 : wr.cell? ⟨(a.add (k * 3)).block,(a.add (k * 3)).off + 1,none⟩ = some (.string ⟨nm.toArray⟩):=d1
   have c2 : wr.cell? ⟨(a.add (k * 3)).block,(a.add (k * 3)).off + 2,none⟩ = some (.slice Al l.length cl):=d2
   have HJ:=hZ (HI.out.1.alloc HI.out.1.size (.cells #[.int .i64 k0,.string ⟨nm.toArray⟩,.slice Al l.length cl] 97))
   have yp:=hZ (HH.out.2.1 k0 nm l Al cl (wr.alloc (.cells #[.int .i64 k0,.string ⟨nm.toArray⟩,.slice Al l.length cl] 97)) (List.mem_of_getElem? hi) HJ.out ((rl.stay (qd wr _) HI.out.1.size).more HJ.out.size) yS hll)
   obtain ⟨okx,zV⟩ : ∃ b,b = ok ⟨k0,nm,l⟩:=⟨_,rfl⟩
   have HX:=hZ (aZ hi (zB ok es k _ hi))
   rw [<- zV] at yp HX
   have HO:=hZ zV
   clear zV hi d0 d1 d2 yS hll rl
   go_wp2_with (refine yp.out.mono ?_;rintro e w3 ⟨rfl,hb⟩;have qO:=hZ (HJ.out.trans (hb.mono HJ.out.size));clear hb)
   ·rename_i hf
    have hf' : ok ⟨k0,nm,l⟩ = false:=by rw [<- HO.out];simpa using hf
    go_ret
    exact ⟨by rw [yy ok es k _ HX.out.1 hf',Bool.and_false];rfl,qO.out⟩
   ·rename_i hf
    have hf' : okx = true:=by simpa using hf
    go_roundg (n - (k + 1))
    case measure => omega
    case rel => exact ⟨k + 1,rfl,by omega,by go_num,hZ ⟨qO.out,by rw [HX.out.2,HI.out.2,hf'];rfl⟩⟩
  ·obtain rfl : k = n:=by omega
   go_wp2
   go_ret
   refine ⟨?_,HI.out.1⟩
   have := HI.out.2
   rw [List.take_of_length_le (by rw [HH.out.2.2];exact Nat.le_refl _)] at this
   rw [this,Bool.and_true,show decide (least <= (k : Int)) = true by simp;omega,show decide ((k : Int) <= most) = true by simp;omega]
   rfl
end
section
set_option maxRecDepth 100000
set_option maxHeartbeats 2000000
open Go.RowKit
theorem qjQ (fv : Nat) (var : List UInt8 -> Bool) (hv : VarOk fv var) (nu ex : Int) (h0 : 0 <= nu) (h1 : nu <= 4611686018427387904) (es : List Ex) (A : Option Addr) (c : Nat) (least most : Int) (w : World) (hn : es.length <= maxLen) (hr : ExRow w w.heap.size es A) :
 Calls Tryz.prog 142 #[.slice A es.length c,.int .i64 least,.int .i64 most,.func (.func 141) #[qp fv nu ex] #[]] w fun e w' =>
  e = .returned (.bool (decide (least <= es.length) && decide ((es.length : Int) <= most) && es.all (vE var nu 30))) /\ Below w.heap.size w w':=by
 refine qlw (vE var nu 30) 141 #[qp fv nu ex] #[] (enters_of Tryz.func141 (by kernel_rfl) rfl) es A c least most w hn hr (fun k n s l A' c' W _ hb qL hs hl => ?_)
 exact qbo fv var hv nu ex h0 h1 k n s l A' c' W (qL.more hb.size) hs hl
theorem qnu {W : World} {be : Nat} {k : Int} {nm : ByteArray} {l : Value} (h : W.heap[be]? = some (qcu k nm l)) :
 W.cell? ⟨be,0,none⟩ = some (.int .i64 k) /\ W.cell? ⟨be,1,none⟩ = some (.string nm) /\ W.cell? ⟨be,2,none⟩ = some l :=
 ⟨qc h 0 rfl,qc h 1 rfl,qc h 2 rfl⟩
theorem qqY (fv : Nat) (var : List UInt8 -> Bool) (hv : VarOk fv var) (nu ex : Int) (h0 : 0 <= nu) (h1 : nu <= 4611686018427387904) (k : Int) (nm : List UInt8) (l : List Ex) (A : Option Addr) (c : Nat) (w : World) (hr : ExRow w w.heap.size l A) (hs : nm.length <= maxLen) (hl : l.length <= maxLen) :
 Calls Tryz.prog 112 #[qp fv nu ex,qgz k ⟨nm.toArray⟩ (.slice A l.length c)] w fun e w' => e = .returned (.bool (vCl var nu ⟨k,nm,l⟩)) /\ Below w.heap.size w w':=by
 have HN : Hid (∀ w,Calls Tryz.prog 125 #[.string ⟨nm.toArray⟩] w fun e w' => e = .returned (.bool (zu nm)) /\ Below w.heap.size w w'):=hZ (fun w => vo nm w hs)
 have HV : Hid (∀ (least most : Int) W,Below w.heap.size w W -> Calls Tryz.prog 142 #[.slice A l.length c,.int .i64 least,.int .i64 most,.func (.func 141) #[qp fv nu ex] #[]] W fun e w' =>
  e = .returned (.bool (decide (least <= l.length) && decide ((l.length : Int) <= most) && l.all (vE var nu 30))) /\ Below W.heap.size W w'):=hZ (fun least most W hb => qjQ fv var hv nu ex h0 h1 l A c least most W hl (hr.on hb))
 have HV1:=hZ (HV.out 2 9)
 have HV2:=hZ (HV.out 1 8)
 obtain ⟨W1,qh⟩ : ∃ W1,W1 = (w.alloc (qv fv nu ex)).alloc (qcu k ⟨nm.toArray⟩ (.slice A l.length c)):=⟨_,rfl⟩
 have HB : Hid (Below w.heap.size w W1):=hZ (by rw [qh];exact (qd w _).chain (qd _ _))
 have q1:=qr (o:=qcu k ⟨nm.toArray⟩ (.slice A l.length c)) (qe w (qv fv nu ex))
 have q2:=qe (w.alloc (qv fv nu ex)) (qcu k ⟨nm.toArray⟩ (.slice A l.length c))
 rw [qj] at q2
 rw [<- qh] at q1 q2
 have HQ:=hZ (aZ q1 q2)
 have he:=enters_of Tryz.func141 (by kernel_rfl) rfl
 unfold vCl
 simp only
 generalize zu nm = nl at *
 generalize (decide ((2 : Int) <= l.length) && decide ((l.length : Int) <= 9) && l.all (vE var nu 30)) = v1 at *
 generalize (decide ((1 : Int) <= l.length) && decide ((l.length : Int) <= 8) && l.all (vE var nu 30)) = v2 at *
 obtain ⟨res,zK⟩ : ∃ res,res = (nl && if k = 1 then v1 else if k = 2 then v2 else false):=⟨_,rfl⟩
 rw [<- zK]
 unfold maxLen at hl hs
 clear q1 q2 hv hr HV h0 h1
 cases nl with
 | false =>
   have e : res = false:=zK
   clear zK
   subst e
   go_enter Tryz.func112,Tryz.ntmps112
   go_wp2_with (go_at_call 125;rw [<- qh];clear qh;refine (HN.out _).mono ?_;rintro e w2 ⟨rfl,hb⟩;have zq:=hZ (HB.out.chain hb);clear hb)
   go_ret
   exact ⟨rfl,zq.out⟩
 | true =>
   by_cases k1 : k = 1
   ·subst k1
    have e : res = v1:=by rw [zK,if_pos rfl];rfl
    clear zK
    subst e
    go_enter Tryz.func112,Tryz.ntmps112
    go_wp2_with (first
     | (go_at_call 125;rw [<- qh];clear qh;refine (HN.out _).mono ?_;rintro e w2 ⟨rfl,hb⟩;have zq:=hZ (HB.out.chain hb);obtain ⟨g0,g1,g2⟩:=vQ (qg hb HQ.out.1);obtain ⟨y0,y1,y2⟩:=qnu (qg hb HQ.out.2);clear hb)
     | (go_at_call 142;refine (HV1.out _ zq.out).mono ?_;rintro e w3 ⟨rfl,qt⟩;have qO:=hZ (zq.out.chain qt);clear qt))
    go_ret
    exact ⟨rfl,qO.out⟩
   by_cases k2 : k = 2
   ·subst k2
    have e : res = v2:=by rw [zK,if_neg (by decide),if_pos rfl];rfl
    clear zK
    subst e
    go_enter Tryz.func112,Tryz.ntmps112
    go_wp2_with (first
     | (go_at_call 125;rw [<- qh];clear qh;refine (HN.out _).mono ?_;rintro e w2 ⟨rfl,hb⟩;have zq:=hZ (HB.out.chain hb);obtain ⟨g0,g1,g2⟩:=vQ (qg hb HQ.out.1);obtain ⟨y0,y1,y2⟩:=qnu (qg hb HQ.out.2);clear hb)
     | (go_at_call 142;refine (HV2.out _ zq.out).mono ?_;rintro e w3 ⟨rfl,qt⟩;have qO:=hZ (zq.out.chain qt);clear qt))
    go_ret
    exact ⟨rfl,qO.out⟩
   have e : res = false:=by rw [zK,if_neg k1,if_neg k2];rfl
   clear zK
   subst e
   go_enter Tryz.func112,Tryz.ntmps112
   go_wp2_with (go_at_call 125;rw [<- qh];clear qh;refine (HN.out _).mono ?_;rintro e w2 ⟨rfl,hb⟩;have zq:=hZ (HB.out.chain hb);obtain ⟨g0,g1,g2⟩:=vQ (qg hb HQ.out.1);obtain ⟨y0,y1,y2⟩:=qnu (qg hb HQ.out.2);clear hb)
   go_ret
   exact ⟨rfl,zq.out⟩
end
end Go.Proofs.YtojjfdegkooknaaGreatDoor
