import Derived.Test.YtojjfdegkooknaaGreatDoorSTreeGp
set_option linter.unusedVariables false
set_option linter.unusedSimpArgs false
namespace Go.Proofs.YtojjfdegkooknaaGreatDoor
section
set_option maxRecDepth 100000
set_option maxHeartbeats 2000000
open Go.RowKit
def zY : List Int:=[0,33,21,49,9,1,1,128,3136,1600,64,1026,384]
theorem qgb {w : World} {a : Addr} {v : Value} (h : w.cell? a = some v) : a.block < w.heap.size:=World.block_lt_of_cell? w a h
def yY (w : World) : Prop:=∀ i,i < 13 -> w.cell? ⟨0,i,none⟩ = some (.int .i64 (zY.getD i 0))
theorem yY.on {w w' : World} (hb : Below w.heap.size w w') (h : yY w) : yY w':=fun i hi => (hb.cell (qgb (h i hi))).trans (h i hi)
def yj (p x : Int) : Bool:=!decide (bits .and .i64 p x = 0)
def yJ (p x n : Int) : Int:=if yj p x then n else 0
def qis (var : List UInt8 -> Bool) (nu : Int) (x : Cal) : Bool:=(x.r.isEmpty || var x.r) && zu x.p && (decide ((0 : Int) <= x.l.length) && decide ((x.l.length : Int) <= 8) && x.l.all (vE var nu 30))
def zC : Cn -> Bool
 | .mk k a b l => (k == 0) && zX a && zX b && l.isEmpty
theorem qu7 (k : Int) (a b : Ex) (l : List Cn) : zC (.mk k a b l) = ((k == 0) && zX a && zX b && l.isEmpty):=rfl
def qbz (var : List UInt8 -> Bool) (s : List UInt8) (v o : Bool) : Bool:=if v then var s else if o then zu s else s.isEmpty
def qg3 (ln co : Int) : Bool:=decide (0 <= ln) && decide (ln <= 65537) && decide (0 <= co) && decide (co <= 65537)
def vSt (var : List UInt8 -> Bool) (nu ex : Int) (sub : List St -> Bool) : St -> Bool
 | .mk k ln co nm fd fr e c cl iv b o =>
   if 1 <= k /\ k <= 12 then
    let p:=zY.getD k.toNat 0
    let n:=yJ p 128 1 + yJ p 256 1
    qg3 ln co && (qbz var nm (yj p 1) (yj p 2) && qbz var fr (yj p 4) (yj p 8) && qbz var fd false (yj p 16)) &&
     (if yj p 32 then vE var nu 30 e else zX e) && (if yj p 64 then vC var nu 30 c else zC c) &&
     (decide (n <= cl.length) && decide ((cl.length : Int) <= n) && cl.all (qis var nu)) &&
     (decide ((0 : Int) <= iv.length) && decide ((iv.length : Int) <= yJ p 512 100) && iv.all (vF var nu ex)) &&
     (if yj p 1024 then sub b else b.isEmpty) && (if yj p 2048 then sub o else o.isEmpty)
   else false
def vx (var : List UInt8 -> Bool) (nu ex : Int) : Nat -> List St -> Bool
 | 0,l => l.isEmpty
 | d + 1,l => l.isEmpty || (decide ((1 : Int) <= l.length) && decide ((l.length : Int) <= 100) && l.all (vSt var nu ex (vx var nu ex d)))
end
section
set_option maxRecDepth 100000
set_option maxHeartbeats 2000000
open Go.RowKit
theorem qcg (p x : Int) (w : World) : Calls Tryz.prog 227 #[.int .i64 p,.int .i64 x] w fun e w' => e = .returned (.bool (yj p x)) /\ w = w':=by
 unfold yj
 by_cases h : bits .and .i64 p x = 0
 ·rw [decide_eq_true h]
  go_enter Tryz.func227,Tryz.ntmps227
  go_wp2
  go_ret
  exact ⟨by first | rfl | (simp [h];done),rfl⟩
 ·rw [decide_eq_false h]
  go_enter Tryz.func227,Tryz.ntmps227
  go_wp2
  go_ret
  exact ⟨by first | rfl | (simp [h];done),rfl⟩
theorem qdw (p x n : Int) (w : World) : Calls Tryz.prog 224 #[.int .i64 p,.int .i64 x,.int .i64 n] w fun e w' => e = .returned (.int .i64 (yJ p x n)) /\ w = w':=by
 have HH : Hid (∀ w,Calls Tryz.prog 227 #[.int .i64 p,.int .i64 x] w fun e w' => e = .returned (.bool (yj p x)) /\ w = w'):=hZ (qcg p x)
 unfold yJ
 generalize yj p x = b at *
 cases b with
 | false =>
   rw [if_neg Bool.false_ne_true]
   go_enter Tryz.func224,Tryz.ntmps224
   go_wp2_with (go_at_call 227;refine (HH.out _).mono ?_;rintro e w2 ⟨rfl,rfl⟩)
   go_ret
   exact ⟨rfl,rfl⟩
 | true =>
   rw [if_pos rfl]
   go_enter Tryz.func224,Tryz.ntmps224
   go_wp2_with (go_at_call 227;refine (HH.out _).mono ?_;rintro e w2 ⟨rfl,rfl⟩)
   go_ret
   exact ⟨rfl,rfl⟩
theorem qlS (p x : Int) : 0 <= yJ p x 1 /\ yJ p x 1 <= 1:=by unfold yJ;split <;> omega
abbrev qmP (ln co : Int) : Value:=.agg #[.int .i64 ln,.int .i64 co]
theorem qi3 (ln co : Int) (w : World) : Calls Tryz.prog 156 #[qmP ln co] w fun e w' => e = .returned (.bool (qg3 ln co)) /\ Below w.heap.size w w':=by
 have HB:=hZ (qd w (.cells #[.int .i64 ln,.int .i64 co] 40))
 obtain ⟨res,zK⟩ : ∃ res,res = qg3 ln co:=⟨_,rfl⟩
 rw [<- zK]
 unfold qg3 at zK
 by_cases h1 : 0 <= ln
 ·by_cases h2 : ln <= 65537
  ·by_cases h3 : 0 <= co
   ·by_cases h4 : co <= 65537
    ·have e : res = true:=by rw [zK,decide_eq_true h1,decide_eq_true h2,decide_eq_true h3,decide_eq_true h4];rfl
     clear zK
     subst e
     go_enter Tryz.func156,Tryz.ntmps156
     go_wp2
     go_ret
     exact ⟨by first | rfl | (simp;done) | (simp;omega),HB.out⟩
    ·have e : res = false:=by rw [zK,decide_eq_false h4];simp
     clear zK
     subst e
     go_enter Tryz.func156,Tryz.ntmps156
     go_wp2
     go_ret
     exact ⟨by first | rfl | (simp;done) | (simp;omega),HB.out⟩
   ·have e : res = false:=by rw [zK,decide_eq_false h3];simp
    clear zK
    subst e
    go_enter Tryz.func156,Tryz.ntmps156
    go_wp2
    go_ret
    exact ⟨by first | rfl | (simp;done) | (simp;omega),HB.out⟩
  ·have e : res = false:=by rw [zK,decide_eq_false h2];simp
   clear zK
   subst e
   go_enter Tryz.func156,Tryz.ntmps156
   go_wp2
   go_ret
   exact ⟨by first | rfl | (simp;done) | (simp;omega),HB.out⟩
 ·have e : res = false:=by rw [zK,decide_eq_false h1];simp
  clear zK
  subst e
  go_enter Tryz.func156,Tryz.ntmps156
  go_wp2
  go_ret
  exact ⟨by first | rfl | (simp;done) | (simp;omega),HB.out⟩
theorem qg0 (fv : Nat) (var : List UInt8 -> Bool) (hv : VarOk fv var) (nu ex : Int) (s : List UInt8) (v o : Bool) (w : World) (hs : s.length <= maxLen) :
 Calls Tryz.prog 249 #[qp fv nu ex,.string ⟨s.toArray⟩,.bool v,.bool o] w fun e w' => e = .returned (.bool (qbz var s v o)) /\ Below w.heap.size w w':=by
 have HB:=hZ (qd w (qv fv nu ex))
 have hfv:=hv.enters
 cases v with
 | true =>
   have HV : Hid (∀ w,Calls Tryz.prog fv #[.string ⟨s.toArray⟩] w fun e w' => e = .returned (.bool (qbz var s true o)) /\ Below w.heap.size w w'):=hZ (fun w => hv.says s w hs)
   generalize qbz var s true o = res at *
   clear hv
   go_enter Tryz.func249,Tryz.ntmps249
   go_wp2_with (with_reducible refine (HV.out _).mono ?_;rintro e w3 ⟨rfl,qt⟩)
   go_ret
   exact ⟨rfl,HB.out.chain qt⟩
 | false =>
   cases o with
   | true =>
     have HV : Hid (∀ w,Calls Tryz.prog 125 #[.string ⟨s.toArray⟩] w fun e w' => e = .returned (.bool (qbz var s false true)) /\ Below w.heap.size w w'):=hZ (fun w => vo s w hs)
     generalize qbz var s false true = res at *
     clear hv
     go_enter Tryz.func249,Tryz.ntmps249
     go_wp2_with (go_at_call 125;refine (HV.out _).mono ?_;rintro e w3 ⟨rfl,qt⟩)
     go_ret
     exact ⟨rfl,HB.out.chain qt⟩
   | false =>
     clear hv
     rcases s with _ | ⟨x,s⟩
     ·go_enter Tryz.func249,Tryz.ntmps249
      go_wp2
      go_ret
      exact ⟨rfl,HB.out⟩
     ·go_enter Tryz.func249,Tryz.ntmps249
      go_wp2
      go_ret
      exact ⟨rfl,HB.out⟩
theorem qjK {W : World} {be : Nat} {r p : ByteArray} {l : Value} (h : W.heap[be]? = some (qjJ r p l)) :
 W.cell? ⟨be,0,none⟩ = some (.string r) /\ W.cell? ⟨be,1,none⟩ = some (.string p) /\ W.cell? ⟨be,2,none⟩ = some l :=
 ⟨qc h 0 rfl,qc h 1 rfl,qc h 2 rfl⟩
theorem qq0 (fv : Nat) (var : List UInt8 -> Bool) (hv : VarOk fv var) (nu ex : Int) (h0 : 0 <= nu) (h1 : nu <= 4611686018427387904) (r p : List UInt8) (l : List Ex) (A : Option Addr) (c : Nat) (w : World) (hr : ExRow w w.heap.size l A) (hrl : r.length <= maxLen) (hp : p.length <= maxLen) (hl : l.length <= maxLen) :
 Calls Tryz.prog 233 #[qp fv nu ex,qrL ⟨r.toArray⟩ ⟨p.toArray⟩ (.slice A l.length c)] w fun e w' => e = .returned (.bool (qis var nu ⟨r,p,l⟩)) /\ Below w.heap.size w w':=by
 have HN : Hid (∀ w,Calls Tryz.prog 125 #[.string ⟨p.toArray⟩] w fun e w' => e = .returned (.bool (zu p)) /\ Below w.heap.size w w'):=hZ (fun w => vo p w hp)
 have HR : Hid (∀ w,Calls Tryz.prog fv #[.string ⟨r.toArray⟩] w fun e w' => e = .returned (.bool (var r)) /\ Below w.heap.size w w'):=hZ (fun w => hv.says r w hrl)
 have HV : Hid (∀ W,Below w.heap.size w W -> Calls Tryz.prog 142 #[.slice A l.length c,.int .i64 0,.int .i64 8,.func (.func 141) #[qp fv nu ex] #[]] W fun e w' =>
  e = .returned (.bool (decide ((0 : Int) <= l.length) && decide ((l.length : Int) <= 8) && l.all (vE var nu 30))) /\ Below W.heap.size W w'):=hZ (fun W hb => qjQ fv var hv nu ex h0 h1 l A c 0 8 W hl (hr.on hb))
 have hfv:=hv.enters
 obtain ⟨W1,qh⟩ : ∃ W1,W1 = (w.alloc (qv fv nu ex)).alloc (qjJ ⟨r.toArray⟩ ⟨p.toArray⟩ (.slice A l.length c)):=⟨_,rfl⟩
 have HB : Hid (Below w.heap.size w W1):=hZ (by rw [qh];exact (qd w _).chain (qd _ _))
 have q1:=qr (o:=qjJ ⟨r.toArray⟩ ⟨p.toArray⟩ (.slice A l.length c)) (qe w (qv fv nu ex))
 have q2:=qe (w.alloc (qv fv nu ex)) (qjJ ⟨r.toArray⟩ ⟨p.toArray⟩ (.slice A l.length c))
 rw [qj] at q2
 rw [<- qh] at q1 q2
 have HQ:=hZ (aZ q1 q2)
 have he:=enters_of Tryz.func141 (by kernel_rfl) rfl
 unfold qis
 simp only
 generalize zu p = np at *
 generalize var r = vr at *
 generalize (decide ((0 : Int) <= l.length) && decide ((l.length : Int) <= 8) && l.all (vE var nu 30)) = v1 at *
 unfold maxLen at hl hrl hp
 clear q1 q2 hv hr h0 h1
 rcases r with _ | ⟨x,r⟩
 ·cases np with
  | false =>
    go_enter Tryz.func233,Tryz.ntmps233
    go_wp2_with (go_at_call 125;rw [<- qh];clear qh;refine (HN.out _).mono ?_;rintro e w2 ⟨rfl,hb⟩;have zq:=hZ (HB.out.chain hb);clear hb)
    go_ret
    exact ⟨rfl,zq.out⟩
  | true =>
    go_enter Tryz.func233,Tryz.ntmps233
    go_wp2_with (first
     | (go_at_call 125;rw [<- qh];clear qh;refine (HN.out _).mono ?_;rintro e w2 ⟨rfl,hb⟩;have zq:=hZ (HB.out.chain hb);obtain ⟨g0,g1,g2⟩:=vQ (qg hb HQ.out.1);obtain ⟨y0,y1,y2⟩:=qjK (qg hb HQ.out.2);clear hb)
     | (go_at_call 142;refine (HV.out _ zq.out).mono ?_;rintro e w3 ⟨rfl,qt⟩;have qO:=hZ (zq.out.chain qt);clear qt))
    go_ret
    exact ⟨rfl,qO.out⟩
 ·cases vr with
  | false =>
    go_enter Tryz.func233,Tryz.ntmps233
    go_wp2_with (rw [<- qh];clear qh;with_reducible refine (HR.out _).mono ?_;rintro e w2 ⟨rfl,hb⟩;have zq:=hZ (HB.out.chain hb);clear hb)
    go_ret
    exact ⟨rfl,zq.out⟩
  | true =>
    cases np with
    | false =>
      go_enter Tryz.func233,Tryz.ntmps233
      go_wp2_with (first
       | (go_at_call 125;refine (HN.out _).mono ?_;rintro e w3 ⟨rfl,qt⟩;have qO:=hZ (zq.out.chain qt);clear qt)
       | (rw [<- qh];clear qh;with_reducible refine (HR.out _).mono ?_;rintro e w2 ⟨rfl,hb⟩;have zq:=hZ (HB.out.chain hb);have yQ:=hZ (aZ (qg hb HQ.out.1) (qg hb HQ.out.2));obtain ⟨g0,g1,g2⟩:=vQ yQ.out.1;obtain ⟨y0,y1,y2⟩:=qjK yQ.out.2;clear hb))
      go_ret
      exact ⟨rfl,qO.out⟩
    | true =>
      go_enter Tryz.func233,Tryz.ntmps233
      go_wp2_with (first
       | (go_at_call 125;refine (HN.out _).mono ?_;rintro e w3 ⟨rfl,qt⟩;have qO:=hZ (zq.out.chain qt);obtain ⟨i0,i1,i2⟩:=vQ (qg qt yQ.out.1);obtain ⟨z0,z1,z2⟩:=qjK (qg qt yQ.out.2);clear qt)
       | (go_at_call 142;refine (HV.out _ qO.out).mono ?_;rintro e w4 ⟨rfl,xp⟩;have HB4:=hZ (qO.out.chain xp);clear xp)
       | (rw [<- qh];clear qh;with_reducible refine (HR.out _).mono ?_;rintro e w2 ⟨rfl,hb⟩;have zq:=hZ (HB.out.chain hb);have yQ:=hZ (aZ (qg hb HQ.out.1) (qg hb HQ.out.2));obtain ⟨g0,g1,g2⟩:=vQ yQ.out.1;obtain ⟨y0,y1,y2⟩:=qjK yQ.out.2;clear hb))
      go_ret
      exact ⟨rfl,HB4.out⟩
end
end Go.Proofs.YtojjfdegkooknaaGreatDoor
