import Derived.Test.YtojjfdegkooknaaGreatDoorSTreeSh
import Derived.Test.YtojjfdegkooknaaGreatDoorSTreeXv
import Derived.Test.YtojjfdegkooknaaGreatDoorSTreeK
import Derived.Test.YtojjfdegkooknaaGreatDoorSTreeO
import Derived.Test.YtojjfdegkooknaaGreatDoorSTreeGf
import Derived.Test.YtojjfdegkooknaaGreatDoorSTreeSz
import Derived.Test.YtojjfdegkooknaaGreatDoorSTreeQ
set_option linter.unusedVariables false
set_option linter.unusedSimpArgs false
namespace Go.Proofs.YtojjfdegkooknaaGreatDoor
set_option maxRecDepth 100000
set_option maxHeartbeats 8000000
open Go.RowKit
theorem qbr : VarOk 125 zu:=⟨enters_of Tryz.func125 (by kernel_rfl) rfl,vo⟩
def vPs (l : List Pm) : Bool:=decide ((0 : Int) <= l.length) && decide ((l.length : Int) <= 8) && l.all (vP zu)
def vDj (l : List Fm) : Bool:=decide ((1 : Int) <= l.length) && decide ((l.length : Int) <= 100) && l.all (vF zu 1048576 8)
def vRc (x : Rc) : Bool:=zu x.nm && decide ((x.fs.length : Int) > 0) && vPs x.fs
def vLk (x : Lk) : Bool:=zu x.nm && vDj x.iv
def vDf (x : Df) : Bool:=zu x.nm && decide ((x.ps.length : Int) > 0) && vPs x.ps && vDj x.cs
def vLm (x : Lm) : Bool:=zu x.nm && vPs x.ps && vF zu 1048576 8 x.lf && vF zu 1048576 8 x.rt
theorem qbD (ps : List Pm) (A : Option Addr) (c : Nat) (w : World) (hn : ps.length <= maxLen) (hr : yT w w.heap.size ps A) :
 Calls Tryz.prog 154 #[qp 125 1048576 8,.slice A ps.length c] w fun e w' => e = .returned (.bool (vPs ps)) /\ Below w.heap.size w w':=by
 have HB:=hZ (qd w (qv 125 1048576 8))
 have HC : Hid (Calls Tryz.prog 106 #[.slice A ps.length c,.int .i64 0,.int .i64 8,.func (.func 107) #[qp 125 1048576 8] #[]] (w.alloc (qv 125 1048576 8)) fun e w' => e = .returned (.bool (vPs ps)) /\ Below (w.alloc (qv 125 1048576 8)).heap.size (w.alloc (qv 125 1048576 8)) w'):=hZ (qdS _ zu qbr 1048576 8 ps A c 0 8 _ hn (hr.on zj HB.out))
 generalize vPs ps = res at *
 unfold maxLen at hn
 clear hr
 go_enter Tryz.func154,Tryz.ntmps154
 go_wp2_with (go_at_call 106;refine HC.out.mono ?_;rintro e w2 ⟨rfl,hb⟩)
 go_ret
 exact ⟨rfl,HB.out.chain hb⟩
theorem qfc (fs : List Fm) (A : Option Addr) (c : Nat) (w : World) (hn : fs.length <= maxLen) (hr : qai w w.heap.size fs A) :
 Calls Tryz.prog 155 #[qp 125 1048576 8,.slice A fs.length c] w fun e w' => e = .returned (.bool (vDj fs)) /\ Below w.heap.size w w':=by
 have HB:=hZ (qd w (qv 125 1048576 8))
 have HC : Hid (Calls Tryz.prog 194 #[.slice A fs.length c,.int .i64 1,.int .i64 100,.func (.func 79) #[qp 125 1048576 8] #[]] (w.alloc (qv 125 1048576 8)) fun e w' => e = .returned (.bool (vDj fs)) /\ Below (w.alloc (qv 125 1048576 8)).heap.size (w.alloc (qv 125 1048576 8)) w'):=hZ (qgI _ zu qbr 1048576 8 (by omega) (by omega) fs A c 1 100 _ hn (hr.on yk HB.out))
 generalize vDj fs = res at *
 unfold maxLen at hn
 clear hr
 go_enter Tryz.func155,Tryz.ntmps155
 go_wp2_with (go_at_call 194;refine HC.out.mono ?_;rintro e w2 ⟨rfl,hb⟩)
 go_ret
 exact ⟨rfl,HB.out.chain hb⟩
theorem qmL (nm : List UInt8) (fs : List Pm) (A : Option Addr) (c : Nat) (w : World) (b0 : nm.length <= maxLen) (b1 : fs.length <= maxLen) (hr : yT w w.heap.size fs A) :
 Calls Tryz.prog 127 #[qp 125 1048576 8,.agg #[.string ⟨nm.toArray⟩,.slice A fs.length c]] w fun e w' => e = .returned (.bool (vRc ⟨nm,fs⟩)) /\ Below w.heap.size w w':=by
 obtain ⟨v0,xh⟩ : ∃ v,v = zu nm:=⟨_,rfl⟩
 obtain ⟨v1,jo⟩ : ∃ v,v = decide ((fs.length : Int) > 0):=⟨_,rfl⟩
 obtain ⟨v2,je⟩ : ∃ v,v = vPs fs:=⟨_,rfl⟩
 have zK : vRc ⟨nm,fs⟩ = (v0 && v1 && v2):=by
  rw [xh,jo,je]
  rfl
 rw [zK]
 have H0 : Hid (BC w 125 #[.string ⟨nm.toArray⟩] v0):=hZ (fun W hb => by rw [xh];exact vo nm W b0)
 have H2 : Hid (BC w 154 #[qp 125 1048576 8,.slice A fs.length c] v2):=hZ (fun W hb => by rw [je];exact qbD fs A c W b1 (hr.on zj hb))
 have T1 : Hid (v1 = decide ((fs.length : Int) > 0)):=hZ jo
 generalize fs.length = n at *
 obtain ⟨W1,qh⟩ : ∃ W1,W1 = (w.alloc (qv 125 1048576 8)).alloc (.cells #[.string ⟨nm.toArray⟩,.slice A n c] 36):=⟨_,rfl⟩
 have HB : Hid (Below w.heap.size w W1):=hZ (by rw [qh];exact (qd w _).chain (qd _ _))
 have q1:=qr (o:=.cells #[.string ⟨nm.toArray⟩,.slice A n c] 36) (qe w (qv 125 1048576 8))
 have q2:=qe (w.alloc (qv 125 1048576 8)) (.cells #[.string ⟨nm.toArray⟩,.slice A n c] 36)
 rw [qj] at q2
 rw [<- qh] at q1 q2
 have HF : Hid (∀ W,Below W1.heap.size W1 W -> W.cell? ⟨w.heap.size,0,none⟩ = some (.func (.func 125) #[] #[]) /\ W.cell? ⟨w.heap.size,1,none⟩ = some (.int .i64 1048576) /\ W.cell? ⟨w.heap.size,2,none⟩ = some (.int .i64 8) /\ W.cell? ⟨w.heap.size + 1,0,none⟩ = some (.string ⟨nm.toArray⟩) /\ W.cell? ⟨w.heap.size + 1,1,none⟩ = some (.slice A n c)) :=
  hZ (fun W hb => ⟨qc (qg hb q1) 0 rfl,qc (qg hb q1) 1 rfl,qc (qg hb q1) 2 rfl,qc (qg hb q2) 0 rfl,qc (qg hb q2) 1 rfl⟩)
 have K1:=hZ (Below.refl W1.heap.size W1)
 clear q1 q2 zK xh jo je hr
 try unfold maxLen at *
 cases v0 with
 | false =>
   go_enter Tryz.func127,Tryz.ntmps127
   go_wp2_with (go_at_call 125;rw [<- qh];clear qh;((with_reducible refine (H0.out _ (HB.out.chain K1.out)).mono ?_);rintro e w2 ⟨rfl,hb⟩);have K2:=hZ (K1.out.chain hb);clear hb)
   go_ret
   exact ⟨rfl,HB.out.chain K2.out⟩
 | true =>
   cases v1 with
   | false =>
     have xy : ¬ ((n : Int) > 0):=by simpa using T1.out
     go_enter Tryz.func127,Tryz.ntmps127
     go_wp2_with (go_at_call 125;rw [<- qh];clear qh;((with_reducible refine (H0.out _ (HB.out.chain K1.out)).mono ?_);rintro e w2 ⟨rfl,hb⟩);have K2:=hZ (K1.out.chain hb);obtain ⟨g1_0,g1_1,g1_2,g1_3,g1_4⟩:=HF.out _ K2.out;clear hb)
     go_ret
     exact ⟨rfl,HB.out.chain K2.out⟩
   | true =>
     have xy : (n : Int) > 0:=by simpa using T1.out
     cases v2 with
     | false =>
       go_enter Tryz.func127,Tryz.ntmps127
       go_wp2_with (first
        | (go_at_call 125;rw [<- qh];clear qh;((with_reducible refine (H0.out _ (HB.out.chain K1.out)).mono ?_);rintro e w2 ⟨rfl,hb⟩);have K2:=hZ (K1.out.chain hb);obtain ⟨g1_0,g1_1,g1_2,g1_3,g1_4⟩:=HF.out _ K2.out;clear hb)
        | (go_at_call 154;((with_reducible refine (H2.out _ (HB.out.chain K2.out)).mono ?_);rintro e w3 ⟨rfl,hb⟩);have K3:=hZ (K2.out.chain hb);clear hb))
       go_ret
       exact ⟨rfl,HB.out.chain K3.out⟩
     | true =>
       go_enter Tryz.func127,Tryz.ntmps127
       go_wp2_with (first
        | (go_at_call 125;rw [<- qh];clear qh;((with_reducible refine (H0.out _ (HB.out.chain K1.out)).mono ?_);rintro e w2 ⟨rfl,hb⟩);have K2:=hZ (K1.out.chain hb);obtain ⟨g1_0,g1_1,g1_2,g1_3,g1_4⟩:=HF.out _ K2.out;clear hb)
        | (go_at_call 154;((with_reducible refine (H2.out _ (HB.out.chain K2.out)).mono ?_);rintro e w3 ⟨rfl,hb⟩);have K3:=hZ (K2.out.chain hb);clear hb))
       go_ret
       exact ⟨rfl,HB.out.chain K3.out⟩
theorem qqe (nm : List UInt8) (iv : List Fm) (A : Option Addr) (c : Nat) (w : World) (b0 : nm.length <= maxLen) (b1 : iv.length <= maxLen) (hr : qai w w.heap.size iv A) :
 Calls Tryz.prog 129 #[qp 125 1048576 8,.agg #[.string ⟨nm.toArray⟩,.slice A iv.length c]] w fun e w' => e = .returned (.bool (vLk ⟨nm,iv⟩)) /\ Below w.heap.size w w':=by
 obtain ⟨v0,xh⟩ : ∃ v,v = zu nm:=⟨_,rfl⟩
 obtain ⟨v1,jo⟩ : ∃ v,v = vDj iv:=⟨_,rfl⟩
 have zK : vLk ⟨nm,iv⟩ = (v0 && v1):=by
  rw [xh,jo]
  rfl
 rw [zK]
 have H0 : Hid (BC w 125 #[.string ⟨nm.toArray⟩] v0):=hZ (fun W hb => by rw [xh];exact vo nm W b0)
 have H1 : Hid (BC w 155 #[qp 125 1048576 8,.slice A iv.length c] v1):=hZ (fun W hb => by rw [jo];exact qfc iv A c W b1 (hr.on yk hb))
 generalize iv.length = n at *
 obtain ⟨W1,qh⟩ : ∃ W1,W1 = (w.alloc (qv 125 1048576 8)).alloc (.cells #[.string ⟨nm.toArray⟩,.slice A n c] 61):=⟨_,rfl⟩
 have HB : Hid (Below w.heap.size w W1):=hZ (by rw [qh];exact (qd w _).chain (qd _ _))
 have q1:=qr (o:=.cells #[.string ⟨nm.toArray⟩,.slice A n c] 61) (qe w (qv 125 1048576 8))
 have q2:=qe (w.alloc (qv 125 1048576 8)) (.cells #[.string ⟨nm.toArray⟩,.slice A n c] 61)
 rw [qj] at q2
 rw [<- qh] at q1 q2
 have HF : Hid (∀ W,Below W1.heap.size W1 W -> W.cell? ⟨w.heap.size,0,none⟩ = some (.func (.func 125) #[] #[]) /\ W.cell? ⟨w.heap.size,1,none⟩ = some (.int .i64 1048576) /\ W.cell? ⟨w.heap.size,2,none⟩ = some (.int .i64 8) /\ W.cell? ⟨w.heap.size + 1,0,none⟩ = some (.string ⟨nm.toArray⟩) /\ W.cell? ⟨w.heap.size + 1,1,none⟩ = some (.slice A n c)) :=
  hZ (fun W hb => ⟨qc (qg hb q1) 0 rfl,qc (qg hb q1) 1 rfl,qc (qg hb q1) 2 rfl,qc (qg hb q2) 0 rfl,qc (qg hb q2) 1 rfl⟩)
 have K1:=hZ (Below.refl W1.heap.size W1)
 clear q1 q2 zK xh jo hr
 try unfold maxLen at *
 cases v0 with
 | false =>
   go_enter Tryz.func129,Tryz.ntmps129
   go_wp2_with (go_at_call 125;rw [<- qh];clear qh;((with_reducible refine (H0.out _ (HB.out.chain K1.out)).mono ?_);rintro e w2 ⟨rfl,hb⟩);have K2:=hZ (K1.out.chain hb);clear hb)
   go_ret
   exact ⟨rfl,HB.out.chain K2.out⟩
 | true =>
   cases v1 with
   | false =>
     go_enter Tryz.func129,Tryz.ntmps129
     go_wp2_with (first
      | (go_at_call 125;rw [<- qh];clear qh;((with_reducible refine (H0.out _ (HB.out.chain K1.out)).mono ?_);rintro e w2 ⟨rfl,hb⟩);have K2:=hZ (K1.out.chain hb);obtain ⟨g1_0,g1_1,g1_2,g1_3,g1_4⟩:=HF.out _ K2.out;clear hb)
      | (go_at_call 155;((with_reducible refine (H1.out _ (HB.out.chain K2.out)).mono ?_);rintro e w3 ⟨rfl,hb⟩);have K3:=hZ (K2.out.chain hb);clear hb))
     go_ret
     exact ⟨rfl,HB.out.chain K3.out⟩
   | true =>
     go_enter Tryz.func129,Tryz.ntmps129
     go_wp2_with (first
      | (go_at_call 125;rw [<- qh];clear qh;((with_reducible refine (H0.out _ (HB.out.chain K1.out)).mono ?_);rintro e w2 ⟨rfl,hb⟩);have K2:=hZ (K1.out.chain hb);obtain ⟨g1_0,g1_1,g1_2,g1_3,g1_4⟩:=HF.out _ K2.out;clear hb)
      | (go_at_call 155;((with_reducible refine (H1.out _ (HB.out.chain K2.out)).mono ?_);rintro e w3 ⟨rfl,hb⟩);have K3:=hZ (K2.out.chain hb);clear hb))
     go_ret
     exact ⟨rfl,HB.out.chain K3.out⟩
theorem qs0 (nm : List UInt8) (ps : List Pm) (cs : List Fm) (A : Option Addr) (c : Nat) (A2 : Option Addr) (c2 : Nat) (w : World) (b0 : nm.length <= maxLen) (b1 : ps.length <= maxLen) (b2 : cs.length <= maxLen) (hr : yT w w.heap.size ps A) (hf : qai w w.heap.size cs A2) :
 Calls Tryz.prog 131 #[qp 125 1048576 8,.agg #[.string ⟨nm.toArray⟩,.slice A ps.length c,.slice A2 cs.length c2]] w fun e w' => e = .returned (.bool (vDf ⟨nm,ps,cs⟩)) /\ Below w.heap.size w w':=by
 obtain ⟨v0,xh⟩ : ∃ v,v = zu nm:=⟨_,rfl⟩
 obtain ⟨v1,jo⟩ : ∃ v,v = decide ((ps.length : Int) > 0):=⟨_,rfl⟩
 obtain ⟨v2,je⟩ : ∃ v,v = vPs ps:=⟨_,rfl⟩
 obtain ⟨v3,hv3⟩ : ∃ v,v = vDj cs:=⟨_,rfl⟩
 have zK : vDf ⟨nm,ps,cs⟩ = (v0 && v1 && v2 && v3):=by
  rw [xh,jo,je,hv3]
  rfl
 rw [zK]
 have H0 : Hid (BC w 125 #[.string ⟨nm.toArray⟩] v0):=hZ (fun W hb => by rw [xh];exact vo nm W b0)
 have H2 : Hid (BC w 154 #[qp 125 1048576 8,.slice A ps.length c] v2):=hZ (fun W hb => by rw [je];exact qbD ps A c W b1 (hr.on zj hb))
 have H3 : Hid (BC w 155 #[qp 125 1048576 8,.slice A2 cs.length c2] v3):=hZ (fun W hb => by rw [hv3];exact qfc cs A2 c2 W b2 (hf.on yk hb))
 have T1 : Hid (v1 = decide ((ps.length : Int) > 0)):=hZ jo
 generalize ps.length = n at *
 generalize cs.length = m at *
 obtain ⟨W1,qh⟩ : ∃ W1,W1 = (w.alloc (qv 125 1048576 8)).alloc (.cells #[.string ⟨nm.toArray⟩,.slice A n c,.slice A2 m c2] 64):=⟨_,rfl⟩
 have HB : Hid (Below w.heap.size w W1):=hZ (by rw [qh];exact (qd w _).chain (qd _ _))
 have q1:=qr (o:=.cells #[.string ⟨nm.toArray⟩,.slice A n c,.slice A2 m c2] 64) (qe w (qv 125 1048576 8))
 have q2:=qe (w.alloc (qv 125 1048576 8)) (.cells #[.string ⟨nm.toArray⟩,.slice A n c,.slice A2 m c2] 64)
 rw [qj] at q2
 rw [<- qh] at q1 q2
 have HF : Hid (∀ W,Below W1.heap.size W1 W -> W.cell? ⟨w.heap.size,0,none⟩ = some (.func (.func 125) #[] #[]) /\ W.cell? ⟨w.heap.size,1,none⟩ = some (.int .i64 1048576) /\ W.cell? ⟨w.heap.size,2,none⟩ = some (.int .i64 8) /\ W.cell? ⟨w.heap.size + 1,0,none⟩ = some (.string ⟨nm.toArray⟩) /\ W.cell? ⟨w.heap.size + 1,1,none⟩ = some (.slice A n c) /\ W.cell? ⟨w.heap.size + 1,2,none⟩ = some (.slice A2 m c2)) :=
  hZ (fun W hb => ⟨qc (qg hb q1) 0 rfl,qc (qg hb q1) 1 rfl,qc (qg hb q1) 2 rfl,qc (qg hb q2) 0 rfl,qc (qg hb q2) 1 rfl,qc (qg hb q2) 2 rfl⟩)
 have K1:=hZ (Below.refl W1.heap.size W1)
 clear q1 q2 zK xh jo je hv3 hr hf
 try unfold maxLen at *
 cases v0 with
 | false =>
   go_enter Tryz.func131,Tryz.ntmps131
   go_wp2_with (go_at_call 125;rw [<- qh];clear qh;((with_reducible refine (H0.out _ (HB.out.chain K1.out)).mono ?_);rintro e w2 ⟨rfl,hb⟩);have K2:=hZ (K1.out.chain hb);clear hb)
   go_ret
   exact ⟨rfl,HB.out.chain K2.out⟩
 | true =>
   cases v1 with
   | false =>
     have xy : ¬ ((n : Int) > 0):=by simpa using T1.out
     go_enter Tryz.func131,Tryz.ntmps131
     go_wp2_with (go_at_call 125;rw [<- qh];clear qh;((with_reducible refine (H0.out _ (HB.out.chain K1.out)).mono ?_);rintro e w2 ⟨rfl,hb⟩);have K2:=hZ (K1.out.chain hb);obtain ⟨g1_0,g1_1,g1_2,g1_3,g1_4,g1_5⟩:=HF.out _ K2.out;clear hb)
     go_ret
     exact ⟨rfl,HB.out.chain K2.out⟩
   | true =>
     have xy : (n : Int) > 0:=by simpa using T1.out
     cases v2 with
     | false =>
       go_enter Tryz.func131,Tryz.ntmps131
       go_wp2_with (first
        | (go_at_call 125;rw [<- qh];clear qh;((with_reducible refine (H0.out _ (HB.out.chain K1.out)).mono ?_);rintro e w2 ⟨rfl,hb⟩);have K2:=hZ (K1.out.chain hb);obtain ⟨g1_0,g1_1,g1_2,g1_3,g1_4,g1_5⟩:=HF.out _ K2.out;clear hb)
        | (go_at_call 154;((with_reducible refine (H2.out _ (HB.out.chain K2.out)).mono ?_);rintro e w3 ⟨rfl,hb⟩);have K3:=hZ (K2.out.chain hb);clear hb))
       go_ret
       exact ⟨rfl,HB.out.chain K3.out⟩
     | true =>
       cases v3 with
       | false =>
         go_enter Tryz.func131,Tryz.ntmps131
         go_wp2_with (first
          | (go_at_call 125;rw [<- qh];clear qh;((with_reducible refine (H0.out _ (HB.out.chain K1.out)).mono ?_);rintro e w2 ⟨rfl,hb⟩);have K2:=hZ (K1.out.chain hb);obtain ⟨g1_0,g1_1,g1_2,g1_3,g1_4,g1_5⟩:=HF.out _ K2.out;clear hb)
          | (go_at_call 154;((with_reducible refine (H2.out _ (HB.out.chain K2.out)).mono ?_);rintro e w3 ⟨rfl,hb⟩);have K3:=hZ (K2.out.chain hb);obtain ⟨g2_0,g2_1,g2_2,g2_3,g2_4,g2_5⟩:=HF.out _ K3.out;clear hb)
          | (go_at_call 155;((with_reducible refine (H3.out _ (HB.out.chain K3.out)).mono ?_);rintro e w4 ⟨rfl,hb⟩);have K4:=hZ (K3.out.chain hb);clear hb))
         go_ret
         exact ⟨rfl,HB.out.chain K4.out⟩
       | true =>
         go_enter Tryz.func131,Tryz.ntmps131
         go_wp2_with (first
          | (go_at_call 125;rw [<- qh];clear qh;((with_reducible refine (H0.out _ (HB.out.chain K1.out)).mono ?_);rintro e w2 ⟨rfl,hb⟩);have K2:=hZ (K1.out.chain hb);obtain ⟨g1_0,g1_1,g1_2,g1_3,g1_4,g1_5⟩:=HF.out _ K2.out;clear hb)
          | (go_at_call 154;((with_reducible refine (H2.out _ (HB.out.chain K2.out)).mono ?_);rintro e w3 ⟨rfl,hb⟩);have K3:=hZ (K2.out.chain hb);obtain ⟨g2_0,g2_1,g2_2,g2_3,g2_4,g2_5⟩:=HF.out _ K3.out;clear hb)
          | (go_at_call 155;((with_reducible refine (H3.out _ (HB.out.chain K3.out)).mono ?_);rintro e w4 ⟨rfl,hb⟩);have K4:=hZ (K3.out.chain hb);clear hb))
         go_ret
         exact ⟨rfl,HB.out.chain K4.out⟩
theorem qoi (nm : List UInt8) (ps : List Pm) (f h : Fm) (A : Option Addr) (c : Nat) (d e : FAd) (w : World) (b0 : nm.length <= maxLen) (b1 : ps.length <= maxLen) (hr : yT w w.heap.size ps A) (rf : vH w w.heap.size d f) (rh : vH w w.heap.size e h) :
 Calls Tryz.prog 133 #[qp 125 1048576 8,.agg #[.string ⟨nm.toArray⟩,.slice A ps.length c,.slice d.p f.ps.length d.np,.slice d.a f.ats.length d.na,.slice d.c f.cls.length d.nc,.slice e.p h.ps.length e.np,.slice e.a h.ats.length e.na,.slice e.c h.cls.length e.nc]] w fun e w' => e = .returned (.bool (vLm ⟨nm,ps,f,h⟩)) /\ Below w.heap.size w w':=by
 obtain ⟨v0,xh⟩ : ∃ v,v = zu nm:=⟨_,rfl⟩
 obtain ⟨v1,jo⟩ : ∃ v,v = vPs ps:=⟨_,rfl⟩
 obtain ⟨v2,je⟩ : ∃ v,v = vF zu 1048576 8 f:=⟨_,rfl⟩
 obtain ⟨v3,hv3⟩ : ∃ v,v = vF zu 1048576 8 h:=⟨_,rfl⟩
 have zK : vLm ⟨nm,ps,f,h⟩ = (v0 && v1 && v2 && v3):=by
  rw [xh,jo,je,hv3]
  rfl
 rw [zK]
 have H0 : Hid (BC w 125 #[.string ⟨nm.toArray⟩] v0):=hZ (fun W hb => by rw [xh];exact vo nm W b0)
 have H1 : Hid (BC w 154 #[qp 125 1048576 8,.slice A ps.length c] v1):=hZ (fun W hb => by rw [jo];exact qbD ps A c W b1 (hr.on zj hb))
 have H2 : Hid (BC w 79 #[qp 125 1048576 8,vv (.slice d.p f.ps.length d.np) (.slice d.a f.ats.length d.na) (.slice d.c f.cls.length d.nc)] v2):=hZ (fun W hb => by rw [je];exact qen _ zu qbr 1048576 8 (by omega) (by omega) f d.p d.np d.a d.na d.c d.nc W rf.1.1 rf.1.2.1 rf.1.2.2 (rf.2.1.on zj hb) (rf.2.2.1.on jd hb) (rf.2.2.2.on jc hb))
 have H3 : Hid (BC w 79 #[qp 125 1048576 8,vv (.slice e.p h.ps.length e.np) (.slice e.a h.ats.length e.na) (.slice e.c h.cls.length e.nc)] v3):=hZ (fun W hb => by rw [hv3];exact qen _ zu qbr 1048576 8 (by omega) (by omega) h e.p e.np e.a e.na e.c e.nc W rh.1.1 rh.1.2.1 rh.1.2.2 (rh.2.1.on zj hb) (rh.2.2.1.on jd hb) (rh.2.2.2.on jc hb))
 generalize f.ps.length = n0 at *
 generalize f.ats.length = n1 at *
 generalize f.cls.length = n2 at *
 generalize h.ps.length = m0 at *
 generalize h.ats.length = m1 at *
 generalize h.cls.length = m2 at *
 generalize  ps.length =  n at *
 obtain ⟨W1,qh⟩ : ∃ W1,W1 = (w.alloc (qv 125 1048576 8)).alloc (.cells #[.string ⟨nm.toArray⟩,.slice A n c,.slice d.p n0 d.np,.slice d.a n1 d.na,.slice d.c n2 d.nc,.slice e.p m0 e.np,.slice e.a m1 e.na,.slice e.c m2 e.nc] 71):=⟨_,rfl⟩
 have HB : Hid (Below w.heap.size w W1):=hZ (by rw [qh];exact (qd w _).chain (qd _ _))
 have q1:=qr (o:=.cells #[.string ⟨nm.toArray⟩,.slice A n c,.slice d.p n0 d.np,.slice d.a n1 d.na,.slice d.c n2 d.nc,.slice e.p m0 e.np,.slice e.a m1 e.na,.slice e.c m2 e.nc] 71) (qe w (qv 125 1048576 8))
 have q2:=qe (w.alloc (qv 125 1048576 8)) (.cells #[.string ⟨nm.toArray⟩,.slice A n c,.slice d.p n0 d.np,.slice d.a n1 d.na,.slice d.c n2 d.nc,.slice e.p m0 e.np,.slice e.a m1 e.na,.slice e.c m2 e.nc] 71)
 rw [qj] at q2
 rw [<- qh] at q1 q2
 have HF : Hid (∀ W,Below W1.heap.size W1 W -> W.cell? ⟨w.heap.size,0,none⟩ = some (.func (.func 125) #[] #[]) /\ W.cell? ⟨w.heap.size,1,none⟩ = some (.int .i64 1048576) /\ W.cell? ⟨w.heap.size,2,none⟩ = some (.int .i64 8) /\ W.cell? ⟨w.heap.size + 1,0,none⟩ = some (.string ⟨nm.toArray⟩) /\ W.cell? ⟨w.heap.size + 1,1,none⟩ = some (.slice A n c) /\ W.cell? ⟨w.heap.size + 1,2,none⟩ = some (.slice d.p n0 d.np) /\ W.cell? ⟨w.heap.size + 1,3,none⟩ = some (.slice d.a n1 d.na) /\ W.cell? ⟨w.heap.size + 1,4,none⟩ = some (.slice d.c n2 d.nc) /\ W.cell? ⟨w.heap.size + 1,5,none⟩ = some (.slice e.p m0 e.np) /\ W.cell? ⟨w.heap.size + 1,6,none⟩ = some (.slice e.a m1 e.na) /\ W.cell? ⟨w.heap.size + 1,7,none⟩ = some (.slice e.c m2 e.nc)) :=
  hZ (fun W hb => ⟨qc (qg hb q1) 0 rfl,qc (qg hb q1) 1 rfl,qc (qg hb q1) 2 rfl,qc (qg hb q2) 0 rfl,qc (qg hb q2) 1 rfl,qc (qg hb q2) 2 rfl,qc (qg hb q2) 3 rfl,qc (qg hb q2) 4 rfl,qc (qg hb q2) 5 rfl,qc (qg hb q2) 6 rfl,qc (qg hb q2) 7 rfl⟩)
 have K1:=hZ (Below.refl W1.heap.size W1)
 clear q1 q2 zK xh jo je hv3 hr rf rh
 try unfold maxLen at *
 cases v0 with
 | false =>
   go_enter Tryz.func133,Tryz.ntmps133
   go_wp2_with (go_at_call 125;rw [<- qh];clear qh;((with_reducible refine (H0.out _ (HB.out.chain K1.out)).mono ?_);rintro e w2 ⟨rfl,hb⟩);have K2:=hZ (K1.out.chain hb);clear hb)
   go_ret
   exact ⟨rfl,HB.out.chain K2.out⟩
 | true =>
   cases v1 with
   | false =>
     go_enter Tryz.func133,Tryz.ntmps133
     go_wp2_with (first
      | (go_at_call 125;rw [<- qh];clear qh;((with_reducible refine (H0.out _ (HB.out.chain K1.out)).mono ?_);rintro e w2 ⟨rfl,hb⟩);have K2:=hZ (K1.out.chain hb);obtain ⟨g1_0,g1_1,g1_2,g1_3,g1_4,g1_5,g1_6,g1_7,g1_8,g1_9,g1_10⟩:=HF.out _ K2.out;clear hb)
      | (go_at_call 154;((with_reducible refine (H1.out _ (HB.out.chain K2.out)).mono ?_);rintro e w3 ⟨rfl,hb⟩);have K3:=hZ (K2.out.chain hb);clear hb))
     go_ret
     exact ⟨rfl,HB.out.chain K3.out⟩
   | true =>
     cases v2 with
     | false =>
       go_enter Tryz.func133,Tryz.ntmps133
       go_wp2_with (first
        | (go_at_call 125;rw [<- qh];clear qh;((with_reducible refine (H0.out _ (HB.out.chain K1.out)).mono ?_);rintro e w2 ⟨rfl,hb⟩);have K2:=hZ (K1.out.chain hb);obtain ⟨g1_0,g1_1,g1_2,g1_3,g1_4,g1_5,g1_6,g1_7,g1_8,g1_9,g1_10⟩:=HF.out _ K2.out;clear hb)
        | (go_at_call 154;((with_reducible refine (H1.out _ (HB.out.chain K2.out)).mono ?_);rintro e w3 ⟨rfl,hb⟩);have K3:=hZ (K2.out.chain hb);obtain ⟨g2_0,g2_1,g2_2,g2_3,g2_4,g2_5,g2_6,g2_7,g2_8,g2_9,g2_10⟩:=HF.out _ K3.out;clear hb)
        | (go_at_call 79;((with_reducible refine (H2.out _ (HB.out.chain K3.out)).mono ?_);rintro e w4 ⟨rfl,hb⟩);have K4:=hZ (K3.out.chain hb);clear hb))
       go_ret
       exact ⟨rfl,HB.out.chain K4.out⟩
     | true =>
       cases v3 with
       | false =>
         go_enter Tryz.func133,Tryz.ntmps133
         go_wp2_with (first
          | (go_at_call 125;rw [<- qh];clear qh;((with_reducible refine (H0.out _ (HB.out.chain K1.out)).mono ?_);rintro e w2 ⟨rfl,hb⟩);have K2:=hZ (K1.out.chain hb);obtain ⟨g1_0,g1_1,g1_2,g1_3,g1_4,g1_5,g1_6,g1_7,g1_8,g1_9,g1_10⟩:=HF.out _ K2.out;clear hb)
          | (go_at_call 154;((with_reducible refine (H1.out _ (HB.out.chain K2.out)).mono ?_);rintro e w3 ⟨rfl,hb⟩);have K3:=hZ (K2.out.chain hb);obtain ⟨g2_0,g2_1,g2_2,g2_3,g2_4,g2_5,g2_6,g2_7,g2_8,g2_9,g2_10⟩:=HF.out _ K3.out;clear hb)
          | (go_at_call 79;((with_reducible refine (H2.out _ (HB.out.chain K3.out)).mono ?_);rintro e w4 ⟨rfl,hb⟩);have K4:=hZ (K3.out.chain hb);obtain ⟨g3_0,g3_1,g3_2,g3_3,g3_4,g3_5,g3_6,g3_7,g3_8,g3_9,g3_10⟩:=HF.out _ K4.out;clear hb)
          | (go_at_call 79;((with_reducible refine (H3.out _ (HB.out.chain K4.out)).mono ?_);rintro e w5 ⟨rfl,hb⟩);have K5:=hZ (K4.out.chain hb);clear hb))
         go_ret
         exact ⟨rfl,HB.out.chain K5.out⟩
       | true =>
         go_enter Tryz.func133,Tryz.ntmps133
         go_wp2_with (first
          | (go_at_call 125;rw [<- qh];clear qh;((with_reducible refine (H0.out _ (HB.out.chain K1.out)).mono ?_);rintro e w2 ⟨rfl,hb⟩);have K2:=hZ (K1.out.chain hb);obtain ⟨g1_0,g1_1,g1_2,g1_3,g1_4,g1_5,g1_6,g1_7,g1_8,g1_9,g1_10⟩:=HF.out _ K2.out;clear hb)
          | (go_at_call 154;((with_reducible refine (H1.out _ (HB.out.chain K2.out)).mono ?_);rintro e w3 ⟨rfl,hb⟩);have K3:=hZ (K2.out.chain hb);obtain ⟨g2_0,g2_1,g2_2,g2_3,g2_4,g2_5,g2_6,g2_7,g2_8,g2_9,g2_10⟩:=HF.out _ K3.out;clear hb)
          | (go_at_call 79;((with_reducible refine (H2.out _ (HB.out.chain K3.out)).mono ?_);rintro e w4 ⟨rfl,hb⟩);have K4:=hZ (K3.out.chain hb);obtain ⟨g3_0,g3_1,g3_2,g3_3,g3_4,g3_5,g3_6,g3_7,g3_8,g3_9,g3_10⟩:=HF.out _ K4.out;clear hb)
          | (go_at_call 79;((with_reducible refine (H3.out _ (HB.out.chain K4.out)).mono ?_);rintro e w5 ⟨rfl,hb⟩);have K5:=hZ (K4.out.chain hb);clear hb))
         go_ret
         exact ⟨rfl,HB.out.chain K5.out⟩
end Go.Proofs.YtojjfdegkooknaaGreatDoor
