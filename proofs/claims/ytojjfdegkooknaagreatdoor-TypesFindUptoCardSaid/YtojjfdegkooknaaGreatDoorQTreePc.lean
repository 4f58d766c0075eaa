import Derived.Test.YtojjfdegkooknaaGreatDoorQTreeSh
import Derived.Test.YtojjfdegkooknaaGreatDoorQTreeXv
import Derived.Test.YtojjfdegkooknaaGreatDoorQTreeK
import Derived.Test.YtojjfdegkooknaaGreatDoorQTreeO
import Derived.Test.YtojjfdegkooknaaGreatDoorQTreeGf
import Derived.Test.YtojjfdegkooknaaGreatDoorQTreeSz
import Derived.Test.YtojjfdegkooknaaGreatDoorQTreeQ
set_option linter.unusedVariables false
set_option linter.unusedSimpArgs false
namespace Go.Proofs.YtojjfdegkooknaaGreatDoor
set_option maxRecDepth 100000
set_option maxHeartbeats 8000000
open Go.RowKit
theorem name_ok : VarOk 125 nameL:=⟨enters_of Tryz.func125 (by kernel_rfl) rfl,name_any⟩
def vPs (l : List Pm) : Bool:=decide ((0 : Int) ≤ l.length) && decide ((l.length : Int) ≤ 8) && l.all (vP nameL)
def vDj (l : List Fm) : Bool:=decide ((1 : Int) ≤ l.length) && decide ((l.length : Int) ≤ 100) && l.all (vF nameL 1048576 8)
def vRc (x : Rc) : Bool:=nameL x.nm && decide ((x.fs.length : Int) > 0) && vPs x.fs
def vLk (x : Lk) : Bool:=nameL x.nm && vDj x.iv
def vDf (x : Df) : Bool:=nameL x.nm && decide ((x.ps.length : Int) > 0) && vPs x.ps && vDj x.cs
def vLm (x : Lm) : Bool:=nameL x.nm && vPs x.ps && vF nameL 1048576 8 x.lf && vF nameL 1048576 8 x.rt
theorem params_any (ps : List Pm) (A : Option Addr) (c : Nat) (w : World) (hn : ps.length ≤ maxLen) (hr : PmRow w w.heap.size ps A) :
 Calls Tryz.prog 154 #[rulesV 125 1048576 8,.slice A ps.length c] w fun e w' => e = .returned (.bool (vPs ps)) ∧ Below w.heap.size w w':=by
 have HB:=Lib.hid (below_alloc w (rulesC 125 1048576 8))
 have HC : Hid (Calls Tryz.prog 106 #[.slice A ps.length c,.int .i64 0,.int .i64 8,.func (.func 107) #[rulesV 125 1048576 8] #[]] (w.alloc (rulesC 125 1048576 8)) fun e w' => e = .returned (.bool (vPs ps)) ∧ Below (w.alloc (rulesC 125 1048576 8)).heap.size (w.alloc (rulesC 125 1048576 8)) w'):=Lib.hid (vlr_param _ nameL name_ok 1048576 8 ps A c 0 8 _ hn (hr.on pm_keeps HB.out))
 generalize vPs ps = res at *
 unfold maxLen at hn
 clear hr
 go_enter Tryz.func154,Tryz.ntmps154
 go_wp2_with (go_at_call 106;refine HC.out.mono ?_;rintro e w2 ⟨rfl,hb⟩)
 go_ret
 exact ⟨rfl,HB.out.chain hb⟩
theorem disj_any (fs : List Fm) (A : Option Addr) (c : Nat) (w : World) (hn : fs.length ≤ maxLen) (hr : FmRow w w.heap.size fs A) :
 Calls Tryz.prog 155 #[rulesV 125 1048576 8,.slice A fs.length c] w fun e w' => e = .returned (.bool (vDj fs)) ∧ Below w.heap.size w w':=by
 have HB:=Lib.hid (below_alloc w (rulesC 125 1048576 8))
 have HC : Hid (Calls Tryz.prog 194 #[.slice A fs.length c,.int .i64 1,.int .i64 100,.func (.func 79) #[rulesV 125 1048576 8] #[]] (w.alloc (rulesC 125 1048576 8)) fun e w' => e = .returned (.bool (vDj fs)) ∧ Below (w.alloc (rulesC 125 1048576 8)).heap.size (w.alloc (rulesC 125 1048576 8)) w'):=Lib.hid (vlr_formula _ nameL name_ok 1048576 8 (by omega) (by omega) fs A c 1 100 _ hn (hr.on fm_keeps HB.out))
 generalize vDj fs = res at *
 unfold maxLen at hn
 clear hr
 go_enter Tryz.func155,Tryz.ntmps155
 go_wp2_with (go_at_call 194;refine HC.out.mono ?_;rintro e w2 ⟨rfl,hb⟩)
 go_ret
 exact ⟨rfl,HB.out.chain hb⟩
theorem record_any (nm : List UInt8) (fs : List Pm) (A : Option Addr) (c : Nat) (w : World) (b0 : nm.length ≤ maxLen) (b1 : fs.length ≤ maxLen) (hr : PmRow w w.heap.size fs A) :
 Calls Tryz.prog 127 #[rulesV 125 1048576 8,.agg #[.string ⟨nm.toArray⟩,.slice A fs.length c]] w fun e w' => e = .returned (.bool (vRc ⟨nm,fs⟩)) ∧ Below w.heap.size w w':=by
 obtain ⟨v0,hv0⟩ : ∃ v,v = nameL nm:=⟨_,rfl⟩
 obtain ⟨v1,hv1⟩ : ∃ v,v = decide ((fs.length : Int) > 0):=⟨_,rfl⟩
 obtain ⟨v2,hv2⟩ : ∃ v,v = vPs fs:=⟨_,rfl⟩
 have hres : vRc ⟨nm,fs⟩ = (v0 && v1 && v2):=by
  rw [hv0,hv1,hv2]
  rfl
 rw [hres]
 have H0 : Hid (BC w 125 #[.string ⟨nm.toArray⟩] v0):=Lib.hid (fun W hb => by rw [hv0];exact name_any nm W b0)
 have H2 : Hid (BC w 154 #[rulesV 125 1048576 8,.slice A fs.length c] v2):=Lib.hid (fun W hb => by rw [hv2];exact params_any fs A c W b1 (hr.on pm_keeps hb))
 have T1 : Hid (v1 = decide ((fs.length : Int) > 0)):=Lib.hid hv1
 generalize fs.length = n at *
 obtain ⟨W1,hW1⟩ : ∃ W1,W1 = (w.alloc (rulesC 125 1048576 8)).alloc (.cells #[.string ⟨nm.toArray⟩,.slice A n c] 36):=⟨_,rfl⟩
 have HB : Hid (Below w.heap.size w W1):=Lib.hid (by rw [hW1];exact (below_alloc w _).chain (below_alloc _ _))
 have q1:=heap_keep (o:=.cells #[.string ⟨nm.toArray⟩,.slice A n c] 36) (heap_of_alloc w (rulesC 125 1048576 8))
 have q2:=heap_of_alloc (w.alloc (rulesC 125 1048576 8)) (.cells #[.string ⟨nm.toArray⟩,.slice A n c] 36)
 rw [size_of_alloc] at q2
 rw [← hW1] at q1 q2
 have HF : Hid (∀ W,Below W1.heap.size W1 W → W.cell? ⟨w.heap.size,0,none⟩ = some (.func (.func 125) #[] #[]) ∧ W.cell? ⟨w.heap.size,1,none⟩ = some (.int .i64 1048576) ∧ W.cell? ⟨w.heap.size,2,none⟩ = some (.int .i64 8) ∧ W.cell? ⟨w.heap.size + 1,0,none⟩ = some (.string ⟨nm.toArray⟩) ∧ W.cell? ⟨w.heap.size + 1,1,none⟩ = some (.slice A n c)) :=
  Lib.hid (fun W hb => ⟨cell_of_block (kept_box hb q1) 0 rfl,cell_of_block (kept_box hb q1) 1 rfl,cell_of_block (kept_box hb q1) 2 rfl,cell_of_block (kept_box hb q2) 0 rfl,cell_of_block (kept_box hb q2) 1 rfl⟩)
 have K1:=Lib.hid (Below.refl W1.heap.size W1)
 clear q1 q2 hres hv0 hv1 hv2 hr
 try unfold maxLen at *
 cases v0 with
 | false =>
   go_enter Tryz.func127,Tryz.ntmps127
   go_wp2_with (go_at_call 125;rw [← hW1];clear hW1;((with_reducible refine (H0.out _ (HB.out.chain K1.out)).mono ?_);rintro e w2 ⟨rfl,hb⟩);have K2:=Lib.hid (K1.out.chain hb);clear hb)
   go_ret
   exact ⟨rfl,HB.out.chain K2.out⟩
 | true =>
   cases v1 with
   | false =>
     have hl1 : ¬ ((n : Int) > 0):=by simpa using T1.out
     go_enter Tryz.func127,Tryz.ntmps127
     go_wp2_with (go_at_call 125;rw [← hW1];clear hW1;((with_reducible refine (H0.out _ (HB.out.chain K1.out)).mono ?_);rintro e w2 ⟨rfl,hb⟩);have K2:=Lib.hid (K1.out.chain hb);obtain ⟨g1_0,g1_1,g1_2,g1_3,g1_4⟩:=HF.out _ K2.out;clear hb)
     go_ret
     exact ⟨rfl,HB.out.chain K2.out⟩
   | true =>
     have hl1 : (n : Int) > 0:=by simpa using T1.out
     cases v2 with
     | false =>
       go_enter Tryz.func127,Tryz.ntmps127
       go_wp2_with (first
        | (go_at_call 125;rw [← hW1];clear hW1;((with_reducible refine (H0.out _ (HB.out.chain K1.out)).mono ?_);rintro e w2 ⟨rfl,hb⟩);have K2:=Lib.hid (K1.out.chain hb);obtain ⟨g1_0,g1_1,g1_2,g1_3,g1_4⟩:=HF.out _ K2.out;clear hb)
        | (go_at_call 154;((with_reducible refine (H2.out _ (HB.out.chain K2.out)).mono ?_);rintro e w3 ⟨rfl,hb⟩);have K3:=Lib.hid (K2.out.chain hb);clear hb))
       go_ret
       exact ⟨rfl,HB.out.chain K3.out⟩
     | true =>
       go_enter Tryz.func127,Tryz.ntmps127
       go_wp2_with (first
        | (go_at_call 125;rw [← hW1];clear hW1;((with_reducible refine (H0.out _ (HB.out.chain K1.out)).mono ?_);rintro e w2 ⟨rfl,hb⟩);have K2:=Lib.hid (K1.out.chain hb);obtain ⟨g1_0,g1_1,g1_2,g1_3,g1_4⟩:=HF.out _ K2.out;clear hb)
        | (go_at_call 154;((with_reducible refine (H2.out _ (HB.out.chain K2.out)).mono ?_);rintro e w3 ⟨rfl,hb⟩);have K3:=Lib.hid (K2.out.chain hb);clear hb))
       go_ret
       exact ⟨rfl,HB.out.chain K3.out⟩
theorem lock_any (nm : List UInt8) (iv : List Fm) (A : Option Addr) (c : Nat) (w : World) (b0 : nm.length ≤ maxLen) (b1 : iv.length ≤ maxLen) (hr : FmRow w w.heap.size iv A) :
 Calls Tryz.prog 129 #[rulesV 125 1048576 8,.agg #[.string ⟨nm.toArray⟩,.slice A iv.length c]] w fun e w' => e = .returned (.bool (vLk ⟨nm,iv⟩)) ∧ Below w.heap.size w w':=by
 obtain ⟨v0,hv0⟩ : ∃ v,v = nameL nm:=⟨_,rfl⟩
 obtain ⟨v1,hv1⟩ : ∃ v,v = vDj iv:=⟨_,rfl⟩
 have hres : vLk ⟨nm,iv⟩ = (v0 && v1):=by
  rw [hv0,hv1]
  rfl
 rw [hres]
 have H0 : Hid (BC w 125 #[.string ⟨nm.toArray⟩] v0):=Lib.hid (fun W hb => by rw [hv0];exact name_any nm W b0)
 have H1 : Hid (BC w 155 #[rulesV 125 1048576 8,.slice A iv.length c] v1):=Lib.hid (fun W hb => by rw [hv1];exact disj_any iv A c W b1 (hr.on fm_keeps hb))
 generalize iv.length = n at *
 obtain ⟨W1,hW1⟩ : ∃ W1,W1 = (w.alloc (rulesC 125 1048576 8)).alloc (.cells #[.string ⟨nm.toArray⟩,.slice A n c] 61):=⟨_,rfl⟩
 have HB : Hid (Below w.heap.size w W1):=Lib.hid (by rw [hW1];exact (below_alloc w _).chain (below_alloc _ _))
 have q1:=heap_keep (o:=.cells #[.string ⟨nm.toArray⟩,.slice A n c] 61) (heap_of_alloc w (rulesC 125 1048576 8))
 have q2:=heap_of_alloc (w.alloc (rulesC 125 1048576 8)) (.cells #[.string ⟨nm.toArray⟩,.slice A n c] 61)
 rw [size_of_alloc] at q2
 rw [← hW1] at q1 q2
 have HF : Hid (∀ W,Below W1.heap.size W1 W → W.cell? ⟨w.heap.size,0,none⟩ = some (.func (.func 125) #[] #[]) ∧ W.cell? ⟨w.heap.size,1,none⟩ = some (.int .i64 1048576) ∧ W.cell? ⟨w.heap.size,2,none⟩ = some (.int .i64 8) ∧ W.cell? ⟨w.heap.size + 1,0,none⟩ = some (.string ⟨nm.toArray⟩) ∧ W.cell? ⟨w.heap.size + 1,1,none⟩ = some (.slice A n c)) :=
  Lib.hid (fun W hb => ⟨cell_of_block (kept_box hb q1) 0 rfl,cell_of_block (kept_box hb q1) 1 rfl,cell_of_block (kept_box hb q1) 2 rfl,cell_of_block (kept_box hb q2) 0 rfl,cell_of_block (kept_box hb q2) 1 rfl⟩)
 have K1:=Lib.hid (Below.refl W1.heap.size W1)
 clear q1 q2 hres hv0 hv1 hr
 try unfold maxLen at *
 cases v0 with
 | false =>
   go_enter Tryz.func129,Tryz.ntmps129
   go_wp2_with (go_at_call 125;rw [← hW1];clear hW1;((with_reducible refine (H0.out _ (HB.out.chain K1.out)).mono ?_);rintro e w2 ⟨rfl,hb⟩);have K2:=Lib.hid (K1.out.chain hb);clear hb)
   go_ret
   exact ⟨rfl,HB.out.chain K2.out⟩
 | true =>
   cases v1 with
   | false =>
     go_enter Tryz.func129,Tryz.ntmps129
     go_wp2_with (first
      | (go_at_call 125;rw [← hW1];clear hW1;((with_reducible refine (H0.out _ (HB.out.chain K1.out)).mono ?_);rintro e w2 ⟨rfl,hb⟩);have K2:=Lib.hid (K1.out.chain hb);obtain ⟨g1_0,g1_1,g1_2,g1_3,g1_4⟩:=HF.out _ K2.out;clear hb)
      | (go_at_call 155;((with_reducible refine (H1.out _ (HB.out.chain K2.out)).mono ?_);rintro e w3 ⟨rfl,hb⟩);have K3:=Lib.hid (K2.out.chain hb);clear hb))
     go_ret
     exact ⟨rfl,HB.out.chain K3.out⟩
   | true =>
     go_enter Tryz.func129,Tryz.ntmps129
     go_wp2_with (first
      | (go_at_call 125;rw [← hW1];clear hW1;((with_reducible refine (H0.out _ (HB.out.chain K1.out)).mono ?_);rintro e w2 ⟨rfl,hb⟩);have K2:=Lib.hid (K1.out.chain hb);obtain ⟨g1_0,g1_1,g1_2,g1_3,g1_4⟩:=HF.out _ K2.out;clear hb)
      | (go_at_call 155;((with_reducible refine (H1.out _ (HB.out.chain K2.out)).mono ?_);rintro e w3 ⟨rfl,hb⟩);have K3:=Lib.hid (K2.out.chain hb);clear hb))
     go_ret
     exact ⟨rfl,HB.out.chain K3.out⟩
theorem def_any (nm : List UInt8) (ps : List Pm) (cs : List Fm) (A : Option Addr) (c : Nat) (A2 : Option Addr) (c2 : Nat) (w : World) (b0 : nm.length ≤ maxLen) (b1 : ps.length ≤ maxLen) (b2 : cs.length ≤ maxLen) (hr : PmRow w w.heap.size ps A) (hf : FmRow w w.heap.size cs A2) :
 Calls Tryz.prog 131 #[rulesV 125 1048576 8,.agg #[.string ⟨nm.toArray⟩,.slice A ps.length c,.slice A2 cs.length c2]] w fun e w' => e = .returned (.bool (vDf ⟨nm,ps,cs⟩)) ∧ Below w.heap.size w w':=by
 obtain ⟨v0,hv0⟩ : ∃ v,v = nameL nm:=⟨_,rfl⟩
 obtain ⟨v1,hv1⟩ : ∃ v,v = decide ((ps.length : Int) > 0):=⟨_,rfl⟩
 obtain ⟨v2,hv2⟩ : ∃ v,v = vPs ps:=⟨_,rfl⟩
 obtain ⟨v3,hv3⟩ : ∃ v,v = vDj cs:=⟨_,rfl⟩
 have hres : vDf ⟨nm,ps,cs⟩ = (v0 && v1 && v2 && v3):=by
  rw [hv0,hv1,hv2,hv3]
  rfl
 rw [hres]
 have H0 : Hid (BC w 125 #[.string ⟨nm.toArray⟩] v0):=Lib.hid (fun W hb => by rw [hv0];exact name_any nm W b0)
 have H2 : Hid (BC w 154 #[rulesV 125 1048576 8,.slice A ps.length c] v2):=Lib.hid (fun W hb => by rw [hv2];exact params_any ps A c W b1 (hr.on pm_keeps hb))
 have H3 : Hid (BC w 155 #[rulesV 125 1048576 8,.slice A2 cs.length c2] v3):=Lib.hid (fun W hb => by rw [hv3];exact disj_any cs A2 c2 W b2 (hf.on fm_keeps hb))
 have T1 : Hid (v1 = decide ((ps.length : Int) > 0)):=Lib.hid hv1
 generalize ps.length = n at *
 generalize cs.length = m at *
 obtain ⟨W1,hW1⟩ : ∃ W1,W1 = (w.alloc (rulesC 125 1048576 8)).alloc (.cells #[.string ⟨nm.toArray⟩,.slice A n c,.slice A2 m c2] 64):=⟨_,rfl⟩
 have HB : Hid (Below w.heap.size w W1):=Lib.hid (by rw [hW1];exact (below_alloc w _).chain (below_alloc _ _))
 have q1:=heap_keep (o:=.cells #[.string ⟨nm.toArray⟩,.slice A n c,.slice A2 m c2] 64) (heap_of_alloc w (rulesC 125 1048576 8))
 have q2:=heap_of_alloc (w.alloc (rulesC 125 1048576 8)) (.cells #[.string ⟨nm.toArray⟩,.slice A n c,.slice A2 m c2] 64)
 rw [size_of_alloc] at q2
 rw [← hW1] at q1 q2
 have HF : Hid (∀ W,Below W1.heap.size W1 W → W.cell? ⟨w.heap.size,0,none⟩ = some (.func (.func 125) #[] #[]) ∧ W.cell? ⟨w.heap.size,1,none⟩ = some (.int .i64 1048576) ∧ W.cell? ⟨w.heap.size,2,none⟩ = some (.int .i64 8) ∧ W.cell? ⟨w.heap.size + 1,0,none⟩ = some (.string ⟨nm.toArray⟩) ∧ W.cell? ⟨w.heap.size + 1,1,none⟩ = some (.slice A n c) ∧ W.cell? ⟨w.heap.size + 1,2,none⟩ = some (.slice A2 m c2)) :=
  Lib.hid (fun W hb => ⟨cell_of_block (kept_box hb q1) 0 rfl,cell_of_block (kept_box hb q1) 1 rfl,cell_of_block (kept_box hb q1) 2 rfl,cell_of_block (kept_box hb q2) 0 rfl,cell_of_block (kept_box hb q2) 1 rfl,cell_of_block (kept_box hb q2) 2 rfl⟩)
 have K1:=Lib.hid (Below.refl W1.heap.size W1)
 clear q1 q2 hres hv0 hv1 hv2 hv3 hr hf
 try unfold maxLen at *
 cases v0 with
 | false =>
   go_enter Tryz.func131,Tryz.ntmps131
   go_wp2_with (go_at_call 125;rw [← hW1];clear hW1;((with_reducible refine (H0.out _ (HB.out.chain K1.out)).mono ?_);rintro e w2 ⟨rfl,hb⟩);have K2:=Lib.hid (K1.out.chain hb);clear hb)
   go_ret
   exact ⟨rfl,HB.out.chain K2.out⟩
 | true =>
   cases v1 with
   | false =>
     have hl1 : ¬ ((n : Int) > 0):=by simpa using T1.out
     go_enter Tryz.func131,Tryz.ntmps131
     go_wp2_with (go_at_call 125;rw [← hW1];clear hW1;((with_reducible refine (H0.out _ (HB.out.chain K1.out)).mono ?_);rintro e w2 ⟨rfl,hb⟩);have K2:=Lib.hid (K1.out.chain hb);obtain ⟨g1_0,g1_1,g1_2,g1_3,g1_4,g1_5⟩:=HF.out _ K2.out;clear hb)
     go_ret
     exact ⟨rfl,HB.out.chain K2.out⟩
   | true =>
     have hl1 : (n : Int) > 0:=by simpa using T1.out
     cases v2 with
     | false =>
       go_enter Tryz.func131,Tryz.ntmps131
       go_wp2_with (first
        | (go_at_call 125;rw [← hW1];clear hW1;((with_reducible refine (H0.out _ (HB.out.chain K1.out)).mono ?_);rintro e w2 ⟨rfl,hb⟩);have K2:=Lib.hid (K1.out.chain hb);obtain ⟨g1_0,g1_1,g1_2,g1_3,g1_4,g1_5⟩:=HF.out _ K2.out;clear hb)
        | (go_at_call 154;((with_reducible refine (H2.out _ (HB.out.chain K2.out)).mono ?_);rintro e w3 ⟨rfl,hb⟩);have K3:=Lib.hid (K2.out.chain hb);clear hb))
       go_ret
       exact ⟨rfl,HB.out.chain K3.out⟩
     | true =>
       cases v3 with
       | false =>
         go_enter Tryz.func131,Tryz.ntmps131
         go_wp2_with (first
          | (go_at_call 125;rw [← hW1];clear hW1;((with_reducible refine (H0.out _ (HB.out.chain K1.out)).mono ?_);rintro e w2 ⟨rfl,hb⟩);have K2:=Lib.hid (K1.out.chain hb);obtain ⟨g1_0,g1_1,g1_2,g1_3,g1_4,g1_5⟩:=HF.out _ K2.out;clear hb)
          | (go_at_call 154;((with_reducible refine (H2.out _ (HB.out.chain K2.out)).mono ?_);rintro e w3 ⟨rfl,hb⟩);have K3:=Lib.hid (K2.out.chain hb);obtain ⟨g2_0,g2_1,g2_2,g2_3,g2_4,g2_5⟩:=HF.out _ K3.out;clear hb)
          | (go_at_call 155;((with_reducible refine (H3.out _ (HB.out.chain K3.out)).mono ?_);rintro e w4 ⟨rfl,hb⟩);have K4:=Lib.hid (K3.out.chain hb);clear hb))
         go_ret
         exact ⟨rfl,HB.out.chain K4.out⟩
       | true =>
         go_enter Tryz.func131,Tryz.ntmps131
         go_wp2_with (first
          | (go_at_call 125;rw [← hW1];clear hW1;((with_reducible refine (H0.out _ (HB.out.chain K1.out)).mono ?_);rintro e w2 ⟨rfl,hb⟩);have K2:=Lib.hid (K1.out.chain hb);obtain ⟨g1_0,g1_1,g1_2,g1_3,g1_4,g1_5⟩:=HF.out _ K2.out;clear hb)
          | (go_at_call 154;((with_reducible refine (H2.out _ (HB.out.chain K2.out)).mono ?_);rintro e w3 ⟨rfl,hb⟩);have K3:=Lib.hid (K2.out.chain hb);obtain ⟨g2_0,g2_1,g2_2,g2_3,g2_4,g2_5⟩:=HF.out _ K3.out;clear hb)
          | (go_at_call 155;((with_reducible refine (H3.out _ (HB.out.chain K3.out)).mono ?_);rintro e w4 ⟨rfl,hb⟩);have K4:=Lib.hid (K3.out.chain hb);clear hb))
         go_ret
         exact ⟨rfl,HB.out.chain K4.out⟩
theorem lemma_any (nm : List UInt8) (ps : List Pm) (f h : Fm) (A : Option Addr) (c : Nat) (d e : FAd) (w : World) (b0 : nm.length ≤ maxLen) (b1 : ps.length ≤ maxLen) (hr : PmRow w w.heap.size ps A) (rf : FmOwn w w.heap.size d f) (rh : FmOwn w w.heap.size e h) :
 Calls Tryz.prog 133 #[rulesV 125 1048576 8,.agg #[.string ⟨nm.toArray⟩,.slice A ps.length c,.slice d.p f.ps.length d.np,.slice d.a f.ats.length d.na,.slice d.c f.cls.length d.nc,.slice e.p h.ps.length e.np,.slice e.a h.ats.length e.na,.slice e.c h.cls.length e.nc]] w fun e w' => e = .returned (.bool (vLm ⟨nm,ps,f,h⟩)) ∧ Below w.heap.size w w':=by
 obtain ⟨v0,hv0⟩ : ∃ v,v = nameL nm:=⟨_,rfl⟩
 obtain ⟨v1,hv1⟩ : ∃ v,v = vPs ps:=⟨_,rfl⟩
 obtain ⟨v2,hv2⟩ : ∃ v,v = vF nameL 1048576 8 f:=⟨_,rfl⟩
 obtain ⟨v3,hv3⟩ : ∃ v,v = vF nameL 1048576 8 h:=⟨_,rfl⟩
 have hres : vLm ⟨nm,ps,f,h⟩ = (v0 && v1 && v2 && v3):=by
  rw [hv0,hv1,hv2,hv3]
  rfl
 rw [hres]
 have H0 : Hid (BC w 125 #[.string ⟨nm.toArray⟩] v0):=Lib.hid (fun W hb => by rw [hv0];exact name_any nm W b0)
 have H1 : Hid (BC w 154 #[rulesV 125 1048576 8,.slice A ps.length c] v1):=Lib.hid (fun W hb => by rw [hv1];exact params_any ps A c W b1 (hr.on pm_keeps hb))
 have H2 : Hid (BC w 79 #[rulesV 125 1048576 8,formulaV (.slice d.p f.ps.length d.np) (.slice d.a f.ats.length d.na) (.slice d.c f.cls.length d.nc)] v2):=Lib.hid (fun W hb => by rw [hv2];exact formula_any _ nameL name_ok 1048576 8 (by omega) (by omega) f d.p d.np d.a d.na d.c d.nc W rf.1.1 rf.1.2.1 rf.1.2.2 (rf.2.1.on pm_keeps hb) (rf.2.2.1.on at_keeps hb) (rf.2.2.2.on cl_keeps hb))
 have H3 : Hid (BC w 79 #[rulesV 125 1048576 8,formulaV (.slice e.p h.ps.length e.np) (.slice e.a h.ats.length e.na) (.slice e.c h.cls.length e.nc)] v3):=Lib.hid (fun W hb => by rw [hv3];exact formula_any _ nameL name_ok 1048576 8 (by omega) (by omega) h e.p e.np e.a e.na e.c e.nc W rh.1.1 rh.1.2.1 rh.1.2.2 (rh.2.1.on pm_keeps hb) (rh.2.2.1.on at_keeps hb) (rh.2.2.2.on cl_keeps hb))
 generalize f.ps.length = n0 at *
 generalize f.ats.length = n1 at *
 generalize f.cls.length = n2 at *
 generalize h.ps.length = m0 at *
 generalize h.ats.length = m1 at *
 generalize h.cls.length = m2 at *
 generalize  ps.length =  n at *
 obtain ⟨W1,hW1⟩ : ∃ W1,W1 = (w.alloc (rulesC 125 1048576 8)).alloc (.cells #[.string ⟨nm.toArray⟩,.slice A n c,.slice d.p n0 d.np,.slice d.a n1 d.na,.slice d.c n2 d.nc,.slice e.p m0 e.np,.slice e.a m1 e.na,.slice e.c m2 e.nc] 71):=⟨_,rfl⟩
 have HB : Hid (Below w.heap.size w W1):=Lib.hid (by rw [hW1];exact (below_alloc w _).chain (below_alloc _ _))
 have q1:=heap_keep (o:=.cells #[.string ⟨nm.toArray⟩,.slice A n c,.slice d.p n0 d.np,.slice d.a n1 d.na,.slice d.c n2 d.nc,.slice e.p m0 e.np,.slice e.a m1 e.na,.slice e.c m2 e.nc] 71) (heap_of_alloc w (rulesC 125 1048576 8))
 have q2:=heap_of_alloc (w.alloc (rulesC 125 1048576 8)) (.cells #[.string ⟨nm.toArray⟩,.slice A n c,.slice d.p n0 d.np,.slice d.a n1 d.na,.slice d.c n2 d.nc,.slice e.p m0 e.np,.slice e.a m1 e.na,.slice e.c m2 e.nc] 71)
 rw [size_of_alloc] at q2
 rw [← hW1] at q1 q2
 have HF : Hid (∀ W,Below W1.heap.size W1 W → W.cell? ⟨w.heap.size,0,none⟩ = some (.func (.func 125) #[] #[]) ∧ W.cell? ⟨w.heap.size,1,none⟩ = some (.int .i64 1048576) ∧ W.cell? ⟨w.heap.size,2,none⟩ = some (.int .i64 8) ∧ W.cell? ⟨w.heap.size + 1,0,none⟩ = some (.string ⟨nm.toArray⟩) ∧ W.cell? ⟨w.heap.size + 1,1,none⟩ = some (.slice A n c) ∧ W.cell? ⟨w.heap.size + 1,2,none⟩ = some (.slice d.p n0 d.np) ∧ W.cell? ⟨w.heap.size + 1,3,none⟩ = some (.slice d.a n1 d.na) ∧ W.cell? ⟨w.heap.size + 1,4,none⟩ = some (.slice d.c n2 d.nc) ∧ W.cell? ⟨w.heap.size + 1,5,none⟩ = some (.slice e.p m0 e.np) ∧ W.cell? ⟨w.heap.size + 1,6,none⟩ = some (.slice e.a m1 e.na) ∧ W.cell? ⟨w.heap.size + 1,7,none⟩ = some (.slice e.c m2 e.nc)) :=
  Lib.hid (fun W hb => ⟨cell_of_block (kept_box hb q1) 0 rfl,cell_of_block (kept_box hb q1) 1 rfl,cell_of_block (kept_box hb q1) 2 rfl,cell_of_block (kept_box hb q2) 0 rfl,cell_of_block (kept_box hb q2) 1 rfl,cell_of_block (kept_box hb q2) 2 rfl,cell_of_block (kept_box hb q2) 3 rfl,cell_of_block (kept_box hb q2) 4 rfl,cell_of_block (kept_box hb q2) 5 rfl,cell_of_block (kept_box hb q2) 6 rfl,cell_of_block (kept_box hb q2) 7 rfl⟩)
 have K1:=Lib.hid (Below.refl W1.heap.size W1)
 clear q1 q2 hres hv0 hv1 hv2 hv3 hr rf rh
 try unfold maxLen at *
 cases v0 with
 | false =>
   go_enter Tryz.func133,Tryz.ntmps133
   go_wp2_with (go_at_call 125;rw [← hW1];clear hW1;((with_reducible refine (H0.out _ (HB.out.chain K1.out)).mono ?_);rintro e w2 ⟨rfl,hb⟩);have K2:=Lib.hid (K1.out.chain hb);clear hb)
   go_ret
   exact ⟨rfl,HB.out.chain K2.out⟩
 | true =>
   cases v1 with
   | false =>
     go_enter Tryz.func133,Tryz.ntmps133
     go_wp2_with (first
      | (go_at_call 125;rw [← hW1];clear hW1;((with_reducible refine (H0.out _ (HB.out.chain K1.out)).mono ?_);rintro e w2 ⟨rfl,hb⟩);have K2:=Lib.hid (K1.out.chain hb);obtain ⟨g1_0,g1_1,g1_2,g1_3,g1_4,g1_5,g1_6,g1_7,g1_8,g1_9,g1_10⟩:=HF.out _ K2.out;clear hb)
      | (go_at_call 154;((with_reducible refine (H1.out _ (HB.out.chain K2.out)).mono ?_);rintro e w3 ⟨rfl,hb⟩);have K3:=Lib.hid (K2.out.chain hb);clear hb))
     go_ret
     exact ⟨rfl,HB.out.chain K3.out⟩
   | true =>
     cases v2 with
     | false =>
       go_enter Tryz.func133,Tryz.ntmps133
       go_wp2_with (first
        | (go_at_call 125;rw [← hW1];clear hW1;((with_reducible refine (H0.out _ (HB.out.chain K1.out)).mono ?_);rintro e w2 ⟨rfl,hb⟩);have K2:=Lib.hid (K1.out.chain hb);obtain ⟨g1_0,g1_1,g1_2,g1_3,g1_4,g1_5,g1_6,g1_7,g1_8,g1_9,g1_10⟩:=HF.out _ K2.out;clear hb)
        | (go_at_call 154;((with_reducible refine (H1.out _ (HB.out.chain K2.out)).mono ?_);rintro e w3 ⟨rfl,hb⟩);have K3:=Lib.hid (K2.out.chain hb);obtain ⟨g2_0,g2_1,g2_2,g2_3,g2_4,g2_5,g2_6,g2_7,g2_8,g2_9,g2_10⟩:=HF.out _ K3.out;clear hb)
        | (go_at_call 79;((with_reducible refine (H2.out _ (HB.out.chain K3.out)).mono ?_);rintro e w4 ⟨rfl,hb⟩);have K4:=Lib.hid (K3.out.chain hb);clear hb))
       go_ret
       exact ⟨rfl,HB.out.chain K4.out⟩
     | true =>
       cases v3 with
       | false =>
         go_enter Tryz.func133,Tryz.ntmps133
         go_wp2_with (first
          | (go_at_call 125;rw [← hW1];clear hW1;((with_reducible refine (H0.out _ (HB.out.chain K1.out)).mono ?_);rintro e w2 ⟨rfl,hb⟩);have K2:=Lib.hid (K1.out.chain hb);obtain ⟨g1_0,g1_1,g1_2,g1_3,g1_4,g1_5,g1_6,g1_7,g1_8,g1_9,g1_10⟩:=HF.out _ K2.out;clear hb)
          | (go_at_call 154;((with_reducible refine (H1.out _ (HB.out.chain K2.out)).mono ?_);rintro e w3 ⟨rfl,hb⟩);have K3:=Lib.hid (K2.out.chain hb);obtain ⟨g2_0,g2_1,g2_2,g2_3,g2_4,g2_5,g2_6,g2_7,g2_8,g2_9,g2_10⟩:=HF.out _ K3.out;clear hb)
          | (go_at_call 79;((with_reducible refine (H2.out _ (HB.out.chain K3.out)).mono ?_);rintro e w4 ⟨rfl,hb⟩);have K4:=Lib.hid (K3.out.chain hb);obtain ⟨g3_0,g3_1,g3_2,g3_3,g3_4,g3_5,g3_6,g3_7,g3_8,g3_9,g3_10⟩:=HF.out _ K4.out;clear hb)
          | (go_at_call 79;((with_reducible refine (H3.out _ (HB.out.chain K4.out)).mono ?_);rintro e w5 ⟨rfl,hb⟩);have K5:=Lib.hid (K4.out.chain hb);clear hb))
         go_ret
         exact ⟨rfl,HB.out.chain K5.out⟩
       | true =>
         go_enter Tryz.func133,Tryz.ntmps133
         go_wp2_with (first
          | (go_at_call 125;rw [← hW1];clear hW1;((with_reducible refine (H0.out _ (HB.out.chain K1.out)).mono ?_);rintro e w2 ⟨rfl,hb⟩);have K2:=Lib.hid (K1.out.chain hb);obtain ⟨g1_0,g1_1,g1_2,g1_3,g1_4,g1_5,g1_6,g1_7,g1_8,g1_9,g1_10⟩:=HF.out _ K2.out;clear hb)
          | (go_at_call 154;((with_reducible refine (H1.out _ (HB.out.chain K2.out)).mono ?_);rintro e w3 ⟨rfl,hb⟩);have K3:=Lib.hid (K2.out.chain hb);obtain ⟨g2_0,g2_1,g2_2,g2_3,g2_4,g2_5,g2_6,g2_7,g2_8,g2_9,g2_10⟩:=HF.out _ K3.out;clear hb)
          | (go_at_call 79;((with_reducible refine (H2.out _ (HB.out.chain K3.out)).mono ?_);rintro e w4 ⟨rfl,hb⟩);have K4:=Lib.hid (K3.out.chain hb);obtain ⟨g3_0,g3_1,g3_2,g3_3,g3_4,g3_5,g3_6,g3_7,g3_8,g3_9,g3_10⟩:=HF.out _ K4.out;clear hb)
          | (go_at_call 79;((with_reducible refine (H3.out _ (HB.out.chain K4.out)).mono ?_);rintro e w5 ⟨rfl,hb⟩);have K5:=Lib.hid (K4.out.chain hb);clear hb))
         go_ret
         exact ⟨rfl,HB.out.chain K5.out⟩
end Go.Proofs.YtojjfdegkooknaaGreatDoor
