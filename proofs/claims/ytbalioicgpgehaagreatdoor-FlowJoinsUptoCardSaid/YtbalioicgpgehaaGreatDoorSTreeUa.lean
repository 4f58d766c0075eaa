import Derived.Deep.RegionHeld3
import Derived.Test.YtbalioicgpgehaaGreatDoorSTreeGl
set_option linter.unusedVariables false
set_option linter.unusedSimpArgs false
namespace Go.Proofs.YtbalioicgpgehaaGreatDoor
set_option maxRecDepth 100000
set_option maxHeartbeats 20000000
open Go.RowKit
theorem sst_1 (ln co ek en ck ak an bk bn : Int) (nm fd fr es sa sb : List UInt8) (ve va vb vl : Value) (Ac Ai As At : Option Addr) (nc ni ns nt cc ci cs' ct : Nat) (cs : Array Value) (h24 : cs.size = 24) (hk : D24 cs 1 ln co nm fd fr ek en es ve ck ak an sa va bk bn sb vb vl (.slice Ac nc cc) (.slice Ai ni ci) (.slice As ns cs') (.slice At nt ct)) (dp : Int) (vB vC vE vI vO vf vn vp vr : Bool) (_bI : (ni : Int) ≤ 9223372036854775807) (_bS : (ns : Int) ≤ 9223372036854775807) (_bT : (nt : Int) ≤ 9223372036854775807) (_bC : (nc : Int) ≤ 9223372036854775807) (w : World)
 (hPl : BC w 81 #[posV ln co] vp)
 (hV1 : BC w 82 #[.string ⟨nm.toArray⟩] vn)
 (hV2 : BC w 83 #[.string ⟨fd.toArray⟩] vf)
 (hV3 : BC w 82 #[.string ⟨fr.toArray⟩] vr)
 (hE : BC w 85 #[exprV ek en ⟨es.toArray⟩ ve] vE)
 (hC : BC w 88 #[condV2 ck ak an ⟨sa.toArray⟩ va bk bn ⟨sb.toArray⟩ vb vl] vC)
 (hI : BC w 90 #[.slice Ai ni ci,.int .i64 0] vI)
 (hB : BC w 31 #[.slice As ns cs',.int .i64 dp] vB)
 (hO : BC w 31 #[.slice At nt ct,.int .i64 dp] vO)
 (zI : ni = 0 → vI = true)
 (zB : ns = 0 → vB = true)
 (zO : nt = 0 → vO = true) :
 Calls Tryz.prog 54 #[.agg cs,.int .i64 dp] w fun e w' => e = .returned (.bool (vp && (vn && fd.isEmpty && fr.isEmpty && vE && vC && decide ((nc : Int) = 0)) && (decide ((ni : Int) = 0) && decide ((ns : Int) = 0) && decide ((nt : Int) = 0)))) ∧ Below w.heap.size w w':=by
 have GPl:=Lib.hid hPl
 have GV1:=Lib.hid hV1
 have GV2:=Lib.hid hV2
 have GV3:=Lib.hid hV3
 have GE:=Lib.hid hE
 have GC:=Lib.hid hC
 have GI:=Lib.hid hI
 have GB:=Lib.hid hB
 have GO:=Lib.hid hO
 have HU : Hid (∀ w,Calls Tryz.prog 80 #[.int .i64 1] w fun e w' => e = .returned (.string ⟨#[110,69,48]⟩) ∧ w = w'):=Lib.hid (suses_any 1)
 obtain ⟨T,N,hT,hN,hag,hsz⟩:=stmt_hidden
 have e4 : ∀ y : Operand,Op.box 36 y = Op.box T y:=fun y => by rw [hT]
 obtain ⟨W1,hW1⟩ : ∃ W1,W1 = w.alloc (.cells cs T):=⟨_,rfl⟩
 have HB1 : Hid (Below w.heap.size w W1):=Lib.hid (by rw [hW1];exact below_alloc w _)
 have q2:=heap_of_alloc w (.cells cs T)
 have c0:=cell_of_block q2 0 hk.1
 rw [← hW1] at q2
 have hszc : cs.size = N:=h24.trans hN.symm
 have HF : Hid (∀ W,Below W1.heap.size W1 W → C24 W w.heap.size 1 ln co nm fd fr ek en es ve ck ak an sa va bk bn sb vb vl (.slice Ac nc cc) (.slice Ai ni ci) (.slice As ns cs') (.slice At nt ct)):=Lib.hid (fun W hb => c24_of (kept_box hb q2) hk)
 have HF3 : Hid (∀ W,Below W1.heap.size W1 W → C3 W w.heap.size nm fd fr):=Lib.hid (fun W hb => ⟨(HF.out W hb).2.2.2.1,(HF.out W hb).2.2.2.2.1,(HF.out W hb).2.2.2.2.2.1⟩)
 have HB:=Lib.hid (Below.refl W1.heap.size W1)
 clear hPl hV1 hV2 hV3 hE hC hI hB hO hN q2 h24 hk
 cases vp with
 | false =>
   have e : (false && (vn && fd.isEmpty && fr.isEmpty && vE && vC && decide ((nc : Int) = 0)) && (decide ((ni : Int) = 0) && decide ((ns : Int) = 0) && decide ((nt : Int) = 0))) = false:=rfl
   rw [e]
   clear e zI zB zO
   go_enter Tryz.func54,Tryz.ntmps54
   simp only [e4]
   clear e4 hT
   go_wp2_with (first
    | (go_at_call 80;rw [← hW1];clear hW1;refine (HU.out _).mono ?_;rintro e wz ⟨rfl,rfl⟩;replace c0:=HF.out _ HB.out)
    | (go_at_call 84;(first | refine (shasI (b:=true) (by decide)).mono ?_ | refine (shasI (b:=false) (by decide)).mono ?_);rintro e wz ⟨rfl,rfl⟩)
    | (have hbw:=HB1.out.chain HB.out;with_reducible refine Calls.mono (by first | exact GPl.out _ hbw | exact GV1.out _ hbw | exact GV2.out _ hbw | exact GV3.out _ hbw | exact GE.out _ hbw | exact GC.out _ hbw | exact GI.out _ hbw | exact GB.out _ hbw | exact GO.out _ hbw) ?_;rintro e wn ⟨rfl,hb⟩;replace HB:=Lib.hid (HB.out.chain hb);clear hb hbw;replace c0:=HF.out _ HB.out))
   all_goals go_ret
   all_goals exact ⟨by first | rfl | (simp;done),HB1.out.chain HB.out⟩
 | true =>
   obtain ⟨rv,hrv⟩ : ∃ b,b = (decide ((ni : Int) = 0) && decide ((ns : Int) = 0) && decide ((nt : Int) = 0)):=⟨_,rfl⟩
   obtain ⟨qv,hqv⟩ : ∃ b,b = (vn && fd.isEmpty && fr.isEmpty && vE && vC && decide ((nc : Int) = 0)):=⟨_,rfl⟩
   rw [← hrv,← hqv]
   by_cases hq : qv = false
   ·rw [hq,show (true && false && rv) = false from rfl]
    have hD : (vn = false) ∨ (vn = true ∧ (fd == ([] : List UInt8)) = false) ∨ (vn = true ∧ (fd == ([] : List UInt8)) = true ∧ (fr == ([] : List UInt8)) = false) ∨ (vn = true ∧ (fd == ([] : List UInt8)) = true ∧ (fr == ([] : List UInt8)) = true ∧ vE = false) ∨ (vn = true ∧ (fd == ([] : List UInt8)) = true ∧ (fr == ([] : List UInt8)) = true ∧ vE = true ∧ vC = false) ∨ (vn = true ∧ (fd == ([] : List UInt8)) = true ∧ (fr == ([] : List UInt8)) = true ∧ vE = true ∧ vC = true ∧ ¬ (nc : Int) = 0):=by
     by_cases x0 : vn = true
     case neg => exact Or.inl (by simpa using x0)
     by_cases x1 : (fd == ([] : List UInt8)) = true
     case neg => exact Or.inr (Or.inl ⟨x0,(by simpa using x1)⟩)
     by_cases x2 : (fr == ([] : List UInt8)) = true
     case neg => exact Or.inr (Or.inr (Or.inl ⟨x0,x1,(by simpa using x2)⟩))
     by_cases x3 : vE = true
     case neg => exact Or.inr (Or.inr (Or.inr (Or.inl ⟨x0,x1,x2,(by simpa using x3)⟩)))
     by_cases x4 : vC = true
     case neg => exact Or.inr (Or.inr (Or.inr (Or.inr (Or.inl ⟨x0,x1,x2,x3,(by simpa using x4)⟩))))
     by_cases x5 : (nc : Int) = 0
     case neg => exact Or.inr (Or.inr (Or.inr (Or.inr (Or.inr (⟨x0,x1,x2,x3,x4,x5⟩)))))
     exact absurd (show qv = true by rw [hqv];rw [(show vn = true from x0),(show fd.isEmpty = true by rw [← beq_nilU];exact x1),(show fr.isEmpty = true by rw [← beq_nilU];exact x2),(show vE = true from x3),(show vC = true from x4),decide_eq_true x5];rfl) (by rw [hq];exact Bool.false_ne_true)
    clear hqv hq hrv zI zB zO
    rcases hD with rfl | ⟨rfl,x1⟩ | ⟨rfl,x1,x2⟩ | ⟨rfl,x1,x2,rfl⟩ | ⟨rfl,x1,x2,rfl,rfl⟩ | ⟨rfl,x1,x2,rfl,rfl,x5⟩
    all_goals
     (go_enter Tryz.func54,Tryz.ntmps54
      simp only [e4]
      clear e4 hT
      go_wp2_with (first
       | (go_at_call 80;rw [← hW1];clear hW1;refine (HU.out _).mono ?_;rintro e wz ⟨rfl,rfl⟩;replace c0:=HF.out _ HB.out)
       | (go_at_call 84;(first | refine (shasI (b:=true) (by decide)).mono ?_ | refine (shasI (b:=false) (by decide)).mono ?_);rintro e wz ⟨rfl,rfl⟩)
       | (have hbw:=HB1.out.chain HB.out;with_reducible refine Calls.mono (by first | exact GPl.out _ hbw | exact GV1.out _ hbw | exact GV2.out _ hbw | exact GV3.out _ hbw | exact GE.out _ hbw | exact GC.out _ hbw | exact GI.out _ hbw | exact GB.out _ hbw | exact GO.out _ hbw) ?_;rintro e wn ⟨rfl,hb⟩;replace HB:=Lib.hid (HB.out.chain hb);clear hb hbw;replace c0:=HF.out _ HB.out))
      go_region_held3 (fun W => C3 W w.heap.size nm fd fr) (first | exact HF3.out _ HB.out | exact HF3.out _ HB.out.drew | go_keep | (trace_state;fail)) (first | (have hbw:=HB1.out.chain HB.out;with_reducible refine Calls.mono (by first | exact GV1.out _ hbw | exact GV2.out _ hbw | exact GV3.out _ hbw) ?_;rintro e wn ⟨rfl,hb⟩;replace HB:=Lib.hid (HB.out.chain hb);clear hb hbw;replace c0:=HF.out _ HB.out) | (have hbw:=HB1.out.chain HB.out.drew;with_reducible refine Calls.mono (by first | exact GV1.out _ hbw | exact GV2.out _ hbw | exact GV3.out _ hbw) ?_;rintro e wn ⟨rfl,hb⟩;replace HB:=Lib.hid (HB.out.drew.chain hb);clear hb hbw;replace c0:=HF.out _ HB.out))
      all_goals
       (go_wp2_with (first
       | (go_at_call 80;rw [← hW1];clear hW1;refine (HU.out _).mono ?_;rintro e wz ⟨rfl,rfl⟩;replace c0:=HF.out _ HB.out)
       | (go_at_call 84;(first | refine (shasI (b:=true) (by decide)).mono ?_ | refine (shasI (b:=false) (by decide)).mono ?_);rintro e wz ⟨rfl,rfl⟩)
       | (have hbw:=HB1.out.chain HB.out;with_reducible refine Calls.mono (by first | exact GPl.out _ hbw | exact GV1.out _ hbw | exact GV2.out _ hbw | exact GV3.out _ hbw | exact GE.out _ hbw | exact GC.out _ hbw | exact GI.out _ hbw | exact GB.out _ hbw | exact GO.out _ hbw) ?_;rintro e wn ⟨rfl,hb⟩;replace HB:=Lib.hid (HB.out.chain hb);clear hb hbw;replace c0:=HF.out _ HB.out)))
      all_goals go_ret
      all_goals exact ⟨by first | rfl | (simp;done),HB1.out.chain HB.out⟩)
   ·have hq2 : qv = true:=by simpa using hq
    rw [hq2,show (true && true && rv) = rv from rfl]
    have hT0 : vn = true ∧ (fd == ([] : List UInt8)) = true ∧ (fr == ([] : List UInt8)) = true ∧ vE = true ∧ vC = true ∧ (nc : Int) = 0:=by
     by_cases x0 : vn = true
     case neg =>
      refine absurd (show qv = false from ?_) hq
      rw [hqv]
      rw [(show vn = false from (by simpa using x0))]
      simp
     by_cases x1 : (fd == ([] : List UInt8)) = true
     case neg =>
      refine absurd (show qv = false from ?_) hq
      rw [hqv]
      rw [(show fd.isEmpty = false by rw [← beq_nilU];exact (by simpa using x1))]
      simp
     by_cases x2 : (fr == ([] : List UInt8)) = true
     case neg =>
      refine absurd (show qv = false from ?_) hq
      rw [hqv]
      rw [(show fr.isEmpty = false by rw [← beq_nilU];exact (by simpa using x2))]
      simp
     by_cases x3 : vE = true
     case neg =>
      refine absurd (show qv = false from ?_) hq
      rw [hqv]
      rw [(show vE = false from (by simpa using x3))]
      simp
     by_cases x4 : vC = true
     case neg =>
      refine absurd (show qv = false from ?_) hq
      rw [hqv]
      rw [(show vC = false from (by simpa using x4))]
      simp
     by_cases x5 : (nc : Int) = 0
     case neg =>
      refine absurd (show qv = false from ?_) hq
      rw [hqv]
      rw [decide_eq_false x5]
      simp
     exact ⟨x0,x1,x2,x3,x4,x5⟩
    clear hqv hq hq2 qv
    obtain ⟨rfl,y1,y2,rfl,rfl,y5⟩:=hT0
    have hD : (¬ (ni : Int) = 0 ∧ rv = false) ∨ ((ni : Int) = 0 ∧ ¬ (ns : Int) = 0 ∧ rv = false) ∨ ((ni : Int) = 0 ∧ (ns : Int) = 0 ∧ ¬ (nt : Int) = 0 ∧ rv = false) ∨ ((ni : Int) = 0 ∧ (ns : Int) = 0 ∧ (nt : Int) = 0 ∧ vI = true ∧ vB = true ∧ vO = true ∧ rv = true):=by
     by_cases x0 : (ni : Int) = 0
     case neg => exact Or.inl ⟨x0,(by rw [hrv];rw [decide_eq_false x0];simp)⟩
     by_cases x1 : (ns : Int) = 0
     case neg => exact Or.inr (Or.inl ⟨x0,x1,(by rw [hrv];rw [decide_eq_false x1];simp)⟩)
     by_cases x2 : (nt : Int) = 0
     case neg => exact Or.inr (Or.inr (Or.inl ⟨x0,x1,x2,(by rw [hrv];rw [decide_eq_false x2];simp)⟩))
     exact Or.inr (Or.inr (Or.inr (⟨x0,x1,x2,(zI (by omega)),(zB (by omega)),(zO (by omega)),(by rw [hrv];rw [decide_eq_true x0,decide_eq_true x1,decide_eq_true x2];rfl)⟩)))
    clear hrv zI zB zO
    rcases hD with ⟨x0,rfl⟩ | ⟨x0,x1,rfl⟩ | ⟨x0,x1,x2,rfl⟩ | ⟨x0,x1,x2,rfl,rfl,rfl,rfl⟩
    all_goals
     (go_enter Tryz.func54,Tryz.ntmps54
      simp only [e4]
      clear e4 hT
      go_wp2_with (first
       | (go_at_call 80;rw [← hW1];clear hW1;refine (HU.out _).mono ?_;rintro e wz ⟨rfl,rfl⟩;replace c0:=HF.out _ HB.out)
       | (go_at_call 84;(first | refine (shasI (b:=true) (by decide)).mono ?_ | refine (shasI (b:=false) (by decide)).mono ?_);rintro e wz ⟨rfl,rfl⟩)
       | (have hbw:=HB1.out.chain HB.out;with_reducible refine Calls.mono (by first | exact GPl.out _ hbw | exact GV1.out _ hbw | exact GV2.out _ hbw | exact GV3.out _ hbw | exact GE.out _ hbw | exact GC.out _ hbw | exact GI.out _ hbw | exact GB.out _ hbw | exact GO.out _ hbw) ?_;rintro e wn ⟨rfl,hb⟩;replace HB:=Lib.hid (HB.out.chain hb);clear hb hbw;replace c0:=HF.out _ HB.out))
      go_region_held3 (fun W => C3 W w.heap.size nm fd fr) (first | exact HF3.out _ HB.out | exact HF3.out _ HB.out.drew | go_keep | (trace_state;fail)) (first | (have hbw:=HB1.out.chain HB.out;with_reducible refine Calls.mono (by first | exact GV1.out _ hbw | exact GV2.out _ hbw | exact GV3.out _ hbw) ?_;rintro e wn ⟨rfl,hb⟩;replace HB:=Lib.hid (HB.out.chain hb);clear hb hbw;replace c0:=HF.out _ HB.out) | (have hbw:=HB1.out.chain HB.out.drew;with_reducible refine Calls.mono (by first | exact GV1.out _ hbw | exact GV2.out _ hbw | exact GV3.out _ hbw) ?_;rintro e wn ⟨rfl,hb⟩;replace HB:=Lib.hid (HB.out.drew.chain hb);clear hb hbw;replace c0:=HF.out _ HB.out))
      all_goals
       (go_wp2_with (first
       | (go_at_call 80;rw [← hW1];clear hW1;refine (HU.out _).mono ?_;rintro e wz ⟨rfl,rfl⟩;replace c0:=HF.out _ HB.out)
       | (go_at_call 84;(first | refine (shasI (b:=true) (by decide)).mono ?_ | refine (shasI (b:=false) (by decide)).mono ?_);rintro e wz ⟨rfl,rfl⟩)
       | (have hbw:=HB1.out.chain HB.out;with_reducible refine Calls.mono (by first | exact GPl.out _ hbw | exact GV1.out _ hbw | exact GV2.out _ hbw | exact GV3.out _ hbw | exact GE.out _ hbw | exact GC.out _ hbw | exact GI.out _ hbw | exact GB.out _ hbw | exact GO.out _ hbw) ?_;rintro e wn ⟨rfl,hb⟩;replace HB:=Lib.hid (HB.out.chain hb);clear hb hbw;replace c0:=HF.out _ HB.out))
        go_loopg [10] 0 (fun m j wr => m = 0 ∧ j = .int .i64 0 ∧ Hid (Below W1.heap.size W1 wr))
        case atStart => exact ⟨rfl,rfl,HB⟩
        case round =>
         obtain ⟨rfl,rfl,HJ⟩:=hrel
         clear HB
         have HB:=Lib.hid HJ.out
         replace c0:=HF.out _ HB.out
         go_wp2_with (first
          | (go_at_call 80;rw [← hW1];clear hW1;refine (HU.out _).mono ?_;rintro e wz ⟨rfl,rfl⟩;replace c0:=HF.out _ HB.out)
          | (go_at_call 84;(first | refine (shasI (b:=true) (by decide)).mono ?_ | refine (shasI (b:=false) (by decide)).mono ?_);rintro e wz ⟨rfl,rfl⟩)
          | (have hbw:=HB1.out.chain HB.out;with_reducible refine Calls.mono (by first | exact GPl.out _ hbw | exact GV1.out _ hbw | exact GV2.out _ hbw | exact GV3.out _ hbw | exact GE.out _ hbw | exact GC.out _ hbw | exact GI.out _ hbw | exact GB.out _ hbw | exact GO.out _ hbw) ?_;rintro e wn ⟨rfl,hb⟩;replace HB:=Lib.hid (HB.out.chain hb);clear hb hbw;replace c0:=HF.out _ HB.out))
         all_goals go_ret
         all_goals exact ⟨by first | rfl | (simp;done),HB1.out.chain HB.out⟩))
end Go.Proofs.YtbalioicgpgehaaGreatDoor
namespace Go.Proofs.YtbalioicgpgehaaGreatDoor
set_option maxRecDepth 100000
set_option maxHeartbeats 20000000
open Go.RowKit
theorem sst_2 (ln co ek en ck ak an bk bn : Int) (nm fd fr es sa sb : List UInt8) (ve va vb vl : Value) (Ac Ai As At : Option Addr) (nc ni ns nt cc ci cs' ct : Nat) (cs : Array Value) (h24 : cs.size = 24) (hk : D24 cs 2 ln co nm fd fr ek en es ve ck ak an sa va bk bn sb vb vl (.slice Ac nc cc) (.slice Ai ni ci) (.slice As ns cs') (.slice At nt ct)) (dp : Int) (vB vC vE vI vO vf vn vp vr : Bool) (_bI : (ni : Int) ≤ 9223372036854775807) (_bS : (ns : Int) ≤ 9223372036854775807) (_bT : (nt : Int) ≤ 9223372036854775807) (_bC : (nc : Int) ≤ 9223372036854775807) (w : World)
 (hPl : BC w 81 #[posV ln co] vp)
 (hV1 : BC w 82 #[.string ⟨nm.toArray⟩] vn)
 (hV2 : BC w 83 #[.string ⟨fd.toArray⟩] vf)
 (hV3 : BC w 82 #[.string ⟨fr.toArray⟩] vr)
 (hE : BC w 86 #[exprV ek en ⟨es.toArray⟩ ve] vE)
 (hC : BC w 88 #[condV2 ck ak an ⟨sa.toArray⟩ va bk bn ⟨sb.toArray⟩ vb vl] vC)
 (hI : BC w 90 #[.slice Ai ni ci,.int .i64 0] vI)
 (hB : BC w 31 #[.slice As ns cs',.int .i64 dp] vB)
 (hO : BC w 31 #[.slice At nt ct,.int .i64 dp] vO)
 (zI : ni = 0 → vI = true)
 (zB : ns = 0 → vB = true)
 (zO : nt = 0 → vO = true) :
 Calls Tryz.prog 54 #[.agg cs,.int .i64 dp] w fun e w' => e = .returned (.bool (vp && (vn && vf && vr && vE && vC && decide ((nc : Int) = 0)) && (decide ((ni : Int) = 0) && decide ((ns : Int) = 0) && decide ((nt : Int) = 0)))) ∧ Below w.heap.size w w':=by
 have GPl:=Lib.hid hPl
 have GV1:=Lib.hid hV1
 have GV2:=Lib.hid hV2
 have GV3:=Lib.hid hV3
 have GE:=Lib.hid hE
 have GC:=Lib.hid hC
 have GI:=Lib.hid hI
 have GB:=Lib.hid hB
 have GO:=Lib.hid hO
 have HU : Hid (∀ w,Calls Tryz.prog 80 #[.int .i64 2] w fun e w' => e = .returned (.string ⟨#[110,102,114,48]⟩) ∧ w = w'):=Lib.hid (suses_any 2)
 obtain ⟨T,N,hT,hN,hag,hsz⟩:=stmt_hidden
 have e4 : ∀ y : Operand,Op.box 36 y = Op.box T y:=fun y => by rw [hT]
 obtain ⟨W1,hW1⟩ : ∃ W1,W1 = w.alloc (.cells cs T):=⟨_,rfl⟩
 have HB1 : Hid (Below w.heap.size w W1):=Lib.hid (by rw [hW1];exact below_alloc w _)
 have q2:=heap_of_alloc w (.cells cs T)
 have c0:=cell_of_block q2 0 hk.1
 rw [← hW1] at q2
 have hszc : cs.size = N:=h24.trans hN.symm
 have HF : Hid (∀ W,Below W1.heap.size W1 W → C24 W w.heap.size 2 ln co nm fd fr ek en es ve ck ak an sa va bk bn sb vb vl (.slice Ac nc cc) (.slice Ai ni ci) (.slice As ns cs') (.slice At nt ct)):=Lib.hid (fun W hb => c24_of (kept_box hb q2) hk)
 have HF3 : Hid (∀ W,Below W1.heap.size W1 W → C3 W w.heap.size nm fd fr):=Lib.hid (fun W hb => ⟨(HF.out W hb).2.2.2.1,(HF.out W hb).2.2.2.2.1,(HF.out W hb).2.2.2.2.2.1⟩)
 have HB:=Lib.hid (Below.refl W1.heap.size W1)
 clear hPl hV1 hV2 hV3 hE hC hI hB hO hN q2 h24 hk
 cases vp with
 | false =>
   have e : (false && (vn && vf && vr && vE && vC && decide ((nc : Int) = 0)) && (decide ((ni : Int) = 0) && decide ((ns : Int) = 0) && decide ((nt : Int) = 0))) = false:=rfl
   rw [e]
   clear e zI zB zO
   go_enter Tryz.func54,Tryz.ntmps54
   simp only [e4]
   clear e4 hT
   go_wp2_with (first
    | (go_at_call 80;rw [← hW1];clear hW1;refine (HU.out _).mono ?_;rintro e wz ⟨rfl,rfl⟩;replace c0:=HF.out _ HB.out)
    | (go_at_call 84;(first | refine (shasI (b:=true) (by decide)).mono ?_ | refine (shasI (b:=false) (by decide)).mono ?_);rintro e wz ⟨rfl,rfl⟩)
    | (have hbw:=HB1.out.chain HB.out;with_reducible refine Calls.mono (by first | exact GPl.out _ hbw | exact GV1.out _ hbw | exact GV2.out _ hbw | exact GV3.out _ hbw | exact GE.out _ hbw | exact GC.out _ hbw | exact GI.out _ hbw | exact GB.out _ hbw | exact GO.out _ hbw) ?_;rintro e wn ⟨rfl,hb⟩;replace HB:=Lib.hid (HB.out.chain hb);clear hb hbw;replace c0:=HF.out _ HB.out))
   all_goals go_ret
   all_goals exact ⟨by first | rfl | (simp;done),HB1.out.chain HB.out⟩
 | true =>
   obtain ⟨rv,hrv⟩ : ∃ b,b = (decide ((ni : Int) = 0) && decide ((ns : Int) = 0) && decide ((nt : Int) = 0)):=⟨_,rfl⟩
   obtain ⟨qv,hqv⟩ : ∃ b,b = (vn && vf && vr && vE && vC && decide ((nc : Int) = 0)):=⟨_,rfl⟩
   rw [← hrv,← hqv]
   by_cases hq : qv = false
   ·rw [hq,show (true && false && rv) = false from rfl]
    have hD : (vn = false) ∨ (vn = true ∧ vf = false) ∨ (vn = true ∧ vf = true ∧ vr = false) ∨ (vn = true ∧ vf = true ∧ vr = true ∧ vE = false) ∨ (vn = true ∧ vf = true ∧ vr = true ∧ vE = true ∧ vC = false) ∨ (vn = true ∧ vf = true ∧ vr = true ∧ vE = true ∧ vC = true ∧ ¬ (nc : Int) = 0):=by
     by_cases x0 : vn = true
     case neg => exact Or.inl (by simpa using x0)
     by_cases x1 : vf = true
     case neg => exact Or.inr (Or.inl ⟨x0,(by simpa using x1)⟩)
     by_cases x2 : vr = true
     case neg => exact Or.inr (Or.inr (Or.inl ⟨x0,x1,(by simpa using x2)⟩))
     by_cases x3 : vE = true
     case neg => exact Or.inr (Or.inr (Or.inr (Or.inl ⟨x0,x1,x2,(by simpa using x3)⟩)))
     by_cases x4 : vC = true
     case neg => exact Or.inr (Or.inr (Or.inr (Or.inr (Or.inl ⟨x0,x1,x2,x3,(by simpa using x4)⟩))))
     by_cases x5 : (nc : Int) = 0
     case neg => exact Or.inr (Or.inr (Or.inr (Or.inr (Or.inr (⟨x0,x1,x2,x3,x4,x5⟩)))))
     exact absurd (show qv = true by rw [hqv];rw [(show vn = true from x0),(show vf = true from x1),(show vr = true from x2),(show vE = true from x3),(show vC = true from x4),decide_eq_true x5];rfl) (by rw [hq];exact Bool.false_ne_true)
    clear hqv hq hrv zI zB zO
    rcases hD with rfl | ⟨rfl,rfl⟩ | ⟨rfl,rfl,rfl⟩ | ⟨rfl,rfl,rfl,rfl⟩ | ⟨rfl,rfl,rfl,rfl,rfl⟩ | ⟨rfl,rfl,rfl,rfl,rfl,x5⟩
    all_goals
     (go_enter Tryz.func54,Tryz.ntmps54
      simp only [e4]
      clear e4 hT
      go_wp2_with (first
       | (go_at_call 80;rw [← hW1];clear hW1;refine (HU.out _).mono ?_;rintro e wz ⟨rfl,rfl⟩;replace c0:=HF.out _ HB.out)
       | (go_at_call 84;(first | refine (shasI (b:=true) (by decide)).mono ?_ | refine (shasI (b:=false) (by decide)).mono ?_);rintro e wz ⟨rfl,rfl⟩)
       | (have hbw:=HB1.out.chain HB.out;with_reducible refine Calls.mono (by first | exact GPl.out _ hbw | exact GV1.out _ hbw | exact GV2.out _ hbw | exact GV3.out _ hbw | exact GE.out _ hbw | exact GC.out _ hbw | exact GI.out _ hbw | exact GB.out _ hbw | exact GO.out _ hbw) ?_;rintro e wn ⟨rfl,hb⟩;replace HB:=Lib.hid (HB.out.chain hb);clear hb hbw;replace c0:=HF.out _ HB.out))
      go_region_held3 (fun W => C3 W w.heap.size nm fd fr) (first | exact HF3.out _ HB.out | exact HF3.out _ HB.out.drew | go_keep | (trace_state;fail)) (first | (have hbw:=HB1.out.chain HB.out;with_reducible refine Calls.mono (by first | exact GV1.out _ hbw | exact GV2.out _ hbw | exact GV3.out _ hbw) ?_;rintro e wn ⟨rfl,hb⟩;replace HB:=Lib.hid (HB.out.chain hb);clear hb hbw;replace c0:=HF.out _ HB.out) | (have hbw:=HB1.out.chain HB.out.drew;with_reducible refine Calls.mono (by first | exact GV1.out _ hbw | exact GV2.out _ hbw | exact GV3.out _ hbw) ?_;rintro e wn ⟨rfl,hb⟩;replace HB:=Lib.hid (HB.out.drew.chain hb);clear hb hbw;replace c0:=HF.out _ HB.out))
      all_goals
       (go_wp2_with (first
       | (go_at_call 80;rw [← hW1];clear hW1;refine (HU.out _).mono ?_;rintro e wz ⟨rfl,rfl⟩;replace c0:=HF.out _ HB.out)
       | (go_at_call 84;(first | refine (shasI (b:=true) (by decide)).mono ?_ | refine (shasI (b:=false) (by decide)).mono ?_);rintro e wz ⟨rfl,rfl⟩)
       | (have hbw:=HB1.out.chain HB.out;with_reducible refine Calls.mono (by first | exact GPl.out _ hbw | exact GV1.out _ hbw | exact GV2.out _ hbw | exact GV3.out _ hbw | exact GE.out _ hbw | exact GC.out _ hbw | exact GI.out _ hbw | exact GB.out _ hbw | exact GO.out _ hbw) ?_;rintro e wn ⟨rfl,hb⟩;replace HB:=Lib.hid (HB.out.chain hb);clear hb hbw;replace c0:=HF.out _ HB.out)))
      all_goals go_ret
      all_goals exact ⟨by first | rfl | (simp;done),HB1.out.chain HB.out⟩)
   ·have hq2 : qv = true:=by simpa using hq
    rw [hq2,show (true && true && rv) = rv from rfl]
    have hT0 : vn = true ∧ vf = true ∧ vr = true ∧ vE = true ∧ vC = true ∧ (nc : Int) = 0:=by
     by_cases x0 : vn = true
     case neg =>
      refine absurd (show qv = false from ?_) hq
      rw [hqv]
      rw [(show vn = false from (by simpa using x0))]
      simp
     by_cases x1 : vf = true
     case neg =>
      refine absurd (show qv = false from ?_) hq
      rw [hqv]
      rw [(show vf = false from (by simpa using x1))]
      simp
     by_cases x2 : vr = true
     case neg =>
      refine absurd (show qv = false from ?_) hq
      rw [hqv]
      rw [(show vr = false from (by simpa using x2))]
      simp
     by_cases x3 : vE = true
     case neg =>
      refine absurd (show qv = false from ?_) hq
      rw [hqv]
      rw [(show vE = false from (by simpa using x3))]
      simp
     by_cases x4 : vC = true
     case neg =>
      refine absurd (show qv = false from ?_) hq
      rw [hqv]
      rw [(show vC = false from (by simpa using x4))]
      simp
     by_cases x5 : (nc : Int) = 0
     case neg =>
      refine absurd (show qv = false from ?_) hq
      rw [hqv]
      rw [decide_eq_false x5]
      simp
     exact ⟨x0,x1,x2,x3,x4,x5⟩
    clear hqv hq hq2 qv
    obtain ⟨rfl,rfl,rfl,rfl,rfl,y5⟩:=hT0
    have hD : (¬ (ni : Int) = 0 ∧ rv = false) ∨ ((ni : Int) = 0 ∧ ¬ (ns : Int) = 0 ∧ rv = false) ∨ ((ni : Int) = 0 ∧ (ns : Int) = 0 ∧ ¬ (nt : Int) = 0 ∧ rv = false) ∨ ((ni : Int) = 0 ∧ (ns : Int) = 0 ∧ (nt : Int) = 0 ∧ vI = true ∧ vB = true ∧ vO = true ∧ rv = true):=by
     by_cases x0 : (ni : Int) = 0
     case neg => exact Or.inl ⟨x0,(by rw [hrv];rw [decide_eq_false x0];simp)⟩
     by_cases x1 : (ns : Int) = 0
     case neg => exact Or.inr (Or.inl ⟨x0,x1,(by rw [hrv];rw [decide_eq_false x1];simp)⟩)
     by_cases x2 : (nt : Int) = 0
     case neg => exact Or.inr (Or.inr (Or.inl ⟨x0,x1,x2,(by rw [hrv];rw [decide_eq_false x2];simp)⟩))
     exact Or.inr (Or.inr (Or.inr (⟨x0,x1,x2,(zI (by omega)),(zB (by omega)),(zO (by omega)),(by rw [hrv];rw [decide_eq_true x0,decide_eq_true x1,decide_eq_true x2];rfl)⟩)))
    clear hrv zI zB zO
    rcases hD with ⟨x0,rfl⟩ | ⟨x0,x1,rfl⟩ | ⟨x0,x1,x2,rfl⟩ | ⟨x0,x1,x2,rfl,rfl,rfl,rfl⟩
    all_goals
     (go_enter Tryz.func54,Tryz.ntmps54
      simp only [e4]
      clear e4 hT
      go_wp2_with (first
       | (go_at_call 80;rw [← hW1];clear hW1;refine (HU.out _).mono ?_;rintro e wz ⟨rfl,rfl⟩;replace c0:=HF.out _ HB.out)
       | (go_at_call 84;(first | refine (shasI (b:=true) (by decide)).mono ?_ | refine (shasI (b:=false) (by decide)).mono ?_);rintro e wz ⟨rfl,rfl⟩)
       | (have hbw:=HB1.out.chain HB.out;with_reducible refine Calls.mono (by first | exact GPl.out _ hbw | exact GV1.out _ hbw | exact GV2.out _ hbw | exact GV3.out _ hbw | exact GE.out _ hbw | exact GC.out _ hbw | exact GI.out _ hbw | exact GB.out _ hbw | exact GO.out _ hbw) ?_;rintro e wn ⟨rfl,hb⟩;replace HB:=Lib.hid (HB.out.chain hb);clear hb hbw;replace c0:=HF.out _ HB.out))
      go_region_held3 (fun W => C3 W w.heap.size nm fd fr) (first | exact HF3.out _ HB.out | exact HF3.out _ HB.out.drew | go_keep | (trace_state;fail)) (first | (have hbw:=HB1.out.chain HB.out;with_reducible refine Calls.mono (by first | exact GV1.out _ hbw | exact GV2.out _ hbw | exact GV3.out _ hbw) ?_;rintro e wn ⟨rfl,hb⟩;replace HB:=Lib.hid (HB.out.chain hb);clear hb hbw;replace c0:=HF.out _ HB.out) | (have hbw:=HB1.out.chain HB.out.drew;with_reducible refine Calls.mono (by first | exact GV1.out _ hbw | exact GV2.out _ hbw | exact GV3.out _ hbw) ?_;rintro e wn ⟨rfl,hb⟩;replace HB:=Lib.hid (HB.out.drew.chain hb);clear hb hbw;replace c0:=HF.out _ HB.out))
      all_goals
       (go_wp2_with (first
       | (go_at_call 80;rw [← hW1];clear hW1;refine (HU.out _).mono ?_;rintro e wz ⟨rfl,rfl⟩;replace c0:=HF.out _ HB.out)
       | (go_at_call 84;(first | refine (shasI (b:=true) (by decide)).mono ?_ | refine (shasI (b:=false) (by decide)).mono ?_);rintro e wz ⟨rfl,rfl⟩)
       | (have hbw:=HB1.out.chain HB.out;with_reducible refine Calls.mono (by first | exact GPl.out _ hbw | exact GV1.out _ hbw | exact GV2.out _ hbw | exact GV3.out _ hbw | exact GE.out _ hbw | exact GC.out _ hbw | exact GI.out _ hbw | exact GB.out _ hbw | exact GO.out _ hbw) ?_;rintro e wn ⟨rfl,hb⟩;replace HB:=Lib.hid (HB.out.chain hb);clear hb hbw;replace c0:=HF.out _ HB.out))
        go_loopg [10] 0 (fun m j wr => m = 0 ∧ j = .int .i64 0 ∧ Hid (Below W1.heap.size W1 wr))
        case atStart => exact ⟨rfl,rfl,HB⟩
        case round =>
         obtain ⟨rfl,rfl,HJ⟩:=hrel
         clear HB
         have HB:=Lib.hid HJ.out
         replace c0:=HF.out _ HB.out
         go_wp2_with (first
          | (go_at_call 80;rw [← hW1];clear hW1;refine (HU.out _).mono ?_;rintro e wz ⟨rfl,rfl⟩;replace c0:=HF.out _ HB.out)
          | (go_at_call 84;(first | refine (shasI (b:=true) (by decide)).mono ?_ | refine (shasI (b:=false) (by decide)).mono ?_);rintro e wz ⟨rfl,rfl⟩)
          | (have hbw:=HB1.out.chain HB.out;with_reducible refine Calls.mono (by first | exact GPl.out _ hbw | exact GV1.out _ hbw | exact GV2.out _ hbw | exact GV3.out _ hbw | exact GE.out _ hbw | exact GC.out _ hbw | exact GI.out _ hbw | exact GB.out _ hbw | exact GO.out _ hbw) ?_;rintro e wn ⟨rfl,hb⟩;replace HB:=Lib.hid (HB.out.chain hb);clear hb hbw;replace c0:=HF.out _ HB.out))
         all_goals go_ret
         all_goals exact ⟨by first | rfl | (simp;done),HB1.out.chain HB.out⟩))
end Go.Proofs.YtbalioicgpgehaaGreatDoor
