/-
  The reference's stmt at statements of kind 1. The reference's stmt at statements of kind 2.
-/
import Derived.Deep.RegionHeld3
import Derived.Test.YtnbdfpjcpapdcaaGreatDoorSTreeGl
set_option linter.unusedVariables false
set_option linter.unusedSimpArgs false
namespace Go.Proofs.YtnbdfpjcpapdcaaGreatDoor
set_option maxRecDepth 100000
set_option maxHeartbeats 20000000
open Go.RowKit
theorem sst_1 (ln co ek en ck ak an bk bn : Int) (nm fd fr es sa sb : List UInt8) (ve va vb vl : Value) (Ac Ai As At : Option Addr) (nc ni ns nt cc ci cs' ct : Nat) (cs : Array Value) (h24 : cs.size = 24) (k0 : cs[0]? = some (.int .i64 1)) (k1 : cs[1]? = some (.int .i64 ln)) (k2 : cs[2]? = some (.int .i64 co)) (k3 : cs[3]? = some (.string ⟨nm.toArray⟩)) (k4 : cs[4]? = some (.string ⟨fd.toArray⟩)) (k5 : cs[5]? = some (.string ⟨fr.toArray⟩)) (k6 : cs[6]? = some (.int .i64 ek)) (k7 : cs[7]? = some (.int .i64 en)) (k8 : cs[8]? = some (.string ⟨es.toArray⟩)) (k9 : cs[9]? = some ve) (k10 : cs[10]? = some (.int .i64 ck)) (k11 : cs[11]? = some (.int .i64 ak)) (k12 : cs[12]? = some (.int .i64 an)) (k13 : cs[13]? = some (.string ⟨sa.toArray⟩)) (k14 : cs[14]? = some va) (k15 : cs[15]? = some (.int .i64 bk)) (k16 : cs[16]? = some (.int .i64 bn)) (k17 : cs[17]? = some (.string ⟨sb.toArray⟩)) (k18 : cs[18]? = some vb) (k19 : cs[19]? = some vl) (k20 : cs[20]? = some (.slice Ac nc cc)) (k21 : cs[21]? = some (.slice Ai ni ci)) (k22 : cs[22]? = some (.slice As ns cs')) (k23 : cs[23]? = some (.slice At nt ct)) (dp : Int) (vB vC vE vI vO vf vn vp vr : Bool) (_bI : (ni : Int) ≤ 9223372036854775807) (_bS : (ns : Int) ≤ 9223372036854775807) (_bT : (nt : Int) ≤ 9223372036854775807) (_bC : (nc : Int) ≤ 9223372036854775807) (w : World)
 (hPl : BC w 91 #[posV ln co] vp)
 (hV1 : BC w 92 #[.string ⟨nm.toArray⟩] vn)
 (hV2 : BC w 93 #[.string ⟨fd.toArray⟩] vf)
 (hV3 : BC w 92 #[.string ⟨fr.toArray⟩] vr)
 (hE : BC w 95 #[exprV ek en ⟨es.toArray⟩ ve] vE)
 (hC : BC w 98 #[condV2 ck ak an ⟨sa.toArray⟩ va bk bn ⟨sb.toArray⟩ vb vl] vC)
 (hI : BC w 100 #[.slice Ai ni ci,.int .i64 0] vI)
 (hB : BC w 37 #[.slice As ns cs',.int .i64 dp] vB)
 (hO : BC w 37 #[.slice At nt ct,.int .i64 dp] vO)
 (zI : ni = 0 → vI = true)
 (zB : ns = 0 → vB = true)
 (zO : nt = 0 → vO = true) :
 Calls Tryz.prog 63 #[.agg cs,.int .i64 dp] w fun e w' => e = .returned (.bool (vp && (vn && fd.isEmpty && fr.isEmpty && vE && vC && decide ((nc : Int) = 0)) && (decide ((ni : Int) = 0) && decide ((ns : Int) = 0) && decide ((nt : Int) = 0)))) ∧ Below w.heap.size w w':=by
 have GPl:=Lib.hid hPl
 have GV1:=Lib.hid hV1
 have GV2:=Lib.hid hV2
 have GV3:=Lib.hid hV3
 have GE:=Lib.hid hE
 have GC:=Lib.hid hC
 have GI:=Lib.hid hI
 have GB:=Lib.hid hB
 have GO:=Lib.hid hO
 have HU : Hid (∀ w,Calls Tryz.prog 90 #[.int .i64 1] w fun e w' => e = .returned (.string ⟨#[110,69,48]⟩) ∧ w = w'):=Lib.hid (suses_any 1)
 have HHn : Hid (∀ w,Calls Tryz.prog 94 #[.string ⟨#[110,69,48]⟩,.int .u8 110] w fun e w' => e = .returned (.bool true) ∧ w = w'):=Lib.hid (fun w => shas_any ⟨#[110,69,48]⟩ 110 w (by decide))
 have HHf : Hid (∀ w,Calls Tryz.prog 94 #[.string ⟨#[110,69,48]⟩,.int .u8 102] w fun e w' => e = .returned (.bool false) ∧ w = w'):=Lib.hid (fun w => shas_any ⟨#[110,69,48]⟩ 102 w (by decide))
 have HHr : Hid (∀ w,Calls Tryz.prog 94 #[.string ⟨#[110,69,48]⟩,.int .u8 114] w fun e w' => e = .returned (.bool false) ∧ w = w'):=Lib.hid (fun w => shas_any ⟨#[110,69,48]⟩ 114 w (by decide))
 have HHE : Hid (∀ w,Calls Tryz.prog 94 #[.string ⟨#[110,69,48]⟩,.int .u8 69] w fun e w' => e = .returned (.bool true) ∧ w = w'):=Lib.hid (fun w => shas_any ⟨#[110,69,48]⟩ 69 w (by decide))
 have HHC : Hid (∀ w,Calls Tryz.prog 94 #[.string ⟨#[110,69,48]⟩,.int .u8 67] w fun e w' => e = .returned (.bool false) ∧ w = w'):=Lib.hid (fun w => shas_any ⟨#[110,69,48]⟩ 67 w (by decide))
 have HH1 : Hid (∀ w,Calls Tryz.prog 94 #[.string ⟨#[110,69,48]⟩,.int .u8 49] w fun e w' => e = .returned (.bool false) ∧ w = w'):=Lib.hid (fun w => shas_any ⟨#[110,69,48]⟩ 49 w (by decide))
 have HH2 : Hid (∀ w,Calls Tryz.prog 94 #[.string ⟨#[110,69,48]⟩,.int .u8 50] w fun e w' => e = .returned (.bool false) ∧ w = w'):=Lib.hid (fun w => shas_any ⟨#[110,69,48]⟩ 50 w (by decide))
 have HHi : Hid (∀ w,Calls Tryz.prog 94 #[.string ⟨#[110,69,48]⟩,.int .u8 105] w fun e w' => e = .returned (.bool false) ∧ w = w'):=Lib.hid (fun w => shas_any ⟨#[110,69,48]⟩ 105 w (by decide))
 have HHb : Hid (∀ w,Calls Tryz.prog 94 #[.string ⟨#[110,69,48]⟩,.int .u8 98] w fun e w' => e = .returned (.bool false) ∧ w = w'):=Lib.hid (fun w => shas_any ⟨#[110,69,48]⟩ 98 w (by decide))
 have HHe : Hid (∀ w,Calls Tryz.prog 94 #[.string ⟨#[110,69,48]⟩,.int .u8 101] w fun e w' => e = .returned (.bool false) ∧ w = w'):=Lib.hid (fun w => shas_any ⟨#[110,69,48]⟩ 101 w (by decide))
 obtain ⟨T,N,hT,hN,hag,hsz⟩:=stmt_hidden
 have e4 : ∀ y : Operand,Op.box 42 y = Op.box T y:=fun y => by rw [hT]
 obtain ⟨W1,hW1⟩ : ∃ W1,W1 = w.alloc (.cells cs T):=⟨_,rfl⟩
 have HB1 : Hid (Below w.heap.size w W1):=Lib.hid (by rw [hW1];exact below_alloc w _)
 have q2:=heap_of_alloc w (.cells cs T)
 have c0:=cell_of_block q2 0 k0
 rw [← hW1] at q2
 have hszc : cs.size = N:=h24.trans hN.symm
 have HF : Hid (∀ W,Below W1.heap.size W1 W → W.cell? ⟨w.heap.size,0,none⟩ = some (.int .i64 1) ∧ W.cell? ⟨w.heap.size,1,none⟩ = some (.int .i64 ln) ∧ W.cell? ⟨w.heap.size,2,none⟩ = some (.int .i64 co) ∧ W.cell? ⟨w.heap.size,3,none⟩ = some (.string ⟨nm.toArray⟩) ∧ W.cell? ⟨w.heap.size,4,none⟩ = some (.string ⟨fd.toArray⟩) ∧ W.cell? ⟨w.heap.size,5,none⟩ = some (.string ⟨fr.toArray⟩) ∧ W.cell? ⟨w.heap.size,6,none⟩ = some (.int .i64 ek) ∧ W.cell? ⟨w.heap.size,7,none⟩ = some (.int .i64 en) ∧ W.cell? ⟨w.heap.size,8,none⟩ = some (.string ⟨es.toArray⟩) ∧ W.cell? ⟨w.heap.size,9,none⟩ = some ve ∧ W.cell? ⟨w.heap.size,10,none⟩ = some (.int .i64 ck) ∧ W.cell? ⟨w.heap.size,11,none⟩ = some (.int .i64 ak) ∧ W.cell? ⟨w.heap.size,12,none⟩ = some (.int .i64 an) ∧ W.cell? ⟨w.heap.size,13,none⟩ = some (.string ⟨sa.toArray⟩) ∧ W.cell? ⟨w.heap.size,14,none⟩ = some va ∧ W.cell? ⟨w.heap.size,15,none⟩ = some (.int .i64 bk) ∧ W.cell? ⟨w.heap.size,16,none⟩ = some (.int .i64 bn) ∧ W.cell? ⟨w.heap.size,17,none⟩ = some (.string ⟨sb.toArray⟩) ∧ W.cell? ⟨w.heap.size,18,none⟩ = some vb ∧ W.cell? ⟨w.heap.size,19,none⟩ = some vl ∧ W.cell? ⟨w.heap.size,20,none⟩ = some (.slice Ac nc cc) ∧ W.cell? ⟨w.heap.size,21,none⟩ = some (.slice Ai ni ci) ∧ W.cell? ⟨w.heap.size,22,none⟩ = some (.slice As ns cs') ∧ W.cell? ⟨w.heap.size,23,none⟩ = some (.slice At nt ct)):=Lib.hid (fun W hb => by
  have g2:=kept_box hb q2
  exact ⟨cell_of_block g2 0 k0,cell_of_block g2 1 k1,cell_of_block g2 2 k2,cell_of_block g2 3 k3,cell_of_block g2 4 k4,cell_of_block g2 5 k5,cell_of_block g2 6 k6,cell_of_block g2 7 k7,cell_of_block g2 8 k8,cell_of_block g2 9 k9,cell_of_block g2 10 k10,cell_of_block g2 11 k11,cell_of_block g2 12 k12,cell_of_block g2 13 k13,cell_of_block g2 14 k14,cell_of_block g2 15 k15,cell_of_block g2 16 k16,cell_of_block g2 17 k17,cell_of_block g2 18 k18,cell_of_block g2 19 k19,cell_of_block g2 20 k20,cell_of_block g2 21 k21,cell_of_block g2 22 k22,cell_of_block g2 23 k23⟩)
 have HF3 : Hid (∀ W,Below W1.heap.size W1 W → W.cell? ⟨w.heap.size,3,none⟩ = some (.string ⟨nm.toArray⟩) ∧ W.cell? ⟨w.heap.size,4,none⟩ = some (.string ⟨fd.toArray⟩) ∧ W.cell? ⟨w.heap.size,5,none⟩ = some (.string ⟨fr.toArray⟩)):=Lib.hid (fun W hb => ⟨(HF.out W hb).2.2.2.1,(HF.out W hb).2.2.2.2.1,(HF.out W hb).2.2.2.2.2.1⟩)
 have HB:=Lib.hid (Below.refl W1.heap.size W1)
 clear hPl hV1 hV2 hV3 hE hC hI hB hO hN q2 h24 k0 k1 k2 k3 k4 k5 k6 k7 k8 k9 k10 k11 k12 k13 k14 k15 k16 k17 k18 k19 k20 k21 k22 k23
 cases vp with
 | false =>
   have e : (false && (vn && fd.isEmpty && fr.isEmpty && vE && vC && decide ((nc : Int) = 0)) && (decide ((ni : Int) = 0) && decide ((ns : Int) = 0) && decide ((nt : Int) = 0))) = false:=rfl
   rw [e]
   clear e zI zB zO
   go_enter Tryz.func63,Tryz.ntmps63
   simp only [e4]
   clear e4 hT
   go_wp2_with (first
    | (go_at_call 90;rw [← hW1];clear hW1;refine (HU.out _).mono ?_;rintro e wz ⟨rfl,rfl⟩;clear c0;obtain ⟨c0,c1,c2,c3,c4,c5,c6,c7,c8,c9,c10,c11,c12,c13,c14,c15,c16,c17,c18,c19,c20,c21,c22,c23⟩:=HF.out _ HB.out)
    | (go_at_call 94;with_reducible (first | refine (HHn.out _).mono ?_ | refine (HHf.out _).mono ?_ | refine (HHr.out _).mono ?_ | refine (HHE.out _).mono ?_ | refine (HHC.out _).mono ?_ | refine (HH1.out _).mono ?_ | refine (HH2.out _).mono ?_ | refine (HHi.out _).mono ?_ | refine (HHb.out _).mono ?_ | refine (HHe.out _).mono ?_);rintro e wz ⟨rfl,rfl⟩)
    | (have hbw:=HB1.out.chain HB.out;with_reducible (first | refine (GPl.out _ hbw).mono ?_ | refine (GV1.out _ hbw).mono ?_ | refine (GV2.out _ hbw).mono ?_ | refine (GV3.out _ hbw).mono ?_ | refine (GE.out _ hbw).mono ?_ | refine (GC.out _ hbw).mono ?_ | refine (GI.out _ hbw).mono ?_ | refine (GB.out _ hbw).mono ?_ | refine (GO.out _ hbw).mono ?_);rintro e wn ⟨rfl,hb⟩;replace HB:=Lib.hid (HB.out.chain hb);clear hb hbw;clear c0 c1 c2 c3 c4 c5 c6 c7 c8 c9 c10 c11 c12 c13 c14 c15 c16 c17 c18 c19 c20 c21 c22 c23;obtain ⟨c0,c1,c2,c3,c4,c5,c6,c7,c8,c9,c10,c11,c12,c13,c14,c15,c16,c17,c18,c19,c20,c21,c22,c23⟩:=HF.out _ HB.out))
   all_goals go_ret
   all_goals exact ⟨by first | rfl | (simp;done),HB1.out.chain HB.out⟩
 | true =>
   obtain ⟨rv,hrv⟩ : ∃ b,b = (decide ((ni : Int) = 0) && decide ((ns : Int) = 0) && decide ((nt : Int) = 0)):=⟨_,rfl⟩
   obtain ⟨qv,hqv⟩ : ∃ b,b = (vn && fd.isEmpty && fr.isEmpty && vE && vC && decide ((nc : Int) = 0)):=⟨_,rfl⟩
   rw [← hrv,← hqv]
   by_cases hq : qv = false
   ·rw [hq,show (true && false && rv) = false from rfl]
    have hD : (vn = false) ∨ (vn = true ∧ (fd == ([] : List UInt8)) = false) ∨ (vn = true ∧ (fd == ([] : List UInt8)) = true ∧ (fr == ([] : List UInt8)) = false) ∨ (vn = true ∧ (fd == ([] : List UInt8)) = true ∧ (fr == ([] : List UInt8)) = true ∧ vE = false) ∨ (vn = true ∧ (fd == ([] : List UInt8)) = true ∧ (fr == ([] : List UInt8)) = true ∧ vE = true ∧ vC = false) ∨ (vn = true ∧ (fd == ([] : List UInt8)) = true ∧ (fr == ([] : List UInt8)) = true ∧ vE = true ∧ vC = true ∧ ¬ (nc : Int) = 0):=by
     by_cases x0 : vn = true
     case neg => exact Or.inl (by simpa using x0)
     by_cases x1 : (fd == ([] : List UInt8)) = true
     case neg => exact Or.inr (Or.inl ⟨x0,(by simpa using x1)⟩)
     by_cases x2 : (fr == ([] : List UInt8)) = true
     case neg => exact Or.inr (Or.inr (Or.inl ⟨x0,x1,(by simpa using x2)⟩))
     by_cases x3 : vE = true
     case neg => exact Or.inr (Or.inr (Or.inr (Or.inl ⟨x0,x1,x2,(by simpa using x3)⟩)))
     by_cases x4 : vC = true
     case neg => exact Or.inr (Or.inr (Or.inr (Or.inr (Or.inl ⟨x0,x1,x2,x3,(by simpa using x4)⟩))))
     by_cases x5 : (nc : Int) = 0
     case neg => exact Or.inr (Or.inr (Or.inr (Or.inr (Or.inr (⟨x0,x1,x2,x3,x4,x5⟩)))))
     exact absurd (show qv = true by rw [hqv];rw [(show vn = true from x0),(show fd.isEmpty = true by rw [← beq_nilU];exact x1),(show fr.isEmpty = true by rw [← beq_nilU];exact x2),(show vE = true from x3),(show vC = true from x4),decide_eq_true x5];rfl) (by rw [hq];exact Bool.false_ne_true)
    clear hqv hq hrv zI zB zO
    rcases hD with rfl | ⟨rfl,x1⟩ | ⟨rfl,x1,x2⟩ | ⟨rfl,x1,x2,rfl⟩ | ⟨rfl,x1,x2,rfl,rfl⟩ | ⟨rfl,x1,x2,rfl,rfl,x5⟩
    all_goals
     (go_enter Tryz.func63,Tryz.ntmps63
      simp only [e4]
      clear e4 hT
      go_wp2_with (first
       | (go_at_call 90;rw [← hW1];clear hW1;refine (HU.out _).mono ?_;rintro e wz ⟨rfl,rfl⟩;clear c0;obtain ⟨c0,c1,c2,c3,c4,c5,c6,c7,c8,c9,c10,c11,c12,c13,c14,c15,c16,c17,c18,c19,c20,c21,c22,c23⟩:=HF.out _ HB.out)
       | (go_at_call 94;with_reducible (first | refine (HHn.out _).mono ?_ | refine (HHf.out _).mono ?_ | refine (HHr.out _).mono ?_ | refine (HHE.out _).mono ?_ | refine (HHC.out _).mono ?_ | refine (HH1.out _).mono ?_ | refine (HH2.out _).mono ?_ | refine (HHi.out _).mono ?_ | refine (HHb.out _).mono ?_ | refine (HHe.out _).mono ?_);rintro e wz ⟨rfl,rfl⟩)
       | (have hbw:=HB1.out.chain HB.out;with_reducible (first | refine (GPl.out _ hbw).mono ?_ | refine (GV1.out _ hbw).mono ?_ | refine (GV2.out _ hbw).mono ?_ | refine (GV3.out _ hbw).mono ?_ | refine (GE.out _ hbw).mono ?_ | refine (GC.out _ hbw).mono ?_ | refine (GI.out _ hbw).mono ?_ | refine (GB.out _ hbw).mono ?_ | refine (GO.out _ hbw).mono ?_);rintro e wn ⟨rfl,hb⟩;replace HB:=Lib.hid (HB.out.chain hb);clear hb hbw;clear c0 c1 c2 c3 c4 c5 c6 c7 c8 c9 c10 c11 c12 c13 c14 c15 c16 c17 c18 c19 c20 c21 c22 c23;obtain ⟨c0,c1,c2,c3,c4,c5,c6,c7,c8,c9,c10,c11,c12,c13,c14,c15,c16,c17,c18,c19,c20,c21,c22,c23⟩:=HF.out _ HB.out))
      go_region_held3 (fun W => W.cell? ⟨w.heap.size,3,none⟩ = some (.string ⟨nm.toArray⟩) ∧ W.cell? ⟨w.heap.size,4,none⟩ = some (.string ⟨fd.toArray⟩) ∧ W.cell? ⟨w.heap.size,5,none⟩ = some (.string ⟨fr.toArray⟩)) (first | exact HF3.out _ HB.out | exact HF3.out _ HB.out.drew | go_keep | (trace_state;fail)) (first | (have hbw:=HB1.out.chain HB.out;with_reducible (first | refine (GV1.out _ hbw).mono ?_ | refine (GV2.out _ hbw).mono ?_ | refine (GV3.out _ hbw).mono ?_);rintro e wn ⟨rfl,hb⟩;replace HB:=Lib.hid (HB.out.chain hb);clear hb hbw;clear c0 c1 c2 c3 c4 c5 c6 c7 c8 c9 c10 c11 c12 c13 c14 c15 c16 c17 c18 c19 c20 c21 c22 c23;obtain ⟨c0,c1,c2,c3,c4,c5,c6,c7,c8,c9,c10,c11,c12,c13,c14,c15,c16,c17,c18,c19,c20,c21,c22,c23⟩:=HF.out _ HB.out) | (have hbw:=HB1.out.chain HB.out.drew;with_reducible (first | refine (GV1.out _ hbw).mono ?_ | refine (GV2.out _ hbw).mono ?_ | refine (GV3.out _ hbw).mono ?_);rintro e wn ⟨rfl,hb⟩;replace HB:=Lib.hid (HB.out.drew.chain hb);clear hb hbw;clear c0 c1 c2 c3 c4 c5 c6 c7 c8 c9 c10 c11 c12 c13 c14 c15 c16 c17 c18 c19 c20 c21 c22 c23;obtain ⟨c0,c1,c2,c3,c4,c5,c6,c7,c8,c9,c10,c11,c12,c13,c14,c15,c16,c17,c18,c19,c20,c21,c22,c23⟩:=HF.out _ HB.out))
      all_goals
       (go_wp2_with (first
       | (go_at_call 90;rw [← hW1];clear hW1;refine (HU.out _).mono ?_;rintro e wz ⟨rfl,rfl⟩;clear c0;obtain ⟨c0,c1,c2,c3,c4,c5,c6,c7,c8,c9,c10,c11,c12,c13,c14,c15,c16,c17,c18,c19,c20,c21,c22,c23⟩:=HF.out _ HB.out)
       | (go_at_call 94;with_reducible (first | refine (HHn.out _).mono ?_ | refine (HHf.out _).mono ?_ | refine (HHr.out _).mono ?_ | refine (HHE.out _).mono ?_ | refine (HHC.out _).mono ?_ | refine (HH1.out _).mono ?_ | refine (HH2.out _).mono ?_ | refine (HHi.out _).mono ?_ | refine (HHb.out _).mono ?_ | refine (HHe.out _).mono ?_);rintro e wz ⟨rfl,rfl⟩)
       | (have hbw:=HB1.out.chain HB.out;with_reducible (first | refine (GPl.out _ hbw).mono ?_ | refine (GV1.out _ hbw).mono ?_ | refine (GV2.out _ hbw).mono ?_ | refine (GV3.out _ hbw).mono ?_ | refine (GE.out _ hbw).mono ?_ | refine (GC.out _ hbw).mono ?_ | refine (GI.out _ hbw).mono ?_ | refine (GB.out _ hbw).mono ?_ | refine (GO.out _ hbw).mono ?_);rintro e wn ⟨rfl,hb⟩;replace HB:=Lib.hid (HB.out.chain hb);clear hb hbw;clear c0 c1 c2 c3 c4 c5 c6 c7 c8 c9 c10 c11 c12 c13 c14 c15 c16 c17 c18 c19 c20 c21 c22 c23;obtain ⟨c0,c1,c2,c3,c4,c5,c6,c7,c8,c9,c10,c11,c12,c13,c14,c15,c16,c17,c18,c19,c20,c21,c22,c23⟩:=HF.out _ HB.out)))
      all_goals go_ret
      all_goals exact ⟨by first | rfl | (simp;done),HB1.out.chain HB.out⟩)
   ·have hq2 : qv = true:=by simpa using hq
    rw [hq2,show (true && true && rv) = rv from rfl]
    have hT0 : vn = true ∧ (fd == ([] : List UInt8)) = true ∧ (fr == ([] : List UInt8)) = true ∧ vE = true ∧ vC = true ∧ (nc : Int) = 0:=by
     by_cases x0 : vn = true
     case neg =>
      refine absurd (show qv = false from ?_) hq
      rw [hqv]
      rw [(show vn = false from (by simpa using x0))]
      simp
     by_cases x1 : (fd == ([] : List UInt8)) = true
     case neg =>
      refine absurd (show qv = false from ?_) hq
      rw [hqv]
      rw [(show fd.isEmpty = false by rw [← beq_nilU];exact (by simpa using x1))]
      simp
     by_cases x2 : (fr == ([] : List UInt8)) = true
     case neg =>
      refine absurd (show qv = false from ?_) hq
      rw [hqv]
      rw [(show fr.isEmpty = false by rw [← beq_nilU];exact (by simpa using x2))]
      simp
     by_cases x3 : vE = true
     case neg =>
      refine absurd (show qv = false from ?_) hq
      rw [hqv]
      rw [(show vE = false from (by simpa using x3))]
      simp
     by_cases x4 : vC = true
     case neg =>
      refine absurd (show qv = false from ?_) hq
      rw [hqv]
      rw [(show vC = false from (by simpa using x4))]
      simp
     by_cases x5 : (nc : Int) = 0
     case neg =>
      refine absurd (show qv = false from ?_) hq
      rw [hqv]
      rw [decide_eq_false x5]
      simp
     exact ⟨x0,x1,x2,x3,x4,x5⟩
    clear hqv hq hq2 qv
    obtain ⟨rfl,y1,y2,rfl,rfl,y5⟩:=hT0
    have hD : (¬ (ni : Int) = 0 ∧ rv = false) ∨ ((ni : Int) = 0 ∧ ¬ (ns : Int) = 0 ∧ rv = false) ∨ ((ni : Int) = 0 ∧ (ns : Int) = 0 ∧ ¬ (nt : Int) = 0 ∧ rv = false) ∨ ((ni : Int) = 0 ∧ (ns : Int) = 0 ∧ (nt : Int) = 0 ∧ vI = true ∧ vB = true ∧ vO = true ∧ rv = true):=by
     by_cases x0 : (ni : Int) = 0
     case neg => exact Or.inl ⟨x0,(by rw [hrv];rw [decide_eq_false x0];simp)⟩
     by_cases x1 : (ns : Int) = 0
     case neg => exact Or.inr (Or.inl ⟨x0,x1,(by rw [hrv];rw [decide_eq_false x1];simp)⟩)
     by_cases x2 : (nt : Int) = 0
     case neg => exact Or.inr (Or.inr (Or.inl ⟨x0,x1,x2,(by rw [hrv];rw [decide_eq_false x2];simp)⟩))
     exact Or.inr (Or.inr (Or.inr (⟨x0,x1,x2,(zI (by omega)),(zB (by omega)),(zO (by omega)),(by rw [hrv];rw [decide_eq_true x0,decide_eq_true x1,decide_eq_true x2];rfl)⟩)))
    clear hrv zI zB zO
    rcases hD with ⟨x0,rfl⟩ | ⟨x0,x1,rfl⟩ | ⟨x0,x1,x2,rfl⟩ | ⟨x0,x1,x2,rfl,rfl,rfl,rfl⟩
    all_goals
     (go_enter Tryz.func63,Tryz.ntmps63
      simp only [e4]
      clear e4 hT
      go_wp2_with (first
       | (go_at_call 90;rw [← hW1];clear hW1;refine (HU.out _).mono ?_;rintro e wz ⟨rfl,rfl⟩;clear c0;obtain ⟨c0,c1,c2,c3,c4,c5,c6,c7,c8,c9,c10,c11,c12,c13,c14,c15,c16,c17,c18,c19,c20,c21,c22,c23⟩:=HF.out _ HB.out)
       | (go_at_call 94;with_reducible (first | refine (HHn.out _).mono ?_ | refine (HHf.out _).mono ?_ | refine (HHr.out _).mono ?_ | refine (HHE.out _).mono ?_ | refine (HHC.out _).mono ?_ | refine (HH1.out _).mono ?_ | refine (HH2.out _).mono ?_ | refine (HHi.out _).mono ?_ | refine (HHb.out _).mono ?_ | refine (HHe.out _).mono ?_);rintro e wz ⟨rfl,rfl⟩)
       | (have hbw:=HB1.out.chain HB.out;with_reducible (first | refine (GPl.out _ hbw).mono ?_ | refine (GV1.out _ hbw).mono ?_ | refine (GV2.out _ hbw).mono ?_ | refine (GV3.out _ hbw).mono ?_ | refine (GE.out _ hbw).mono ?_ | refine (GC.out _ hbw).mono ?_ | refine (GI.out _ hbw).mono ?_ | refine (GB.out _ hbw).mono ?_ | refine (GO.out _ hbw).mono ?_);rintro e wn ⟨rfl,hb⟩;replace HB:=Lib.hid (HB.out.chain hb);clear hb hbw;clear c0 c1 c2 c3 c4 c5 c6 c7 c8 c9 c10 c11 c12 c13 c14 c15 c16 c17 c18 c19 c20 c21 c22 c23;obtain ⟨c0,c1,c2,c3,c4,c5,c6,c7,c8,c9,c10,c11,c12,c13,c14,c15,c16,c17,c18,c19,c20,c21,c22,c23⟩:=HF.out _ HB.out))
      go_region_held3 (fun W => W.cell? ⟨w.heap.size,3,none⟩ = some (.string ⟨nm.toArray⟩) ∧ W.cell? ⟨w.heap.size,4,none⟩ = some (.string ⟨fd.toArray⟩) ∧ W.cell? ⟨w.heap.size,5,none⟩ = some (.string ⟨fr.toArray⟩)) (first | exact HF3.out _ HB.out | exact HF3.out _ HB.out.drew | go_keep | (trace_state;fail)) (first | (have hbw:=HB1.out.chain HB.out;with_reducible (first | refine (GV1.out _ hbw).mono ?_ | refine (GV2.out _ hbw).mono ?_ | refine (GV3.out _ hbw).mono ?_);rintro e wn ⟨rfl,hb⟩;replace HB:=Lib.hid (HB.out.chain hb);clear hb hbw;clear c0 c1 c2 c3 c4 c5 c6 c7 c8 c9 c10 c11 c12 c13 c14 c15 c16 c17 c18 c19 c20 c21 c22 c23;obtain ⟨c0,c1,c2,c3,c4,c5,c6,c7,c8,c9,c10,c11,c12,c13,c14,c15,c16,c17,c18,c19,c20,c21,c22,c23⟩:=HF.out _ HB.out) | (have hbw:=HB1.out.chain HB.out.drew;with_reducible (first | refine (GV1.out _ hbw).mono ?_ | refine (GV2.out _ hbw).mono ?_ | refine (GV3.out _ hbw).mono ?_);rintro e wn ⟨rfl,hb⟩;replace HB:=Lib.hid (HB.out.drew.chain hb);clear hb hbw;clear c0 c1 c2 c3 c4 c5 c6 c7 c8 c9 c10 c11 c12 c13 c14 c15 c16 c17 c18 c19 c20 c21 c22 c23;obtain ⟨c0,c1,c2,c3,c4,c5,c6,c7,c8,c9,c10,c11,c12,c13,c14,c15,c16,c17,c18,c19,c20,c21,c22,c23⟩:=HF.out _ HB.out))
      all_goals
       (go_wp2_with (first
       | (go_at_call 90;rw [← hW1];clear hW1;refine (HU.out _).mono ?_;rintro e wz ⟨rfl,rfl⟩;clear c0;obtain ⟨c0,c1,c2,c3,c4,c5,c6,c7,c8,c9,c10,c11,c12,c13,c14,c15,c16,c17,c18,c19,c20,c21,c22,c23⟩:=HF.out _ HB.out)
       | (go_at_call 94;with_reducible (first | refine (HHn.out _).mono ?_ | refine (HHf.out _).mono ?_ | refine (HHr.out _).mono ?_ | refine (HHE.out _).mono ?_ | refine (HHC.out _).mono ?_ | refine (HH1.out _).mono ?_ | refine (HH2.out _).mono ?_ | refine (HHi.out _).mono ?_ | refine (HHb.out _).mono ?_ | refine (HHe.out _).mono ?_);rintro e wz ⟨rfl,rfl⟩)
       | (have hbw:=HB1.out.chain HB.out;with_reducible (first | refine (GPl.out _ hbw).mono ?_ | refine (GV1.out _ hbw).mono ?_ | refine (GV2.out _ hbw).mono ?_ | refine (GV3.out _ hbw).mono ?_ | refine (GE.out _ hbw).mono ?_ | refine (GC.out _ hbw).mono ?_ | refine (GI.out _ hbw).mono ?_ | refine (GB.out _ hbw).mono ?_ | refine (GO.out _ hbw).mono ?_);rintro e wn ⟨rfl,hb⟩;replace HB:=Lib.hid (HB.out.chain hb);clear hb hbw;clear c0 c1 c2 c3 c4 c5 c6 c7 c8 c9 c10 c11 c12 c13 c14 c15 c16 c17 c18 c19 c20 c21 c22 c23;obtain ⟨c0,c1,c2,c3,c4,c5,c6,c7,c8,c9,c10,c11,c12,c13,c14,c15,c16,c17,c18,c19,c20,c21,c22,c23⟩:=HF.out _ HB.out))
        go_loopg [10] 0 (fun m j wr => m = 0 ∧ j = .int .i64 0 ∧ Hid (Below W1.heap.size W1 wr))
        case atStart => exact ⟨rfl,rfl,HB⟩
        case round =>
         obtain ⟨rfl,rfl,HJ⟩:=hrel
         clear HB
         have HB:=Lib.hid HJ.out
         clear c0 c1 c2 c3 c4 c5 c6 c7 c8 c9 c10 c11 c12 c13 c14 c15 c16 c17 c18 c19 c20 c21 c22 c23
         obtain ⟨c0,c1,c2,c3,c4,c5,c6,c7,c8,c9,c10,c11,c12,c13,c14,c15,c16,c17,c18,c19,c20,c21,c22,c23⟩:=HF.out _ HB.out
         go_wp2_with (first
          | (go_at_call 90;rw [← hW1];clear hW1;refine (HU.out _).mono ?_;rintro e wz ⟨rfl,rfl⟩;clear c0;obtain ⟨c0,c1,c2,c3,c4,c5,c6,c7,c8,c9,c10,c11,c12,c13,c14,c15,c16,c17,c18,c19,c20,c21,c22,c23⟩:=HF.out _ HB.out)
          | (go_at_call 94;with_reducible (first | refine (HHn.out _).mono ?_ | refine (HHf.out _).mono ?_ | refine (HHr.out _).mono ?_ | refine (HHE.out _).mono ?_ | refine (HHC.out _).mono ?_ | refine (HH1.out _).mono ?_ | refine (HH2.out _).mono ?_ | refine (HHi.out _).mono ?_ | refine (HHb.out _).mono ?_ | refine (HHe.out _).mono ?_);rintro e wz ⟨rfl,rfl⟩)
          | (have hbw:=HB1.out.chain HB.out;with_reducible (first | refine (GPl.out _ hbw).mono ?_ | refine (GV1.out _ hbw).mono ?_ | refine (GV2.out _ hbw).mono ?_ | refine (GV3.out _ hbw).mono ?_ | refine (GE.out _ hbw).mono ?_ | refine (GC.out _ hbw).mono ?_ | refine (GI.out _ hbw).mono ?_ | refine (GB.out _ hbw).mono ?_ | refine (GO.out _ hbw).mono ?_);rintro e wn ⟨rfl,hb⟩;replace HB:=Lib.hid (HB.out.chain hb);clear hb hbw;clear c0 c1 c2 c3 c4 c5 c6 c7 c8 c9 c10 c11 c12 c13 c14 c15 c16 c17 c18 c19 c20 c21 c22 c23;obtain ⟨c0,c1,c2,c3,c4,c5,c6,c7,c8,c9,c10,c11,c12,c13,c14,c15,c16,c17,c18,c19,c20,c21,c22,c23⟩:=HF.out _ HB.out))
         all_goals go_ret
         all_goals exact ⟨by first | rfl | (simp;done),HB1.out.chain HB.out⟩))
end Go.Proofs.YtnbdfpjcpapdcaaGreatDoor
namespace Go.Proofs.YtnbdfpjcpapdcaaGreatDoor
set_option maxRecDepth 100000
set_option maxHeartbeats 20000000
open Go.RowKit
theorem sst_2 (ln co ek en ck ak an bk bn : Int) (nm fd fr es sa sb : List UInt8) (ve va vb vl : Value) (Ac Ai As At : Option Addr) (nc ni ns nt cc ci cs' ct : Nat) (cs : Array Value) (h24 : cs.size = 24) (k0 : cs[0]? = some (.int .i64 2)) (k1 : cs[1]? = some (.int .i64 ln)) (k2 : cs[2]? = some (.int .i64 co)) (k3 : cs[3]? = some (.string ⟨nm.toArray⟩)) (k4 : cs[4]? = some (.string ⟨fd.toArray⟩)) (k5 : cs[5]? = some (.string ⟨fr.toArray⟩)) (k6 : cs[6]? = some (.int .i64 ek)) (k7 : cs[7]? = some (.int .i64 en)) (k8 : cs[8]? = some (.string ⟨es.toArray⟩)) (k9 : cs[9]? = some ve) (k10 : cs[10]? = some (.int .i64 ck)) (k11 : cs[11]? = some (.int .i64 ak)) (k12 : cs[12]? = some (.int .i64 an)) (k13 : cs[13]? = some (.string ⟨sa.toArray⟩)) (k14 : cs[14]? = some va) (k15 : cs[15]? = some (.int .i64 bk)) (k16 : cs[16]? = some (.int .i64 bn)) (k17 : cs[17]? = some (.string ⟨sb.toArray⟩)) (k18 : cs[18]? = some vb) (k19 : cs[19]? = some vl) (k20 : cs[20]? = some (.slice Ac nc cc)) (k21 : cs[21]? = some (.slice Ai ni ci)) (k22 : cs[22]? = some (.slice As ns cs')) (k23 : cs[23]? = some (.slice At nt ct)) (dp : Int) (vB vC vE vI vO vf vn vp vr : Bool) (_bI : (ni : Int) ≤ 9223372036854775807) (_bS : (ns : Int) ≤ 9223372036854775807) (_bT : (nt : Int) ≤ 9223372036854775807) (_bC : (nc : Int) ≤ 9223372036854775807) (w : World)
 (hPl : BC w 91 #[posV ln co] vp)
 (hV1 : BC w 92 #[.string ⟨nm.toArray⟩] vn)
 (hV2 : BC w 93 #[.string ⟨fd.toArray⟩] vf)
 (hV3 : BC w 92 #[.string ⟨fr.toArray⟩] vr)
 (hE : BC w 96 #[exprV ek en ⟨es.toArray⟩ ve] vE)
 (hC : BC w 98 #[condV2 ck ak an ⟨sa.toArray⟩ va bk bn ⟨sb.toArray⟩ vb vl] vC)
 (hI : BC w 100 #[.slice Ai ni ci,.int .i64 0] vI)
 (hB : BC w 37 #[.slice As ns cs',.int .i64 dp] vB)
 (hO : BC w 37 #[.slice At nt ct,.int .i64 dp] vO)
 (zI : ni = 0 → vI = true)
 (zB : ns = 0 → vB = true)
 (zO : nt = 0 → vO = true) :
 Calls Tryz.prog 63 #[.agg cs,.int .i64 dp] w fun e w' => e = .returned (.bool (vp && (vn && vf && vr && vE && vC && decide ((nc : Int) = 0)) && (decide ((ni : Int) = 0) && decide ((ns : Int) = 0) && decide ((nt : Int) = 0)))) ∧ Below w.heap.size w w':=by
 have GPl:=Lib.hid hPl
 have GV1:=Lib.hid hV1
 have GV2:=Lib.hid hV2
 have GV3:=Lib.hid hV3
 have GE:=Lib.hid hE
 have GC:=Lib.hid hC
 have GI:=Lib.hid hI
 have GB:=Lib.hid hB
 have GO:=Lib.hid hO
 have HU : Hid (∀ w,Calls Tryz.prog 90 #[.int .i64 2] w fun e w' => e = .returned (.string ⟨#[110,102,114,48]⟩) ∧ w = w'):=Lib.hid (suses_any 2)
 have HHn : Hid (∀ w,Calls Tryz.prog 94 #[.string ⟨#[110,102,114,48]⟩,.int .u8 110] w fun e w' => e = .returned (.bool true) ∧ w = w'):=Lib.hid (fun w => shas_any ⟨#[110,102,114,48]⟩ 110 w (by decide))
 have HHf : Hid (∀ w,Calls Tryz.prog 94 #[.string ⟨#[110,102,114,48]⟩,.int .u8 102] w fun e w' => e = .returned (.bool true) ∧ w = w'):=Lib.hid (fun w => shas_any ⟨#[110,102,114,48]⟩ 102 w (by decide))
 have HHr : Hid (∀ w,Calls Tryz.prog 94 #[.string ⟨#[110,102,114,48]⟩,.int .u8 114] w fun e w' => e = .returned (.bool true) ∧ w = w'):=Lib.hid (fun w => shas_any ⟨#[110,102,114,48]⟩ 114 w (by decide))
 have HHE : Hid (∀ w,Calls Tryz.prog 94 #[.string ⟨#[110,102,114,48]⟩,.int .u8 69] w fun e w' => e = .returned (.bool false) ∧ w = w'):=Lib.hid (fun w => shas_any ⟨#[110,102,114,48]⟩ 69 w (by decide))
 have HHC : Hid (∀ w,Calls Tryz.prog 94 #[.string ⟨#[110,102,114,48]⟩,.int .u8 67] w fun e w' => e = .returned (.bool false) ∧ w = w'):=Lib.hid (fun w => shas_any ⟨#[110,102,114,48]⟩ 67 w (by decide))
 have HH1 : Hid (∀ w,Calls Tryz.prog 94 #[.string ⟨#[110,102,114,48]⟩,.int .u8 49] w fun e w' => e = .returned (.bool false) ∧ w = w'):=Lib.hid (fun w => shas_any ⟨#[110,102,114,48]⟩ 49 w (by decide))
 have HH2 : Hid (∀ w,Calls Tryz.prog 94 #[.string ⟨#[110,102,114,48]⟩,.int .u8 50] w fun e w' => e = .returned (.bool false) ∧ w = w'):=Lib.hid (fun w => shas_any ⟨#[110,102,114,48]⟩ 50 w (by decide))
 have HHi : Hid (∀ w,Calls Tryz.prog 94 #[.string ⟨#[110,102,114,48]⟩,.int .u8 105] w fun e w' => e = .returned (.bool false) ∧ w = w'):=Lib.hid (fun w => shas_any ⟨#[110,102,114,48]⟩ 105 w (by decide))
 have HHb : Hid (∀ w,Calls Tryz.prog 94 #[.string ⟨#[110,102,114,48]⟩,.int .u8 98] w fun e w' => e = .returned (.bool false) ∧ w = w'):=Lib.hid (fun w => shas_any ⟨#[110,102,114,48]⟩ 98 w (by decide))
 have HHe : Hid (∀ w,Calls Tryz.prog 94 #[.string ⟨#[110,102,114,48]⟩,.int .u8 101] w fun e w' => e = .returned (.bool false) ∧ w = w'):=Lib.hid (fun w => shas_any ⟨#[110,102,114,48]⟩ 101 w (by decide))
 obtain ⟨T,N,hT,hN,hag,hsz⟩:=stmt_hidden
 have e4 : ∀ y : Operand,Op.box 42 y = Op.box T y:=fun y => by rw [hT]
 obtain ⟨W1,hW1⟩ : ∃ W1,W1 = w.alloc (.cells cs T):=⟨_,rfl⟩
 have HB1 : Hid (Below w.heap.size w W1):=Lib.hid (by rw [hW1];exact below_alloc w _)
 have q2:=heap_of_alloc w (.cells cs T)
 have c0:=cell_of_block q2 0 k0
 rw [← hW1] at q2
 have hszc : cs.size = N:=h24.trans hN.symm
 have HF : Hid (∀ W,Below W1.heap.size W1 W → W.cell? ⟨w.heap.size,0,none⟩ = some (.int .i64 2) ∧ W.cell? ⟨w.heap.size,1,none⟩ = some (.int .i64 ln) ∧ W.cell? ⟨w.heap.size,2,none⟩ = some (.int .i64 co) ∧ W.cell? ⟨w.heap.size,3,none⟩ = some (.string ⟨nm.toArray⟩) ∧ W.cell? ⟨w.heap.size,4,none⟩ = some (.string ⟨fd.toArray⟩) ∧ W.cell? ⟨w.heap.size,5,none⟩ = some (.string ⟨fr.toArray⟩) ∧ W.cell? ⟨w.heap.size,6,none⟩ = some (.int .i64 ek) ∧ W.cell? ⟨w.heap.size,7,none⟩ = some (.int .i64 en) ∧ W.cell? ⟨w.heap.size,8,none⟩ = some (.string ⟨es.toArray⟩) ∧ W.cell? ⟨w.heap.size,9,none⟩ = some ve ∧ W.cell? ⟨w.heap.size,10,none⟩ = some (.int .i64 ck) ∧ W.cell? ⟨w.heap.size,11,none⟩ = some (.int .i64 ak) ∧ W.cell? ⟨w.heap.size,12,none⟩ = some (.int .i64 an) ∧ W.cell? ⟨w.heap.size,13,none⟩ = some (.string ⟨sa.toArray⟩) ∧ W.cell? ⟨w.heap.size,14,none⟩ = some va ∧ W.cell? ⟨w.heap.size,15,none⟩ = some (.int .i64 bk) ∧ W.cell? ⟨w.heap.size,16,none⟩ = some (.int .i64 bn) ∧ W.cell? ⟨w.heap.size,17,none⟩ = some (.string ⟨sb.toArray⟩) ∧ W.cell? ⟨w.heap.size,18,none⟩ = some vb ∧ W.cell? ⟨w.heap.size,19,none⟩ = some vl ∧ W.cell? ⟨w.heap.size,20,none⟩ = some (.slice Ac nc cc) ∧ W.cell? ⟨w.heap.size,21,none⟩ = some (.slice Ai ni ci) ∧ W.cell? ⟨w.heap.size,22,none⟩ = some (.slice As ns cs') ∧ W.cell? ⟨w.heap.size,23,none⟩ = some (.slice At nt ct)):=Lib.hid (fun W hb => by
  have g2:=kept_box hb q2
  exact ⟨cell_of_block g2 0 k0,cell_of_block g2 1 k1,cell_of_block g2 2 k2,cell_of_block g2 3 k3,cell_of_block g2 4 k4,cell_of_block g2 5 k5,cell_of_block g2 6 k6,cell_of_block g2 7 k7,cell_of_block g2 8 k8,cell_of_block g2 9 k9,cell_of_block g2 10 k10,cell_of_block g2 11 k11,cell_of_block g2 12 k12,cell_of_block g2 13 k13,cell_of_block g2 14 k14,cell_of_block g2 15 k15,cell_of_block g2 16 k16,cell_of_block g2 17 k17,cell_of_block g2 18 k18,cell_of_block g2 19 k19,cell_of_block g2 20 k20,cell_of_block g2 21 k21,cell_of_block g2 22 k22,cell_of_block g2 23 k23⟩)
 have HF3 : Hid (∀ W,Below W1.heap.size W1 W → W.cell? ⟨w.heap.size,3,none⟩ = some (.string ⟨nm.toArray⟩) ∧ W.cell? ⟨w.heap.size,4,none⟩ = some (.string ⟨fd.toArray⟩) ∧ W.cell? ⟨w.heap.size,5,none⟩ = some (.string ⟨fr.toArray⟩)):=Lib.hid (fun W hb => ⟨(HF.out W hb).2.2.2.1,(HF.out W hb).2.2.2.2.1,(HF.out W hb).2.2.2.2.2.1⟩)
 have HB:=Lib.hid (Below.refl W1.heap.size W1)
 clear hPl hV1 hV2 hV3 hE hC hI hB hO hN q2 h24 k0 k1 k2 k3 k4 k5 k6 k7 k8 k9 k10 k11 k12 k13 k14 k15 k16 k17 k18 k19 k20 k21 k22 k23
 cases vp with
 | false =>
   have e : (false && (vn && vf && vr && vE && vC && decide ((nc : Int) = 0)) && (decide ((ni : Int) = 0) && decide ((ns : Int) = 0) && decide ((nt : Int) = 0))) = false:=rfl
   rw [e]
   clear e zI zB zO
   go_enter Tryz.func63,Tryz.ntmps63
   simp only [e4]
   clear e4 hT
   go_wp2_with (first
    | (go_at_call 90;rw [← hW1];clear hW1;refine (HU.out _).mono ?_;rintro e wz ⟨rfl,rfl⟩;clear c0;obtain ⟨c0,c1,c2,c3,c4,c5,c6,c7,c8,c9,c10,c11,c12,c13,c14,c15,c16,c17,c18,c19,c20,c21,c22,c23⟩:=HF.out _ HB.out)
    | (go_at_call 94;with_reducible (first | refine (HHn.out _).mono ?_ | refine (HHf.out _).mono ?_ | refine (HHr.out _).mono ?_ | refine (HHE.out _).mono ?_ | refine (HHC.out _).mono ?_ | refine (HH1.out _).mono ?_ | refine (HH2.out _).mono ?_ | refine (HHi.out _).mono ?_ | refine (HHb.out _).mono ?_ | refine (HHe.out _).mono ?_);rintro e wz ⟨rfl,rfl⟩)
    | (have hbw:=HB1.out.chain HB.out;with_reducible (first | refine (GPl.out _ hbw).mono ?_ | refine (GV1.out _ hbw).mono ?_ | refine (GV2.out _ hbw).mono ?_ | refine (GV3.out _ hbw).mono ?_ | refine (GE.out _ hbw).mono ?_ | refine (GC.out _ hbw).mono ?_ | refine (GI.out _ hbw).mono ?_ | refine (GB.out _ hbw).mono ?_ | refine (GO.out _ hbw).mono ?_);rintro e wn ⟨rfl,hb⟩;replace HB:=Lib.hid (HB.out.chain hb);clear hb hbw;clear c0 c1 c2 c3 c4 c5 c6 c7 c8 c9 c10 c11 c12 c13 c14 c15 c16 c17 c18 c19 c20 c21 c22 c23;obtain ⟨c0,c1,c2,c3,c4,c5,c6,c7,c8,c9,c10,c11,c12,c13,c14,c15,c16,c17,c18,c19,c20,c21,c22,c23⟩:=HF.out _ HB.out))
   all_goals go_ret
   all_goals exact ⟨by first | rfl | (simp;done),HB1.out.chain HB.out⟩
 | true =>
   obtain ⟨rv,hrv⟩ : ∃ b,b = (decide ((ni : Int) = 0) && decide ((ns : Int) = 0) && decide ((nt : Int) = 0)):=⟨_,rfl⟩
   obtain ⟨qv,hqv⟩ : ∃ b,b = (vn && vf && vr && vE && vC && decide ((nc : Int) = 0)):=⟨_,rfl⟩
   rw [← hrv,← hqv]
   by_cases hq : qv = false
   ·rw [hq,show (true && false && rv) = false from rfl]
    have hD : (vn = false) ∨ (vn = true ∧ vf = false) ∨ (vn = true ∧ vf = true ∧ vr = false) ∨ (vn = true ∧ vf = true ∧ vr = true ∧ vE = false) ∨ (vn = true ∧ vf = true ∧ vr = true ∧ vE = true ∧ vC = false) ∨ (vn = true ∧ vf = true ∧ vr = true ∧ vE = true ∧ vC = true ∧ ¬ (nc : Int) = 0):=by
     by_cases x0 : vn = true
     case neg => exact Or.inl (by simpa using x0)
     by_cases x1 : vf = true
     case neg => exact Or.inr (Or.inl ⟨x0,(by simpa using x1)⟩)
     by_cases x2 : vr = true
     case neg => exact Or.inr (Or.inr (Or.inl ⟨x0,x1,(by simpa using x2)⟩))
     by_cases x3 : vE = true
     case neg => exact Or.inr (Or.inr (Or.inr (Or.inl ⟨x0,x1,x2,(by simpa using x3)⟩)))
     by_cases x4 : vC = true
     case neg => exact Or.inr (Or.inr (Or.inr (Or.inr (Or.inl ⟨x0,x1,x2,x3,(by simpa using x4)⟩))))
     by_cases x5 : (nc : Int) = 0
     case neg => exact Or.inr (Or.inr (Or.inr (Or.inr (Or.inr (⟨x0,x1,x2,x3,x4,x5⟩)))))
     exact absurd (show qv = true by rw [hqv];rw [(show vn = true from x0),(show vf = true from x1),(show vr = true from x2),(show vE = true from x3),(show vC = true from x4),decide_eq_true x5];rfl) (by rw [hq];exact Bool.false_ne_true)
    clear hqv hq hrv zI zB zO
    rcases hD with rfl | ⟨rfl,rfl⟩ | ⟨rfl,rfl,rfl⟩ | ⟨rfl,rfl,rfl,rfl⟩ | ⟨rfl,rfl,rfl,rfl,rfl⟩ | ⟨rfl,rfl,rfl,rfl,rfl,x5⟩
    all_goals
     (go_enter Tryz.func63,Tryz.ntmps63
      simp only [e4]
      clear e4 hT
      go_wp2_with (first
       | (go_at_call 90;rw [← hW1];clear hW1;refine (HU.out _).mono ?_;rintro e wz ⟨rfl,rfl⟩;clear c0;obtain ⟨c0,c1,c2,c3,c4,c5,c6,c7,c8,c9,c10,c11,c12,c13,c14,c15,c16,c17,c18,c19,c20,c21,c22,c23⟩:=HF.out _ HB.out)
       | (go_at_call 94;with_reducible (first | refine (HHn.out _).mono ?_ | refine (HHf.out _).mono ?_ | refine (HHr.out _).mono ?_ | refine (HHE.out _).mono ?_ | refine (HHC.out _).mono ?_ | refine (HH1.out _).mono ?_ | refine (HH2.out _).mono ?_ | refine (HHi.out _).mono ?_ | refine (HHb.out _).mono ?_ | refine (HHe.out _).mono ?_);rintro e wz ⟨rfl,rfl⟩)
       | (have hbw:=HB1.out.chain HB.out;with_reducible (first | refine (GPl.out _ hbw).mono ?_ | refine (GV1.out _ hbw).mono ?_ | refine (GV2.out _ hbw).mono ?_ | refine (GV3.out _ hbw).mono ?_ | refine (GE.out _ hbw).mono ?_ | refine (GC.out _ hbw).mono ?_ | refine (GI.out _ hbw).mono ?_ | refine (GB.out _ hbw).mono ?_ | refine (GO.out _ hbw).mono ?_);rintro e wn ⟨rfl,hb⟩;replace HB:=Lib.hid (HB.out.chain hb);clear hb hbw;clear c0 c1 c2 c3 c4 c5 c6 c7 c8 c9 c10 c11 c12 c13 c14 c15 c16 c17 c18 c19 c20 c21 c22 c23;obtain ⟨c0,c1,c2,c3,c4,c5,c6,c7,c8,c9,c10,c11,c12,c13,c14,c15,c16,c17,c18,c19,c20,c21,c22,c23⟩:=HF.out _ HB.out))
      go_region_held3 (fun W => W.cell? ⟨w.heap.size,3,none⟩ = some (.string ⟨nm.toArray⟩) ∧ W.cell? ⟨w.heap.size,4,none⟩ = some (.string ⟨fd.toArray⟩) ∧ W.cell? ⟨w.heap.size,5,none⟩ = some (.string ⟨fr.toArray⟩)) (first | exact HF3.out _ HB.out | exact HF3.out _ HB.out.drew | go_keep | (trace_state;fail)) (first | (have hbw:=HB1.out.chain HB.out;with_reducible (first | refine (GV1.out _ hbw).mono ?_ | refine (GV2.out _ hbw).mono ?_ | refine (GV3.out _ hbw).mono ?_);rintro e wn ⟨rfl,hb⟩;replace HB:=Lib.hid (HB.out.chain hb);clear hb hbw;clear c0 c1 c2 c3 c4 c5 c6 c7 c8 c9 c10 c11 c12 c13 c14 c15 c16 c17 c18 c19 c20 c21 c22 c23;obtain ⟨c0,c1,c2,c3,c4,c5,c6,c7,c8,c9,c10,c11,c12,c13,c14,c15,c16,c17,c18,c19,c20,c21,c22,c23⟩:=HF.out _ HB.out) | (have hbw:=HB1.out.chain HB.out.drew;with_reducible (first | refine (GV1.out _ hbw).mono ?_ | refine (GV2.out _ hbw).mono ?_ | refine (GV3.out _ hbw).mono ?_);rintro e wn ⟨rfl,hb⟩;replace HB:=Lib.hid (HB.out.drew.chain hb);clear hb hbw;clear c0 c1 c2 c3 c4 c5 c6 c7 c8 c9 c10 c11 c12 c13 c14 c15 c16 c17 c18 c19 c20 c21 c22 c23;obtain ⟨c0,c1,c2,c3,c4,c5,c6,c7,c8,c9,c10,c11,c12,c13,c14,c15,c16,c17,c18,c19,c20,c21,c22,c23⟩:=HF.out _ HB.out))
      all_goals
       (go_wp2_with (first
       | (go_at_call 90;rw [← hW1];clear hW1;refine (HU.out _).mono ?_;rintro e wz ⟨rfl,rfl⟩;clear c0;obtain ⟨c0,c1,c2,c3,c4,c5,c6,c7,c8,c9,c10,c11,c12,c13,c14,c15,c16,c17,c18,c19,c20,c21,c22,c23⟩:=HF.out _ HB.out)
       | (go_at_call 94;with_reducible (first | refine (HHn.out _).mono ?_ | refine (HHf.out _).mono ?_ | refine (HHr.out _).mono ?_ | refine (HHE.out _).mono ?_ | refine (HHC.out _).mono ?_ | refine (HH1.out _).mono ?_ | refine (HH2.out _).mono ?_ | refine (HHi.out _).mono ?_ | refine (HHb.out _).mono ?_ | refine (HHe.out _).mono ?_);rintro e wz ⟨rfl,rfl⟩)
       | (have hbw:=HB1.out.chain HB.out;with_reducible (first | refine (GPl.out _ hbw).mono ?_ | refine (GV1.out _ hbw).mono ?_ | refine (GV2.out _ hbw).mono ?_ | refine (GV3.out _ hbw).mono ?_ | refine (GE.out _ hbw).mono ?_ | refine (GC.out _ hbw).mono ?_ | refine (GI.out _ hbw).mono ?_ | refine (GB.out _ hbw).mono ?_ | refine (GO.out _ hbw).mono ?_);rintro e wn ⟨rfl,hb⟩;replace HB:=Lib.hid (HB.out.chain hb);clear hb hbw;clear c0 c1 c2 c3 c4 c5 c6 c7 c8 c9 c10 c11 c12 c13 c14 c15 c16 c17 c18 c19 c20 c21 c22 c23;obtain ⟨c0,c1,c2,c3,c4,c5,c6,c7,c8,c9,c10,c11,c12,c13,c14,c15,c16,c17,c18,c19,c20,c21,c22,c23⟩:=HF.out _ HB.out)))
      all_goals go_ret
      all_goals exact ⟨by first | rfl | (simp;done),HB1.out.chain HB.out⟩)
   ·have hq2 : qv = true:=by simpa using hq
    rw [hq2,show (true && true && rv) = rv from rfl]
    have hT0 : vn = true ∧ vf = true ∧ vr = true ∧ vE = true ∧ vC = true ∧ (nc : Int) = 0:=by
     by_cases x0 : vn = true
     case neg =>
      refine absurd (show qv = false from ?_) hq
      rw [hqv]
      rw [(show vn = false from (by simpa using x0))]
      simp
     by_cases x1 : vf = true
     case neg =>
      refine absurd (show qv = false from ?_) hq
      rw [hqv]
      rw [(show vf = false from (by simpa using x1))]
      simp
     by_cases x2 : vr = true
     case neg =>
      refine absurd (show qv = false from ?_) hq
      rw [hqv]
      rw [(show vr = false from (by simpa using x2))]
      simp
     by_cases x3 : vE = true
     case neg =>
      refine absurd (show qv = false from ?_) hq
      rw [hqv]
      rw [(show vE = false from (by simpa using x3))]
      simp
     by_cases x4 : vC = true
     case neg =>
      refine absurd (show qv = false from ?_) hq
      rw [hqv]
      rw [(show vC = false from (by simpa using x4))]
      simp
     by_cases x5 : (nc : Int) = 0
     case neg =>
      refine absurd (show qv = false from ?_) hq
      rw [hqv]
      rw [decide_eq_false x5]
      simp
     exact ⟨x0,x1,x2,x3,x4,x5⟩
    clear hqv hq hq2 qv
    obtain ⟨rfl,rfl,rfl,rfl,rfl,y5⟩:=hT0
    have hD : (¬ (ni : Int) = 0 ∧ rv = false) ∨ ((ni : Int) = 0 ∧ ¬ (ns : Int) = 0 ∧ rv = false) ∨ ((ni : Int) = 0 ∧ (ns : Int) = 0 ∧ ¬ (nt : Int) = 0 ∧ rv = false) ∨ ((ni : Int) = 0 ∧ (ns : Int) = 0 ∧ (nt : Int) = 0 ∧ vI = true ∧ vB = true ∧ vO = true ∧ rv = true):=by
     by_cases x0 : (ni : Int) = 0
     case neg => exact Or.inl ⟨x0,(by rw [hrv];rw [decide_eq_false x0];simp)⟩
     by_cases x1 : (ns : Int) = 0
     case neg => exact Or.inr (Or.inl ⟨x0,x1,(by rw [hrv];rw [decide_eq_false x1];simp)⟩)
     by_cases x2 : (nt : Int) = 0
     case neg => exact Or.inr (Or.inr (Or.inl ⟨x0,x1,x2,(by rw [hrv];rw [decide_eq_false x2];simp)⟩))
     exact Or.inr (Or.inr (Or.inr (⟨x0,x1,x2,(zI (by omega)),(zB (by omega)),(zO (by omega)),(by rw [hrv];rw [decide_eq_true x0,decide_eq_true x1,decide_eq_true x2];rfl)⟩)))
    clear hrv zI zB zO
    rcases hD with ⟨x0,rfl⟩ | ⟨x0,x1,rfl⟩ | ⟨x0,x1,x2,rfl⟩ | ⟨x0,x1,x2,rfl,rfl,rfl,rfl⟩
    all_goals
     (go_enter Tryz.func63,Tryz.ntmps63
      simp only [e4]
      clear e4 hT
      go_wp2_with (first
       | (go_at_call 90;rw [← hW1];clear hW1;refine (HU.out _).mono ?_;rintro e wz ⟨rfl,rfl⟩;clear c0;obtain ⟨c0,c1,c2,c3,c4,c5,c6,c7,c8,c9,c10,c11,c12,c13,c14,c15,c16,c17,c18,c19,c20,c21,c22,c23⟩:=HF.out _ HB.out)
       | (go_at_call 94;with_reducible (first | refine (HHn.out _).mono ?_ | refine (HHf.out _).mono ?_ | refine (HHr.out _).mono ?_ | refine (HHE.out _).mono ?_ | refine (HHC.out _).mono ?_ | refine (HH1.out _).mono ?_ | refine (HH2.out _).mono ?_ | refine (HHi.out _).mono ?_ | refine (HHb.out _).mono ?_ | refine (HHe.out _).mono ?_);rintro e wz ⟨rfl,rfl⟩)
       | (have hbw:=HB1.out.chain HB.out;with_reducible (first | refine (GPl.out _ hbw).mono ?_ | refine (GV1.out _ hbw).mono ?_ | refine (GV2.out _ hbw).mono ?_ | refine (GV3.out _ hbw).mono ?_ | refine (GE.out _ hbw).mono ?_ | refine (GC.out _ hbw).mono ?_ | refine (GI.out _ hbw).mono ?_ | refine (GB.out _ hbw).mono ?_ | refine (GO.out _ hbw).mono ?_);rintro e wn ⟨rfl,hb⟩;replace HB:=Lib.hid (HB.out.chain hb);clear hb hbw;clear c0 c1 c2 c3 c4 c5 c6 c7 c8 c9 c10 c11 c12 c13 c14 c15 c16 c17 c18 c19 c20 c21 c22 c23;obtain ⟨c0,c1,c2,c3,c4,c5,c6,c7,c8,c9,c10,c11,c12,c13,c14,c15,c16,c17,c18,c19,c20,c21,c22,c23⟩:=HF.out _ HB.out))
      go_region_held3 (fun W => W.cell? ⟨w.heap.size,3,none⟩ = some (.string ⟨nm.toArray⟩) ∧ W.cell? ⟨w.heap.size,4,none⟩ = some (.string ⟨fd.toArray⟩) ∧ W.cell? ⟨w.heap.size,5,none⟩ = some (.string ⟨fr.toArray⟩)) (first | exact HF3.out _ HB.out | exact HF3.out _ HB.out.drew | go_keep | (trace_state;fail)) (first | (have hbw:=HB1.out.chain HB.out;with_reducible (first | refine (GV1.out _ hbw).mono ?_ | refine (GV2.out _ hbw).mono ?_ | refine (GV3.out _ hbw).mono ?_);rintro e wn ⟨rfl,hb⟩;replace HB:=Lib.hid (HB.out.chain hb);clear hb hbw;clear c0 c1 c2 c3 c4 c5 c6 c7 c8 c9 c10 c11 c12 c13 c14 c15 c16 c17 c18 c19 c20 c21 c22 c23;obtain ⟨c0,c1,c2,c3,c4,c5,c6,c7,c8,c9,c10,c11,c12,c13,c14,c15,c16,c17,c18,c19,c20,c21,c22,c23⟩:=HF.out _ HB.out) | (have hbw:=HB1.out.chain HB.out.drew;with_reducible (first | refine (GV1.out _ hbw).mono ?_ | refine (GV2.out _ hbw).mono ?_ | refine (GV3.out _ hbw).mono ?_);rintro e wn ⟨rfl,hb⟩;replace HB:=Lib.hid (HB.out.drew.chain hb);clear hb hbw;clear c0 c1 c2 c3 c4 c5 c6 c7 c8 c9 c10 c11 c12 c13 c14 c15 c16 c17 c18 c19 c20 c21 c22 c23;obtain ⟨c0,c1,c2,c3,c4,c5,c6,c7,c8,c9,c10,c11,c12,c13,c14,c15,c16,c17,c18,c19,c20,c21,c22,c23⟩:=HF.out _ HB.out))
      all_goals
       (go_wp2_with (first
       | (go_at_call 90;rw [← hW1];clear hW1;refine (HU.out _).mono ?_;rintro e wz ⟨rfl,rfl⟩;clear c0;obtain ⟨c0,c1,c2,c3,c4,c5,c6,c7,c8,c9,c10,c11,c12,c13,c14,c15,c16,c17,c18,c19,c20,c21,c22,c23⟩:=HF.out _ HB.out)
       | (go_at_call 94;with_reducible (first | refine (HHn.out _).mono ?_ | refine (HHf.out _).mono ?_ | refine (HHr.out _).mono ?_ | refine (HHE.out _).mono ?_ | refine (HHC.out _).mono ?_ | refine (HH1.out _).mono ?_ | refine (HH2.out _).mono ?_ | refine (HHi.out _).mono ?_ | refine (HHb.out _).mono ?_ | refine (HHe.out _).mono ?_);rintro e wz ⟨rfl,rfl⟩)
       | (have hbw:=HB1.out.chain HB.out;with_reducible (first | refine (GPl.out _ hbw).mono ?_ | refine (GV1.out _ hbw).mono ?_ | refine (GV2.out _ hbw).mono ?_ | refine (GV3.out _ hbw).mono ?_ | refine (GE.out _ hbw).mono ?_ | refine (GC.out _ hbw).mono ?_ | refine (GI.out _ hbw).mono ?_ | refine (GB.out _ hbw).mono ?_ | refine (GO.out _ hbw).mono ?_);rintro e wn ⟨rfl,hb⟩;replace HB:=Lib.hid (HB.out.chain hb);clear hb hbw;clear c0 c1 c2 c3 c4 c5 c6 c7 c8 c9 c10 c11 c12 c13 c14 c15 c16 c17 c18 c19 c20 c21 c22 c23;obtain ⟨c0,c1,c2,c3,c4,c5,c6,c7,c8,c9,c10,c11,c12,c13,c14,c15,c16,c17,c18,c19,c20,c21,c22,c23⟩:=HF.out _ HB.out))
        go_loopg [10] 0 (fun m j wr => m = 0 ∧ j = .int .i64 0 ∧ Hid (Below W1.heap.size W1 wr))
        case atStart => exact ⟨rfl,rfl,HB⟩
        case round =>
         obtain ⟨rfl,rfl,HJ⟩:=hrel
         clear HB
         have HB:=Lib.hid HJ.out
         clear c0 c1 c2 c3 c4 c5 c6 c7 c8 c9 c10 c11 c12 c13 c14 c15 c16 c17 c18 c19 c20 c21 c22 c23
         obtain ⟨c0,c1,c2,c3,c4,c5,c6,c7,c8,c9,c10,c11,c12,c13,c14,c15,c16,c17,c18,c19,c20,c21,c22,c23⟩:=HF.out _ HB.out
         go_wp2_with (first
          | (go_at_call 90;rw [← hW1];clear hW1;refine (HU.out _).mono ?_;rintro e wz ⟨rfl,rfl⟩;clear c0;obtain ⟨c0,c1,c2,c3,c4,c5,c6,c7,c8,c9,c10,c11,c12,c13,c14,c15,c16,c17,c18,c19,c20,c21,c22,c23⟩:=HF.out _ HB.out)
          | (go_at_call 94;with_reducible (first | refine (HHn.out _).mono ?_ | refine (HHf.out _).mono ?_ | refine (HHr.out _).mono ?_ | refine (HHE.out _).mono ?_ | refine (HHC.out _).mono ?_ | refine (HH1.out _).mono ?_ | refine (HH2.out _).mono ?_ | refine (HHi.out _).mono ?_ | refine (HHb.out _).mono ?_ | refine (HHe.out _).mono ?_);rintro e wz ⟨rfl,rfl⟩)
          | (have hbw:=HB1.out.chain HB.out;with_reducible (first | refine (GPl.out _ hbw).mono ?_ | refine (GV1.out _ hbw).mono ?_ | refine (GV2.out _ hbw).mono ?_ | refine (GV3.out _ hbw).mono ?_ | refine (GE.out _ hbw).mono ?_ | refine (GC.out _ hbw).mono ?_ | refine (GI.out _ hbw).mono ?_ | refine (GB.out _ hbw).mono ?_ | refine (GO.out _ hbw).mono ?_);rintro e wn ⟨rfl,hb⟩;replace HB:=Lib.hid (HB.out.chain hb);clear hb hbw;clear c0 c1 c2 c3 c4 c5 c6 c7 c8 c9 c10 c11 c12 c13 c14 c15 c16 c17 c18 c19 c20 c21 c22 c23;obtain ⟨c0,c1,c2,c3,c4,c5,c6,c7,c8,c9,c10,c11,c12,c13,c14,c15,c16,c17,c18,c19,c20,c21,c22,c23⟩:=HF.out _ HB.out))
         all_goals go_ret
         all_goals exact ⟨by first | rfl | (simp;done),HB1.out.chain HB.out⟩))
end Go.Proofs.YtnbdfpjcpapdcaaGreatDoor
