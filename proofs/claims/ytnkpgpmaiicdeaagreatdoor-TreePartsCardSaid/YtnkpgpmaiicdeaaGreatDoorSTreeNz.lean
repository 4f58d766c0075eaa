/-
  The body of the law TreeParts, at any program.
-/
import Derived.Test.YtnkpgpmaiicdeaaGreatDoorSTreeNb
import Derived.Test.YtnkpgpmaiicdeaaGreatDoorSTreeCn
import Derived.Test.YtnkpgpmaiicdeaaGreatDoorSTreeMo
import Derived.Test.YtnkpgpmaiicdeaaGreatDoorSTreeLx
import Derived.Test.YtnkpgpmaiicdeaaGreatDoorSTreePo
import Derived.Test.YtnkpgpmaiicdeaaGreatDoorSTreeKd
import Derived.Test.YtnkpgpmaiicdeaaGreatDoorSTreeAx
import Derived.Laws.EntriesVeiled
import Derived.Sort.LoopGhostIn
set_option linter.unusedVariables false
set_option linter.unusedSimpArgs false
namespace Go.Proofs.YtnkpgpmaiicdeaaGreatDoor
set_option maxRecDepth 100000
set_option maxHeartbeats 40000000
open Go.RowKit
attribute [local go_sem] Oper.semAt_some
structure PaSt (W0 : World) (Pv : Nat → Prop) (pre : List (Nat × Array Value)) (W : World) : Prop where
 off : ∀ b,Pv b → W0.heap.size ≤ b
 below : Below W0.heap.size W0 W
theorem PaSt.abid {W0 : World} : Abid (PaSt W0):=by
 intro Pv Pv' s W W' h hp hn hl
 have hno : ∀ b,b < W0.heap.size → ¬ Pv b:=fun b hb hp => by have := h.off b hp;omega
 have hs:=h.below.size
 refine ⟨fun b hb => ?_,hp.os.trans h.below.os,hp.tape.trans h.below.tape,hp.output.trans h.below.output,Nat.le_trans hs hp.size,fun b hb => (hp.block b (Nat.lt_of_lt_of_le hb hs) (hno b hb)).trans (h.below.block b hb)⟩
 rcases hn b hb with hb | hb
 ·exact h.off b hb
 ·exact Nat.le_trans hs hb
def PaInv (W0 : World) (ds : List Nat) (W : World) : Prop :=
 Below W0.heap.size W0 W ∧ ds.Nodup ∧ ∀ D ∈ ds,W0.heap.size ≤ D ∧ D < W.heap.size ∧ W.heap[D]? = some (.deferred (some []))
theorem hid_ProgramN : ∃ (T N : Nat) (zc : Array Value),53 = T ∧ N = 6 ∧ zc.size = N ∧ (∀ w : World,(isAgg T).run Tryz.prog w = .ok true w) ∧ (∀ w : World,(sizeOf T).run Tryz.prog w = .ok N w) ∧ (∀ w : World,(zeroValue T).run Tryz.prog w = .ok (.agg zc) w) :=
 ⟨_,6,#[.slice none 0 0,.slice none 0 0,.slice none 0 0,.slice none 0 0,.slice none 0 0,.slice none 0 0],rfl,rfl,rfl,fun w => by kernel_rfl,fun w => by kernel_rfl,fun w => by kernel_rfl⟩
theorem pgCs_cells (d : GAd) (p : Pg) : (pgCs d p)[5]? = some (.slice d.x p.xs.length d.nx) ∧ (pgCs d p)[3]? = some (.slice d.d p.ds.length d.nd) ∧ (pgCs d p)[2]? = some (.slice d.k p.ks.length d.nk) ∧ (pgCs d p).size = 6 ∧ (pgCs d p).all (·.oneCell') = true:=by
 refine ⟨rfl,rfl,rfl,rfl,?_⟩
 unfold pgCs
 rw [List.all_toArray]
 rfl
theorem sum_ge {α : Type} (g : α → Nat) : ∀ {l : List α} {x : α},x ∈ l → g x ≤ (l.map g).sum
 | [],_,h => by cases h
 | a :: l,x,h => by
   rw [List.map_cons,List.sum_cons]
   rcases List.mem_cons.1 h with rfl | h
   ·omega
   ·have := sum_ge g h;omega
def Kx (k : Int) : Prop:=k = 1 ∨ k = 3
def Kc (k : Int) : Prop:=k = 8 ∨ k = 9 ∨ k = 10
theorem kx1 : Kx 1:=Or.inl rfl
theorem kx3 : Kx 3:=Or.inr rfl
theorem kc8 : Kc 8:=Or.inl rfl
theorem kc9 : Kc 9:=Or.inr (Or.inl rfl)
theorem kc10 : Kc 10:=Or.inr (Or.inr rfl)
theorem no_fn (F : Fence) : ∀ f : FuncId,(none : Option FuncId) = some f → F.fn f:=fun _ h => by cases h
theorem pa_round {W8 W1 Wb : World} {Pv : Nat → Prop} {pre : List (Nat × Array Value)} {cs : Array Value} {T : TypeId} {x : St} {r r2 : Loop} (hI : PaSt W8 Pv pre W1) (hlt : ∀ b,Pv b → b < W1.heap.size) (hL : Pv (W8.heap.size + 1)) (hrl : W1.heap[W8.heap.size + 1]? = some (.loop r))
 (hv : VSt W1 W1.heap.size cs x) (hWb : Wb = (W1.alloc (.cells cs T)).putObj (W8.heap.size + 1) (.loop r2)) :
 PaSt W8 Pv pre Wb ∧ Wb.heap[W1.heap.size]? = some (.cells cs T (0,0)) ∧ VSt Wb Wb.heap.size cs x:=by
 have hne : W1.heap.size ≠ W8.heap.size + 1:=fun e => by have := hlt _ hL;omega
 have hpb : Part Pv W1 Wb:=by rw [hWb];exact (Part.alloc _ _).trans (Part.putObj _ _ hL)
 refine ⟨PaSt.abid Pv Pv pre W1 Wb hI hpb (fun b hb => Or.inl hb) (fun b hb => Nat.lt_of_lt_of_le (hlt b hb) hpb.size),by rw [hWb];exact (World.putObj_heap_other hne).trans (heap_of_alloc W1 _),?_⟩
 refine vst_subs W1 Wb _ cs x (fun q v hq => ?_) hv
 by_cases hb : q.block = W8.heap.size + 1
 ·unfold World.cell? at hq
  rw [hb,hrl] at hq
  simp at hq
 ·rw [hWb,← hq]
  exact World.cell?_of_block ((World.putObj_heap_other hb).trans (Below.heap_alloc W1 _ q.block (lt_of_cell hq)))
theorem parts_law (p : Pg) (d : GAd) (w : World) (hP : PartsAt w) (hp : PgOwn w w.heap.size d p) (hws : ∀ x ∈ p.xs,WS x.bd) :
 Calls Tryz.prog 4 #[progV d p] w fun e w' => e = .returned (.bool true) ∧ Below w.heap.size w w':=by
 obtain ⟨F,hF⟩ : ∃ F : Pr → List St,∀ x,FlL x.bd (F x):=Classical.axiomOfChoice (fun x : Pr => fl_any _ x.bd (Nat.lt_succ_self _))
 obtain ⟨T,N,zc,hT,hN,hzc,hag,hsz,hzv⟩:=hid_ProgramN
 obtain ⟨T2,N2,zc2,hT2,hN2,hzc2,hag2,hsz2,hzv2⟩:=hid_ProcM
 obtain ⟨T3,N3,zc3,hT3,hN3,hzc3,hag3,hsz3,hzv3⟩:=stmt_hidden2
 have e1 : ∀ y : Operand,Op.load 53 y = Op.load T y:=fun y => by rw [hT]
 have e4 : ∀ y : Operand,Op.box 53 y = Op.box T y:=fun y => by rw [hT]
 have f1 : ∀ y : Operand,Op.load 46 y = Op.load T2 y:=fun y => by rw [hT2]
 have f2 : ∀ y z : Operand,Op.store 46 y z = Op.store T2 y z:=fun y z => by rw [hT2]
 have f3 : Op.alloc 46 = Op.alloc T2:=by rw [hT2]
 have g1 : ∀ y : Operand,Op.load 40 y = Op.load T3 y:=fun y => by rw [hT3]
 have g2 : ∀ y z : Operand,Op.store 40 y z = Op.store T3 y z:=fun y z => by rw [hT3]
 have g3 : Op.alloc 40 = Op.alloc T3:=by rw [hT3]
 obtain ⟨cp,hcp⟩ : ∃ cp,cp = pgCs d p:=⟨_,rfl⟩
 obtain ⟨np,hnp⟩ : ∃ n,n = p.xs.length:=⟨_,rfl⟩
 obtain ⟨nd,hnd⟩ : ∃ n,n = p.ds.length:=⟨_,rfl⟩
 obtain ⟨nk,hnk⟩ : ∃ n,n = p.ks.length:=⟨_,rfl⟩
 obtain ⟨Ax,hAx⟩ : ∃ A,A = d.x:=⟨_,rfl⟩
 obtain ⟨Ad,hAd⟩ : ∃ A,A = d.d:=⟨_,rfl⟩
 obtain ⟨Ak,hAk⟩ : ∃ A,A = d.k:=⟨_,rfl⟩
 obtain ⟨cx,hcx⟩ : ∃ c,c = d.nx:=⟨_,rfl⟩
 obtain ⟨cd,hcd⟩ : ∃ c,c = d.nd:=⟨_,rfl⟩
 obtain ⟨ck,hck⟩ : ∃ c,c = d.nk:=⟨_,rfl⟩
 have hpv : progV d p = .agg cp:=by rw [hcp];rfl
 have kp5 : cp[5]? = some (.slice Ax np cx):=by rw [hcp,hnp,hAx,hcx];exact (pgCs_cells d p).1
 have kp3 : cp[3]? = some (.slice Ad nd cd):=by rw [hcp,hnd,hAd,hcd];exact (pgCs_cells d p).2.1
 have kp2 : cp[2]? = some (.slice Ak nk ck):=by rw [hcp,hnk,hAk,hck];exact (pgCs_cells d p).2.2.1
 have szp : cp.size = N:=by rw [hcp,hN];exact (pgCs_cells d p).2.2.2.1
 have onp : cp.all (·.oneCell') = true:=by rw [hcp];exact (pgCs_cells d p).2.2.2.2
 obtain ⟨v0,hv0⟩ : ∃ v,v = vPg p:=⟨_,rfl⟩
 obtain ⟨⟨m1,m2,m3,m4,m5,m6⟩,r1,r2,r3,r4,r5,r6⟩:=id hp
 rw [← hnp] at m6
 rw [← hnd] at m4
 rw [← hnk] at m3
 rw [← hAx] at r6
 rw [← hAd] at r4
 rw [← hAk] at r3
 have HX:=Lib.hid (And.intro hnp (And.intro r6 (And.intro hF hws)))
 have HD:=Lib.hid (And.intro hnd r4)
 have HK:=Lib.hid (And.intro hnk r3)
 have HV:=Lib.hid hv0
 have HPt:=Lib.hid hP
 have HN:=Lib.hid (And.intro hN (And.intro hzc (And.intro hN2 (And.intro hzc2 (And.intro hN3 hzc3)))))
 have HL0 : Hid (∀ W,Below w.heap.size w W → Calls Tryz.prog 11 #[.int .i64 200000,.agg cp] W fun e w' => ∃ r : Int,e = .returned (.int .i64 r) ∧ -1 ≤ r ∧ r ≤ 200000 ∧ (0 ≤ r → ∀ x ∈ p.xs,(F x).length ≤ 200000) ∧ Below W.heap.size W w'):=Lib.hid (fun W hb => by
  rw [← hpv]
  refine (left_program2 p d 200000 W (by omega) (by omega) (hp.on hb)).mono ?_
  rintro e w' ⟨r,h1,h2,h3,h4,h5⟩
  exact ⟨r,h1,h2,h3,fun h x hx => by have h6:=h4 F (fun x _ => hF x) h;have h7:=sum_ge (fun x => (F x).length) hx;omega,h5⟩)
 have HTp : Hid (BC w 12 #[.agg cp] v0):=Lib.hid (fun W hb => by rw [← hpv,hv0];exact tprogram_any d p W (hP.on hb) (hp.on hb))
 obtain ⟨B,hB⟩ : ∃ B,B = w.heap.size:=⟨_,rfl⟩
 obtain ⟨W1,hW1⟩ : ∃ W1,W1 = ((w.alloc (.cells cp T)).alloc (.cells #[.bool false] 4)):=⟨_,rfl⟩
 have HB1 : Hid (Below w.heap.size w W1):=Lib.hid (by rw [hW1];exact (below_alloc w _).chain (below_alloc _ _))
 have HZ1 : Hid (W1.heap.size = w.heap.size + 2):=Lib.hid (by rw [hW1];simp only [size_of_alloc])
 have HP0 : Hid (W1.heap[w.heap.size]? = some (.cells cp T (0,0))):=Lib.hid (by rw [hW1];exact heap_keep (heap_of_alloc w (.cells cp T)))
 have HP1 : Hid (W1.heap[w.heap.size + 1]? = some (.cells #[.bool false] 4 (0,0))):=Lib.hid (by
  rw [hW1]
  have h:=heap_of_alloc (w.alloc (.cells cp T)) (.cells #[.bool false] 4)
  simp only [size_of_alloc] at h
  exact h)
 have HC0 : Hid (∀ W,Below W1.heap.size W1 W → (loadCellsFrom ⟨w.heap.size,0,none⟩ 0 N #[]).run Tryz.prog W = .ok cp W):=Lib.hid (fun W hs => load_list (fun j v hv => by rw [add_block0];exact cell_of_block (kept_box hs HP0.out) j hv) szp)
 have HB:=Lib.hid hB
 clear hP hp hF hws hN hzc hN2 hzc2 hN3 hzc3 hcp hnp hnd hnk hAx hAd hAk hcx hcd hck r1 r2 r3 r4 r5 r6 m1 m2 m5 hv0 hB
 unfold maxLen at m3 m4 m6
 rw [hpv]
 clear hpv
 have q1 : Fence.wide.fn 5:=trivial
 have q2 : Fence.wide.fn 11:=trivial
 have q3 : Fence.wide.fn 12:=trivial
 have q4 : Fence.wide.fn 8:=trivial
 have q5 : Fence.wide.fn 20:=trivial
 have q6 : Fence.wide.fn 21:=trivial
 have q7 : Fence.wide.fn 19:=trivial
 have q8 : Fence.wide.fn 13:=trivial
 refine (callsIn_wide (n:=20)).1 ?_
 refine callsIn_of_wp_marks Tryz.func4 rfl trivial ?_ rfl
 simp only [Tryz.ntmps4,List.size_toArray,List.length_cons,List.length_nil,Nat.reduceAdd,Nat.reduceSub,Array.replicate_succ,Array.replicate_zero,List.push_toArray,List.append_toArray,List.nil_append,List.cons_append,e1,e4,f1,f2,f3,g1,g2,g3]
 clear e1 e4 f1 f2 f3 g1 g2 g3 hT hT2 hT3
 cases v0
 ·gi_wp2_with (first
   | (gi_at_call 5;rw [← hW1];refine (callsIn_wide.2 (awake_any _)).mono ?_;rintro e w2 ⟨rfl,hb⟩;have H2:=Lib.hid hb;have z2:=HC0.out w2 hb;clear hb)
   | (gi_at_call 11;refine (callsIn_wide.2 (HL0.out _ (HB1.out.chain H2.out))).mono ?_;rintro e w3 ⟨r,rfl,hr1,hr2,hr3,hb⟩;have H3:=Lib.hid (And.intro (H2.out.chain hb) hr3);have z3:=HC0.out w3 H3.out.1;have y3:=kept_box H3.out.1 HP1.out;have pc:=cell_of_block y3 0 (v:=.bool false) rfl;have pf:=frozen_at y3 0;have HY3:=Lib.hid y3;clear hb hr3 y3)
   | (gi_at_call 12;refine (callsIn_wide.2 (HTp.out _ (HB1.out.chain H3.out.1))).mono ?_;rintro e w4 ⟨rfl,hb⟩;have H4:=Lib.hid (H3.out.1.chain hb);have y4:=kept_box H4.out HP1.out;have pc4:=cell_of_block y4 0 (v:=.bool false) rfl;have pf4:=frozen_at y4 0;have HY4:=Lib.hid y4;clear hb y4))
  ·exact ⟨_,results_bool rfl _ _ ⟨w.heap.size + 1,0,none⟩ true rfl (cell_of_block (heap_setCell_at HY3.out 0 (.bool true)) 0 rfl),rfl,(HB1.out.chain H3.out.1).setCell (p:=⟨w.heap.size + 1,0,none⟩) (Nat.le_succ _) _⟩
  ·exact ⟨_,results_bool rfl _ _ ⟨w.heap.size + 1,0,none⟩ true rfl (cell_of_block (heap_setCell_at HY4.out 0 (.bool true)) 0 rfl),rfl,(HB1.out.chain H4.out).setCell (p:=⟨w.heap.size + 1,0,none⟩) (Nat.le_succ _) _⟩
 gi_wp2_with (first
  | (gi_at_call 5;rw [← hW1];refine (callsIn_wide.2 (awake_any _)).mono ?_;rintro e w2 ⟨rfl,hb⟩;have H2:=Lib.hid hb;have z2:=HC0.out w2 hb;clear hb)
  | (gi_at_call 11;refine (callsIn_wide.2 (HL0.out _ (HB1.out.chain H2.out))).mono ?_;rintro e w3 ⟨r,rfl,hr1,hr2,hr3,hb⟩;have H3:=Lib.hid (And.intro (H2.out.chain hb) hr3);have z3:=HC0.out w3 H3.out.1;have y3:=kept_box H3.out.1 HP1.out;have pc:=cell_of_block y3 0 (v:=.bool false) rfl;have pf:=frozen_at y3 0;have HY3:=Lib.hid y3;clear hb hr3 y3)
  | (gi_at_call 12;refine (callsIn_wide.2 (HTp.out _ (HB1.out.chain H3.out.1))).mono ?_;rintro e w4 ⟨rfl,hb⟩;have H4:=Lib.hid (H3.out.1.chain hb);have kq:=cell_of_block (kept_box ((below_alloc w4 (.cells #[cloE w4.heap.size] 58)).chain (below_alloc _ (.cells #[.func (.func 17) #[] #[]] 64))) (kept_box H4.out HP0.out)) 5 kp5;clear hb))
 ·exact ⟨_,results_bool rfl _ _ ⟨w.heap.size + 1,0,none⟩ true rfl (cell_of_block (heap_setCell_at HY3.out 0 (.bool true)) 0 rfl),rfl,(HB1.out.chain H3.out.1).setCell (p:=⟨w.heap.size + 1,0,none⟩) (Nat.le_succ _) _⟩
 obtain ⟨W0,hW0⟩ : ∃ W0,W0 = (w4.alloc (.cells #[cloE w4.heap.size] 58)).alloc (.cells #[.func (.func 17) #[] #[]] 64):=⟨_,rfl⟩
 have hb0 : Below w4.heap.size w4 W0:=by rw [hW0];exact (below_alloc w4 _).chain (below_alloc _ _)
 have hE0 : W0.heap[w4.heap.size]? = some (.cells #[cloE w4.heap.size] 58 (0,0)):=by rw [hW0];exact heap_keep (heap_of_alloc w4 _)
 have hF0 : W0.heap[w4.heap.size + 1]? = some (.cells #[.func (.func 17) #[] #[]] 64 (0,0)):=by
  rw [hW0]
  have h:=heap_of_alloc (w4.alloc (.cells #[cloE w4.heap.size] 58)) (.cells #[.func (.func 17) #[] #[]] 64)
  simp only [size_of_alloc] at h
  exact h
 rw [← hW0]
 clear kq
 have HW0:=Lib.hid (And.intro (H4.out.chain hb0) hb0)
 clear hW0 hb0 hW1
 have HR:=Lib.hid (H3.out.2 (by omega))
 obtain ⟨Ne,hNe⟩ : ∃ n,n = w4.heap.size:=⟨_,rfl⟩
 rw [← hNe] at hE0 hF0
 have HE0:=Lib.hid hE0
 have HF0:=Lib.hid hF0
 have HNe:=Lib.hid hNe
 rw [← HB.out,← hNe]
 clear hE0 hF0 hNe
 have HG:=Lib.hid (pg_good HV.out.symm)
 have HWw : Hid (Below w.heap.size w W0):=Lib.hid (HB1.out.chain HW0.out.1)
 refine wpIn_loop (fun a W => ∃ (k : Nat) (ds : List Nat) (x6 x8 x26 x27 x28 x29 x30 x31 x32 x33 x34 x35 x36 x37 x38 x39 x40 x41 x42 x43 x44 x45 x46 x47 x48 x49 x50 x51 x52 x53 x54 x55 x56 x57 x58 x59 x60 x61 x62 x63 x64 x65 x66 x67 x68 x69 x70 x71 x72 x73 x74 x75 x76 x77 x78 x79 x80 x81 x82 x83 x84 x85 x86 x87 x88 x89 x90 x91 x92 x93 x94 x95 x96 x97 x98 x99 x100 x101 x102 x103 x104 x105 x106 x107 x108 : Value),k ≤ np ∧ a = { tmps:=#[.agg cp,.pointer (some ⟨B,0,none⟩),.pointer (some ⟨B + 1,0,none⟩),.pointer (some ⟨Ne,0,none⟩),.pointer (some ⟨Ne + 1,0,none⟩),undef,x6,undef,x8,undef,undef,undef,undef,.bool true,.bool false,.agg cp,.int .i64 r,.bool (decide (r < 0)),.agg cp,.bool true,.bool false,cloE Ne,.pointer (some ⟨B,5,none⟩),.slice Ax np cx,.int .i64 np,.int .i64 k,x26,x27,x28,x29,x30,x31,x32,x33,x34,x35,x36,x37,x38,x39,x40,x41,x42,x43,x44,x45,x46,x47,x48,x49,x50,x51,x52,x53,x54,x55,x56,x57,x58,x59,x60,x61,x62,x63,x64,x65,x66,x67,x68,x69,x70,x71,x72,x73,x74,x75,x76,x77,x78,x79,x80,x81,x82,x83,x84,x85,x86,x87,x88,x89,x90,x91,x92,x93,x94,x95,x96,x97,x98,x99,x100,x101,x102,x103,x104,x105,x106,x107,x108,undef,undef,undef,undef,undef,undef,undef,undef,undef,undef,undef,undef,undef,undef,undef,undef,undef,undef,undef,undef,undef,undef,undef,undef],defers:=ds.map mark } ∧ Hid (PaInv W0 ds W)) (fun a _ => np - (intOf (a.tmps.getD 25 undef)).toNat) ⟨0,[],_,_,_,_,_,_,_,_,_,_,_,_,_,_,_,_,_,_,_,_,_,_,_,_,_,_,_,_,_,_,_,_,_,_,_,_,_,_,_,_,_,_,_,_,_,_,_,_,_,_,_,_,_,_,_,_,_,_,_,_,_,_,_,_,_,_,_,_,_,_,_,_,_,_,_,_,_,_,_,_,_,_,_,_,_,Nat.zero_le _,rfl,Lib.hid ⟨Below.refl _ _,List.nodup_nil,fun D hD => by cases hD⟩⟩ ?_
 rintro a W ⟨k,ds,x6,x8,x26,x27,x28,x29,x30,x31,x32,x33,x34,x35,x36,x37,x38,x39,x40,x41,x42,x43,x44,x45,x46,x47,x48,x49,x50,x51,x52,x53,x54,x55,x56,x57,x58,x59,x60,x61,x62,x63,x64,x65,x66,x67,x68,x69,x70,x71,x72,x73,x74,x75,x76,x77,x78,x79,x80,x81,x82,x83,x84,x85,x86,x87,x88,x89,x90,x91,x92,x93,x94,x95,x96,x97,x98,x99,x100,x101,x102,x103,x104,x105,x106,x107,x108,hk,rfl,HI⟩
 by_cases hlt : k < np
 ·have hki : (k : Int) < np:=by omega
  obtain ⟨x,hx⟩ : ∃ x,p.xs[k]? = some x:=⟨p.xs[k]'(by rw [← HX.out.1];exact hlt),List.getElem?_eq_getElem _⟩
  have hbW : Below w.heap.size w W:=HWw.out.chain HI.out.1
  obtain ⟨a,rfl,hab,d1,hca,own1⟩:=HX.out.2.1.at_ hx
  obtain ⟨cs,hcs⟩ : ∃ cs,cs = prCs d1 x:=⟨_,rfl⟩
  rw [← hcs] at hca
  have h12 : cs.size = 12:=by rw [hcs];rfl
  have h1c : cs.all (·.oneCell') = true:=by rw [hcs];unfold prCs;rw [List.all_toArray];rfl
  obtain ⟨nq,hnq⟩ : ∃ n,n = x.rq.length:=⟨_,rfl⟩
  obtain ⟨ne,hne⟩ : ∃ n,n = x.es.length:=⟨_,rfl⟩
  obtain ⟨nb,hnb⟩ : ∃ n,n = x.bd.length:=⟨_,rfl⟩
  have k8 : cs[8]? = some (.slice d1.r nq d1.nr):=by rw [hcs,hnq];rfl
  have k9 : cs[9]? = some (.slice d1.e ne d1.ne):=by rw [hcs,hne];rfl
  have k11 : cs[11]? = some (.slice d1.b nb d1.nb):=by rw [hcs,hnb];rfl
  have hl1 : (loadCellsFrom (a.add (k * 12)) 0 N2 #[]).run Tryz.prog W = .ok cs W:=load_list (fun j v hv => (hbW.cell (by rw [block_adds,block_adds];exact hab)).trans (hca j v hv)) (h12.trans HN.out.2.2.1.symm)
  have hszc : cs.size = N2:=h12.trans HN.out.2.2.1.symm
  have hst:=store_fresh (w:=W) (t:=T2) (zc:=zc2) (cs:=cs) (HN.out.2.2.2.1.trans hszc.symm) h1c
  obtain ⟨W6,hW6⟩ : ∃ W6,W6 = W.alloc (.cells cs T2):=⟨_,rfl⟩
  have hb6 : Below W.heap.size W W6:=by rw [hW6];exact below_alloc W _
  have hp6 : W6.heap[W.heap.size]? = some (.cells cs T2 (0,0)):=by rw [hW6];exact heap_of_alloc W _
  have c8':=cell_of_block (heap_of_alloc W (.cells cs T2)) 8 k8
  have cF':=cell_of_block (kept_box (below_alloc W (.cells cs T2)) (kept_box HI.out.1 HF0.out)) 0 (v:=.func (.func 17) #[] #[]) rfl
  have hxm:=List.mem_of_getElem? hx
  have hg:=HG.out.xs x hxm
  have HQ : Hid (∀ U,Below W6.heap.size W6 U → Calls Tryz.prog 19 #[.slice d1.r nq d1.nr,.func (.func 17) #[] #[]] U fun e w' => e = .returned (.bool false) ∧ Below U.heap.size U w'):=Lib.hid (fun U hb => containsBad_any x.rq d1.r d1.nr nq hnq (by rw [hnq];exact own1.1.2.2.2.2.2.1) U ((own1.on ((hbW.chain hb6).chain hb)).2.2.2.1) hg.1)
  have HQ2 : Hid (∀ U,Below W6.heap.size W6 U → Calls Tryz.prog 19 #[.slice d1.e ne d1.ne,.func (.func 17) #[] #[]] U fun e w' => e = .returned (.bool false) ∧ Below U.heap.size U w'):=Lib.hid (fun U hb => containsBad_any x.es d1.e d1.ne ne hne (by rw [hne];exact own1.1.2.2.2.2.2.2.1) U ((own1.on ((hbW.chain hb6).chain hb)).2.2.2.2.1) hg.2.1)
  have HS : Hid (∀ U,Below W6.heap.size W6 U → Calls Tryz.prog 20 #[.slice d1.b nb d1.nb] U fun e w' => e = .returned (.bool true) ∧ Below U.heap.size U w'):=Lib.hid (fun U hb => by
   have h:=tstmts_any x.bd d1.b d1.nb U (HPt.out.on ((hbW.chain hb6).chain hb)) ((own1.on ((hbW.chain hb6).chain hb)).2.2.2.2.2.2) own1.1.2.2.2.2.2.2.2.2
   rw [hg.2.2.1] at h
   rw [hnb]
   exact h)
  have HWk : Hid (∀ U,Below W6.heap.size W6 U → Calls Tryz.prog 8 #[.slice d1.b nb d1.nb] U (Walked w.heap.size x.bd (F x) U)):=Lib.hid (fun U hb => by
   rw [hnb]
   exact walk_any (HX.out.2.2.2 x hxm) (HX.out.2.2.1 x) w.heap.size d1.b d1.nb U ((hbW.chain hb6).chain hb).size (own1.2.2.2.2.2.2.keep (fun q hq => ((hbW.chain hb6).chain hb).cell hq) (Nat.le_refl _)))
  have HO:=Lib.hid (And.intro hxm (And.intro (HX.out.2.2.2 x hxm) (And.intro (HR.out x hxm) (And.intro (show nb ≤ maxLen by rw [hnb];exact own1.1.2.2.2.2.2.2.2.2) (And.intro hbW (And.intro hb6 (And.intro (hg.2.2.2 (F x) (HX.out.2.2.1 x)) (And.intro hnb hp6))))))))
  have HK:=Lib.hid (And.intro k9 k11)
  clear hca own1 hx hcs h12 h1c k8 k9 k11 hnq hne hnb hab hbW hb6 hxm hg hp6
  gi_wp2_with (first
   | (gi_at_call 19;rw [← hW6];(with_reducible refine (callsIn_wide.2 (HQ.out W6 (Below.refl _ _))).mono ?_);rintro e w7 ⟨rfl,hb⟩;have H7:=Lib.hid hb;have c9:=cell_of_block (kept_box hb HO.out.2.2.2.2.2.2.2.2) 9 HK.out.1;have cF7:=cell_of_block (kept_box hb (kept_box HO.out.2.2.2.2.2.1 (kept_box HI.out.1 HF0.out))) 0 (v:=.func (.func 17) #[] #[]) rfl;clear hb)
   | (gi_at_call 19;(with_reducible refine (callsIn_wide.2 (HQ2.out w7 H7.out)).mono ?_);rintro e w8 ⟨rfl,hb⟩;have H8:=Lib.hid (H7.out.chain hb);have c11:=cell_of_block (kept_box H8.out HO.out.2.2.2.2.2.2.2.2) 11 HK.out.2;clear hb)
   | (gi_at_call 20;(with_reducible refine (callsIn_wide.2 (HS.out w8 H8.out)).mono ?_);rintro e w9 ⟨rfl,hb⟩;have H9:=Lib.hid (H8.out.chain hb);have c11b:=cell_of_block (kept_box H9.out HO.out.2.2.2.2.2.2.2.2) 11 HK.out.2;clear hb)
   | (gi_at_call 8;(with_reducible refine (callsIn_wide.2 (HWk.out w9 H9.out)).mono ?_);rintro e W10 ⟨b,A2,c2,w0,ps,rfl,k1,k2,k3,k4,k5,k6,k7,k8⟩;have HK2:=Lib.hid (And.intro k1 (And.intro k2 (And.intro k3 (And.intro k4 (And.intro k5 (And.intro k6 (And.intro k7 k8)))))));clear k1 k2 k3 k4 k5 k6 k7 k8))
  have hlen : (ps.map (·.1)).length = (F x).length:=by have h:=congrArg List.length HK2.out.2.2.2.2.2.1;simpa using h
  have hb10 : Below W6.heap.size W6 W10:=H9.out.chain HK2.out.2.2.2.2.2.2.2
  have HB10:=Lib.hid (And.intro hb10 (And.intro ((HO.out.2.2.2.2.1.chain HO.out.2.2.2.2.2.1).chain hb10) (And.intro ((HI.out.1.chain HO.out.2.2.2.2.2.1).chain hb10) (Nat.le_trans HI.out.1.size (Nat.le_trans HO.out.2.2.2.2.2.1.size hb10.size)))))
  have hnbx : nb = x.bd.length:=HO.out.2.2.2.2.2.2.2.1
  have hnbm : x.bd.length ≤ maxLen:=by rw [← hnbx];exact HO.out.2.2.2.1
  clear hl1 hst hszc hb10 hnbx
  refine wpIn_rangeFunc_pv (F:=Fence.wide) rfl (by omega) (gf:=28) (lb:=#[.pointer (some ⟨b,0,none⟩)]) rfl trivial (enters_of Tryz.func28 (by kernel_rfl) rfl)
   (walk_seq Fence.wide (20 - 1) (by omega) rfl trivial trivial trivial trivial trivial rfl b x.bd.length c2 A2 (ps.map (·.1)) _ (Yielded (F x)) W10 HK2.out.1 HK2.out.2.2.1 HK2.out.2.2.2.2.1 (fun b hb => hb.2) hnbm (by rw [hlen];have := HO.out.2.2.1;omega)
     (fun m k cs W hk hQ => callsIn_wide.2 (walk_copy (ws_fl (HX.out.2.2.1 x) HO.out.2.1) HK2.out.2.2.2.1 HK2.out.2.2.2.2.2.1 HK2.out.2.2.2.2.2.2.1 k cs W hk hQ)))
   (Below.refl _ _) (fun _ => rfl) (PaSt W10) (fun _ _ _ _ => False) PaSt.abid (fun _ _ _ _ _ _ h => h.elim) ⟨fun _ h => h.elim,Below.refl _ _⟩ ?round (fun b hb => hb.2) (fun _ _ _ h _ => h) (fun _ _ _ h _ => h) ?done (fun _ _ _ _ _ h => h.elim)
  case round =>
   rintro Pv pre ⟨j,cs3⟩ V1 r' hlt3 hge hD hLp hrl hI ⟨hk3,hkl,st,hx3,hz24,hone,hv⟩
   dsimp only at hk3 hx3 hz24 hone hv
   subst hk3
   have hszc3 : cs3.size = N3:=hz24.trans HN.out.2.2.2.2.1.symm
   have hst3:=store_fresh (w:=V1) (t:=T3) (zc:=zc3) (cs:=cs3) (HN.out.2.2.2.2.2.trans hszc3.symm) hone
   have HR3:=Lib.hid (And.intro hI (And.intro hlt3 (And.intro hge (And.intro hD (And.intro hLp (And.intro hrl (And.intro hx3 (And.intro hv hz24))))))))
   clear hlt3 hge hD hLp hrl hkl hx3 hone hv hI hz24
   gi_wp2
   refine ⟨Part.alloc _ _,fun r2 => ?_⟩
   obtain ⟨Wb,hWb⟩ : ∃ Wb,Wb = (V1.alloc (.cells cs3 T3)).putObj (W10.heap.size + 1) (.loop r2):=⟨_,rfl⟩
   have HWB:=Lib.hid (pa_round HR3.out.1 HR3.out.2.1 HR3.out.2.2.2.2.1 HR3.out.2.2.2.2.2.1 HR3.out.2.2.2.2.2.2.2.1 hWb)
   rw [← hWb]
   clear hWb hst3
   have hbb : Below w.heap.size w Wb:=HB10.out.2.1.chain HWB.out.1.below
   have hgd:=HO.out.2.2.2.2.2.2.1 st (List.mem_of_getElem? HR3.out.2.2.2.2.2.2.1)
   have hEb:=kept_box (HB10.out.2.2.1.chain HWB.out.1.below) HE0.out
   have hFb:=kept_box (HB10.out.2.2.1.chain HWB.out.1.below) HF0.out
   have hbox:=HWB.out.2.1
   obtain ⟨d3,hcs3,own3,rb3,ro3⟩:=HWB.out.2.2
   have hl3:=load_new hbox hszc3
   obtain ⟨WE,hWE⟩ : ∃ WE,WE = Wb.alloc (.cells (flatC [cs3]).toArray 40):=⟨_,rfl⟩
   have hbE : Below Wb.heap.size Wb WE:=by rw [hWE];exact below_alloc Wb _
   have HS1 : Hid (Calls Tryz.prog 20 #[.slice (some ⟨Wb.heap.size,0,none⟩) 1 1] WE fun e w' => e = .returned (.bool true) ∧ Below WE.heap.size WE w'):=Lib.hid (by
    have hnew:=heap_of_alloc Wb (.cells (flatC [cs3]).toArray 40)
    rw [← hWE] at hnew
    have h:=tstmts_any [st] (some ⟨Wb.heap.size,0,none⟩) 1 WE (HPt.out.on (hbb.chain hbE)) (st_fresh HWB.out.2.2 hbE (Array.getElem?_eq_some_iff.1 hnew).1 (fun j v hv => cell_of_block hnew j (by unfold flatC;simpa using hv))) (by show 1 ≤ maxLen;unfold maxLen;omega)
    rw [hgd.one] at h
    exact h)
   have H24 : Hid (∀ c ∈ [cs3],c.size = 24):=Lib.hid (fun c hc => by rw [List.mem_singleton.1 hc];exact HR3.out.2.2.2.2.2.2.2.2)
   obtain ⟨k0,ln,co,nm,fd,fr,⟨ek,en,es,el⟩,⟨ck',⟨ak,an,sa,al⟩,⟨bk,bn,sb,bl⟩,cl'⟩,cls,iv,bd,ot⟩:=st
   obtain ⟨⟨z0,z1,z2,z3,z4,z5,z6,z7,z8,z9,z10,z11,z12,z13⟩,re,ra,rbb,rl,rc,ri⟩:=own3
   simp only [St.body,St.els] at rb3 ro3
   have hpt:=hgd.parts _ _ _ _ _ _ _ _ _ _ _ _ rfl
   have HS2 : Hid (∀ U,Below Wb.heap.size Wb U → Calls Tryz.prog 20 #[.slice d3.s bd.length d3.ns] U fun e w' => e = .returned (.bool true) ∧ Below U.heap.size U w'):=Lib.hid (fun U hb => by
    have h:=tstmts_any bd d3.s d3.ns U (HPt.out.on (hbb.chain hb)) (rb3.keep (fun q hq => hb.cell hq) hb.size) z12
    rw [hpt.b] at h
    exact h)
   have HS3 : Hid (∀ U,Below Wb.heap.size Wb U → Calls Tryz.prog 20 #[.slice d3.t ot.length d3.nt] U fun e w' => e = .returned (.bool true) ∧ Below U.heap.size U w'):=Lib.hid (fun U hb => by
    have h:=tstmts_any ot d3.t d3.nt U (HPt.out.on (hbb.chain hb)) (ro3.keep (fun q hq => hb.cell hq) hb.size) z13
    rw [hpt.o] at h
    exact h)
   have HIv : Hid (∀ U,Below Wb.heap.size Wb U → Calls Tryz.prog 19 #[.slice d3.i iv.length d3.ni,.func (.func 17) #[] #[]] U fun e w' => e = .returned (.bool false) ∧ Below U.heap.size U w'):=Lib.hid (fun U hb => containsBad_any iv d3.i d3.ni iv.length rfl z11 U (ri.on fm_keeps hb) hpt.iv)
   have HEx : Hid (Kx k0 → ∀ U,Below Wb.heap.size Wb U → Calls Tryz.prog 13 #[exprV ek en ⟨es.toArray⟩ (.slice d3.e el.length d3.ne),.pointer (some ⟨Ne,0,none⟩)] U fun e w' => e = .returned (.bool true) ∧ Below U.heap.size U w'):=Lib.hid (fun hk U hb => exprs_by Ne _ el (Nat.lt_succ_self _) ek en es d3.e d3.ne U (re.on hb) z3 z4 (hpt.e hk) (ExBox.on ⟨(Array.getElem?_eq_some_iff.1 hEb).1,cell_of_block hEb 0 rfl⟩ hb))
   have HCo : Hid (Kc k0 → ∀ U,Below Wb.heap.size Wb U → Calls Tryz.prog 21 #[condV2 ck' ak an ⟨sa.toArray⟩ (.slice d3.a al.length d3.na) bk bn ⟨sb.toArray⟩ (.slice d3.b bl.length d3.nb) (.slice d3.l cl'.length d3.nl)] U fun e w' => e = .returned (.bool true) ∧ Below U.heap.size U w'):=Lib.hid (fun hk U hb => by
    have h:=tcond_any ck' ak an sa al bk bn sb bl cl' d3.a d3.na d3.b d3.nb d3.l d3.nl U (ra.on hb) (rbb.on hb) (rl.keep (fun q hq => hb.cell hq) hb.size) z5 z6 z7 z8 z9
    rw [show vC varB nuP 30 (.mk ck' (.mk ak an sa al) (.mk bk bn sb bl) cl') = true from hpt.c hk] at h
    exact h)
   obtain ⟨N8,hN8⟩ : ∃ n,n = V1.heap.size:=⟨_,rfl⟩
   rw [← hN8] at hbox hl3 ⊢
   have HF8 : Hid (∀ U,Below Wb.heap.size Wb U → U.cell? ⟨N8,0,none⟩ = some (.int .i64 k0) ∧ U.cell? ⟨N8,6,none⟩ = some (.int .i64 ek) ∧ U.cell? ⟨N8,7,none⟩ = some (.int .i64 en) ∧ U.cell? ⟨N8,8,none⟩ = some (.string ⟨es.toArray⟩) ∧ U.cell? ⟨N8,9,none⟩ = some (.slice d3.e el.length d3.ne) ∧
    U.cell? ⟨N8,10,none⟩ = some (.int .i64 ck') ∧ U.cell? ⟨N8,11,none⟩ = some (.int .i64 ak) ∧ U.cell? ⟨N8,12,none⟩ = some (.int .i64 an) ∧ U.cell? ⟨N8,13,none⟩ = some (.string ⟨sa.toArray⟩) ∧ U.cell? ⟨N8,14,none⟩ = some (.slice d3.a al.length d3.na) ∧
    U.cell? ⟨N8,15,none⟩ = some (.int .i64 bk) ∧ U.cell? ⟨N8,16,none⟩ = some (.int .i64 bn) ∧ U.cell? ⟨N8,17,none⟩ = some (.string ⟨sb.toArray⟩) ∧ U.cell? ⟨N8,18,none⟩ = some (.slice d3.b bl.length d3.nb) ∧ U.cell? ⟨N8,19,none⟩ = some (.slice d3.l cl'.length d3.nl) ∧
    U.cell? ⟨N8,21,none⟩ = some (.slice d3.i iv.length d3.ni) ∧ U.cell? ⟨N8,22,none⟩ = some (.slice d3.s bd.length d3.ns) ∧ U.cell? ⟨N8,23,none⟩ = some (.slice d3.t ot.length d3.nt) ∧ U.cell? ⟨Ne,0,none⟩ = some (cloE Ne) ∧ U.cell? ⟨Ne + 1,0,none⟩ = some (.func (.func 17) #[] #[])):=Lib.hid (fun U hb => by
    have hb8:=kept_box hb hbox
    rw [hcs3] at hb8
    exact ⟨cell_of_block hb8 0 rfl,cell_of_block hb8 6 rfl,cell_of_block hb8 7 rfl,cell_of_block hb8 8 rfl,cell_of_block hb8 9 rfl,cell_of_block hb8 10 rfl,cell_of_block hb8 11 rfl,cell_of_block hb8 12 rfl,cell_of_block hb8 13 rfl,cell_of_block hb8 14 rfl,cell_of_block hb8 15 rfl,cell_of_block hb8 16 rfl,cell_of_block hb8 17 rfl,cell_of_block hb8 18 rfl,cell_of_block hb8 19 rfl,cell_of_block hb8 21 rfl,cell_of_block hb8 22 rfl,cell_of_block hb8 23 rfl,cell_of_block (kept_box hb hEb) 0 rfl,cell_of_block (kept_box hb hFb) 0 rfl⟩)
   have HbE:=Lib.hid hbE
   have hk6 : k0 = 1 ∨ k0 = 3 ∨ k0 = 8 ∨ k0 = 9 ∨ k0 = 10 ∨ (¬ k0 = 1 ∧ ¬ k0 = 3 ∧ ¬ k0 = 8 ∧ ¬ k0 = 9 ∧ ¬ k0 = 10):=by omega
   clear hbE hEb hFb hbox hcs3 rb3 ro3 hpt hgd hbb z0 z1 z2 z3 z4 z5 z6 z7 z8 z9 z10 z11 z12 z13 re ra rbb rl rc ri hN8 c8' cF'
   have q8' : (Fence.wide.inRound (W10.heap.size + 1)).fn 13:=trivial
   rcases hk6 with rfl | rfl | rfl | rfl | rfl | ⟨n1,n3,n8,n9,n10⟩
   all_goals
    gi_wp2_with (first
     | (refine wpListIn_rows 51 rfl rfl 1 _ rfl [cs3] rfl (by decide) (by decide) H24.out (by rfl) Wb.heap.size rfl ?_;rw [← hWE];clear hWE)
     | (gi_at_call 20;(with_reducible refine (CallsIn.inRound (W10.heap.size + 1) (callsIn_wide.2 (HS1.out))).mono ?_);rintro e u1 ⟨rfl,hb⟩;have HU1:=Lib.hid (HbE.out.chain hb);obtain ⟨_,_,_,_,_,_,_,_,_,_,_,_,_,_,_,_,i22,_,_,_⟩:=HF8.out u1 HU1.out;clear hb)
     | (gi_at_call 20;(with_reducible refine (CallsIn.inRound (W10.heap.size + 1) (callsIn_wide.2 (HS2.out u1 HU1.out))).mono ?_);rintro e u2 ⟨rfl,hb⟩;have HU2:=Lib.hid (HU1.out.chain hb);obtain ⟨_,_,_,_,_,_,_,_,_,_,_,_,_,_,_,_,_,i23,_,_⟩:=HF8.out u2 HU2.out;clear hb)
     | (gi_at_call 20;(with_reducible refine (CallsIn.inRound (W10.heap.size + 1) (callsIn_wide.2 (HS3.out u2 HU2.out))).mono ?_);rintro e u3 ⟨rfl,hb⟩;have HU3:=Lib.hid (HU2.out.chain hb);obtain ⟨_,_,_,_,_,_,_,_,_,_,_,_,_,_,_,i21,_,_,_,iF⟩:=HF8.out u3 HU3.out;clear hb)
     | (gi_at_call 19;(with_reducible refine (CallsIn.inRound (W10.heap.size + 1) (callsIn_wide.2 (HIv.out u3 HU3.out))).mono ?_);rintro e u4 ⟨rfl,hb⟩;have HU4:=Lib.hid (HU3.out.chain hb);obtain ⟨j0,j6,j7,j8,j9,j10,j11,j12,j13,j14,j15,j16,j17,j18,j19,_,_,_,jE,_⟩:=HF8.out u4 HU4.out;clear hb)
     | (gi_at_call 13;(with_reducible refine (CallsIn.inRound (W10.heap.size + 1) (callsIn_wide.2 (HEx.out kx1 u4 HU4.out))).mono ?_);rintro e u5 ⟨rfl,hb⟩;have HU5:=Lib.hid (HU4.out.chain hb);obtain ⟨l0,_⟩:=HF8.out u5 HU5.out;clear hb)
     | (gi_at_call 13;(with_reducible refine (CallsIn.inRound (W10.heap.size + 1) (callsIn_wide.2 (HEx.out kx3 u4 HU4.out))).mono ?_);rintro e u5 ⟨rfl,hb⟩;have HU5:=Lib.hid (HU4.out.chain hb);obtain ⟨l0,_⟩:=HF8.out u5 HU5.out;clear hb)
     | (gi_at_call 21;(with_reducible refine (CallsIn.inRound (W10.heap.size + 1) (callsIn_wide.2 (HCo.out kc8 u4 HU4.out))).mono ?_);rintro e u5 ⟨rfl,hb⟩;have HU5:=Lib.hid (HU4.out.chain hb);clear hb)
     | (gi_at_call 21;(with_reducible refine (CallsIn.inRound (W10.heap.size + 1) (callsIn_wide.2 (HCo.out kc9 u4 HU4.out))).mono ?_);rintro e u5 ⟨rfl,hb⟩;have HU5:=Lib.hid (HU4.out.chain hb);clear hb)
     | (gi_at_call 21;(with_reducible refine (CallsIn.inRound (W10.heap.size + 1) (callsIn_wide.2 (HCo.out kc10 u4 HU4.out))).mono ?_);rintro e u5 ⟨rfl,hb⟩;have HU5:=Lib.hid (HU4.out.chain hb);clear hb)
     | (with_reducible refine And.intro (no_fn _) ?_))
    first
     | exact ⟨fun b hb _ => HU5.out.block b hb,HU5.out.size,HWB.out.1.off,HWB.out.1.below.chain HU5.out⟩
     | exact ⟨fun b hb _ => HU4.out.block b hb,HU4.out.size,HWB.out.1.off,HWB.out.1.below.chain HU4.out⟩
  case done =>
   intro Pv xs V9 hS hI hD hLp hlt3 hdef
   have HX9:=Lib.hid (And.intro hI hdef)
   clear hS hI hD hLp hlt3 hdef
   gi_wp2
   obtain ⟨hI,hdef⟩:=HX9.out
   have hi:=HI.out
   have hb10:=HB10.out
   have hlt9:=(Array.getElem?_eq_some_iff.1 hdef).1
   have hWs : W.heap.size ≤ W10.heap.size:=Nat.le_trans HO.out.2.2.2.2.2.1.size hb10.1.size
   refine ⟨⟨k + 1,W10.heap.size :: ds,_,_,_,_,_,_,_,_,_,_,_,_,_,_,_,_,_,_,_,_,_,_,_,_,_,_,_,_,_,_,_,_,_,_,_,_,_,_,_,_,_,_,_,_,_,_,_,_,_,_,_,_,_,_,_,_,_,_,_,_,_,_,_,_,_,_,_,_,_,_,_,_,_,_,_,_,_,_,_,_,_,_,_,_,_,hlt,(by first | rfl | (simp;first | done | omega)),Lib.hid ⟨hb10.2.2.1.chain hI.below,List.nodup_cons.2 ⟨fun hmem => ?_,hi.2.1⟩,fun D hDD => ?_⟩⟩,?_⟩
   ·have := (hi.2.2 _ hmem).2.1
    omega
   ·rcases List.mem_cons.1 hDD with rfl | hDD
    ·exact ⟨hb10.2.2.2,hlt9,hdef⟩
    ·obtain ⟨q1,q2,q3⟩:=hi.2.2 D hDD
     have hk:=(((HO.out.2.2.2.2.2.1.chain hb10.1).chain hI.below).block D q2).trans q3
     exact ⟨q1,(Array.getElem?_eq_some_iff.1 hk).1,hk⟩
   ·simp [intOf];omega
 ·obtain rfl : k = np:=by omega
  have hWB0:=kept_box (HW0.out.1.chain HI.out.1) HP0.out
  have r3:=cell_of_block hWB0 3 kp3
  rw [← HB.out] at r3
  gi_wp2
  gi_loopg [112] nd (fun m j wr => ∃ i : Nat,m = nd - i ∧ i ≤ nd ∧ j = .int .i64 i ∧ Hid (Below W.heap.size W wr))
  case atStart => exact ⟨0,rfl,Nat.zero_le _,rfl,Lib.hid (Below.refl _ _)⟩
  case round =>
   obtain ⟨i,rfl,hi,rfl,HI2⟩:=hrel
   have hi0 : (0 : Int) ≤ i:=by omega
   by_cases hlt2 : i < nd
   ·have hki : (i : Int) < nd:=by omega
    obtain ⟨y,hy⟩ : ∃ y,p.ds[i]? = some y:=⟨p.ds[i]'(by rw [← HD.out.1];exact hlt2),List.getElem?_eq_getElem _⟩
    have hbr : Below w.heap.size w wr:=(HWw.out.chain HI.out.1).chain HI2.out
    obtain ⟨a,rfl,hab,hp⟩:=(HD.out.2.on df_keeps hbr).at_ hy
    obtain ⟨A',c',A2,c2,d0,d1,d2,b0,b1,b2,rp,rf⟩:=hp
    have c0 : wr.cell? (a.add (i * 3)) = some (.string ⟨y.nm.toArray⟩):=d0
    have c1 : wr.cell? ⟨(a.add (i * 3)).block,(a.add (i * 3)).off + 1,none⟩ = some (.slice A' y.ps.length c'):=d1
    have c2' : wr.cell? ⟨(a.add (i * 3)).block,(a.add (i * 3)).off + 2,none⟩ = some (.slice A2 y.cs.length c2):=d2
    obtain ⟨W6,hW6⟩ : ∃ W6,W6 = wr.alloc (.cells #[.string ⟨y.nm.toArray⟩,.slice A' y.ps.length c',.slice A2 y.cs.length c2] 69):=⟨_,rfl⟩
    have hb6 : Below wr.heap.size wr W6:=by rw [hW6];exact below_alloc wr _
    have cF':=cell_of_block (kept_box (below_alloc wr (.cells #[.string ⟨y.nm.toArray⟩,.slice A' y.ps.length c',.slice A2 y.cs.length c2] 69)) (kept_box (HI.out.1.chain HI2.out) HF0.out)) 0 (v:=.func (.func 17) #[] #[]) rfl
    have HQ:=Lib.hid (containsBad_any y.cs A2 c2 y.cs.length rfl b2 W6 (rf.on fm_keeps hb6) (HG.out.ds y (List.mem_of_getElem? hy)))
    have H6:=Lib.hid (HI2.out.chain hb6)
    clear hbr hy d0 d1 d2 b0 b1 b2 rp rf hb6
    gi_wp2_with (gi_at_call 19;rw [← hW6];(with_reducible refine (callsIn_wide.2 HQ.out).mono ?_);rintro e w7 ⟨rfl,hb⟩;have H7:=Lib.hid (H6.out.chain hb);clear hb)
    gi_roundg (nd - (i + 1))
    case measure => omega
    case rel => exact ⟨i + 1,rfl,by omega,by go_num,H7⟩
   ·have hki : ¬ (i : Int) < nd:=by omega
    have r2:=cell_of_block (kept_box HI2.out hWB0) 2 kp2
    rw [← HB.out] at r2
    gi_wp2
    obtain ⟨Wq,hWq⟩ : ∃ Wq,Wq = wr:=⟨_,rfl⟩
    subst hWq
    have HbQ : Hid (Below W0.heap.size W0 Wq):=Lib.hid (HI.out.1.chain HI2.out)
    have HbW : Hid (Below W.heap.size W Wq):=HI2
    clear HI2 hWB0 hlt2 hki
    gi_loopg [124] nk (fun m j wr => ∃ i : Nat,m = nk - i ∧ i ≤ nk ∧ j = .int .i64 i ∧ Hid (Below Wq.heap.size Wq wr))
    case atStart => exact ⟨0,rfl,Nat.zero_le _,rfl,Lib.hid (Below.refl _ _)⟩
    case round =>
     obtain ⟨i3,rfl,hi3,rfl,HI3⟩:=hrel
     have hi30 : (0 : Int) ≤ i3:=by omega
     by_cases hlt3 : i3 < nk
     ·have hki3 : (i3 : Int) < nk:=by omega
      obtain ⟨y,hy⟩ : ∃ y,p.ks[i3]? = some y:=⟨p.ks[i3]'(by rw [← HK.out.1];exact hlt3),List.getElem?_eq_getElem _⟩
      have hbr : Below w.heap.size w wr:=(HWw.out.chain HbQ.out).chain HI3.out
      obtain ⟨a,rfl,hab,hp⟩:=(HK.out.2.on lk_keeps hbr).at_ hy
      obtain ⟨A',c',d0,d1,b0,b1,rf⟩:=hp
      have c0 : wr.cell? (a.add (i3 * 2)) = some (.string ⟨y.nm.toArray⟩):=d0
      have c1 : wr.cell? ⟨(a.add (i3 * 2)).block,(a.add (i3 * 2)).off + 1,none⟩ = some (.slice A' y.iv.length c'):=d1
      obtain ⟨W6,hW6⟩ : ∃ W6,W6 = wr.alloc (.cells #[.string ⟨y.nm.toArray⟩,.slice A' y.iv.length c'] 71):=⟨_,rfl⟩
      have hb6 : Below wr.heap.size wr W6:=by rw [hW6];exact below_alloc wr _
      have cF':=cell_of_block (kept_box (below_alloc wr (.cells #[.string ⟨y.nm.toArray⟩,.slice A' y.iv.length c'] 71)) (kept_box (HbQ.out.chain HI3.out) HF0.out)) 0 (v:=.func (.func 17) #[] #[]) rfl
      have HQ:=Lib.hid (containsBad_any y.iv A' c' y.iv.length rfl b1 W6 (rf.on fm_keeps hb6) (HG.out.ks y (List.mem_of_getElem? hy)))
      have H6:=Lib.hid (HI3.out.chain hb6)
      clear hbr hy d0 d1 b0 b1 rf hb6
      gi_wp2_with (gi_at_call 19;rw [← hW6];(with_reducible refine (callsIn_wide.2 HQ.out).mono ?_);rintro e w7 ⟨rfl,hb⟩;have H7:=Lib.hid (H6.out.chain hb);clear hb)
      gi_roundg (nk - (i3 + 1))
      case measure => omega
      case rel => exact ⟨i3 + 1,rfl,by omega,by go_num,H7⟩
     ·have hki3 : ¬ (i3 : Int) < nk:=by omega
      have HbL:=Lib.hid (HbQ.out.chain HI3.out)
      have hy1:=kept_box (HW0.out.1.chain HbL.out) HP1.out
      have pcL:=cell_of_block hy1 0 (v:=.bool false) rfl
      have pfL:=frozen_at hy1 0
      rw [← HB.out] at pcL pfL hy1
      have HY1:=Lib.hid hy1
      clear hy1
      gi_wp2
      have hz0 : B + 2 ≤ W0.heap.size:=by have h1:=HZ1.out;have h2:=HW0.out.1.size;have h3:=HB.out;omega
      have hbl:=HbL.out
      refine leaves_marks (fun W => W.heap[B + 1]? = some (.cells #[.bool true] 4 (0,0)) ∧ Below w.heap.size w W) W0.heap.size (fun W D hD hK => ?_) (fun W hK => ?_) ds _ HI.out.2.1 ?_ ?_
      ·have h3:=HB.out
       have h4:=HWw.out.size
       exact ⟨(World.putObj_heap_other (by omega)).trans hK.1,hK.2.os,hK.2.tape,hK.2.output,by simpa using hK.2.size,fun b hb => (World.putObj_heap_other (by omega)).trans (hK.2.block b hb)⟩
      ·exact ⟨_,results_bool rfl _ _ ⟨B + 1,0,none⟩ true rfl (cell_of_block hK.1 0 rfl),rfl,hK.2⟩
      ·intro D hD
       obtain ⟨q1,q2,q3⟩:=HI.out.2.2 D hD
       have h5:=((HbW.out.chain HI3.out).block D q2).trans q3
       exact ⟨q1,(Below.heap_setCell wr ⟨B + 1,0,none⟩ _ D (by show D ≠ B + 1;omega)).trans h5⟩
      ·have h3:=HB.out
       exact ⟨heap_setCell_at HY1.out 0 (.bool true),(HWw.out.chain hbl).setCell (p:=⟨B + 1,0,none⟩) (by show w.heap.size ≤ B + 1;omega) _⟩
end Go.Proofs.YtnkpgpmaiicdeaaGreatDoor
