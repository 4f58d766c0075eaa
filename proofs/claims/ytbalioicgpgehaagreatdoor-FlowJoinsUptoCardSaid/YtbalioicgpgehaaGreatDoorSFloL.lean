import Derived.Test.YtbalioicgpgehaaGreatDoorSFloN
set_option linter.unusedVariables false
set_option linter.unusedSimpArgs false
namespace Go.Proofs.YtbalioicgpgehaaGreatDoor
set_option maxRecDepth 100000
set_option maxHeartbeats 8000000
open Go.RowKit Go.Lib
structure CtSt (cnt : Nat → Nat) (N : Nat) (W0 : World) (Pv : Nat → Prop) (pre : List (Nat × Array Value)) (W : World) : Prop where
 row : W.heap[N]? = some (.cells #[.int .i64 (cnt pre.length)] 3 (0,0))
 off : ∀ b,Pv b → W0.heap.size ≤ b
 size : W0.heap.size ≤ W.heap.size
 keep : ∀ b,b < W0.heap.size → b ≠ N → W.heap[b]? = W0.heap[b]?
 os : W.os = W0.os
 tape : W.tape = W0.tape
 output : W.output = W0.output
theorem CtSt.abid {cnt : Nat → Nat} {N : Nat} {W0 : World} (hN : N < W0.heap.size) : Abid (CtSt cnt N W0):=by
 intro Pv Pv' s W W' h hp hn hl
 have hno : ∀ b,b < W0.heap.size → ¬ Pv b:=fun b hb hp => by have := h.off b hp;omega
 refine ⟨(hp.block N (Nat.lt_of_lt_of_le hN h.size) (hno N hN)).trans h.row,fun b hb => ?_,Nat.le_trans h.size hp.size,fun b hb hne => (hp.block b (Nat.lt_of_lt_of_le hb h.size) (hno b hb)).trans (h.keep b hb hne),hp.os.trans h.os,hp.tape.trans h.tape,hp.output.trans h.output⟩
 rcases hn b hb with hb | hb
 ·exact h.off b hb
 ·exact Nat.le_trans h.size hb
theorem ct_round {cnt : Nat → Nat} {N : Nat} {W8 W1 Wb : World} {Pv : Nat → Prop} {pre : List (Nat × Array Value)} {cs : Array Value} {T : TypeId} {x : St} {r r2 : Loop} (hN : N < W8.heap.size) (hI : CtSt cnt N W8 Pv pre W1) (hlt : ∀ b,Pv b → b < W1.heap.size) (hL : Pv (W8.heap.size + 1)) (hrl : W1.heap[W8.heap.size + 1]? = some (.loop r))
 (hv : VSt W1 W1.heap.size cs x) (hWb : Wb = (W1.alloc (.cells cs T)).putObj (W8.heap.size + 1) (.loop r2)) :
 CtSt cnt N W8 Pv pre Wb ∧ Wb.heap[W1.heap.size]? = some (.cells cs T (0,0)) ∧ VSt Wb Wb.heap.size cs x:=by
 have hne : W1.heap.size ≠ W8.heap.size + 1:=fun e => by have := hlt _ hL;omega
 have hpb : Part Pv W1 Wb:=by rw [hWb];exact (Part.alloc _ _).trans (Part.putObj _ _ hL)
 refine ⟨CtSt.abid hN Pv Pv pre W1 Wb hI hpb (fun b hb => Or.inl hb) (fun b hb => Nat.lt_of_lt_of_le (hlt b hb) hpb.size),by rw [hWb];exact (World.putObj_heap_other hne).trans (heap_of_alloc W1 _),?_⟩
 refine vst_subs W1 Wb _ cs x (fun q v hq => ?_) hv
 by_cases hb : q.block = W8.heap.size + 1
 ·unfold World.cell? at hq
  rw [hb,hrl] at hq
  simp at hq
 ·rw [hWb,← hq]
  exact World.cell?_of_block ((World.putObj_heap_other hb).trans (Below.heap_alloc W1 _ q.block (lt_of_cell hq)))
def lpsN (l : List St) : Nat:=(l.filter fun x => kOf x == 9).length
theorem lpsN_take {f : List St} {k : Nat} {x : St} (h : f[k]? = some x) : lpsN (f.take (k + 1)) = lpsN (f.take k) + (if kOf x = 9 then 1 else 0):=by
 unfold lpsN
 rw [List.take_add_one,h]
 by_cases hx : kOf x = 9
 ·simp [hx]
 ·simp [hx]
theorem lpsN_le (l : List St) : lpsN l ≤ l.length:=List.length_filter_le ..
attribute [local go_sem] Oper.semAt_some
theorem Loops_any {l f : List St} (hw : WS l) (hf : FlL l f) (hfl : f.length ≤ 1000000) (A : Option Addr) (c : Nat) (w : World) (hP : PartsAt w) (hr : StRow w w.heap.size l A) (hl : l.length ≤ maxLen) (hv : vSs varB 1125899906842624 100 30 l = true) :
 Calls Tryz.prog 21 #[.slice A l.length c] w fun e w' => e = .returned (.int .i64 (lpsN f)) ∧ Below w.heap.size w w':=by
 obtain ⟨T3,N3,zc3,hT3,hN3,hzc3,hag3,hsz3,hzv3⟩:=stmt_hidden2
 have g1 : ∀ y : Operand,Op.load 36 y = Op.load T3 y:=fun y => by rw [hT3]
 have g2 : ∀ y z : Operand,Op.store 36 y z = Op.store T3 y z:=fun y z => by rw [hT3]
 have g3 : Op.alloc 36 = Op.alloc T3:=by rw [hT3]
 obtain ⟨n,hnn⟩ : ∃ n,n = l.length:=⟨_,rfl⟩
 have HS : Hid (Calls Tryz.prog 30 #[.slice A n c] w fun e w' => e = .returned (.bool true) ∧ Below w.heap.size w w'):=Lib.hid (by
  have h:=tstmts_any l A c w hP hr hl
  rw [hv] at h
  rw [hnn]
  exact h)
 have HWk : Hid (∀ U,Below w.heap.size w U → Calls Tryz.prog 12 #[.slice A n c] U (Walked w.heap.size l f U)):=Lib.hid (fun U hb => by
  rw [hnn]
  exact walk_any hw hf w.heap.size A c U hb.size (hr.keep (fun q hq => hb.cell hq) (Nat.le_refl _)))
 have HH:=Lib.hid (And.intro hw (And.intro hf (And.intro hfl (And.intro hnn hl))))
 have HN:=Lib.hid (And.intro hN3 hzc3)
 rw [← hnn]
 clear hw hf hfl hP hr hv hnn hl hN3 hzc3
 have q1 : Fence.wide.fn 30:=trivial
 have q2 : Fence.wide.fn 12:=trivial
 refine (callsIn_wide (n:=20)).1 ?_
 refine callsIn_of_wp_marks Tryz.func21 rfl trivial ?_ rfl
 simp only [Tryz.ntmps21,List.size_toArray,List.length_cons,List.length_nil,Nat.reduceAdd,Nat.reduceSub,Array.replicate_succ,Array.replicate_zero,List.push_toArray,List.append_toArray,List.nil_append,List.cons_append,g1,g2,g3]
 clear g1 g2 g3 hT3
 gi_wp2_with (first
  | (gi_at_call 30;refine (callsIn_wide.2 HS.out).mono ?_;rintro e w2 ⟨rfl,hb⟩;have H2:=Lib.hid hb;clear hb)
  | (gi_at_call 12
     obtain ⟨U,hU⟩ : ∃ U,U = w2.alloc (.cells #[.int .i64 0] 3):=⟨_,rfl⟩
     rw [← hU]
     have hbU : Below w.heap.size w U:=by rw [hU];exact H2.out.chain (below_alloc w2 _)
     refine (callsIn_wide.2 (HWk.out U hbU)).mono ?_
     rintro e W10 ⟨b,A2,c2,w0,ps,rfl,k1,k2,k3,k4,k5,k6,k7,k8⟩
     have HK2:=Lib.hid (And.intro k1 (And.intro k2 (And.intro k3 (And.intro k4 (And.intro k5 (And.intro k6 (And.intro k7 k8)))))))
     have HU:=Lib.hid (And.intro hU hbU)
     clear k1 k2 k3 k4 k5 k6 k7 k8 hU hbU))
 obtain ⟨M,hM⟩ : ∃ M,M = w2.heap.size:=⟨_,rfl⟩
 rw [← hM]
 have HM : Hid (W10.heap[M]? = some (.cells #[.int .i64 0] 3 (0,0)) ∧ w.heap.size ≤ M ∧ M + 1 ≤ W10.heap.size ∧ U.heap.size = M + 1):=Lib.hid (by
  have hz : U.heap.size = M + 1:=by rw [HU.out.1,hM];simp only [size_of_alloc]
  have hb8:=HK2.out.2.2.2.2.2.2.2
  refine ⟨?_,by have := H2.out.size;omega,by have := hb8.size;omega,hz⟩
  refine kept_box hb8 ?_
  have h:=heap_of_alloc w2 (.cells #[.int .i64 0] 3)
  rw [← HU.out.1,← hM] at h
  exact h)
 clear hM
 have hlen : (ps.map (·.1)).length = f.length:=by have h:=congrArg List.length HK2.out.2.2.2.2.2.1;simpa using h
 have hM2:=HM.out.2.2.1
 have hM1:=HM.out.2.1
 have HI0 : Hid (CtSt (fun k => lpsN (f.take k)) M W10 (fun _ => False) [] W10):=Lib.hid ⟨HM.out.1,fun _ h => h.elim,Nat.le_refl _,fun _ _ _ => rfl,rfl,rfl,rfl⟩
 refine wpIn_rangeFunc_pv (F:=Fence.wide) rfl (by omega) (gf:=33) (lb:=#[.pointer (some ⟨b,0,none⟩)]) rfl trivial (enters_of Tryz.func33 (by kernel_rfl) rfl)
  (walk_seq Fence.wide (20 - 1) (by omega) rfl trivial trivial trivial trivial trivial rfl b l.length c2 A2 (ps.map (·.1)) _ (Yielded f) W10 HK2.out.1 HK2.out.2.2.1 HK2.out.2.2.2.2.1 (fun b hb => hb.2) HH.out.2.2.2.2 (by rw [hlen];have := HH.out.2.2.1;omega)
    (fun m k cs W hk hQ => callsIn_wide.2 (walk_copy (ws_fl HH.out.2.1 HH.out.1) HK2.out.2.2.2.1 HK2.out.2.2.2.2.2.1 HK2.out.2.2.2.2.2.2.1 k cs W hk hQ)))
  (Below.refl _ _) (fun _ => rfl) (CtSt (fun k => lpsN (f.take k)) M W10) (fun _ _ _ _ => False) (CtSt.abid (by omega)) (fun _ _ _ _ _ _ h => h.elim) HI0.out ?round (fun b hb => hb.2) (fun _ _ _ h _ => h) (fun _ _ _ h _ => h) ?done (fun _ _ _ _ _ h => h.elim)
 case round =>
  rintro Pv pre ⟨j,cs3⟩ V1 r' hlt3 hge hD hLp hrl hI ⟨hk3,hkl,st,hx3,hz24,hone,hv⟩
  dsimp only at hk3 hx3 hz24 hone hv
  subst hk3
  have hszc3 : cs3.size = N3:=hz24.trans HN.out.1.symm
  have hst3:=store_fresh (w:=V1) (t:=T3) (zc:=zc3) (cs:=cs3) (HN.out.2.trans hszc3.symm) hone
  have HR3:=Lib.hid (And.intro hI (And.intro hlt3 (And.intro hge (And.intro hLp (And.intro hrl (And.intro hx3 hv))))))
  clear hlt3 hge hD hLp hrl hkl hx3 hone hv hI hz24
  gi_wp2
  refine ⟨Part.alloc _ _,fun r2 => ?_⟩
  obtain ⟨Wb,hWb⟩ : ∃ Wb,Wb = (V1.alloc (.cells cs3 T3)).putObj (W10.heap.size + 1) (.loop r2):=⟨_,rfl⟩
  have HWB:=Lib.hid (ct_round (by omega) HR3.out.1 HR3.out.2.1 HR3.out.2.2.2.1 HR3.out.2.2.2.2.1 HR3.out.2.2.2.2.2.2 hWb)
  rw [← hWb]
  clear hWb hst3 hszc3
  obtain ⟨d3,hcs3,_⟩:=HWB.out.2.2
  have hc0 : cs3[0]? = some (.int .i64 (kOf st)):=by rw [hcs3];exact stCs_0F d3 st
  have cK:=cell_of_block HWB.out.2.1 0 hc0
  have hrow:=HWB.out.1.row
  have cN:=cell_of_block hrow 0 (v:=.int .i64 (lpsN (f.take pre.length))) rfl
  have fN:=frozen_at hrow 0
  have HX:=Lib.hid (And.intro HWB.out.1 (And.intro (lpsN_take HR3.out.2.2.2.2.2.1) HR3.out.2.2.1))
  have hle : lpsN (f.take pre.length) ≤ 1000000:=Nat.le_trans (lpsN_le _) (Nat.le_trans (by rw [List.length_take];exact Nat.min_le_right _ _) HH.out.2.2.1)
  obtain ⟨q,hq⟩ : ∃ q,q = lpsN (f.take pre.length):=⟨_,rfl⟩
  rw [← hq] at cN hle
  have HQ:=Lib.hid hq
  obtain ⟨k0,hk0⟩ : ∃ k,k = kOf st:=⟨_,rfl⟩
  rw [← hk0] at cK
  have HK0:=Lib.hid hk0
  have hneb : M ≠ V1.heap.size:=by have := HR3.out.1.size;omega
  have hMV : M < Wb.heap.size:=by have := HWB.out.1.size;omega
  have HMV:=Lib.hid hMV
  have hpq : ∀ b,(Pv b ∨ ((b < w.heap.size ∨ U.heap.size ≤ b) ∧ b < W10.heap.size)) → b ≠ M:=fun b hb => by
   have h1:=HM.out.2.2.2
   rcases hb with hb | hb
   ·have := HX.out.2.2 b hb
    omega
   ·omega
  have HPQ:=Lib.hid hpq
  clear hrow hcs3 hc0 hq hk0 hpq hMV
  by_cases h9 : k0 = 9
  ·subst h9
   gi_wp2
   have hI2:=HX.out.1
   refine ⟨fun b hb hk => Below.heap_setCell Wb ⟨M,0,none⟩ _ b (HPQ.out b hk),by simp [World.setCell],⟨?_,hI2.off,by have := hI2.size;simp only [World.setCell,Array.size_modify];omega,fun b hb hne => (Below.heap_setCell Wb ⟨M,0,none⟩ _ b hne).trans (hI2.keep b hb hne),hI2.os,hI2.tape,hI2.output⟩⟩
   have h:=heap_setCell_at hI2.row 0 (.int .i64 ((q : Int) + 1))
   rw [List.length_append,List.length_singleton,HX.out.2.1,if_pos HK0.out.symm,← HQ.out]
   exact h
  ·have b9 : (k0 == 9) = false:=by simpa using h9
   gi_wp2
   have hI2:=HX.out.1
   refine ⟨fun b hb hk => rfl,Nat.le_refl _,⟨?_,hI2.off,hI2.size,hI2.keep,hI2.os,hI2.tape,hI2.output⟩⟩
   have h:=hI2.row
   rw [List.length_append,List.length_singleton,HX.out.2.1,if_neg (by rw [← HK0.out];exact h9)]
   exact h
 case done =>
  intro Pv xs V9 hS hI hD hLp hlt3 hdef
  have hxl : xs.length = f.length:=(show xs.length = (ps.map (·.1)).length from hS).trans hlen
  have hrow:=hI.row
  rw [hxl,List.take_length] at hrow
  have cN:=cell_of_block hrow 0 (v:=.int .i64 (lpsN f)) rfl
  have HX:=Lib.hid (And.intro hI hdef)
  clear hS hI hD hLp hlt3 hdef hxl hrow
  gi_wp2
  have hI9:=HX.out.1
  have hsz9:=hI9.size
  refine ⟨by simp,.inl ⟨_,_,rfl,run_takeDeferred HX.out.2,?_⟩⟩
  refine ⟨_,results_tmp rfl _ _ _,rfl,?_⟩
  have hbU:=HU.out.2
  have hb8:=HK2.out.2.2.2.2.2.2.2
  refine ⟨hI9.os.trans (hb8.os.trans hbU.os),hI9.tape.trans (hb8.tape.trans hbU.tape),hI9.output.trans (hb8.output.trans hbU.output),?_,fun k hk => ?_⟩
  ·rw [World.putObj_size]
   omega
  ·exact (World.putObj_heap_other (by omega)).trans ((hI9.keep k (by omega) (by omega)).trans ((hb8.block k (by have := hbU.size;omega)).trans (hbU.block k hk)))
end Go.Proofs.YtbalioicgpgehaaGreatDoor
