import Derived.Test.YtbalioicgpgehaaGreatDoorSFloV
import Derived.Test.YtbalioicgpgehaaGreatDoorSTreeCj
import Derived.Test.YtbalioicgpgehaaGreatDoorSTreeSy
import Derived.Maps.OwnIn
set_option linter.unusedVariables false
set_option linter.unusedSimpArgs false
namespace Go.Proofs.YtbalioicgpgehaaGreatDoor
set_option maxRecDepth 100000
set_option maxHeartbeats 8000000
open Go.RowKit Go.Lib
open Go.Maps (Keyed)
open Go.Sort
def TellsAt (fid : Nat) (G : St → List (List UInt8)) (x : St) : Prop :=
 ∀ (W : World) (cs : Array Value),VSt W W.heap.size cs x → Calls Tryz.prog fid #[.agg cs] W (NmPost (G x) W)
theorem names_keep {W W' : World} {b n : Nat} {D : DataW Unit} (h : NamesAt W b n D) (hb : W'.heap[b]? = W.heap[b]?) : NamesAt W' b n D:=by
 obtain ⟨es,ck,h1,h2⟩:=h
 exact ⟨es,ck,hb.trans h1,h2⟩
structure NmSt (G : St → List (List UInt8)) (f : List St) (K M : Nat) (W0 : World) (Pv : Nat → Prop) (pre : List (Nat × Array Value)) (W : World) : Prop where
 map : ∃ ns : List (List UInt8),NamesAt W M (K * pre.length) (putN (.map []) ns) ∧ (∀ y,y ∈ ns ↔ ∃ x ∈ f.take pre.length,y ∈ G x) ∧ ns.length ≤ K * pre.length ∧ ∀ y ∈ ns,y.length ≤ maxLen
 off : ∀ b,Pv b → W0.heap.size ≤ b
 size : W0.heap.size ≤ W.heap.size
 keep : ∀ b,b < W0.heap.size → b ≠ M → W.heap[b]? = W0.heap[b]?
 os : W.os = W0.os
 tape : W.tape = W0.tape
 output : W.output = W0.output
theorem NmSt.abid {G : St → List (List UInt8)} {f : List St} {K M : Nat} {W0 : World} (hM : M < W0.heap.size) : Abid (NmSt G f K M W0):=by
 intro Pv Pv' s W W' h hp hn hl
 have hno : ∀ b,b < W0.heap.size → ¬ Pv b:=fun b hb hp => by have := h.off b hp;omega
 obtain ⟨ns,h1,h2,h3⟩:=h.map
 refine ⟨⟨ns,names_keep h1 (hp.block M (Nat.lt_of_lt_of_le hM h.size) (hno M hM)),h2,h3⟩,fun b hb => ?_,Nat.le_trans h.size hp.size,fun b hb hne => (hp.block b (Nat.lt_of_lt_of_le hb h.size) (hno b hb)).trans (h.keep b hb hne),hp.os.trans h.os,hp.tape.trans h.tape,hp.output.trans h.output⟩
 rcases hn b hb with hb | hb
 ·exact h.off b hb
 ·exact Nat.le_trans h.size hb
theorem nm_round {G : St → List (List UInt8)} {f : List St} {K M : Nat} {W8 W1 Wb : World} {Pv : Nat → Prop} {pre : List (Nat × Array Value)} {cs : Array Value} {T : TypeId} {x : St} {r r2 : Loop} (hM : M < W8.heap.size) (hI : NmSt G f K M W8 Pv pre W1) (hlt : ∀ b,Pv b → b < W1.heap.size) (hL : Pv (W8.heap.size + 1)) (hrl : W1.heap[W8.heap.size + 1]? = some (.loop r))
 (hv : VSt W1 W1.heap.size cs x) (hWb : Wb = (W1.alloc (.cells cs T)).putObj (W8.heap.size + 1) (.loop r2)) :
 NmSt G f K M W8 Pv pre Wb ∧ Wb.heap[W1.heap.size]? = some (.cells cs T (0,0)) ∧ VSt Wb Wb.heap.size cs x:=by
 have hne : W1.heap.size ≠ W8.heap.size + 1:=fun e => by have := hlt _ hL;omega
 have hpb : Part Pv W1 Wb:=by rw [hWb];exact (Part.alloc _ _).trans (Part.putObj _ _ hL)
 refine ⟨NmSt.abid hM Pv Pv pre W1 Wb hI hpb (fun b hb => Or.inl hb) (fun b hb => Nat.lt_of_lt_of_le (hlt b hb) hpb.size),by rw [hWb];exact (World.putObj_heap_other hne).trans (heap_of_alloc W1 _),?_⟩
 refine vst_subs W1 Wb _ cs x (fun q v hq => ?_) hv
 by_cases hb : q.block = W8.heap.size + 1
 ·unfold World.cell? at hq
  rw [hb,hrl] at hq
  simp at hq
 ·rw [hWb,← hq]
  exact World.cell?_of_block ((World.putObj_heap_other hb).trans (Below.heap_alloc W1 _ q.block (lt_of_cell hq)))
attribute [local go_sem] Oper.semAt_some
def NmsPost (ns : List (List UInt8)) (w : World) (e : Ending) (w' : World) : Prop :=
 ∃ (A : Option Addr) (c : Nat) (m : List (List UInt8)),e = .returned (.slice A m.length c) ∧ w'.ownsRow w.heap.size 9 1 (.slice A m.length c) m.length (m.map encF) ∧ Asc m ∧ (∀ y,y ∈ m ↔ y ∈ ns) ∧ (∀ y ∈ m,y.length ≤ maxLen) ∧ Below w.heap.size w w'
theorem take_flat {G : St → List (List UInt8)} {f : List St} {k : Nat} {x : St} (h : f[k]? = some x) (y : List UInt8) : (∃ z ∈ f.take (k + 1),y ∈ G z) ↔ (∃ z ∈ f.take k,y ∈ G z) ∨ y ∈ G x:=by
 rw [List.take_add_one,h]
 constructor
 ·rintro ⟨z,hz,hy⟩
  rcases List.mem_append.1 hz with hz | hz
  ·exact .inl ⟨z,hz,hy⟩
  ·obtain rfl : z = x:=by simpa using hz
   exact .inr hy
 ·rintro (⟨z,hz,hy⟩ | hy)
  ·exact ⟨z,List.mem_append_left _ hz,hy⟩
  ·exact ⟨x,List.mem_append_right _ (by simp),hy⟩
theorem namesF_any (G : St → List (List UInt8)) (fid : Nat) (hent : ∀ args w,(callFunc fid args).run Tryz.prog w = .ok (.enter fid args) w) {l f : List St} (hw : WS l) (hf : FlL l f) (hfl : f.length ≤ 100) (K : Nat) (hK : K ≤ 80000000000) (hGK : ∀ x ∈ f,(G x).length ≤ K) (hT : ∀ x ∈ f,TellsAt fid G x)
 (A : Option Addr) (c : Nat) (w : World) (hP : PartsAt w) (hr : StRow w w.heap.size l A) (hl : l.length ≤ maxLen) (hv : vSs varB 1125899906842624 100 30 l = true) :
 Calls Tryz.prog 44 #[.slice A l.length c,.func (.func fid) #[] #[]] w (NmsPost (f.flatMap G) w):=by
 obtain ⟨T3,N3,zc3,hT3,hN3,hzc3,hag3,hsz3,hzv3⟩:=stmt_hidden2
 have g1 : ∀ y : Operand,Op.load 36 y = Op.load T3 y:=fun y => by rw [hT3]
 have g2 : ∀ y z : Operand,Op.store 36 y z = Op.store T3 y z:=fun y z => by rw [hT3]
 have g3 : Op.alloc 36 = Op.alloc T3:=by rw [hT3]
 obtain ⟨n,hnn⟩ : ∃ n,n = l.length:=⟨_,rfl⟩
 obtain ⟨W1,hW1⟩ : ∃ W1,W1 = w.alloc (.cells #[.func (.func fid) #[] #[]] 75):=⟨_,rfl⟩
 have hb1 : Below w.heap.size w W1:=by rw [hW1];exact below_alloc w _
 have hp1 : W1.heap[w.heap.size]? = some (.cells #[.func (.func fid) #[] #[]] 75 (0,0)):=by rw [hW1];exact heap_of_alloc w _
 have HS : Hid (Calls Tryz.prog 30 #[.slice A n c] W1 fun e w' => e = .returned (.bool true) ∧ Below W1.heap.size W1 w'):=Lib.hid (by
  have h:=tstmts_any l A c W1 (hP.on hb1) (hr.on hb1) hl
  rw [hv] at h
  rw [hnn]
  exact h)
 have HWk : Hid (∀ U,Below w.heap.size w U → Calls Tryz.prog 12 #[.slice A n c] U (Walked w.heap.size l f U)):=Lib.hid (fun U hb => by
  rw [hnn]
  exact walk_any hw hf w.heap.size A c U hb.size (hr.keep (fun q hq => hb.cell hq) (Nat.le_refl _)))
 have HH:=Lib.hid (And.intro hw (And.intro hf (And.intro hfl (And.intro hGK (And.intro hT (And.intro hnn hl))))))
 have HB1:=Lib.hid (And.intro hb1 hp1)
 have HN:=Lib.hid (And.intro hN3 hzc3)
 have HKK:=Lib.hid hK
 have HENT:=Lib.hid hent
 have HZ1 : Hid (W1.heap.size = w.heap.size + 1):=Lib.hid (by rw [hW1];simp only [size_of_alloc])
 rw [← hnn]
 clear hw hf hfl hGK hT hP hr hv hnn hl hb1 hp1 hN3 hzc3 hK hent
 have hmm:=@run_makeMap Tryz.prog
 have q1 : Fence.wide.fn 30:=trivial
 have q2 : Fence.wide.fn 12:=trivial
 have hfK : Fence.wide.fn 71:=trivial
 have hfS : Fence.wide.fn 70:=trivial
 refine (callsIn_wide (n:=20)).1 ?_
 refine callsIn_of_wp_marks Tryz.func44 rfl trivial ?_ rfl
 simp only [Tryz.ntmps44,List.size_toArray,List.length_cons,List.length_nil,Nat.reduceAdd,Nat.reduceSub,Array.replicate_succ,Array.replicate_zero,List.push_toArray,List.append_toArray,List.nil_append,List.cons_append,g1,g2,g3]
 clear g1 g2 g3 hT3
 gi_wp2_with (first
  | (gi_at_call 30;rw [← hW1];refine (callsIn_wide.2 HS.out).mono ?_;rintro e w2 ⟨rfl,hb⟩;have H2:=Lib.hid hb;clear hb)
  | (gi_at_call 12
     obtain ⟨U,hU⟩ : ∃ U,U = (w2.alloc (.map #[] 0)).alloc (.cells #[.map (some w2.heap.size)] 102):=⟨_,rfl⟩
     rw [← hU]
     have hbU : Below w.heap.size w U:=by rw [hU];exact ((HB1.out.1.chain H2.out).chain (below_alloc w2 _)).chain (below_alloc _ _)
     refine (callsIn_wide.2 (HWk.out U hbU)).mono ?_
     rintro e W10 ⟨b,A2,c2,w0,ps,rfl,k1,k2,k3,k4,k5,k6,k7,k8⟩
     have HK2:=Lib.hid (And.intro k1 (And.intro k2 (And.intro k3 (And.intro k4 (And.intro k5 (And.intro k6 (And.intro k7 k8)))))))
     have HU:=Lib.hid (And.intro hU hbU)
     clear k1 k2 k3 k4 k5 k6 k7 k8 hU hbU))
 obtain ⟨M,hM⟩ : ∃ M,M = w2.heap.size:=⟨_,rfl⟩
 rw [← hM]
 have HM : Hid (NamesAt W10 M 0 (.map []) ∧ W10.heap[M + 1]? = some (.cells #[.map (some M)] 102 (0,0)) ∧ W10.heap[w.heap.size]? = some (.cells #[.func (.func fid) #[] #[]] 75 (0,0)) ∧ w.heap.size < M ∧ M + 2 ≤ W10.heap.size ∧ U.heap.size = M + 2):=Lib.hid (by
  have hz : U.heap.size = M + 2:=by rw [HU.out.1,hM];simp only [size_of_alloc]
  have hb8:=HK2.out.2.2.2.2.2.2.2
  have h0 : NamesAt U M 0 (.map []):=by
   rw [HU.out.1,hM]
   exact (World.ownsMap_made w2 Tryz.prog 9 (plainElem (H:=Unit) Tryz.prog 4)).alloc _
  refine ⟨names_keep h0 (hb8.block M (by omega)),?_,?_,?_,by have := hb8.size;omega,hz⟩
  ·refine kept_box hb8 ?_
   have h:=heap_of_alloc (w2.alloc (.map #[] 0)) (.cells #[.map (some w2.heap.size)] 102)
   rw [← HU.out.1,size_of_alloc,← hM] at h
   exact h
  ·refine kept_box hb8 ?_
   have h:=kept_box H2.out HB1.out.2
   rw [HU.out.1]
   exact heap_keep (heap_keep h)
  ·have := H2.out.size;have := HZ1.out;omega)
 clear hM hW1 hmm
 have hlen : (ps.map (·.1)).length = f.length:=by have h:=congrArg List.length HK2.out.2.2.2.2.2.1;simpa using h
 have hM2:=HM.out.2.2.2.2.1
 have hM1:=HM.out.2.2.2.1
 have hI0 : NmSt G f K M W10 (fun _ => False) [] W10:=⟨⟨[],by simpa [putN] using HM.out.1,fun y => by simp,by simp,by simp⟩,fun _ h => h.elim,Nat.le_refl _,fun _ _ _ => rfl,rfl,rfl,rfl⟩
 have HI0:=Lib.hid hI0
 clear hI0
 refine wpIn_rangeFunc_pv (F:=Fence.wide) rfl (by omega) (gf:=33) (lb:=#[.pointer (some ⟨b,0,none⟩)]) rfl trivial (enters_of Tryz.func33 (by kernel_rfl) rfl)
  (walk_seq Fence.wide (20 - 1) (by omega) rfl trivial trivial trivial trivial trivial rfl b l.length c2 A2 (ps.map (·.1)) _ (Yielded f) W10 HK2.out.1 HK2.out.2.2.1 HK2.out.2.2.2.2.1 (fun b hb => hb.2) HH.out.2.2.2.2.2.2 (by rw [hlen];have := HH.out.2.2.1;omega)
    (fun m k cs W hk hQ => callsIn_wide.2 (walk_copy (ws_fl HH.out.2.1 HH.out.1) HK2.out.2.2.2.1 HK2.out.2.2.2.2.2.1 HK2.out.2.2.2.2.2.2.1 k cs W hk hQ)))
  (Below.refl _ _) (fun _ => rfl) (NmSt G f K M W10) (fun _ _ _ _ => False) (NmSt.abid (by omega)) (fun _ _ _ _ _ _ h => h.elim) HI0.out ?round (fun b hb => hb.2) (fun _ _ _ h _ => h) (fun _ _ _ h _ => h) ?done (fun _ _ _ _ _ h => h.elim)
 case round =>
  rintro Pv pre ⟨j,cs3⟩ V1 r' hlt3 hge hD hLp hrl hI ⟨hk3,hkl,st,hx3,hz24,hone,hv⟩
  dsimp only at hk3 hx3 hz24 hone hv
  subst hk3
  have hszc3 : cs3.size = N3:=hz24.trans HN.out.1.symm
  have hst3:=store_fresh (w:=V1) (t:=T3) (zc:=zc3) (cs:=cs3) (HN.out.2.trans hszc3.symm) hone
  have HR3:=Lib.hid (And.intro hI (And.intro hlt3 (And.intro hge (And.intro hLp (And.intro hrl (And.intro hx3 hv))))))
  clear hlt3 hge hD hLp hrl hkl hx3 hone hv hI hz24
  gi_wp2
  refine ⟨Part.alloc _ _,fun r2 => ?_⟩
  obtain ⟨Wb,hWb⟩ : ∃ Wb,Wb = (V1.alloc (.cells cs3 T3)).putObj (W10.heap.size + 1) (.loop r2):=⟨_,rfl⟩
  have HWB:=Lib.hid (nm_round (by omega) HR3.out.1 HR3.out.2.1 HR3.out.2.2.2.1 HR3.out.2.2.2.2.1 HR3.out.2.2.2.2.2.2 hWb)
  rw [← hWb]
  clear hWb hst3
  have hbox:=HWB.out.2.1
  have hl3:=load_new hbox hszc3
  have hIb:=HWB.out.1
  obtain ⟨ns,hns,hmem,hnl,hnm⟩:=hIb.map
  have hfb : Wb.heap[w.heap.size]? = some (.cells #[.func (.func fid) #[] #[]] 75 (0,0)):=(hIb.keep _ (by omega) (by omega)).trans HM.out.2.2.1
  have hmb : Wb.heap[M + 1]? = some (.cells #[.map (some M)] 102 (0,0)):=(hIb.keep _ (by omega) (by omega)).trans HM.out.2.1
  have cF:=cell_of_block hfb 0 (v:=.func (.func fid) #[] #[]) rfl
  have hxm:=List.mem_of_getElem? HR3.out.2.2.2.2.2.1
  have HC:=Lib.hid (HH.out.2.2.2.2.1 st hxm Wb cs3 HWB.out.2.2)
  have HL:=Lib.hid (And.intro hns (And.intro hmem (And.intro hnl (And.intro hnm (And.intro hmb (And.intro (HH.out.2.2.2.1 st hxm) (show M < Wb.heap.size by have := hIb.size;omega)))))))
  have hpf : pre.length < f.length:=(List.getElem?_eq_some_iff.1 HR3.out.2.2.2.2.2.1).1
  have hKp : K * pre.length + K ≤ K * f.length:=by
   rw [← Nat.mul_succ]
   exact Nat.mul_le_mul_left _ hpf
  have hKf : K * f.length ≤ 8000000000000:=by
   have h1:=HKK.out
   have h2:=HH.out.2.2.1
   exact Nat.le_trans (Nat.mul_le_mul h1 h2) (by omega)
  have HQ:=Lib.hid (And.intro hpf (And.intro hKp hKf))
  have qf : (Fence.wide.inRound (W10.heap.size + 1)).fn fid:=trivial
  clear hbox hIb hns hmem hnl hnm hfb hmb hxm hpf hKp hKf
  have hI2:=HWB.out.1
  have HE:=Lib.hid (And.intro hI2.off (And.intro hI2.size (And.intro hI2.keep (And.intro hI2.os (And.intro hI2.tape hI2.output)))))
  clear hI2
  have hent1:=HENT.out #[.agg cs3] Wb
  gi_wp2_with fail
  refine ⟨trivial,?_⟩
  (with_reducible refine (CallsIn.inRound (W10.heap.size + 1) (callsIn_wide.2 HC.out)).mono ?_)
  rintro e u1 ⟨A1,c1,m,rfl,o1,o2,o3,o4,hb⟩
  have HU1:=Lib.hid (And.intro o1 (And.intro o2 (And.intro o3 (And.intro o4 hb))))
  obtain ⟨nm,hnm⟩ : ∃ nm,nm = m.length:=⟨_,rfl⟩
  rw [← hnm]
  have HNM:=Lib.hid hnm
  have hnmK : nm ≤ K:=by rw [hnm];exact Nat.le_trans o4 HL.out.2.2.2.2.2.1
  have hml : nm ≤ 80000000000:=Nat.le_trans hnmK HKK.out
  have HnK:=Lib.hid hnmK
  clear o1 o2 o3 o4 hb hnm hnmK
  gi_wp2
  have hmb1 : u1.heap[M + 1]? = some (.cells #[.map (some M)] 102 (0,0)):=kept_box HU1.out.2.2.2.2 HL.out.2.2.2.2.1
  have HM1:=Lib.hid hmb1
  have hM0 : M < Wb.heap.size:=HL.out.2.2.2.2.2.2
  have hns1 : NamesAt u1 M (K * pre.length) (putN (.map []) ns):=names_keep HL.out.1 (HU1.out.2.2.2.2.block M hM0)
  have HNS:=Lib.hid hns1
  clear hmb1 hns1
  gi_loopg [22] nm (fun mm j wr => ∃ i : Nat,mm = nm - i ∧ i ≤ nm ∧ j = .int .i64 i ∧ Hid (NamesAt wr M (K * pre.length + i) (putN (.map []) (ns ++ m.take i)) ∧ u1.grownBy wr (some M)))
  case atStart => exact ⟨0,rfl,Nat.zero_le _,rfl,Lib.hid ⟨by rw [List.take_zero,List.append_nil];exact HNS.out,World.grownBy.refl _ _⟩⟩
  case round =>
   obtain ⟨i,rfl,hi,rfl,HJ⟩:=hrel
   have hi0 : (0 : Int) ≤ i:=by omega
   by_cases hlt : i < nm
   ·have hii : (i : Int) < nm:=by omega
    obtain ⟨y,hy⟩ : ∃ y,m[i]? = some y:=⟨m[i]'(by rw [← HNM.out];exact hlt),List.getElem?_eq_getElem _⟩
    have hyl : y.length ≤ maxLen:=HU1.out.2.2.1 y (List.mem_of_getElem? hy)
    obtain ⟨ad,u,rfl,hadb,hu,hcell⟩:=(Reads.of_own HU1.out.1).at_ (k:=i) (by rw [← HNM.out];exact hlt)
    obtain rfl : u = encF y:=Option.some.inj (hu.symm.trans (by rw [List.getElem?_map,hy];rfl))
    have hge : Wb.heap.size ≤ ad.block:=(own_lt HU1.out.1 ad.block rfl).1
    have hbe : (ad.add i).block = ad.block:=block_of_add _ _
    have c24 : wr.cell? (ad.add i) = some (encF y):=(World.cell?_of_block (w:=u1) (HJ.out.2.block _ (by rw [hbe];exact hadb) (by rw [hbe];intro e;injection e with e;omega))).trans hcell
    have cM : wr.cell? ⟨M + 1,0,none⟩ = some (.map (some M)):=cell_of_block ((HJ.out.2.block (M + 1) (Array.getElem?_eq_some_iff.1 HM1.out).1 (by intro e;injection e with e;omega)).trans HM1.out) 0 rfl
    have hnx : K * pre.length + i < maxLen:=by
     have h1:=HQ.out.2.1
     have h2:=HQ.out.2.2
     have h3:=HnK.out
     unfold maxLen
     omega
    have HKy:=Lib.hid (Go.WideMaps.keyOf_string_mk Tryz.underlying9 (s:=⟨y.toArray⟩) hyl)
    have HY:=Lib.hid (And.intro hy hlt)
    clear hy hyl hadb hu hcell hge hbe
    gi_wp2_with (gi_at_mapUpdate;refine wpListIn_mapUpdate_own _ rfl _ _ _ 102 rfl 9 4 (Keyed.of_law (Go.WideMaps.string_law Tryz.underlying9)) Tryz.underlying102 _ M _ _ rfl HJ.out.1 hnx _ _ _ rfl rfl HKy.out _ _ (Go.plainElem_bool Tryz.underlying4 true) ?_;intro wk hown hgr;have HO2:=Lib.hid hown;have HG2:=Lib.hid (HJ.out.2.trans hgr);clear hown hgr)
    gi_roundg (nm - (i + 1))
    case measure => have := HY.out.2;omega
    case rel =>
     refine ⟨i + 1,rfl,(by have := HY.out.2;omega),by go_num,Lib.hid ⟨?_,HG2.out⟩⟩
     rw [List.take_add_one,HY.out.1,← List.append_assoc,putN_append,← Nat.add_assoc]
     exact HO2.out
   ·obtain rfl : i = nm:=by omega
    gi_wp2
    obtain ⟨hJ1,hJ2⟩:=HJ.out
    rw [List.take_of_length_le (by rw [← HNM.out];exact Nat.le_refl _)] at hJ1
    have hU:=HU1.out.2.2.2.2
    have hkb : ∀ b,b < Wb.heap.size → b ≠ M → wr.heap[b]? = Wb.heap[b]?:=fun b hb hne => (hJ2.block b (Nat.lt_of_lt_of_le hb hU.size) (by intro e;injection e with e;exact hne e)).trans (hU.block b hb)
    have hz:=HM.out.2.2.2.2.2
    refine ⟨fun b hb hk => hkb b hb ?_,Nat.le_trans hU.size hJ2.size,⟨⟨ns ++ m,?_,?_,?_,?_⟩,HE.out.1,Nat.le_trans HE.out.2.1 (Nat.le_trans hU.size hJ2.size),fun b hb hne => (hkb b (Nat.lt_of_lt_of_le hb HE.out.2.1) hne).trans (HE.out.2.2.1 b hb hne),hJ2.os.trans (hU.os.trans HE.out.2.2.2.1),hJ2.tape.trans (hU.tape.trans HE.out.2.2.2.2.1),hJ2.output.trans (hU.output.trans HE.out.2.2.2.2.2)⟩⟩
    ·rcases hk with hk | ⟨hk,_⟩
     ·have := HE.out.1 b hk
      omega
     ·omega
    ·refine hJ1.mono ?_
     have h3:=HnK.out
     rw [List.length_append,List.length_singleton,Nat.mul_succ]
     omega
    ·intro z
     rw [List.length_append,List.length_singleton,take_flat HR3.out.2.2.2.2.2.1,List.mem_append,HL.out.2.1,HU1.out.2.1]
    ·have h1:=HL.out.2.2.1
     have h3:=HnK.out
     have h4:=HNM.out
     rw [List.length_append,List.length_append,List.length_singleton,Nat.mul_succ]
     omega
    ·intro z hzm
     rcases List.mem_append.1 hzm with hzm | hzm
     ·exact HL.out.2.2.2.1 z hzm
     ·exact HU1.out.2.2.1 z hzm
 case done =>
  intro Pv xs V9 hS hI hD hLp hlt3 hdef
  have hxl : xs.length = f.length:=(show xs.length = (ps.map (·.1)).length from hS).trans hlen
  obtain ⟨ns,hns,hmem,hnl,hnm⟩:=hI.map
  have hsz9:=hI.size
  have hmb9 : V9.heap[M + 1]? = some (.cells #[.map (some M)] 102 (0,0)):=(hI.keep _ (by omega) (by omega)).trans HM.out.2.1
  have cM:=cell_of_block hmb9 0 (v:=.map (some M)) rfl
  have hKf : K * f.length ≤ 8000000000000:=by
   have h1:=HKK.out
   have h2:=HH.out.2.2.1
   exact Nat.le_trans (Nat.mul_le_mul h1 h2) (by omega)
  have hs0 : Maps.size (putN (.map []) ns) ≤ 8000000000000:=by
   have := putN_size ns
   rw [hxl] at hnl
   omega
  have hmax : Maps.size (putN (.map []) ns) ≤ maxLen:=by unfold maxLen;omega
  have hbytes : Maps.size (putN (.map []) ns) * 16 ≤ 140737488355328:=by omega
  have HX:=Lib.hid (And.intro hI (And.intro hxl (And.intro hmem (And.intro hnm hdef))))
  have HV9:=Lib.hid hns
  clear hS hI hD hLp hlt3 hdef hxl hmem hnl hnm hmb9 hKf hs0 hns
  gi_wp2_with (first
   | (gi_at_call 71;refine (callsIn_wide.2 (callsIn_wide.1 (Tryz.maps_Keys_71 _ _))).mono ?_;rintro e w' ⟨rfl,rfl⟩)
   | (gi_at_call 70;refine (callsIn_wide.2 (callsIn_wide.1 (Tryz.slices_Sorted_keys_70_71 _ _ _ _ _ HV9.out hmax hbytes))).mono ?_;rintro e w' ⟨v,ss,rfl,hS,hrow,hnil,hb⟩;have HSS:=Lib.hid (And.intro hS (And.intro hrow hb));clear hS hrow hnil hb))
  have hb9 : Go.RowKit.Below V9.heap.size V9 w':=(below_alloc V9 (.cells #[.map (some M)] 102)).chain HSS.out.2.2
  have hI9:=HX.out.1
  have hsz9':=hI9.size
  have hdq : w'.heap[W10.heap.size]? = some (.deferred (some [])):=(hb9.block _ (Array.getElem?_eq_some_iff.1 HX.out.2.2.2.2).1).trans HX.out.2.2.2.2
  refine ⟨by simp,.inl ⟨_,_,rfl,run_takeDeferred hdq,?_⟩⟩
  refine ⟨_,results_tmp rfl _ _ _,?_⟩
  obtain ⟨hS,hrow,_⟩:=HSS.out
  obtain ⟨es,he,hpw,_⟩:=HV9.out.entries (Keyed.of_law (Go.WideMaps.string_law Tryz.underlying9))
  obtain ⟨es2,he2,hst⟩:=putN_strs ns
  obtain rfl : es = es2:=by rw [he] at he2;injection he2
  have hnd : ss.Nodup:=by
   refine hS.nodup_iff.2 ?_
   rw [he]
   exact strKeys_nodup hpw hst
  have hmm : ∀ y,y ∈ ss.mergeSort (fun x y => decide (x ≤ y)) ↔ y ∈ ns:=fun y => by rw [List.mem_mergeSort,hS.mem_iff,putN_keys]
  have hrow2 : w'.ownsRow (V9.alloc (.cells #[.map (some M)] 102)).heap.size 9 1 v (ss.mergeSort (fun x y => decide (x ≤ y))).length ((ss.mergeSort (fun x y => decide (x ≤ y))).map encF):=by
   rw [List.length_mergeSort]
   exact hrow
  obtain ⟨A',c',rfl⟩:=own_sliceM hrow2
  have hbU:=HU.out.2
  have hb8:=HK2.out.2.2.2.2.2.2.2
  have hzU:=HM.out.2.2.2.2.2
  have hbW : w.heap.size ≤ W10.heap.size:=Nat.le_trans hbU.size hb8.size
  refine ⟨A',c',ss.mergeSort (fun x y => decide (x ≤ y)),rfl,?_,asc_sorted hnd,fun y => ?_,fun y hy => HX.out.2.2.2.1 y ((hmm y).1 hy),?_⟩
  ·refine World.ownsRow.mono (ownsRow_putObj hrow2 _ hdq rfl) ?_
   rw [size_of_alloc]
   omega
  ·rw [hmm,HX.out.2.2.1,HX.out.2.1,List.take_length,List.mem_flatMap]
  ·refine ⟨hb9.os.trans (hI9.os.trans (hb8.os.trans hbU.os)),hb9.tape.trans (hI9.tape.trans (hb8.tape.trans hbU.tape)),hb9.output.trans (hI9.output.trans (hb8.output.trans hbU.output)),?_,fun k hk => ?_⟩
   ·rw [World.putObj_size]
    have := hb9.size
    omega
   ·refine (World.putObj_heap_other (by omega)).trans ((hb9.block k (by omega)).trans ((hI9.keep k (by omega) (by omega)).trans ((hb8.block k (by have := hbU.size;omega)).trans (hbU.block k hk))))
end Go.Proofs.YtbalioicgpgehaaGreatDoor
