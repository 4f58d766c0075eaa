/-
  moved, at any row of statements.
-/
import Derived.Test.YtehmoomoocdidaaGreatDoorSTreeMo
set_option linter.unusedVariables false
set_option linter.unusedSimpArgs false
namespace Go.Proofs.YtehmoomoocdidaaGreatDoor
set_option maxRecDepth 100000
set_option maxHeartbeats 8000000
open Go.RowKit
theorem StIn.base {B V : Nat} {w : World} {ss : List St} {A : Option Addr} (h : StIn (fun b => b < B ∨ V ≤ b) w ss A) {B2 : Nat} (hB : B2 < V) : StIn (fun b => b < B ∨ B2 < b) w ss A :=
 h.stay (fun _ _ => rfl) (fun b hb => by omega)
theorem StIn.later {S : Nat → Prop} {w w' : World} {ss : List St} {A : Option Addr} (h : StIn S w ss A) (hb : Below w.heap.size w w') : StIn S w' ss A :=
 h.lt.stay (fun _ hq => hb.cell hq.2) (fun _ hq => hq.1)
theorem OwnIn.later {S : Nat → Prop} {w w' : World} {d : SAd} {s : St} (h : OwnIn S w d s) (hb : Below w.heap.size w w') : OwnIn S w' d s :=
 h.lt.stay (fun _ hq => hb.cell hq.2) (fun _ hq => hq.1)
theorem box_set {W : World} {b : Nat} {cs : Array Value} {t : TypeId} (h : W.heap[b]? = some (.cells cs t (0,0))) (j : Nat) (v : Value) : (W.setCell ⟨b,j,none⟩ v).heap[b]? = some (.cells (cs.setIfInBounds j v) t (0,0)):=by
 simp [World.setCell,Array.getElem?_modify,h]
theorem set_other (W : World) (p : Addr) (v : Value) {q : Addr} (h : q.block ≠ p.block) : (W.setCell p v).cell? q = W.cell? q :=
 World.cell?_setCell_other W p q v (fun e => h (by rw [e]))
def MvCut (B bx : Nat) (y : Int) (T : TypeId) (cs1 : Array Value) (bd el : List St) (w1 wx : World) : Prop :=
 ∃ (b2 o2 : List St) (A2 A4 : Option Addr) (c2 c4 : Nat) (W : World),W = wx ∧ W.heap[bx]? = some (.cells ((cs1.setIfInBounds 22 (.slice A2 b2.length c2)).setIfInBounds 23 (.slice A4 o2.length c4)) T (0,0)) ∧ MvL (y + 1) 0 bd b2 ∧ MvL (y + 2) 0 el o2 ∧
  StIn (fun b => b < B ∨ bx < b) W b2 A2 ∧ StIn (fun b => b < B ∨ bx < b) W o2 A4 ∧ Below bx w1 W
theorem mvcut_of {B bx : Nat} {y : Int} {T : TypeId} {cs1 : Array Value} {bd el b2 o2 : List St} {w1 V : World} {A2 A4 : Option Addr} {c2 c4 : Nat} (hx : w1.heap[bx]? = some (.cells cs1 T (0,0))) (hxs : bx < w1.heap.size ∧ B ≤ bx) (hb : Below w1.heap.size w1 V) (h1 : MvL (y + 1) 0 bd b2) (h2 : MvL (y + 2) 0 el o2)
 (s1 : StIn (fun b => b < B ∨ bx < b) V b2 A2) (s2 : StIn (fun b => b < B ∨ bx < b) V o2 A4) :
 MvCut B bx y T cs1 bd el w1 ((V.setCell ⟨bx,22,none⟩ (.slice A2 b2.length c2)).setCell ⟨bx,23,none⟩ (.slice A4 o2.length c4)):=by
 have hk : ∀ q : Addr,(q.block < B ∨ bx < q.block) → ((V.setCell ⟨bx,22,none⟩ (.slice A2 b2.length c2)).setCell ⟨bx,23,none⟩ (.slice A4 o2.length c4)).cell? q = V.cell? q:=fun q hq => by
  have : q.block ≠ bx:=by omega
  rw [set_other _ _ _ this,set_other _ _ _ this]
 exact ⟨b2,o2,A2,A4,c2,c4,_,rfl,box_set (box_set (kept_box hb hx) 22 _) 23 _,h1,h2,s1.stay hk (fun _ h => h),s2.stay hk (fun _ h => h),((hb.mono (Nat.le_of_lt hxs.1)).setCell (p:=⟨bx,22,none⟩) (Nat.le_refl _) _).setCell (p:=⟨bx,23,none⟩) (Nat.le_refl _) _⟩
theorem moved_any : ∀ (M : Nat) (ss : List St),SizeOf.sizeOf ss < M → ∀ (y : Int) (A : Option Addr) (c B : Nat) (f : List St) (w : World),StRow w B ss A → B ≤ w.heap.size → ss.length ≤ maxLen → FlL ss f → f.length ≤ 200000 → 0 ≤ y → y + 3 * (f.length : Int) ≤ 1000000 →
 Calls Tryz.prog 8 #[.slice A ss.length c,.int .i64 y] w (MovedPost B y ss w):=by
 intro M
 induction M with
 | zero => intro ss h;omega
 | succ M ih =>
   intro ss hM y A c B f w hr hB hn hf hfl hy0 hy1
   obtain ⟨T,N,zc,hT,hN,hzc,hag,hsz,hzv⟩:=stmt_hidden2
   have e1 : ∀ y : Operand,Op.load 50 y = Op.load T y:=fun y => by rw [hT]
   have e2 : ∀ y z : Operand,Op.store 50 y z = Op.store T y z:=fun y z => by rw [hT]
   have e3 : Op.alloc 50 = Op.alloc T:=by rw [hT]
   obtain ⟨i0,hi0,hiz,his,hib⟩:=info_parts infoStmt
   have HI0:=Lib.hid (And.intro hi0 (And.intro hiz (And.intro his hib)))
   clear hi0 hiz his hib
   have hmx : Tryz.prog.follows .mixedOrders = true:=by kernel_rfl
   obtain ⟨n,hnn⟩ : ∃ n,n = ss.length:=⟨_,rfl⟩
   have hnf : n ≤ 200000 ∧ y + 3 * (n : Int) ≤ 1000000:=by have := fl_len hf;omega
   have HH:=Lib.hid (And.intro hr (And.intro ih (And.intro hM (And.intro hnn (And.intro hf (And.intro hfl (And.intro hy0 hy1)))))))
   have HB:=Lib.hid hB
   have HN:=Lib.hid (And.intro hN hzc)
   obtain ⟨hnf1,hnf2⟩:=hnf
   rw [← hnn]
   clear hr ih hM hnn hN hzc hf hfl hB hn hy1
   go_enter Tryz.func8,Tryz.ntmps8
   simp only [e1,e2,e3]
   clear e1 e2 e3 hT
   go_wp2
   go_loopg [5,10] n (fun m v j wr => ∃ (k : Nat) (ms : List St),m = n - k ∧ k ≤ n ∧ j = .int .i64 k ∧ Hid (MvL y 0 (ss.take k) ms ∧ Moved B w ms v wr))
   case atStart => exact ⟨0,[],rfl,Nat.zero_le _,rfl,Lib.hid ⟨by rw [List.take_zero];exact .nil _ _,fun _ => sAd0,[],World.ownsRow_nil w _ _ _,fun i s hi => by simp at hi,fun i s hi => by simp at hi,Below.refl _ _⟩⟩
   case round =>
    obtain ⟨k,ms,rfl,hk,rfl,HI⟩:=hrel
    by_cases hlt : k < n
    ·have hki : (k : Int) < n:=by omega
     obtain ⟨s,hi⟩ : ∃ x,ss[k]? = some x:=⟨ss[k]'(by rw [← HH.out.2.2.2.1];exact hlt),List.getElem?_eq_getElem _⟩
     have hone:=fun d => stCs_oneM d s
     obtain ⟨a,d,rfl,hab,hc,hown,hb1,hb2⟩:=HH.out.1.at_ hi
     obtain ⟨D,xs,ho,hcl,hel,hbw⟩:=HI.out.2
     have HEl : Hid (OwnIn (fun b => b < B) w d s):=Lib.hid (hown.in_ HB.out)
     obtain ⟨fb,hfb⟩:=fl_any _ s.body (Nat.lt_succ_self _)
     obtain ⟨fo,hfo⟩:=fl_any _ s.els (Nat.lt_succ_self _)
     obtain ⟨gk,hgk⟩:=fl_any _ (ss.take k) (Nat.lt_succ_self _)
     have hroom:=fl_room hi HH.out.2.2.2.2.1 hgk hfb hfo
     have hfl2:=HH.out.2.2.2.2.2
     have hm12 : s.body.length ≤ maxLen ∧ s.els.length ≤ maxLen:=⟨by have := fl_len hfb;unfold maxLen;omega,by have := fl_len hfo;unfold maxLen;omega⟩
     have hszz : SizeOf.sizeOf s.body < M ∧ SizeOf.sizeOf s.els < M:=by
      have h1:=HH.out.2.2.1
      have h2:=List.sizeOf_lt_of_mem (List.mem_of_getElem? hi)
      obtain ⟨k0,ln,co,nm,fd,fr,e,cn,cl,iv,b,t⟩:=s
      have h3 : SizeOf.sizeOf b < SizeOf.sizeOf (St.mk k0 ln co nm fd fr e cn cl iv b t):=by simp;omega
      have h4 : SizeOf.sizeOf t < SizeOf.sizeOf (St.mk k0 ln co nm fd fr e cn cl iv b t):=by simp;omega
      simp only [St.body,St.els]
      omega
     obtain ⟨nb,hnb⟩ : ∃ nb,nb = s.body.length:=⟨_,rfl⟩
     obtain ⟨nt,hnt⟩ : ∃ nt,nt = s.els.length:=⟨_,rfl⟩
     have hcz : (stCs d s).size = 24:=stCs_size d s
     have hc22 : (stCs d s)[22]? = some (.slice d.s nb d.ns):=by rw [hnb];exact stCs_22 d s
     have hc23 : (stCs d s)[23]? = some (.slice d.t nt d.nt):=by rw [hnt];exact stCs_23 d s
     obtain ⟨cs,hcs⟩ : ∃ cs,cs = stCs d s:=⟨_,rfl⟩
     rw [← hcs] at hc hcz hc22 hc23
     have hone1 : cs.all (·.oneCell') = true:=by rw [hcs,Array.all_eq_true_iff_forall_mem];exact fun u hu => hone d u (by simpa using hu)
     obtain ⟨bx,hbx0⟩ : ∃ bx,bx = wr.heap.size:=⟨_,rfl⟩
     have hbB : B ≤ bx:=by rw [hbx0];exact Nat.le_trans HB.out hbw.size
     obtain ⟨p,hp⟩ : ∃ p,p = (y + 3 * (k : Int)) % 1000:=⟨_,rfl⟩
     obtain ⟨q,hq⟩ : ∃ q,q = (y + (k : Int)) % 77:=⟨_,rfl⟩
     obtain ⟨w1,hw1⟩ : ∃ w1,w1 = wr.alloc (.cells ((cs.setIfInBounds 1 (.int .i64 ((y + 3 * (k : Int)) % 1000))).setIfInBounds 2 (.int .i64 ((y + (k : Int)) % 77))) T):=⟨_,rfl⟩
     obtain ⟨cs1,hcs1⟩ : ∃ cs1,cs1 = (cs.setIfInBounds 1 (.int .i64 p)).setIfInBounds 2 (.int .i64 q):=⟨_,rfl⟩
     have hbx1 : w1.heap[bx]? = some (.cells cs1 T (0,0)):=by rw [hw1,hcs1,hbx0,hp,hq];exact heap_of_alloc wr _
     have hb01 : Below bx wr w1:=by rw [hw1,hbx0];exact below_alloc wr _
     have hsz1 : w1.heap.size = bx + 1:=by rw [hw1,hbx0];exact size_of_alloc _ _
     have HBX:=Lib.hid (And.intro hbx1 (And.intro (show bx < w1.heap.size by omega) hbB))
     have HB01:=Lib.hid (And.intro hb01 (And.intro hbx0 hsz1))
     have hbw1 : Below w.heap.size w w1:=hbw.trans (hb01.mono (by rw [hbx0];exact hbw.size))
     have HC1 : Hid (∀ W,Below w1.heap.size w1 W → Calls Tryz.prog 8 #[.slice d.s nb d.ns,.int .i64 (y + 1)] W (MovedPost B (y + 1) s.body W)):=Lib.hid (fun W hb => by
      rw [hnb]
      have hbb : Below w.heap.size w W:=hbw1.trans (hb.mono hbw1.size)
      exact HH.out.2.1 s.body hszz.1 (y + 1) d.s d.ns B fb W (hb1.keep (fun q hq => hbb.cell (Nat.lt_of_lt_of_le hq HB.out)) (Nat.le_refl _)) (Nat.le_trans HB.out hbb.size) hm12.1 hfb (by omega) (by omega) (by omega))
     have HC2 : Hid (∀ W,Below w1.heap.size w1 W → Calls Tryz.prog 8 #[.slice d.t nt d.nt,.int .i64 (y + 2)] W (MovedPost B (y + 2) s.els W)):=Lib.hid (fun W hb => by
      rw [hnt]
      have hbb : Below w.heap.size w W:=hbw1.trans (hb.mono hbw1.size)
      exact HH.out.2.1 s.els hszz.2 (y + 2) d.t d.nt B fo W (hb2.keep (fun q hq => hbb.cell (Nat.lt_of_lt_of_le hq HB.out)) (Nat.le_refl _)) (Nat.le_trans HB.out hbb.size) hm12.2 hfo (by omega) (by omega) (by omega))
     have hcs122 : cs1[22]? = some (.slice d.s nb d.ns):=by rw [hcs1,Array.getElem?_setIfInBounds_ne (by decide),Array.getElem?_setIfInBounds_ne (by decide)];exact hc22
     have hcs123 : cs1[23]? = some (.slice d.t nt d.nt):=by rw [hcs1,Array.getElem?_setIfInBounds_ne (by decide),Array.getElem?_setIfInBounds_ne (by decide)];exact hc23
     have HZ : Hid (∀ W,Below w1.heap.size w1 W → W.cell? ⟨bx,22,none⟩ = some (.slice d.s nb d.ns) ∧ W.cell? ⟨bx,23,none⟩ = some (.slice d.t nt d.nt)):=Lib.hid (fun W hb => ⟨cell_of_block (kept_box hb hbx1) 22 hcs122,cell_of_block (kept_box hb hbx1) 23 hcs123⟩)
     have HF : Hid (∀ W,Below w1.heap.size w1 W → W.cell? ⟨bx,22,none⟩ = some (.slice d.s nb d.ns) ∧ W.frozen? ⟨bx,22,none⟩ = false ∧ W.cell? ⟨bx,23,none⟩ = some (.slice d.t nt d.nt) ∧ W.frozen? ⟨bx,23,none⟩ = false):=Lib.hid (fun W hb => ⟨(cell_free (kept_box hb hbx1) 22 _ hcs122).1,(cell_free (kept_box hb hbx1) 22 _ hcs122).2,(cell_free (kept_box hb hbx1) 23 _ hcs123).1,(cell_free (kept_box hb hbx1) 23 _ hcs123).2⟩)
     have HF2 : Hid (∀ W,Below w1.heap.size w1 W → ∀ v,(W.setCell ⟨bx,22,none⟩ v).cell? ⟨bx,23,none⟩ = some (.slice d.t nt d.nt) ∧ (W.setCell ⟨bx,22,none⟩ v).frozen? ⟨bx,23,none⟩ = false):=Lib.hid (fun W hb v => cell_free (box_set (kept_box hb hbx1) 22 v) 23 _ (by rw [Array.getElem?_setIfInBounds_ne (by decide)];exact hcs123))
     have hblk : (a.add (k * 24)).block < w.heap.size:=by rw [block_adds];exact Nat.lt_of_lt_of_le hab HB.out
     have hl1 : (loadCellsFrom (a.add (k * 24)) 0 N #[]).run Tryz.prog wr = .ok cs wr:=load_list (fun j v hv => (hbw.cell (by rw [block_adds];exact hblk)).trans (hc j v hv)) (hcz.trans HN.out.1.symm)
     have hst : (storeCells ⟨wr.heap.size,0,none⟩ cs.toList).run Tryz.prog (wr.alloc (.cells zc T)) = .ok () (wr.alloc (.cells cs T)):=by
      have h:=store_row (heap_of_alloc wr (.cells zc T)) (HN.out.2.trans (HN.out.1.trans hcz.symm)) hone1
      rw [World.setRow_alloc_new] at h
      exact h
     have hszc : cs.size = N:=hcz.trans HN.out.1.symm
     obtain ⟨x1,hx1⟩ : ∃ x,cs[1]? = some x:=⟨cs[1]'(by omega),Array.getElem?_eq_getElem _⟩
     obtain ⟨x2,hx2⟩ : ∃ x,cs[2]? = some x:=⟨cs[2]'(by omega),Array.getElem?_eq_getElem _⟩
     obtain ⟨x1a,x1b⟩:=cell_free (heap_of_alloc wr (.cells cs T)) 1 x1 hx1
     obtain ⟨x2a,x2b⟩:=cell_free (heap_of_alloc wr (.cells cs T)) 2 x2 hx2
     obtain ⟨ng,hng⟩ : ∃ ng,ng = ms.length:=⟨_,rfl⟩
     have hngk : ng ≤ 200000:=by
      have h1:=mv_len HI.out.1
      rw [List.length_take] at h1
      omega
     have HO:=Lib.hid (And.intro ho (And.intro hcl (And.intro hel (And.intro hbw (And.intro hi hlt)))))
     have HG:=Lib.hid (And.intro hng (And.intro hcs (And.intro hcs1 (And.intro hp (And.intro hq hcz)))))
     have HW1:=Lib.hid hw1
     have HLn:=Lib.hid hm12
     obtain ⟨bd,hbd⟩ : ∃ bd,bd = s.body:=⟨_,rfl⟩
     obtain ⟨el,hel2⟩ : ∃ el,el = s.els:=⟨_,rfl⟩
     have HBE:=Lib.hid (And.intro hbd hel2)
     rw [← hbd] at HC1
     rw [← hel2] at HC2
     clear hc hown hb1 hb2 hi hfb hfo hgk hroom hfl2 hszz hm12 hnb hnt ho hcl hel hbw hone hone1 hcs hc22 hc23 hab hblk hbx1 hb01 hsz1 hbw1 hcs122 hcs123 hcs1 hbB hng hcz hbd hel2
     go_wp2
     rw [← HW1.out,← HB01.out.2.1]
     clear hl1 hst hszc x1a x1b x2a x2b hw1 hx1 hx2 hbx0 hp hq
     go_cut [37] from 26 to 37 (fun v37 wx => MvCut B bx y T cs1 bd el w1 wx)
     case first =>
      refine wp_region_held (S:=fun _ => True) hmx ?_
      change wpAnyH _ _ _ _ _ 14 #[false,false,false,false,false,false,false,false,false,false,false,false,false,false] _ w1.drew
      have HV0 : Hid (Below w1.heap.size w1 w1.drew):=Lib.hid (Below.refl w1.heap.size w1).drew
      generalize w1.drew = V0 at HV0 ⊢
      refine tk 0 26 (.pointer (some ⟨bx,22,none⟩)) trivial ?v ?_
      case v => intro Wx hSx;go_simp
      refine tk 2 28 (.int .i64 y) trivial ?v ?_
      case v => intro Wx hSx;go_simp
      refine tk 3 29 (.int .i64 (y + 1)) trivial ?v ?_
      case v => intro Wx hSx;go_simp;exact Go.IntWalk.i64_in _ (by omega)
      refine tk 5 31 (.pointer (some ⟨bx,23,none⟩)) trivial ?v ?_
      case v => intro Wx hSx;go_simp
      refine tk 7 33 (.int .i64 y) trivial ?v ?_
      case v => intro Wx hSx;go_simp
      refine tk 8 34 (.int .i64 (y + 2)) trivial ?v ?_
      case v => intro Wx hSx;go_simp;exact Go.IntWalk.i64_in _ (by omega)
      simp only [Act.put,List.setIfInBounds_toArray,List.set_cons_zero,List.set_cons_succ]
      refine anyH_two 1 6 (by kernel_rfl) rfl rfl (by kernel_rfl) (by kernel_rfl) (fun K hK => ?_) (fun K hK => ?_)
      ·obtain ⟨z22,z23⟩:=HZ.out _ HV0.out
       go_simp
       refine hK _ _ trivial ?_
       clear hK K z22 z23
       refine anyH_two 4 6 (by kernel_rfl) rfl rfl (by kernel_rfl) (by kernel_rfl) (fun K hK => ?_) (fun K hK => ?_)
       ·go_simp
        (with_reducible refine (HC1.out V0 HV0.out).mono ?_)
        rintro e V1 ⟨A2,c2,b2,rfl,hm1,hs1,hb1⟩
        have HM4:=Lib.hid (And.intro hm1 (hs1.base (B2:=bx) (Nat.lt_of_lt_of_le HBX.out.2.1 HV0.out.size)))
        have HV1:=Lib.hid (HV0.out.chain hb1)
        clear hm1 hs1 hb1
        refine hK _ _ trivial ?_
        clear hK K
        refine o1 6 (fun K hK => ?_)
        obtain ⟨z22,z23⟩:=HZ.out _ HV1.out
        go_simp
        refine hK _ _ trivial ?_
        clear hK K z22 z23
        refine tk 10 36 (.pointer (some ⟨bx,22,none⟩)) trivial ?v ?_
        case v => intro Wx hSx;go_simp
        refine o1 9 (fun K hK => ?_)
        go_simp
        (with_reducible refine (HC2.out V1 HV1.out).mono ?_)
        rintro e V2 ⟨A4,c4,o2,rfl,hm2,hs2,hb2⟩
        have HM9:=Lib.hid (And.intro hm2 (hs2.base (B2:=bx) (Nat.lt_of_lt_of_le HBX.out.2.1 HV1.out.size)))
        have HM5:=Lib.hid (HM4.out.2.later hb2)
        have HV2:=Lib.hid (HV1.out.chain hb2)
        clear hm2 hs2 hb2
        refine hK _ _ trivial ?_
        clear hK K
        refine o1 11 (fun K hK => ?_)
        obtain ⟨x22,f22,x23,f23⟩:=HF.out _ HV2.out
        go_simp
        refine hK _ _ trivial ?_
        clear hK K x22 f22 x23 f23
        refine tk 12 37 (.pointer (some ⟨bx,23,none⟩)) trivial ?v ?_
        case v => intro Wx hSx;go_simp
        simp only [Act.put,List.setIfInBounds_toArray,List.set_cons_zero,List.set_cons_succ]
        refine o1 13 (fun K hK => ?_)
        obtain ⟨x23,f23⟩:=HF2.out _ HV2.out (.slice A2 b2.length c2)
        go_simp
        refine hK _ _ trivial ?_
        clear hK K x23 f23
        refine wpAnyH_done (by kernel_rfl) ?_ _
        go_wp2
        go_meet
        exact mvcut_of HBX.out.1 HBX.out.2 HV2.out HM4.out.1 HM9.out.1 HM5.out HM9.out.2
       ·obtain ⟨z22,z23⟩:=HZ.out _ HV0.out
        go_simp
        refine hK _ _ trivial ?_
        clear hK K z22 z23
        refine o1 4 (fun K hK => ?_)
        go_simp
        (with_reducible refine (HC1.out V0 HV0.out).mono ?_)
        rintro e V3 ⟨A2,c2,b2,rfl,hm3,hs3,hb3⟩
        have HM4:=Lib.hid (And.intro hm3 (hs3.base (B2:=bx) (Nat.lt_of_lt_of_le HBX.out.2.1 HV0.out.size)))
        have HV3:=Lib.hid (HV0.out.chain hb3)
        clear hm3 hs3 hb3
        refine hK _ _ trivial ?_
        clear hK K
        refine tk 10 36 (.pointer (some ⟨bx,22,none⟩)) trivial ?v ?_
        case v => intro Wx hSx;go_simp
        refine o1 9 (fun K hK => ?_)
        go_simp
        (with_reducible refine (HC2.out V3 HV3.out).mono ?_)
        rintro e V4 ⟨A4,c4,o2,rfl,hm4,hs4,hb4⟩
        have HM9:=Lib.hid (And.intro hm4 (hs4.base (B2:=bx) (Nat.lt_of_lt_of_le HBX.out.2.1 HV3.out.size)))
        have HM5:=Lib.hid (HM4.out.2.later hb4)
        have HV4:=Lib.hid (HV3.out.chain hb4)
        clear hm4 hs4 hb4
        refine hK _ _ trivial ?_
        clear hK K
        refine o1 11 (fun K hK => ?_)
        obtain ⟨x22,f22,x23,f23⟩:=HF.out _ HV4.out
        go_simp
        refine hK _ _ trivial ?_
        clear hK K x22 f22 x23 f23
        refine tk 12 37 (.pointer (some ⟨bx,23,none⟩)) trivial ?v ?_
        case v => intro Wx hSx;go_simp
        simp only [Act.put,List.setIfInBounds_toArray,List.set_cons_zero,List.set_cons_succ]
        refine o1 13 (fun K hK => ?_)
        obtain ⟨x23,f23⟩:=HF2.out _ HV4.out (.slice A2 b2.length c2)
        go_simp
        refine hK _ _ trivial ?_
        clear hK K x23 f23
        refine wpAnyH_done (by kernel_rfl) ?_ _
        go_wp2
        go_meet
        exact mvcut_of HBX.out.1 HBX.out.2 HV4.out HM4.out.1 HM9.out.1 HM5.out HM9.out.2
      ·obtain ⟨z22,z23⟩:=HZ.out _ HV0.out
       go_simp
       refine hK _ _ trivial ?_
       clear hK K z22 z23
       refine o1 1 (fun K hK => ?_)
       obtain ⟨z22,z23⟩:=HZ.out _ HV0.out
       go_simp
       refine hK _ _ trivial ?_
       clear hK K z22 z23
       refine o1 4 (fun K hK => ?_)
       go_simp
       (with_reducible refine (HC1.out V0 HV0.out).mono ?_)
       rintro e V5 ⟨A2,c2,b2,rfl,hm5,hs5,hb5⟩
       have HM4:=Lib.hid (And.intro hm5 (hs5.base (B2:=bx) (Nat.lt_of_lt_of_le HBX.out.2.1 HV0.out.size)))
       have HV5:=Lib.hid (HV0.out.chain hb5)
       clear hm5 hs5 hb5
       refine hK _ _ trivial ?_
       clear hK K
       refine tk 10 36 (.pointer (some ⟨bx,22,none⟩)) trivial ?v ?_
       case v => intro Wx hSx;go_simp
       refine o1 9 (fun K hK => ?_)
       go_simp
       (with_reducible refine (HC2.out V5 HV5.out).mono ?_)
       rintro e V6 ⟨A4,c4,o2,rfl,hm6,hs6,hb6⟩
       have HM9:=Lib.hid (And.intro hm6 (hs6.base (B2:=bx) (Nat.lt_of_lt_of_le HBX.out.2.1 HV5.out.size)))
       have HM5:=Lib.hid (HM4.out.2.later hb6)
       have HV6:=Lib.hid (HV5.out.chain hb6)
       clear hm6 hs6 hb6
       refine hK _ _ trivial ?_
       clear hK K
       refine o1 11 (fun K hK => ?_)
       obtain ⟨x22,f22,x23,f23⟩:=HF.out _ HV6.out
       go_simp
       refine hK _ _ trivial ?_
       clear hK K x22 f22 x23 f23
       refine tk 12 37 (.pointer (some ⟨bx,23,none⟩)) trivial ?v ?_
       case v => intro Wx hSx;go_simp
       simp only [Act.put,List.setIfInBounds_toArray,List.set_cons_zero,List.set_cons_succ]
       refine o1 13 (fun K hK => ?_)
       obtain ⟨x23,f23⟩:=HF2.out _ HV6.out (.slice A2 b2.length c2)
       go_simp
       refine hK _ _ trivial ?_
       clear hK K x23 f23
       refine wpAnyH_done (by kernel_rfl) ?_ _
       go_wp2
       go_meet
       exact mvcut_of HBX.out.1 HBX.out.2 HV6.out HM4.out.1 HM9.out.1 HM5.out HM9.out.2
     case rest =>
      obtain ⟨b2,o2,A2,A4,c2,c4,W,rfl,hbox,hm1,hm2,hs1,hs2,hbel⟩:=hcut
      obtain ⟨hng,hcs,hcs1,hp,hq,hcz⟩:=HG.out
      obtain ⟨cs2,hcs2⟩ : ∃ cs2,cs2 = (cs1.setIfInBounds 22 (.slice A2 b2.length c2)).setIfInBounds 23 (.slice A4 o2.length c4):=⟨_,rfl⟩
      have hst2 : cs2 = stCs (reD d A2 c2 A4 c4) (reS s p q b2 o2):=by rw [hcs2,hcs1,hcs];exact reS_cells d s p q b2 o2 A2 c2 A4 c4
      rw [← hcs2] at hbox
      have hcz2 : cs2.size = 24:=by rw [hst2];exact stCs_size _ _
      have hone2 : ∀ u ∈ cs2.toList,u.oneCell' = true:=by rw [hst2];exact stCs_oneM _ _
      have hl2 : (loadCellsFrom ⟨bx,0,none⟩ 0 N #[]).run Tryz.prog W = .ok cs2 W:=load_list (fun j v hv => by rw [add_block0];exact cell_of_block hbox j hv) (hcz2.trans HN.out.1.symm)
      have hszc2 : cs2.size = N:=hcz2.trans HN.out.1.symm
      have hbxw : w.heap.size ≤ bx:=by rw [HB01.out.2.1];exact HO.out.2.2.2.1.size
      have hb2 : Below bx wr W:=HB01.out.1.trans hbel
      have H1 : Hid (W.ownsRow w.heap.size 50 24 u5 ng xs):=Lib.hid (by rw [hng];exact own_below HO.out.1 (by rw [← HB01.out.2.1];exact hb2) (fun g hg => (own_lt HO.out.1 g hg).2))
      have HBW : Hid (Below w.heap.size w W):=Lib.hid (HO.out.2.2.2.1.trans (hb2.mono hbxw))
      have HE:=Lib.hid (And.intro hm1 (And.intro hm2 (And.intro hs1 (And.intro hs2 (And.intro hst2 (And.intro hone2 hb2))))))
      clear hbox hm1 hm2 hs1 hs2 hbel hng hcs hcs1 hp hq hcz hcs2 hst2 hone2 hb2 hbxw
      go_wp2_with (first
       | (refine wpList_srowM 40 rfl rfl (.tmp 39) rfl cs2 hcz2 rfl ?_)
       | (at_builtin;refine wpList_append_any (o:=⟨some 41,_,_,_,_,_⟩) _ rfl _ _ 38 rfl w.heap.size 50 i0 _ 24 368 Tryz.underlying38 HI0.out.1 HI0.out.2.1 HI0.out.2.2.1 HI0.out.2.2.2 rfl (by decide) _ ng xs rfl (H1.out.alloc _) (W.heap.size + 1) (some ⟨W.heap.size,0,none⟩) 1 1 cs2.toList rfl (reads_one hcz2) HE.out.2.2.2.2.2.1 (by unfold maxLen;omega) (by omega) (below_al HBW.out _).size ?_))
      intro v' w6 o6 g6 hat6
      have H6:=Lib.hid (And.intro o6 (And.intro g6 hat6))
      clear o6 g6 hat6
      go_wp2
      go_roundg (n - (k + 1))
      case measure => have := HO.out.2.2.2.2.2;omega
      case rel =>
       obtain ⟨hm1,hm2,hs1,hs2,hst2,hone2,hb2⟩:=HE.out
       obtain ⟨o6,g6,hat6⟩:=H6.out
       obtain ⟨hng,hcs,hcs1,hp,hq,hcz⟩:=HG.out
       rw [HB01.out.2.1] at hs1 hs2 hb2
       rw [hst2] at o6
       rw [hng] at o6
       have hbw:=HO.out.2.2.2.1
       have hba : Below W.heap.size W (W.alloc (.cells cs2 50)):=below_alloc W _
       have hl1 : b2.length ≤ maxLen:=by rw [← mv_len hm1,HBE.out.1];exact HLn.out.1
       have hl2 : o2.length ≤ maxLen:=by rw [← mv_len hm2,HBE.out.2];exact HLn.out.2
       have hel : ElIn (fun b => b < B ∨ wr.heap.size < b) (W.alloc (.cells cs2 50)) (reD d A2 c2 A4 c4) (reS s p q b2 o2):=by
        obtain ⟨q1,q2⟩:=reS_body s p q b2 o2
        refine ⟨?_,?_,?_⟩
        ·exact (reS_own HEl.out p q hl1 hl2 A2 c2 A4 c4).stay (fun z hz => ((HBW.out.trans (hba.mono HBW.out.size)).cell (Nat.lt_of_lt_of_le hz HB.out))) (fun b hb => .inl hb)
        ·rw [q1];exact hs1.later hba
        ·rw [q2];exact hs2.later hba
       refine ⟨k + 1,ms ++ [reS s p q b2 o2],rfl,(by have := HO.out.2.2.2.2.2;omega),by go_num,Lib.hid ⟨?_,Moved.next HB.out HO.out.1 HO.out.2.1 HO.out.2.2.1 (hb2.trans (hba.mono hb2.size)) hel o6 g6 (by rw [size_of_alloc];exact hat6) hbw.size ?_⟩⟩
       ·rw [hp,hq]
        exact reS_snoc HI.out.1 HO.out.2.2.2.2.1 (by rw [← HBE.out.1];exact hm1) (by rw [← HBE.out.2];exact hm2)
       ·exact (below_al HBW.out _).trans (below_grown (H1.out.alloc _) g6 (below_al HBW.out _).size)
    ·obtain rfl : k = n:=by omega
     go_wp2
     go_ret
     obtain ⟨h1,h2⟩:=HI.out
     rw [List.take_of_length_le (by rw [← HH.out.2.2.2.1];exact Nat.le_refl _)] at h1
     obtain ⟨A',c',hv,hs⟩:=h2.row
     obtain ⟨_,_,_,_,_,hb⟩:=h2
     exact ⟨A',c',ms,by rw [hv];rfl,h1,hs,hb⟩
end Go.Proofs.YtehmoomoocdidaaGreatDoor
