/-
  clone.stmtsWithin, at any row; clone.Stmts.
  tree.Walk at any list: what its iterator yields, in order.
  A fresh row of one statement.
-/
import Derived.Test.YtnkpgpmaiicdeaaGreatDoorSTreeCj
set_option linter.unusedVariables false
set_option linter.unusedSimpArgs false
namespace Go.Proofs.YtnkpgpmaiicdeaaGreatDoor
set_option maxRecDepth 100000
set_option maxHeartbeats 1000000
open Go.RowKit
inductive WS : List St → Prop
 | mk (l : List St) (own : ∀ x ∈ l,WOwn x) (len : l.length * 368 ≤ 140737488355328) (sub1 : ∀ x ∈ l,WS x.body) (sub2 : ∀ x ∈ l,WS x.els) : WS l
theorem vst_subs : SubsV VSt:=by
 rintro w0 w B cs x hs ⟨d,h1,h2,h3,h4⟩
 obtain ⟨k0,ln,co,nm,fd,fr,⟨ek,en,es,el⟩,⟨ck,⟨ak,an,sa,al⟩,⟨bk,bn,sb,bl⟩,l⟩,cl,iv,bd,ot⟩:=x
 obtain ⟨m,re,ra,rb,rl,rc,ri⟩:=h2
 exact ⟨d,h1,⟨m,re.sub hs,ra.sub hs,rb.sub hs,rl.sub hs,rc.sub cal_subs hs,ri.sub fm_subs hs⟩,h3.sub hs,h4.sub hs⟩
theorem vin_staysB {α : Type} (V : World → Nat → Array Value → α → Prop) (B0 : Nat) (x : α) : StaysB B0 (fun B cs W => VInC V (fun b => b < B0 ∨ B ≤ b) W cs x) :=
 ⟨fun B cs W W' h hp => by
   obtain ⟨w0,h1,h2⟩:=h
   refine ⟨w0,fun q v hq => ?_,h2⟩
   obtain ⟨j1,j2⟩:=h1 q v hq
   have j3 : q.block < B0 ∨ B ≤ q.block:=j2
   exact ⟨(hp.cell (lt_of_cell j1) (by omega)).trans j1,j2⟩,
  fun B B' cs W h hB => by
   obtain ⟨w0,h1,h2⟩:=h
   refine ⟨w0,fun q v hq => ?_,h2⟩
   obtain ⟨j1,j2⟩:=h1 q v hq
   have j3 : q.block < B0 ∨ B ≤ q.block:=j2
   exact ⟨j1,by omega⟩⟩
theorem CpRow.rowInB {α : Type} {V : World → Nat → Array Value → α → Prop} (hV : SubsV V) {S : Nat → Prop} {R : Nat → Nat → Array Value → World → Prop} {g m : Nat} {outs : List (Array Value)} {w W : World} (h : CpRow R g m m outs w W) (hg : ∀ b,g ≤ b → S b) {l : List α} (hl : l.length = m)
 (hR : ∀ i x cs,l[i]? = some x → R i (g + 1) cs W → VInC V S W cs x) : RowInC V 24 S W l (some ⟨g,0,none⟩):=by
 obtain ⟨cur,hc,hs,ht⟩:=h.row
 refine ⟨World.mask W S,mask_in W _,fun i x hi => ?_⟩
 have hlt:=(List.getElem?_eq_some_iff.1 hi).1
 have hlen:=h.len
 obtain ⟨c,hci⟩ : ∃ c,outs[i]? = some c:=⟨_,List.getElem?_eq_getElem (by omega)⟩
 have hcz:=h.sz c (List.mem_of_getElem? hci)
 refine ⟨⟨g,0,none⟩,c,rfl,?_,hcz,fun j v hv => ?_,(hR i x c hi (h.rel i c hci)).maskV hV (fun b hb => hb)⟩
 ·have := (Array.getElem?_eq_some_iff.1 hc).1
  unfold World.mask
  simpa using this
 ·have hj : j < 24:=by rw [← hcz];exact (Array.getElem?_eq_some_iff.1 hv).1
  rw [add_add_plain,add_block0,mask_at W _ ⟨g,_,none⟩ (hg g (Nat.le_refl g))]
  refine cell_of_block hc _ ?_
  have h1:=flatC_get h.sz i j c hci hj
  rw [← ht,hv,List.getElem?_take] at h1
  split at h1
  ·simpa using h1
  ·cases h1
theorem list_none (c p : Nat) (w : World) : Calls Tryz.prog 85 #[.slice none 0 c,.func (.func 86) #[] #[.pointer (some ⟨p,0,none⟩)]] w fun e w' => e = .returned (.slice none 0 0) ∧ Below w.heap.size w w':=by
 have hq:=Lib.run_eql_slice_nil (P:=Tryz.prog) w 22 40 none 0 c 0 0 Tryz.underlying22
 go_enter Tryz.func85,Tryz.ntmps85
 go_wp2
 go_ret
 exact ⟨rfl,Below.refl _ _⟩
theorem within_zero (A : Option Addr) (n c : Nat) (w : World) : Calls Tryz.prog 45 #[.slice A n c,.int .i64 0] w fun e w' => e = .returned (.slice A n c) ∧ Below w.heap.size w w':=by
 have hb:=below_alloc w (.cells #[.int .i64 0] 3)
 have HB:=Lib.hid hb
 clear hb
 go_enter Tryz.func45,Tryz.ntmps45
 go_wp2
 go_ret
 exact ⟨rfl,HB.out⟩
theorem within_none (c : Nat) (lv : Int) (w : World) (h : 1 ≤ lv) : Calls Tryz.prog 45 #[.slice none 0 c,.int .i64 lv] w fun e w' => e = .returned (.slice none 0 0) ∧ Below w.heap.size w w':=by
 have hz:=size_of_alloc w (.cells #[.int .i64 lv] 3)
 have HB:=Lib.hid (below_alloc w (.cells #[.int .i64 lv] 3))
 have HL:=Lib.hid (list_none c w.heap.size (w.alloc (.cells #[.int .i64 lv] 3)))
 have h0 : ¬ lv = 0:=by omega
 go_enter Tryz.func45,Tryz.ntmps45
 go_wp2_with (go_at_call 85;refine HL.out.mono ?_;rintro e w3 ⟨rfl,hb⟩;have HC:=Lib.hid hb;clear hb)
 go_ret
 exact ⟨rfl,HB.out.chain HC.out⟩
theorem cstmts_any {l : List St} (hw : WS l) : ∀ (B0 : Nat) (lv : Int) (A : Option Addr) (c : Nat) (w : World),B0 ≤ w.heap.size → 0 ≤ lv → lv ≤ 9223372036854775807 → StRow w B0 l A →
 Calls Tryz.prog 45 #[.slice A l.length c,.int .i64 lv] w (CopyRowB B0 l w):=by
 induction hw with
 | mk l own len _ _ ih1 ih2 =>
   intro B0 lv A c w hB0 hlv0 hlv hr
   by_cases h0 : lv = 0
   ·subst h0
    refine (within_zero A l.length c w).mono ?_
    rintro e w' ⟨rfl,hb⟩
    have hr' : StRow w' B0 l A:=hr.keep (fun q hq => hb.cell (Nat.lt_of_lt_of_le hq hB0)) (Nat.le_refl _)
    refine ⟨A,c,rfl,⟨World.mask w' (fun b => b < B0 ∨ w.heap.size ≤ b),mask_in _ _,(hr'.keep (fun q hq => mask_at _ _ q (.inl hq)) ?_).rowV⟩,hb⟩
    have := hb.size
    unfold World.mask
    simp
    omega
   ·cases A with
    | none =>
      have hl : l = []:=by
       cases hr with
       | nil => rfl
      subst hl
      refine (within_none c lv w (by omega)).mono ?_
      rintro e w' ⟨rfl,hb⟩
      exact ⟨none,0,rfl,rowIn_nil _ _ _ _ _,hb⟩
    | some a =>
      obtain ⟨ins,hlen,hin⟩:=row_ins hr.rowV
      have hst : ∀ i : Nat,StaysB B0 (fun B cs W => ∃ x,l[i]? = some x ∧ VInC VSt (fun b => b < B0 ∨ B ≤ b) W cs x):=fun i =>
       ⟨fun B v W W' h hp => by obtain ⟨x,h1,h2⟩:=h;exact ⟨x,h1,(vin_staysB VSt B0 x).part B v W W' h2 hp⟩,fun B B' v W h hB => by obtain ⟨x,h1,h2⟩:=h;exact ⟨x,h1,(vin_staysB VSt B0 x).mono B B' v W h2 hB⟩⟩
      refine (copyStmts_anyB (B0:=B0) (fun (i : Nat) B cs W => ∃ x,l[i]? = some x ∧ VInC VSt (fun b => b < B0 ∨ B ≤ b) W cs x) hst ins
       (fun cs hcs => by obtain ⟨i,hi,rfl⟩:=List.getElem_of_mem hcs;obtain ⟨x,_,h2,_⟩:=hin i _ (List.getElem?_eq_getElem hi);exact h2)
       (fun i cs hi => by
         obtain ⟨x,_,_,_,d,rfl,_⟩:=hin i cs hi
         rw [Array.all_eq_true_iff_forall_mem]
         exact fun u hu => stCs_oneM d x u (by simpa using hu)) a l.length c lv w len hlen hB0 (fun h1 => by
         obtain ⟨a',cs,ha,h2,_⟩:=hr.rowV 0 l[0] (List.getElem?_eq_getElem h1)
         obtain rfl:=Option.some.inj ha
         exact Nat.lt_of_lt_of_le h2 hB0) (by omega) hlv (fun i cs hi j v hj => by obtain ⟨x,_,_,h3,_⟩:=hin i cs hi;exact h3 j v hj) (fun i cs W hi hW => by
         obtain ⟨x,h1,h2,h3,d,hcs,h4,h5,h6⟩:=hin i cs hi
         have hx:=List.mem_of_getElem? h1
         have on : ∀ {W' : World},Below w.heap.size w W' → ∀ q : Addr,q.block < B0 → W'.cell? q = w.cell? q:=fun hb q hq => hb.cell (Nat.lt_of_lt_of_le hq hB0)
         have hBW : B0 ≤ W.heap.size:=Nat.le_trans hB0 hW.size
         refine (cstmt_any B0 x (own x hx) (lv - 1) cs d W hBW hcs (h4.keep (on hW) (Nat.le_refl _))
          (fun W' hb => ih1 x hx B0 (lv - 1) d.s d.ns W' (Nat.le_trans hBW hb.size) (by omega) (by omega) (h5.keep (on (hW.trans (hb.mono hW.size))) (Nat.le_refl _)))
          (fun W' hb => ih2 x hx B0 (lv - 1) d.t d.nt W' (Nat.le_trans hBW hb.size) (by omega) (by omega) (h6.keep (on (hW.trans (hb.mono hW.size))) (Nat.le_refl _)))).mono ?_
         rintro e w' ⟨cs',e1,e2,e3,e4,e5⟩
         exact ⟨cs',e1,e2,e3,⟨x,h1,e4⟩,e5⟩)).mono ?_
      rintro e w' ⟨g,outs,rfl,hg,hcp⟩
      refine ⟨_,_,rfl,hcp.rowInB vst_subs (fun b hb => .inr (Nat.le_trans hg hb)) rfl (fun i x cs hi hR => ?_),hcp.below⟩
      obtain ⟨y,h1,x0,h2,h3⟩:=hR
      obtain rfl:=Option.some.inj (hi.symm.trans h1)
      refine ⟨x0,fun q v hq => ?_,h3⟩
      obtain ⟨j1,j2⟩:=h2 q v hq
      have j3 : q.block < B0 ∨ g + 1 ≤ q.block:=j2
      exact ⟨j1,by omega⟩
theorem cstmts_top {l : List St} (hw : WS l) (B0 : Nat) (A : Option Addr) (c : Nat) (w : World) (hB0 : B0 ≤ w.heap.size) (hr : StRow w B0 l A) :
 Calls Tryz.prog 27 #[.slice A l.length c] w (CopyRowB B0 l w):=by
 have H:=Lib.hid (cstmts_any hw B0 9223372036854775807 A c w hB0 (by omega) (by omega) hr)
 obtain ⟨n,hn⟩ : ∃ n,n = l.length:=⟨_,rfl⟩
 rw [← hn] at H ⊢
 have HN:=Lib.hid hn
 clear hw hB0 hr hn
 go_enter Tryz.func27,Tryz.ntmps27
 go_wp2_with (go_at_call 45;refine H.out.mono ?_;rintro e w3 ⟨A',c',rfl,hq⟩;have HP:=Lib.hid hq;clear hq)
 go_ret
 exact ⟨A',c',rfl,HP.out⟩
end Go.Proofs.YtnkpgpmaiicdeaaGreatDoor
namespace Go.Proofs.YtnkpgpmaiicdeaaGreatDoor
set_option maxRecDepth 100000
set_option maxHeartbeats 1000000
open Go.RowKit
theorem StRow.rest_of {w : World} {B : Nat} {x : St} {l : List St} {a : Addr} (h : StRow w B (x :: l) (some a)) : StRow w B l (some (a.add 24)):=by
 cases h with
 | row a ss D hb cells sub1 sub2 =>
   refine .row (a.add 24) l (fun i => D (i + 1)) (by rw [show (a.add 24).block = a.block by unfold Addr.add;split <;> rfl];exact hb) (fun i s hi => ⟨fun j v hv => ?_,(cells (i + 1) s hi).2⟩) (fun i s hi => sub1 (i + 1) s hi) (fun i s hi => sub2 (i + 1) s hi)
   have := (cells (i + 1) s hi).1 j v hv
   rw [add_add_plain] at this
   rw [add_add_plain,add_add_plain]
   rwa [show 24 + (i * 24 + j) = (i + 1) * 24 + j from by omega]
theorem stOwn_len {w : World} {B : Nat} {d : SAd} {x : St} (h : StOwn w B d x) : x.body.length ≤ maxLen ∧ x.els.length ≤ maxLen:=by
 obtain ⟨k0,ln,co,nm,fd,fr,⟨ek,en,es,el⟩,⟨ck,⟨ak,an,sa,al⟩,⟨bk,bn,sb,bl⟩,l⟩,cl,iv,bd,ot⟩:=x
 obtain ⟨⟨m0,m1,m2,m3,m4,m5,m6,m7,m8,m9,m10,m11,m12,m13⟩,_⟩:=h
 exact ⟨m12,m13⟩
theorem stCs_at0 (d : SAd) (x : St) : ∃ v,(stCs d x)[0]? = some v:=by
 have := stCs_size d x
 exact ⟨(stCs d x)[0],Array.getElem?_eq_getElem (by omega)⟩
theorem stCs_2223 (d : SAd) (x : St) : (stCs d x)[22]? = some (.slice d.s x.body.length d.ns) ∧ (stCs d x)[23]? = some (.slice d.t x.els.length d.nt):=by
 obtain ⟨k0,ln,co,nm,fd,fr,⟨ek,en,es,el⟩,⟨ck,⟨ak,an,sa,al⟩,⟨bk,bn,sb,bl⟩,l⟩,cl,iv,bd,ot⟩:=x
 exact ⟨rfl,rfl⟩
theorem st_ord {w W : World} {B : Nat} {Q : Nat → Prop} (hin : ∀ (q : Addr) (v : Value),w.cell? q = some v → W.cell? q = some v ∧ Q q.block) {l f : List St} (h : FlL l f) : ∀ A : Option Addr,StRow w B l A →
 ∃ ps : List (Array Value × St),Ord W Q A l.length (ps.map (·.1)) ∧ ps.map (·.2) = f ∧ ∀ p ∈ ps,VSt w B p.1 p.2:=by
 induction h with
 | nil => exact fun A _ => ⟨[],.nil A,rfl,fun p hp => by cases hp⟩
 | cons s l fb fo fl _ _ _ ih1 ih2 ih3 =>
   intro A hr
   obtain ⟨a,d,rfl,hab,hc,own,r1,r2⟩:=hr.at_ (i:=0) (s:=s) rfl
   rw [Nat.zero_mul,show a.add 0 = a by simp [Addr.add]] at hc
   obtain ⟨p1,o1,e1,g1⟩:=ih1 d.s r1
   obtain ⟨p2,o2,e2,g2⟩:=ih2 d.t r2
   obtain ⟨p3,o3,e3,g3⟩:=ih3 (some (a.add 24)) hr.rest_of
   obtain ⟨v0,hv0⟩:=stCs_at0 d s
   have h0:=hin _ _ (hc 0 v0 hv0)
   rw [show a.add 0 = a by simp [Addr.add]] at h0
   refine ⟨(stCs d s,s) :: (p1 ++ (p2 ++ p3)),?_,by simp [e1,e2,e3],fun p hp => ?_⟩
   ·rw [List.map_cons,List.map_append,List.map_append]
    exact .cons a l.length (stCs d s) d.s d.t s.body.length s.els.length d.ns d.nt _ _ _ h0.2 (lt_of_cell h0.1) (stCs_size d s) (by rw [Array.all_eq_true_iff_forall_mem];exact fun u hu => stCs_oneM d s u (by simpa using hu))
     (stOwn_len own).1 (stOwn_len own).2 (fun j v hv => (hin _ _ (hc j v hv)).1) (stCs_2223 d s).1 (stCs_2223 d s).2 o1 o2 o3
   ·rcases List.mem_cons.1 hp with rfl | hp
    ·exact ⟨d,rfl,own,r1,r2⟩
    ·rcases List.mem_append.1 hp with hp | hp
     ·exact g1 p hp
     ·rcases List.mem_append.1 hp with hp | hp
      ·exact g2 p hp
      ·exact g3 p hp
theorem ws_fl {l f : List St} (h : FlL l f) : WS l → ∀ x ∈ f,WOwn x ∧ WS x.body ∧ WS x.els:=by
 induction h with
 | nil => intro _ x hx;cases hx
 | cons s l fb fo fl _ _ _ ih1 ih2 ih3 =>
   intro hw x hx
   cases hw with
   | mk _ own len sub1 sub2 =>
     have hs:=List.mem_cons_self (a:=s) (l:=l)
     have len2 : l.length * 368 ≤ 140737488355328:=Nat.le_trans (Nat.mul_le_mul_right 368 (by rw [List.length_cons];exact Nat.le_succ _)) len
     rcases List.mem_cons.1 hx with rfl | hx
     ·exact ⟨own _ hs,sub1 _ hs,sub2 _ hs⟩
     ·rcases List.mem_append.1 hx with hx | hx
      ·rcases List.mem_append.1 hx with hx | hx
       ·exact ih1 (sub1 _ hs) x hx
       ·exact ih2 (sub2 _ hs) x hx
      ·exact ih3 (.mk l (fun y hy => own y (List.mem_cons_of_mem _ hy)) len2 (fun y hy => sub1 y (List.mem_cons_of_mem _ hy)) (fun y hy => sub2 y (List.mem_cons_of_mem _ hy))) x hx
def Walked (B0 : Nat) (l f : List St) (w : World) (e : Ending) (w' : World) : Prop :=
 ∃ (b : Nat) (A : Option Addr) (c : Nat) (w0 : World) (ps : List (Array Value × St)),e = .returned (.func (.func 28) #[] #[.pointer (some ⟨b,0,none⟩)]) ∧ w'.cell? ⟨b,0,none⟩ = some (.slice A l.length c) ∧ w.heap.size ≤ b ∧ b < w'.heap.size ∧
  In (fun k => (k < B0 ∨ w.heap.size ≤ k) ∧ k < w'.heap.size) w0 w' ∧ Ord w' (fun k => (k < B0 ∨ w.heap.size ≤ k) ∧ k < w'.heap.size) A l.length (ps.map (·.1)) ∧ ps.map (·.2) = f ∧ (∀ p ∈ ps,VSt w0 w0.heap.size p.1 p.2) ∧ Below w.heap.size w w'
theorem walk_any {l f : List St} (hw : WS l) (hf : FlL l f) (B0 : Nat) (A : Option Addr) (c : Nat) (w : World) (hB0 : B0 ≤ w.heap.size) (hr : StRow w B0 l A) :
 Calls Tryz.prog 8 #[.slice A l.length c] w (Walked B0 l f w):=by
 have H:=Lib.hid (fun W hb => cstmts_top hw B0 A c W (Nat.le_trans hB0 (Below.size hb)) (hr.keep (fun q hq => Below.cell (B:=w.heap.size) (w:=w) (w':=W) hb (Nat.lt_of_lt_of_le hq hB0)) (Nat.le_refl _)))
 obtain ⟨n,hn⟩ : ∃ n,n = l.length:=⟨_,rfl⟩
 rw [← hn] at H ⊢
 have HN:=Lib.hid (And.intro hn (And.intro hf hB0))
 clear hw hB0 hr hn hf
 go_enter Tryz.func8,Tryz.ntmps8
 go_wp2_with (go_at_call 27;refine (H.out _ (Below.refl _ _)).mono ?_;rintro e w3 ⟨A',c',rfl,hq⟩;have HP:=Lib.hid hq;clear hq)
 go_ret
 obtain ⟨hn,hf,hB0⟩:=HN.out
 obtain ⟨⟨w0,hin,hrow⟩,hb⟩:=HP.out
 have hsz:=size_of_alloc w3 (.cells #[.slice A' l.length c'] 22)
 have hal:=below_alloc w3 (.cells #[.slice A' l.length c'] 22)
 have hin2 : ∀ (q : Addr) (v : Value),w0.cell? q = some v → (w3.alloc (.cells #[.slice A' l.length c'] 22)).cell? q = some v ∧ ((q.block < B0 ∨ w.heap.size ≤ q.block) ∧ q.block < (w3.alloc (.cells #[.slice A' l.length c'] 22)).heap.size):=fun q v hq => by
  obtain ⟨j1,j2⟩:=hin q v hq
  have j3:=lt_of_cell j1
  exact ⟨(hal.cell j3).trans j1,j2,by omega⟩
 obtain ⟨ps,o1,o2,o3⟩:=st_ord (Q:=fun k => (k < B0 ∨ w.heap.size ≤ k) ∧ k < (w3.alloc (.cells #[.slice A' l.length c'] 22)).heap.size) hin2 hf A' (StRow.ofV hrow)
 refine ⟨w3.heap.size,A',c',w0,ps,rfl,cell_of_block (heap_of_alloc w3 _) 0 rfl,hb.size,by omega,hin2,o1,o2,o3,hb.chain hal⟩
def Yielded (f : List St) (k : Nat) (cs : Array Value) (W : World) : Prop:=∃ x,f[k]? = some x ∧ cs.size = 24 ∧ cs.all (·.oneCell') = true ∧ VSt W W.heap.size cs x
theorem walk_copy {f : List St} (hws : ∀ x ∈ f,WOwn x ∧ WS x.body ∧ WS x.els) {Q : Nat → Prop} {w0 w : World} (hin : In Q w0 w) {ps : List (Array Value × St)} (hf : ps.map (·.2) = f) (hv : ∀ p ∈ ps,VSt w0 w0.heap.size p.1 p.2)
 (k : Nat) (cs : Array Value) (W : World) (hk : (ps.map (·.1))[k]? = some cs) (hQ : ∀ b,Q b → W.heap[b]? = w.heap[b]?) :
 Calls Tryz.prog 30 #[.agg cs,.int .i64 30] W fun e W' => ∃ cs' : Array Value,e = .returned (.agg cs') ∧ Yielded f k cs' W' ∧ Below W.heap.size W W':=by
 rw [List.getElem?_map] at hk
 cases e : ps[k]? with
 | none => rw [e] at hk;cases hk
 | some p =>
   rw [e] at hk
   obtain rfl : p.1 = cs:=by simpa using hk
   have hx : f[k]? = some p.2:=by rw [← hf,List.getElem?_map,e];rfl
   obtain ⟨h1,h2,h3⟩:=hws _ (List.mem_of_getElem? hx)
   have hsub : Sub w0 W:=fun q v hq => by
    obtain ⟨j1,j2⟩:=hin q v hq
    exact (World.cell?_of_block (hQ _ j2)).trans j1
   obtain ⟨d,hcs,hown,r1,r2⟩:=vst_subs w0 W _ _ _ hsub (hv p (List.mem_of_getElem? e))
   refine (cstmt_any W.heap.size p.2 h1 30 p.1 d W (Nat.le_refl _) hcs hown
    (fun W' hb => cstmts_any h2 W.heap.size 30 d.s d.ns W' hb.size (by omega) (by omega) (r1.keep (fun q hq => hb.cell hq) (Nat.le_refl _)))
    (fun W' hb => cstmts_any h3 W.heap.size 30 d.t d.nt W' hb.size (by omega) (by omega) (r2.keep (fun q hq => hb.cell hq) (Nat.le_refl _)))).mono ?_
   rintro e w' ⟨cs',rfl,e2,e3,e4,e5⟩
   exact ⟨cs',rfl,⟨p.2,hx,e2,e3,e4.out vst_subs⟩,e5⟩
end Go.Proofs.YtnkpgpmaiicdeaaGreatDoor
namespace Go.Proofs.YtnkpgpmaiicdeaaGreatDoor
open Go.RowKit
theorem st_fresh {W W' : World} {cs : Array Value} {x : St} {R : Nat} (hv : VSt W W.heap.size cs x) (hb : Below W.heap.size W W') (hR : R < W'.heap.size) (hc : ∀ (j : Nat) v,cs[j]? = some v → W'.cell? ⟨R,j,none⟩ = some v) : StRow W' W'.heap.size [x] (some ⟨R,0,none⟩):=by
 obtain ⟨d,rfl,hown,r1,r2⟩:=hv
 refine .row ⟨R,0,none⟩ [x] (fun _ => d) hR (fun i y hy => ?_) (fun i y hy => ?_) (fun i y hy => ?_)
 all_goals
  match i,hy with
  | 0,hy =>
    obtain rfl : x = y:=Option.some.inj hy
    first
     | exact ⟨fun j v hv => by rw [add_add_plain,add_block0];simpa using hc j v hv,hown.keep (fun q hq => hb.cell hq) hb.size⟩
     | exact r1.keep (fun q hq => hb.cell hq) hb.size
     | exact r2.keep (fun q hq => hb.cell hq) hb.size
  | i + 1,hy => simp at hy
end Go.Proofs.YtnkpgpmaiicdeaaGreatDoor
