/-
  clone.stmtsWithin, at any row; clone.Stmts.
-/
import Derived.Test.YtnkpgpmaiicdeaaGreatDoorSTreeCj
set_option linter.unusedVariables false
set_option linter.unusedSimpArgs false
namespace Go.Proofs.YtnkpgpmaiicdeaaGreatDoor
set_option maxRecDepth 100000
set_option maxHeartbeats 1000000
open Go.RowKit
inductive WS : List St → Prop
 | mk (l : List St) (own : ∀ x ∈ l,WOwn x) (len : l.length * 368 ≤ 140737488355328) (sub1 : ∀ x ∈ l,WS x.body) (sub2 : ∀ x ∈ l,WS x.els) : WS l
theorem vst_subs : SubsV VSt:=by
 rintro w0 w B cs x hs ⟨d,h1,h2,h3,h4⟩
 obtain ⟨k0,ln,co,nm,fd,fr,⟨ek,en,es,el⟩,⟨ck,⟨ak,an,sa,al⟩,⟨bk,bn,sb,bl⟩,l⟩,cl,iv,bd,ot⟩:=x
 obtain ⟨m,re,ra,rb,rl,rc,ri⟩:=h2
 exact ⟨d,h1,⟨m,re.sub hs,ra.sub hs,rb.sub hs,rl.sub hs,rc.sub cal_subs hs,ri.sub fm_subs hs⟩,h3.sub hs,h4.sub hs⟩
theorem vin_staysB {α : Type} (V : World → Nat → Array Value → α → Prop) (B0 : Nat) (x : α) : StaysB B0 (fun B cs W => VInC V (fun b => b < B0 ∨ B ≤ b) W cs x) :=
 ⟨fun B cs W W' h hp => by
   obtain ⟨w0,h1,h2⟩:=h
   refine ⟨w0,fun q v hq => ?_,h2⟩
   obtain ⟨j1,j2⟩:=h1 q v hq
   have j3 : q.block < B0 ∨ B ≤ q.block:=j2
   exact ⟨(hp.cell (lt_of_cell j1) (by omega)).trans j1,j2⟩,
  fun B B' cs W h hB => by
   obtain ⟨w0,h1,h2⟩:=h
   refine ⟨w0,fun q v hq => ?_,h2⟩
   obtain ⟨j1,j2⟩:=h1 q v hq
   have j3 : q.block < B0 ∨ B ≤ q.block:=j2
   exact ⟨j1,by omega⟩⟩
theorem CpRow.rowInB {α : Type} {V : World → Nat → Array Value → α → Prop} (hV : SubsV V) {S : Nat → Prop} {R : Nat → Nat → Array Value → World → Prop} {g m : Nat} {outs : List (Array Value)} {w W : World} (h : CpRow R g m m outs w W) (hg : ∀ b,g ≤ b → S b) {l : List α} (hl : l.length = m)
 (hR : ∀ i x cs,l[i]? = some x → R i (g + 1) cs W → VInC V S W cs x) : RowInC V 24 S W l (some ⟨g,0,none⟩):=by
 obtain ⟨cur,hc,hs,ht⟩:=h.row
 refine ⟨World.mask W S,mask_in W _,fun i x hi => ?_⟩
 have hlt:=(List.getElem?_eq_some_iff.1 hi).1
 have hlen:=h.len
 obtain ⟨c,hci⟩ : ∃ c,outs[i]? = some c:=⟨_,List.getElem?_eq_getElem (by omega)⟩
 have hcz:=h.sz c (List.mem_of_getElem? hci)
 refine ⟨⟨g,0,none⟩,c,rfl,?_,hcz,fun j v hv => ?_,(hR i x c hi (h.rel i c hci)).maskV hV (fun b hb => hb)⟩
 ·have := (Array.getElem?_eq_some_iff.1 hc).1
  unfold World.mask
  simpa using this
 ·have hj : j < 24:=by rw [← hcz];exact (Array.getElem?_eq_some_iff.1 hv).1
  rw [add_add_plain,add_block0,mask_at W _ ⟨g,_,none⟩ (hg g (Nat.le_refl g))]
  refine cell_of_block hc _ ?_
  have h1:=flatC_get h.sz i j c hci hj
  rw [← ht,hv,List.getElem?_take] at h1
  split at h1
  ·simpa using h1
  ·cases h1
theorem list_none (c p : Nat) (w : World) : Calls Tryz.prog 85 #[.slice none 0 c,.func (.func 86) #[] #[.pointer (some ⟨p,0,none⟩)]] w fun e w' => e = .returned (.slice none 0 0) ∧ Below w.heap.size w w':=by
 have hq:=Lib.run_eql_slice_nil (P:=Tryz.prog) w 22 40 none 0 c 0 0 Tryz.underlying22
 go_enter Tryz.func85,Tryz.ntmps85
 go_wp2
 go_ret
 exact ⟨rfl,Below.refl _ _⟩
theorem within_zero (A : Option Addr) (n c : Nat) (w : World) : Calls Tryz.prog 45 #[.slice A n c,.int .i64 0] w fun e w' => e = .returned (.slice A n c) ∧ Below w.heap.size w w':=by
 have hb:=below_alloc w (.cells #[.int .i64 0] 3)
 have HB:=Lib.hid hb
 clear hb
 go_enter Tryz.func45,Tryz.ntmps45
 go_wp2
 go_ret
 exact ⟨rfl,HB.out⟩
theorem within_none (c : Nat) (lv : Int) (w : World) (h : 1 ≤ lv) : Calls Tryz.prog 45 #[.slice none 0 c,.int .i64 lv] w fun e w' => e = .returned (.slice none 0 0) ∧ Below w.heap.size w w':=by
 have hz:=size_of_alloc w (.cells #[.int .i64 lv] 3)
 have HB:=Lib.hid (below_alloc w (.cells #[.int .i64 lv] 3))
 have HL:=Lib.hid (list_none c w.heap.size (w.alloc (.cells #[.int .i64 lv] 3)))
 have h0 : ¬ lv = 0:=by omega
 go_enter Tryz.func45,Tryz.ntmps45
 go_wp2_with (go_at_call 85;refine HL.out.mono ?_;rintro e w3 ⟨rfl,hb⟩;have HC:=Lib.hid hb;clear hb)
 go_ret
 exact ⟨rfl,HB.out.chain HC.out⟩
theorem cstmts_any {l : List St} (hw : WS l) : ∀ (B0 : Nat) (lv : Int) (A : Option Addr) (c : Nat) (w : World),B0 ≤ w.heap.size → 0 ≤ lv → lv ≤ 9223372036854775807 → StRow w B0 l A →
 Calls Tryz.prog 45 #[.slice A l.length c,.int .i64 lv] w (CopyRowB B0 l w):=by
 induction hw with
 | mk l own len _ _ ih1 ih2 =>
   intro B0 lv A c w hB0 hlv0 hlv hr
   by_cases h0 : lv = 0
   ·subst h0
    refine (within_zero A l.length c w).mono ?_
    rintro e w' ⟨rfl,hb⟩
    have hr' : StRow w' B0 l A:=hr.keep (fun q hq => hb.cell (Nat.lt_of_lt_of_le hq hB0)) (Nat.le_refl _)
    refine ⟨A,c,rfl,⟨World.mask w' (fun b => b < B0 ∨ w.heap.size ≤ b),mask_in _ _,(hr'.keep (fun q hq => mask_at _ _ q (.inl hq)) ?_).rowV⟩,hb⟩
    have := hb.size
    unfold World.mask
    simp
    omega
   ·cases A with
    | none =>
      have hl : l = []:=by
       cases hr with
       | nil => rfl
      subst hl
      refine (within_none c lv w (by omega)).mono ?_
      rintro e w' ⟨rfl,hb⟩
      exact ⟨none,0,rfl,rowIn_nil _ _ _ _ _,hb⟩
    | some a =>
      obtain ⟨ins,hlen,hin⟩:=row_ins hr.rowV
      have hst : ∀ i : Nat,StaysB B0 (fun B cs W => ∃ x,l[i]? = some x ∧ VInC VSt (fun b => b < B0 ∨ B ≤ b) W cs x):=fun i =>
       ⟨fun B v W W' h hp => by obtain ⟨x,h1,h2⟩:=h;exact ⟨x,h1,(vin_staysB VSt B0 x).part B v W W' h2 hp⟩,fun B B' v W h hB => by obtain ⟨x,h1,h2⟩:=h;exact ⟨x,h1,(vin_staysB VSt B0 x).mono B B' v W h2 hB⟩⟩
      refine (copyStmts_anyB (B0:=B0) (fun (i : Nat) B cs W => ∃ x,l[i]? = some x ∧ VInC VSt (fun b => b < B0 ∨ B ≤ b) W cs x) hst ins
       (fun cs hcs => by obtain ⟨i,hi,rfl⟩:=List.getElem_of_mem hcs;obtain ⟨x,_,h2,_⟩:=hin i _ (List.getElem?_eq_getElem hi);exact h2)
       (fun i cs hi => by
         obtain ⟨x,_,_,_,d,rfl,_⟩:=hin i cs hi
         rw [Array.all_eq_true_iff_forall_mem]
         exact fun u hu => stCs_oneM d x u (by simpa using hu)) a l.length c lv w len hlen hB0 (fun h1 => by
         obtain ⟨a',cs,ha,h2,_⟩:=hr.rowV 0 l[0] (List.getElem?_eq_getElem h1)
         obtain rfl:=Option.some.inj ha
         exact Nat.lt_of_lt_of_le h2 hB0) (by omega) hlv (fun i cs hi j v hj => by obtain ⟨x,_,_,h3,_⟩:=hin i cs hi;exact h3 j v hj) (fun i cs W hi hW => by
         obtain ⟨x,h1,h2,h3,d,hcs,h4,h5,h6⟩:=hin i cs hi
         have hx:=List.mem_of_getElem? h1
         have on : ∀ {W' : World},Below w.heap.size w W' → ∀ q : Addr,q.block < B0 → W'.cell? q = w.cell? q:=fun hb q hq => hb.cell (Nat.lt_of_lt_of_le hq hB0)
         have hBW : B0 ≤ W.heap.size:=Nat.le_trans hB0 hW.size
         refine (cstmt_any B0 x (own x hx) (lv - 1) cs d W hBW hcs (h4.keep (on hW) (Nat.le_refl _))
          (fun W' hb => ih1 x hx B0 (lv - 1) d.s d.ns W' (Nat.le_trans hBW hb.size) (by omega) (by omega) (h5.keep (on (hW.trans (hb.mono hW.size))) (Nat.le_refl _)))
          (fun W' hb => ih2 x hx B0 (lv - 1) d.t d.nt W' (Nat.le_trans hBW hb.size) (by omega) (by omega) (h6.keep (on (hW.trans (hb.mono hW.size))) (Nat.le_refl _)))).mono ?_
         rintro e w' ⟨cs',e1,e2,e3,e4,e5⟩
         exact ⟨cs',e1,e2,e3,⟨x,h1,e4⟩,e5⟩)).mono ?_
      rintro e w' ⟨g,outs,rfl,hg,hcp⟩
      refine ⟨_,_,rfl,hcp.rowInB vst_subs (fun b hb => .inr (Nat.le_trans hg hb)) rfl (fun i x cs hi hR => ?_),hcp.below⟩
      obtain ⟨y,h1,x0,h2,h3⟩:=hR
      obtain rfl:=Option.some.inj (hi.symm.trans h1)
      refine ⟨x0,fun q v hq => ?_,h3⟩
      obtain ⟨j1,j2⟩:=h2 q v hq
      have j3 : q.block < B0 ∨ g + 1 ≤ q.block:=j2
      exact ⟨j1,by omega⟩
theorem cstmts_top {l : List St} (hw : WS l) (B0 : Nat) (A : Option Addr) (c : Nat) (w : World) (hB0 : B0 ≤ w.heap.size) (hr : StRow w B0 l A) :
 Calls Tryz.prog 27 #[.slice A l.length c] w (CopyRowB B0 l w):=by
 have H:=Lib.hid (cstmts_any hw B0 9223372036854775807 A c w hB0 (by omega) (by omega) hr)
 obtain ⟨n,hn⟩ : ∃ n,n = l.length:=⟨_,rfl⟩
 rw [← hn] at H ⊢
 have HN:=Lib.hid hn
 clear hw hB0 hr hn
 go_enter Tryz.func27,Tryz.ntmps27
 go_wp2_with (go_at_call 45;refine H.out.mono ?_;rintro e w3 ⟨A',c',rfl,hq⟩;have HP:=Lib.hid hq;clear hq)
 go_ret
 exact ⟨A',c',rfl,HP.out⟩
end Go.Proofs.YtnkpgpmaiicdeaaGreatDoor
