import Derived.Test.YtojjfdegkooknaaGreatDoorQTypSu
import Derived.Laws.EntriesVeiled
import Derived.Test.YtojjfdegkooknaaGreatDoorQTypCh
set_option linter.unusedVariables false
set_option linter.unusedSimpArgs false
namespace Go.Proofs.YtojjfdegkooknaaGreatDoor
set_option maxRecDepth 100000
set_option maxHeartbeats 8000000
open Go.RowKit Go.Lib
abbrev cntF (nb cb : Nat) : Value:=.func (.func 39) #[] #[.pointer (some ⟨nb,0,none⟩),.pointer (some ⟨cb,0,none⟩)]
structure CntAt (nb cb : Nat) (W : World) : Prop where
 ne : nb ≠ cb
 n : ∃ v : Int,W.heap[nb]? = some (.cells #[.int .i64 v] 3 (0,0))
 c : ∃ T,W.heap[cb]? = some (.cells #[cntF nb cb] T (0,0))
def CntPost (nb cb : Nat) (w : World) (e : Ending) (w' : World) : Prop:=(∃ b,e = .returned (.bool b)) ∧ Near nb w w' ∧ CntAt nb cb w'
theorem CntAt.on {nb cb : Nat} {w w' : World} (h : CntAt nb cb w) (hb : Below w.heap.size w w') : CntAt nb cb w':=by
 obtain ⟨h0,⟨v,h1⟩,T,h2⟩:=h
 exact ⟨h0,⟨v,kept_box hb h1⟩,T,kept_box hb h2⟩
def CntOk (nb cb B0 : Nat) (l : List St) : Prop:=∀ (L : Option Addr) (ln lc : Nat) (dep : Int) (W : World),ln = l.length → ln ≤ maxLen → StRow W B0 l L → B0 ≤ nb → CntAt nb cb W →
 Calls Tryz.prog 39 #[.slice L ln lc,.int .i64 dep,.pointer (some ⟨nb,0,none⟩),.pointer (some ⟨cb,0,none⟩)] W (CntPost nb cb W)
theorem fewc_any (nb cb db B0 : Nat) (s : St) (h1 : CntOk nb cb B0 s.body) (h2 : CntOk nb cb B0 s.els) (sd : SAd) (cs : Array Value) (hcs : cs = stCs sd s) (w : World) (hown : StOwn w B0 sd s) (hr1 : StRow w B0 s.body sd.s) (hr2 : StRow w B0 s.els sd.t) (hB : B0 ≤ nb) (hC : CntAt nb cb w) (hd : ∃ v : Int,w.heap[db]? = some (.cells #[.int .i64 v] 3 (0,0))) (hdn : db ≠ nb) :
 Calls Tryz.prog 41 #[.agg cs,.pointer (some ⟨cb,0,none⟩),.pointer (some ⟨db,0,none⟩)] w (CntPost nb cb w):=by
 obtain ⟨T,N,hT,hN,_,_⟩:=hid_StmtV
 have e4 : ∀ y : Operand,Op.box 90 y = Op.box T y:=fun y => by rw [hT]
 obtain ⟨v,hd⟩:=hd
 obtain ⟨TC,hcb⟩:=hC.c
 obtain ⟨W1,hW1⟩ : ∃ W1,W1 = w.alloc (.cells cs T):=⟨_,rfl⟩
 have hb1 : Below w.heap.size w W1:=by rw [hW1];exact below_alloc w _
 have hp1 : W1.heap[w.heap.size]? = some (.cells cs T):=by rw [hW1];exact heap_of_alloc w _
 obtain ⟨n1,hn1⟩ : ∃ n,n = s.body.length:=⟨_,rfl⟩
 obtain ⟨n2,hn2⟩ : ∃ n,n = s.els.length:=⟨_,rfl⟩
 have hk : cs[22]? = some (.slice sd.s n1 sd.ns) ∧ cs[23]? = some (.slice sd.t n2 sd.nt):=by
  rw [hcs,hn1,hn2]
  obtain ⟨k,l,c,nm,fd,fr,⟨ek,en,es,exl⟩,⟨ck,⟨ak,an,sa,al⟩,⟨bk,bn,sb,bl⟩,cls⟩,cl,iv,b,o⟩:=s
  exact ⟨rfl,rfl⟩
 have hlens : s.body.length ≤ maxLen ∧ s.els.length ≤ maxLen:=by
  obtain ⟨k,l,c,nm,fd,fr,⟨ek,en,es,exl⟩,⟨ck,⟨ak,an,sa,al⟩,⟨bk,bn,sb,bl⟩,cls⟩,cl,iv,b,o⟩:=s
  exact ⟨hown.1.2.2.2.2.2.2.2.2.2.2.2.2.1,hown.1.2.2.2.2.2.2.2.2.2.2.2.2.2⟩
 have hB0w : B0 ≤ w.heap.size:=Nat.le_trans hB (Nat.le_of_lt (by obtain ⟨x,hx⟩:=hC.n;exact (Array.getElem?_eq_some_iff.1 hx).1))
 obtain ⟨dep,hdep⟩ : ∃ d,d = wrap64 (v + 1):=⟨_,rfl⟩
 have HC1:=Lib.hid (h1 sd.s n1 sd.ns dep W1 hn1 (by rw [hn1];exact hlens.1) (hr1.keep (fun z hz => hb1.cell (Nat.lt_of_lt_of_le hz hB0w)) (Nat.le_refl _)) hB (hC.on hb1))
 have HN1:=Lib.hid (And.intro hb1 (And.intro hp1 (And.intro hC hdn)))
 have HC2 : Hid (∀ W,Near nb W1 W → CntAt nb cb W → Calls Tryz.prog 39 #[.slice sd.t n2 sd.nt,.int .i64 dep,.pointer (some ⟨nb,0,none⟩),.pointer (some ⟨cb,0,none⟩)] W (CntPost nb cb W)):=Lib.hid (fun W hn hc =>
  h2 sd.t n2 sd.nt dep W hn2 (by rw [hn2];exact hlens.2) (hr2.keep (fun z hz => (near_cell hn (Nat.lt_of_lt_of_le hz (Nat.le_trans hB0w hb1.size)) (Nat.ne_of_lt (Nat.lt_of_lt_of_le hz hB))).trans (hb1.cell (Nat.lt_of_lt_of_le hz hB0w))) (Nat.le_refl _)) hB hc)
 have hcl : ∀ args w,(callFunc 39 args).run Tryz.prog w = .ok (.enter 39 args) w:=enters_of Tryz.func39 (by kernel_rfl) rfl
 have HD:=Lib.hid (And.intro hd (And.intro hcb hdep))
 have HK:=Lib.hid hk
 have z0:=cell_of_block (kept_box hb1 hcb) 0 (v:=cntF nb cb) rfl
 have z1:=cell_of_block hp1 22 hk.1
 have z2:=cell_of_block (kept_box hb1 hd) 0 (v:=.int .i64 v) rfl
 rw [hW1] at z0 z1 z2
 clear h1 h2 hcs hown hr1 hr2 hB hC hd hdn hcb hb1 hp1 hn1 hn2 hk hlens hB0w hN
 go_enter Tryz.func41,Tryz.ntmps41
 simp only [e4]
 clear e4 hT
 go_wp2_with fail
 rw [← hW1,← hdep]
 clear hW1 hdep z0 z1 z2
 (with_reducible refine HC1.out.mono ?_)
 rintro e w2 ⟨⟨b,rfl⟩,hn,hc⟩
 cases b
 ·have H2:=Lib.hid (And.intro ((near_of HN1.out.1).trans hn) hc)
  clear hn hc
  go_wp2
  go_ret
  exact ⟨⟨_,rfl⟩,H2.out.1,H2.out.2⟩
 ·obtain ⟨TC2,hc2⟩:=hc.c
  have hwl : w.heap.size ≠ nb:=by
   obtain ⟨x,hx⟩:=HN1.out.2.2.1.n
   have := (Array.getElem?_eq_some_iff.1 hx).1
   omega
  have hp2:=(hn.block _ (Array.getElem?_eq_some_iff.1 HN1.out.2.1).1 hwl).trans HN1.out.2.1
  have hd1:=kept_box HN1.out.1 HD.out.1
  have hd2:=(hn.block _ (Array.getElem?_eq_some_iff.1 hd1).1 HN1.out.2.2.2).trans hd1
  have z0:=cell_of_block hc2 0 (v:=cntF nb cb) rfl
  have z1:=cell_of_block hp2 23 HK.out.2
  have z2:=cell_of_block hd2 0 (v:=.int .i64 v) rfl
  have H2:=Lib.hid (And.intro hn hc)
  have hde:=HD.out.2.2
  clear hn hc hc2 hp2 hd1 hd2 hwl
  go_wp2_with fail
  rw [← hde]
  clear hde z0 z1 z2
  (with_reducible refine (HC2.out _ H2.out.1 H2.out.2).mono ?_)
  rintro e w3 ⟨⟨b,rfl⟩,hn,hc⟩
  have H3:=Lib.hid (And.intro ((near_of HN1.out.1).trans (H2.out.1.trans hn)) hc)
  clear hn hc
  go_wp2
  go_ret
  exact ⟨⟨_,rfl⟩,H3.out.1,H3.out.2⟩
theorem fewi_any (nb cb db B0 : Nat) (l : List St) (hok : ∀ s ∈ l,CntOk nb cb B0 s.body ∧ CntOk nb cb B0 s.els) (L : Option Addr) (ln lc : Nat) (w : World) (hln : ln = l.length) (hm : ln ≤ maxLen) (hr : StRow w B0 l L) (hB : B0 ≤ nb) (hC : CntAt nb cb w) (hd : ∃ v : Int,w.heap[db]? = some (.cells #[.int .i64 v] 3 (0,0))) (hdn : db ≠ nb) :
 Calls Tryz.prog 58 #[.slice L ln lc,.func (.func 41) #[] #[.pointer (some ⟨cb,0,none⟩),.pointer (some ⟨db,0,none⟩)]] w fun e w' => (∃ q : Int,e = .returned (.int .i64 q)) ∧ Near nb w w' ∧ CntAt nb cb w':=by
 obtain ⟨T,N,hT,hN,hag,hsz⟩:=hid_StmtV
 have e1 : ∀ y : Operand,Op.load 90 y = Op.load T y:=fun y => by rw [hT]
 have hB0w : B0 ≤ w.heap.size:=Nat.le_trans hB (Nat.le_of_lt (by obtain ⟨x,hx⟩:=hC.n;exact (Array.getElem?_eq_some_iff.1 hx).1))
 have HH:=Lib.hid (And.intro hr (And.intro hln (And.intro hok (And.intro hN (And.intro hB (And.intro hC (And.intro hd (And.intro hdn hB0w))))))))
 have hcl : ∀ args w,(callFunc 41 args).run Tryz.prog w = .ok (.enter 41 args) w:=enters_of Tryz.func41 (by kernel_rfl) rfl
 clear hr hln hok hN hB hC hd hdn hB0w
 unfold maxLen at hm
 go_enter Tryz.func58,Tryz.ntmps58
 simp only [e1]
 clear e1 hT
 go_wp2
 go_loopg [8] ln (fun m j wr => ∃ k : Nat,m = ln - k ∧ k ≤ ln ∧ j = .int .i64 k ∧ Hid (Near nb w wr ∧ CntAt nb cb wr))
 case atStart => exact ⟨0,rfl,Nat.zero_le _,rfl,Lib.hid ⟨near_of (Below.refl _ _),HH.out.2.2.2.2.2.1⟩⟩
 case round =>
  obtain ⟨k,rfl,hk,rfl,HI⟩:=hrel
  have hk0 : (0 : Int) ≤ k:=by omega
  by_cases hlt : k < ln
  ·have hki : (k : Int) < ln:=by omega
   obtain ⟨s,hx⟩ : ∃ x,l[k]? = some x:=⟨l[k]'(by rw [← HH.out.2.1];exact hlt),List.getElem?_eq_getElem _⟩
   obtain ⟨hr,hln,hok,hN,hB,hC,hd,hdn,hB0w⟩:=HH.out
   obtain ⟨a,sd,rfl,hab,hcells,hown,hr1,hr2⟩:=(hr.keep (fun z hz => near_cell HI.out.1 (Nat.lt_of_lt_of_le hz hB0w) (Nat.ne_of_lt (Nat.lt_of_lt_of_le hz hB))) (Nat.le_refl B0)).at_ hx
   obtain ⟨cs,hcs⟩ : ∃ cs,cs = stCs sd s:=⟨_,rfl⟩
   have hszc : cs.size = N:=by rw [hN,hcs];exact stCs_size _ _
   rw [← hcs] at hcells
   have hl1 : (loadCellsFrom (a.add (k * 24)) 0 N #[]).run Tryz.prog wr = .ok cs wr:=load_list (fun j v hv => hcells j v hv) hszc
   obtain ⟨v,hdv⟩:=hd
   have HC:=Lib.hid (fewc_any nb cb db B0 s (hok s (List.mem_of_getElem? hx)).1 (hok s (List.mem_of_getElem? hx)).2 sd cs hcs wr hown hr1 hr2 hB HI.out.2 ⟨v,(HI.out.1.block _ (Array.getElem?_eq_some_iff.1 hdv).1 hdn).trans hdv⟩ hdn)
   clear hr hln hok hN hB hC hdv hdn hB0w hcells hown hr1 hr2 hcs hab hx
   go_wp2_with fail
   clear hl1
   (with_reducible refine HC.out.mono ?_)
   rintro e w3 ⟨⟨b,rfl⟩,hn,hc⟩
   have H3:=Lib.hid (And.intro (HI.out.1.trans hn) hc)
   clear hn hc
   cases b
   ·go_wp2
    go_roundg (ln - (k + 1))
    case measure => omega
    case rel => exact ⟨k + 1,rfl,by omega,by go_num,H3⟩
   ·go_wp2
    go_ret
    exact ⟨⟨_,rfl⟩,H3.out⟩
  ·have hlt' : ¬ (k : Int) < ln:=by omega
   obtain rfl : k = ln:=by omega
   go_wp2
   go_ret
   exact ⟨⟨_,rfl⟩,HI.out⟩
theorem fewcf_any (nb cb db B0 : Nat) (l : List St) (hok : ∀ s ∈ l,CntOk nb cb B0 s.body ∧ CntOk nb cb B0 s.els) (L : Option Addr) (ln lc : Nat) (w : World) (hln : ln = l.length) (hm : ln ≤ maxLen) (hr : StRow w B0 l L) (hB : B0 ≤ nb) (hC : CntAt nb cb w) (hd : ∃ v : Int,w.heap[db]? = some (.cells #[.int .i64 v] 3 (0,0))) (hdn : db ≠ nb) :
 Calls Tryz.prog 40 #[.slice L ln lc,.func (.func 41) #[] #[.pointer (some ⟨cb,0,none⟩),.pointer (some ⟨db,0,none⟩)]] w (CntPost nb cb w):=by
 have HC:=Lib.hid (fewi_any nb cb db B0 l hok L ln lc w hln hm hr hB hC hd hdn)
 clear hok hln hm hr hB hC hd hdn
 go_enter Tryz.func40,Tryz.ntmps40
 go_wp2_with fail
 (with_reducible refine HC.out.mono ?_)
 rintro e w3 ⟨⟨q,rfl⟩,hn,hc⟩
 have H3:=Lib.hid (And.intro hn hc)
 clear hn hc
 obtain ⟨b,hb⟩ : ∃ b : Bool,b = decide (q ≥ 0):=⟨_,rfl⟩
 by_cases h0 : (0 : Int) ≤ q
 ·go_wp2
  go_ret
  exact ⟨⟨_,rfl⟩,H3.out⟩
 ·go_wp2
  go_ret
  exact ⟨⟨_,rfl⟩,H3.out⟩
theorem few1_any (nb cb B0 : Nat) (l : List St) (hok : ∀ s ∈ l,CntOk nb cb B0 s.body ∧ CntOk nb cb B0 s.els) : CntOk nb cb B0 l:=by
 intro L ln lc dep w hln hm hr hB hC
 obtain ⟨v,hnb⟩:=hC.n
 have hnlt:=(Array.getElem?_eq_some_iff.1 hnb).1
 obtain ⟨W1,hW1⟩ : ∃ W1,W1 = w.alloc (.cells #[.int .i64 dep] 3):=⟨_,rfl⟩
 have hb1 : Below w.heap.size w W1:=by rw [hW1];exact below_alloc w _
 have hp1 : W1.heap[w.heap.size]? = some (.cells #[.int .i64 dep] 3):=by rw [hW1];exact heap_of_alloc w _
 obtain ⟨x,hx⟩ : ∃ x,x = wrap64 (v + ln):=⟨_,rfl⟩
 obtain ⟨W2,hW2⟩ : ∃ W2,W2 = W1.setCell ⟨nb,0,none⟩ (.int .i64 x):=⟨_,rfl⟩
 have hn1:=kept_box hb1 hnb
 have hn12 : Near nb W1 W2:=by rw [hW2];exact near_set W1 0 _
 have hnb2 : W2.heap[nb]? = some (.cells #[.int .i64 x] 3 (0,0)):=by rw [hW2];exact heap_setCell_at hn1 0 (.int .i64 x)
 obtain ⟨TC,hcb⟩:=hC.c
 have hcb2:=(hn12.block _ (Array.getElem?_eq_some_iff.1 (kept_box hb1 hcb)).1 (Ne.symm hC.ne)).trans (kept_box hb1 hcb)
 have hp2:=(hn12.block _ (Array.getElem?_eq_some_iff.1 hp1).1 (by omega)).trans hp1
 have hC2 : CntAt nb cb W2:=⟨hC.ne,⟨x,hnb2⟩,TC,hcb2⟩
 have hn2 : Near nb w W2:=(near_of hb1).trans hn12
 have hB0w : B0 ≤ w.heap.size:=Nat.le_trans hB (Nat.le_of_lt hnlt)
 have hr2 : StRow W2 B0 l L:=hr.keep (fun z hz => near_cell hn2 (Nat.lt_of_lt_of_le hz hB0w) (Nat.ne_of_lt (Nat.lt_of_lt_of_le hz hB))) (Nat.le_refl B0)
 have HC:=Lib.hid (fewcf_any nb cb w.heap.size B0 l hok L ln lc W2 hln hm hr2 hB hC2 ⟨dep,hp2⟩ (by omega))
 have HN:=Lib.hid (And.intro hn2 hC2)
 have z0:=cell_of_block hn1 0 (v:=.int .i64 v) rfl
 have f0:=frozen_at hn1 0
 have z1:=cell_of_block hnb2 0 (v:=.int .i64 x) rfl
 have z2:=cell_of_block hp2 0 (v:=.int .i64 dep) rfl
 have hmf : ∀ (fn : Fn) (first cap : Array Value) (w : World),(Instr.makeFunc fn first cap).run Tryz.prog w = .ok (.func fn first cap) w:=fun _ _ _ _ => rfl
 rw [hW2,hx] at z1 z2
 rw [hW1] at z0 f0 z1 z2
 rw [hW1,hx] at hW2
 have HX:=Lib.hid hx
 clear hok hln hm hr hB hC hnb hnlt hb1 hp1 hn1 hn12 hnb2 hcb hcb2 hp2 hC2 hn2 hB0w hr2 hW1
 go_enter Tryz.func39,Tryz.ntmps39
 by_cases h1 : wrap64 (v + ln) ≤ 60
 ·by_cases h2 : dep ≤ 40
  ·go_wp2_with fail
   rw [← hW2]
   clear hW2 z0 f0 z1 z2
   (with_reducible refine HC.out.mono ?_)
   rintro e w3 ⟨⟨b,rfl⟩,hn,hc⟩
   have H3:=Lib.hid (And.intro (HN.out.1.trans hn) hc)
   clear hn hc
   go_wp2
   go_ret
   exact ⟨⟨_,rfl⟩,H3.out⟩
  ·go_wp2
   go_ret
   rw [← hW2]
   exact ⟨⟨_,rfl⟩,HN.out⟩
 ·go_wp2
  go_ret
  rw [← hW2]
  exact ⟨⟨_,rfl⟩,HN.out⟩
theorem few_all (nb cb B0 : Nat) : ∀ (M : Nat) (l : List St),SizeOf.sizeOf l < M → CntOk nb cb B0 l:=by
 intro M
 induction M with
 | zero => intro l h;omega
 | succ M ih =>
   intro l hM
   refine few1_any nb cb B0 l fun s hs => ?_
   have q1:=List.sizeOf_lt_of_mem hs
   have q2:=size_body s
   exact ⟨ih _ (by omega),ih _ (by omega)⟩
end Go.Proofs.YtojjfdegkooknaaGreatDoor
namespace Go.Proofs.YtojjfdegkooknaaGreatDoor
set_option maxRecDepth 100000
set_option maxHeartbeats 16000000
open Go.RowKit Go.Lib
theorem few_any (p : Pg) (d : GAd) (w : World) (own : PgOwn w w.heap.size d p) :
 Calls Tryz.prog 8 #[.agg #[.slice d.r p.rs.length d.nr,.slice d.g p.gs.length d.ng,.slice d.k p.ks.length d.nk,.slice d.d p.ds.length d.nd,.slice d.m p.ms.length d.nm,.slice d.x p.xs.length d.nx]] w fun e w' => ((∃ v : Int,e = .returned (.int .i64 v) ∧ (v = 0 ∨ v = 1))) ∧ Below w.heap.size w w':=by
 obtain ⟨nr,hnr⟩ : ∃ n,n = p.rs.length:=⟨_,rfl⟩
 obtain ⟨ng,hng⟩ : ∃ n,n = p.gs.length:=⟨_,rfl⟩
 obtain ⟨nk,hnk⟩ : ∃ n,n = p.ks.length:=⟨_,rfl⟩
 obtain ⟨nd,hnd⟩ : ∃ n,n = p.ds.length:=⟨_,rfl⟩
 obtain ⟨nm,hnm⟩ : ∃ n,n = p.ms.length:=⟨_,rfl⟩
 obtain ⟨nx,hnx⟩ : ∃ n,n = p.xs.length:=⟨_,rfl⟩
 obtain ⟨Ax,hAx⟩ : ∃ a,a = d.x:=⟨_,rfl⟩
 have HO:=Lib.hid (And.intro hnx (And.intro hAx own))
 rw [← hnr,← hng,← hnk,← hnd,← hnm,← hnx,← hAx]
 have hmx : nx ≤ maxLen:=by rw [hnx];exact own.1.2.2.2.2.2
 obtain ⟨W1,hW1⟩ : ∃ W1,W1 = w.alloc (.cells #[.slice d.r nr d.nr,.slice d.g ng d.ng,.slice d.k nk d.nk,.slice d.d nd d.nd,.slice d.m nm d.nm,.slice Ax nx d.nx] 29):=⟨_,rfl⟩
 have hb1 : Below w.heap.size w W1:=by rw [hW1];exact below_alloc w _
 have HB1:=Lib.hid hb1
 obtain ⟨nb,hnb⟩ : ∃ n,n = w.heap.size + 1:=⟨_,rfl⟩
 obtain ⟨cb,hcb⟩ : ∃ n,n = w.heap.size + 1 + 1:=⟨_,rfl⟩
 have hs1 : W1.heap.size = nb:=by rw [hW1,World.size_alloc,hnb]
 obtain ⟨W2,hW2⟩ : ∃ W2,W2 = W1.alloc (.cells #[.int .i64 0] 3):=⟨_,rfl⟩
 have hs2 : W2.heap.size = cb:=by rw [hW2,World.size_alloc,hs1,hcb,hnb]
 obtain ⟨W3,hW3⟩ : ∃ W3,W3 = W2.alloc (.cells #[cntF nb cb] 102):=⟨_,rfl⟩
 have b2:=heap_of_alloc W1 (.cells #[.int .i64 0] 3)
 rw [hs1,← hW2] at b2
 have b3:=heap_of_alloc W2 (.cells #[cntF nb cb] 102)
 rw [hs2,← hW3] at b3
 have hb23 : Below W2.heap.size W2 W3:=by rw [hW3];exact below_alloc _ _
 have hb12 : Below W1.heap.size W1 W2:=by rw [hW2];exact below_alloc _ _
 have hC3 : CntAt nb cb W3:=⟨by omega,⟨0,kept_box hb23 b2⟩,_,b3⟩
 have hb3 : Below w.heap.size w W3:=hb1.chain (hb12.chain hb23)
 have b1:=heap_of_alloc w (.cells #[.slice d.r nr d.nr,.slice d.g ng d.ng,.slice d.k nk d.nk,.slice d.d nd d.nd,.slice d.m nm d.nm,.slice Ax nx d.nx] 29)
 rw [← hW1] at b1
 have z5:=cell_of_block (kept_box (hb12.chain hb23) b1) 5 (v:=.slice Ax nx d.nx) rfl
 have HC3:=Lib.hid (And.intro hC3 (And.intro hb3 (And.intro hnb hcb)))
 have hmf : ∀ (fn : Fn) (first cap : Array Value) (w : World),(Instr.makeFunc fn first cap).run Tryz.prog w = .ok (.func fn first cap) w:=fun _ _ _ _ => rfl
 have hcl : ∀ args w,(callFunc 39 args).run Tryz.prog w = .ok (.enter 39 args) w:=enters_of Tryz.func39 (by kernel_rfl) rfl
 obtain ⟨T,N,zc,hT,hN,hzc,hag,hsz,hzv⟩:=hid_ProcC
 have e1 : ∀ y : Operand,Op.load 46 y = Op.load T y:=fun y => by rw [hT]
 have e2 : ∀ y z : Operand,Op.store 46 y z = Op.store T y z:=fun y z => by rw [hT]
 have e3 : Op.alloc 46 = Op.alloc T:=by rw [hT]
 have HN:=Lib.hid (And.intro hN hzc)
 rw [hnb,hcb] at hW3
 rw [hW2,hW1] at hW3
 rw [hW3] at z5
 clear own hnr hng hnk hnd hnm hnx hAx hb1 hs1 hs2 b1 b2 b3 hb23 hb12 hC3 hb3 hN hzc
 unfold maxLen at hmx
 go_enter Tryz.func8,Tryz.ntmps8
 simp only [e1,e2,e3]
 clear e1 e2 e3 hT
 by_cases h0 : (10 : Int) < nr
 ·go_wp2
  go_ret
  rw [← hW1]
  exact ⟨⟨0,rfl,.inl rfl⟩,HB1.out⟩
 by_cases h1 : (10 : Int) < ng
 ·go_wp2
  go_ret
  rw [← hW1]
  exact ⟨⟨0,rfl,.inl rfl⟩,HB1.out⟩
 by_cases h2 : (10 : Int) < nk
 ·go_wp2
  go_ret
  rw [← hW1]
  exact ⟨⟨0,rfl,.inl rfl⟩,HB1.out⟩
 by_cases h3 : (10 : Int) < nd
 ·go_wp2
  go_ret
  rw [← hW1]
  exact ⟨⟨0,rfl,.inl rfl⟩,HB1.out⟩
 by_cases h4 : (10 : Int) < nm
 ·go_wp2
  go_ret
  rw [← hW1]
  exact ⟨⟨0,rfl,.inl rfl⟩,HB1.out⟩
 by_cases h5 : (10 : Int) < nx
 ·go_wp2
  go_ret
  rw [← hW1]
  exact ⟨⟨0,rfl,.inl rfl⟩,HB1.out⟩
 go_wp2
 rw [← hW3,← hcb,← hnb]
 clear hW3 hW2 hW1 hnb hcb z5 h0 h1 h2 h3 h4 h5
 go_loopg [45] nx (fun m j wr => ∃ k : Nat,m = nx - k ∧ k ≤ nx ∧ j = .int .i64 k ∧ Hid (Near nb W3 wr ∧ CntAt nb cb wr))
 case atStart => exact ⟨0,rfl,Nat.zero_le _,rfl,Lib.hid ⟨near_of (Below.refl _ _),HC3.out.1⟩⟩
 case round =>
  obtain ⟨k,rfl,hk,rfl,HI⟩:=hrel
  have hk0 : (0 : Int) ≤ k:=by omega
  by_cases hlt : k < nx
  ·have hki : (k : Int) < nx:=by omega
   obtain ⟨y,hg⟩ : ∃ y,p.xs[k]? = some y:=⟨p.xs[k]'(by rw [← HO.out.1];exact hlt),List.getElem?_eq_getElem _⟩
   have hwn : w.heap.size ≤ nb:=by have := HC3.out.2.2.1;omega
   have hbr : Below w.heap.size w wr:=near_below HC3.out.2.1 HI.out.1 hwn
   obtain ⟨a,cs,hA,hab,hcs,hca,hv⟩:=rowB vpr_keeps (Nat.le_refl _) hbr (pr_rowV HO.out.2.2.2.2.2.2.2.2) k y hg
   obtain rfl : Ax = some a:=HO.out.2.1.trans hA
   have hszc : cs.size = N:=hcs.trans HN.out.1.symm
   have hone : cs.all (·.oneCell') = true:=vProc_one hv
   have hl1 : (loadCellsFrom (a.add (k * 12)) 0 N #[]).run Tryz.prog wr = .ok cs wr:=load_list (fun j v hv => hca j v hv) hszc
   have hst:=st_new (w:=wr) (t:=T) (HN.out.2.trans hszc.symm) hone
   obtain ⟨dp,hdp,how⟩:=hv
   obtain ⟨nbd,hnbd⟩ : ∃ n,n = y.bd.length:=⟨_,rfl⟩
   have k11 : cs[11]? = some (.slice dp.b nbd dp.nb):=by rw [hdp,hnbd];rfl
   obtain ⟨W6,hW6⟩ : ∃ W6,W6 = wr.alloc (.cells cs T):=⟨_,rfl⟩
   have hb66 : Below wr.heap.size wr W6:=by rw [hW6];exact below_alloc wr _
   have hp6 : W6.heap[wr.heap.size]? = some (.cells cs T):=by rw [hW6];exact heap_of_alloc wr _
   have hc6:=HI.out.2.on hb66
   obtain ⟨TC,hcb6⟩:=hc6.c
   have z0:=cell_of_block hcb6 0 (v:=cntF nb cb) rfl
   have z1:=cell_of_block hp6 11 k11
   rw [hW6] at z0 z1
   have HQ:=Lib.hid (few_all nb cb w.heap.size _ y.bd (Nat.lt_succ_self _) dp.b nbd dp.nb 0 W6 hnbd (by rw [hnbd];exact how.1.2.2.2.2.2.2.2.2) (how.2.2.2.2.2.2.keep (fun z hz => hb66.cell (Nat.lt_of_lt_of_le hz hbr.size)) (Nat.le_refl _)) hwn hc6)
   have K6:=Lib.hid (HI.out.1.trans (near_of hb66))
   clear hg hwn hbr hab hcs hca hone hdp how hnbd k11 hb66 hp6 hc6 hcb6
   go_wp2_with fail
   rw [← hW6]
   clear hW6 hl1 hst z0 z1
   (with_reducible refine HQ.out.mono ?_)
   rintro e w5 ⟨⟨b,rfl⟩,hn,hc⟩
   have K7:=Lib.hid (And.intro (K6.out.trans hn) hc)
   clear hn hc
   cases b
   ·go_wp2
    go_ret
    exact ⟨⟨0,rfl,.inl rfl⟩,near_below HC3.out.2.1 K7.out.1 (by have := HC3.out.2.2.1;omega)⟩
   ·go_wp2
    go_roundg (nx - (k + 1))
    case measure => omega
    case rel => exact ⟨k + 1,rfl,by omega,by go_num,K7⟩
  ·have hlt' : ¬ (k : Int) < nx:=by omega
   obtain rfl : k = nx:=by omega
   go_wp2
   go_ret
   exact ⟨⟨1,rfl,.inr rfl⟩,near_below HC3.out.2.1 HI.out.1 (by have := HC3.out.2.2.1;omega)⟩
end Go.Proofs.YtojjfdegkooknaaGreatDoor
