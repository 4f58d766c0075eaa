import Derived.Test.YtojjfdegkooknaaGreatDoorSTypSu
import Derived.Laws.EntriesVeiled
import Derived.Test.YtojjfdegkooknaaGreatDoorSTypCh
set_option linter.unusedVariables false
set_option linter.unusedSimpArgs false
namespace Go.Proofs.YtojjfdegkooknaaGreatDoor
section
set_option maxRecDepth 100000
set_option maxHeartbeats 8000000
open Go.RowKit Go.Lib
abbrev qiI (nb cb : Nat) : Value:=.func (.func 39) #[] #[.pointer (some ⟨nb,0,none⟩),.pointer (some ⟨cb,0,none⟩)]
structure CntAt (nb cb : Nat) (W : World) : Prop where
 ne : nb ≠ cb
 n : ∃ v : Int,W.heap[nb]? = some (.cells #[.int .i64 v] 3 (0,0))
 c : ∃ T,W.heap[cb]? = some (.cells #[qiI nb cb] T (0,0))
def qgE (nb cb : Nat) (w : World) (e : Ending) (w' : World) : Prop:=(∃ b,e = .returned (.bool b)) /\ Near nb w w' /\ CntAt nb cb w'
theorem CntAt.on {nb cb : Nat} {w w' : World} (h : CntAt nb cb w) (hb : Below w.heap.size w w') : CntAt nb cb w':=by
 obtain ⟨h0,⟨v,h1⟩,T,h2⟩:=h
 exact ⟨h0,⟨v,qg hb h1⟩,T,qg hb h2⟩
def qcv (nb cb B0 : Nat) (l : List St) : Prop:=∀ (L : Option Addr) (ln lc : Nat) (dep : Int) (W : World),ln = l.length -> ln <= maxLen -> StRow W B0 l L -> B0 <= nb -> CntAt nb cb W ->
 Calls Tryz.prog 39 #[.slice L ln lc,.int .i64 dep,.pointer (some ⟨nb,0,none⟩),.pointer (some ⟨cb,0,none⟩)] W (qgE nb cb W)
theorem qqM (nb cb db B0 : Nat) (s : St) (h1 : qcv nb cb B0 s.body) (h2 : qcv nb cb B0 s.els) (sd : SAd) (cs : Array Value) (qn : cs = jW sd s) (w : World) (qA : xS w B0 sd s) (yO : StRow w B0 s.body sd.s) (zW : StRow w B0 s.els sd.t) (hB : B0 <= nb) (hC : CntAt nb cb w) (hd : ∃ v : Int,w.heap[db]? = some (.cells #[.int .i64 v] 3 (0,0))) (hdn : db ≠ nb) :
 Calls Tryz.prog 41 #[.agg cs,.pointer (some ⟨cb,0,none⟩),.pointer (some ⟨db,0,none⟩)] w (qgE nb cb w):=by
 obtain ⟨T,N,hT,hN,_,_⟩:=yo
 have e4 : ∀ y : Operand,Op.box 90 y = Op.box T y:=fun y => by rw [hT]
 obtain ⟨v,hd⟩:=hd
 obtain ⟨TC,jt⟩:=hC.c
 obtain ⟨W1,qh⟩ : ∃ W1,W1 = w.alloc (.cells cs T):=⟨_,rfl⟩
 have qk : Below w.heap.size w W1:=by rw [qh];exact qd w _
 have yc : W1.heap[w.heap.size]? = some (.cells cs T):=by rw [qh];exact qe w _
 obtain ⟨n1,jZ⟩ : ∃ n,n = s.body.length:=⟨_,rfl⟩
 obtain ⟨n2,hn2⟩ : ∃ n,n = s.els.length:=⟨_,rfl⟩
 have hk : cs[22]? = some (.slice sd.s n1 sd.ns) /\ cs[23]? = some (.slice sd.t n2 sd.nt):=by
  rw [qn,jZ,hn2]
  obtain ⟨k,l,c,nm,fd,fr,⟨ek,en,es,exl⟩,⟨ck,⟨ak,an,sa,al⟩,⟨bk,bn,sb,bl⟩,cls⟩,cl,iv,b,o⟩:=s
  exact ⟨rfl,rfl⟩
 have qgv : s.body.length <= maxLen /\ s.els.length <= maxLen:=by
  obtain ⟨k,l,c,nm,fd,fr,⟨ek,en,es,exl⟩,⟨ck,⟨ak,an,sa,al⟩,⟨bk,bn,sb,bl⟩,cls⟩,cl,iv,b,o⟩:=s
  exact ⟨qA.1.2.2.2.2.2.2.2.2.2.2.2.2.1,qA.1.2.2.2.2.2.2.2.2.2.2.2.2.2⟩
 have qaK : B0 <= w.heap.size:=Nat.le_trans hB (Nat.le_of_lt (by obtain ⟨x,hx⟩:=hC.n;exact (Array.getElem?_eq_some_iff.1 hx).1))
 obtain ⟨dep,qqv⟩ : ∃ d,d = wrap64 (v + 1):=⟨_,rfl⟩
 have zU:=hZ (h1 sd.s n1 sd.ns dep W1 jZ (by rw [jZ];exact qgv.1) (yO.keep (fun z hz => qk.cell (Nat.lt_of_lt_of_le hz qaK)) (Nat.le_refl _)) hB (hC.on qk))
 have HN1:=hZ (aZ qk (aZ yc (aZ hC hdn)))
 have yp : Hid (∀ W,Near nb W1 W -> CntAt nb cb W -> Calls Tryz.prog 39 #[.slice sd.t n2 sd.nt,.int .i64 dep,.pointer (some ⟨nb,0,none⟩),.pointer (some ⟨cb,0,none⟩)] W (qgE nb cb W)):=hZ (fun W hn hc =>
  h2 sd.t n2 sd.nt dep W hn2 (by rw [hn2];exact qgv.2) (zW.keep (fun z hz => (xt hn (Nat.lt_of_lt_of_le hz (Nat.le_trans qaK qk.size)) (Nat.ne_of_lt (Nat.lt_of_lt_of_le hz hB))).trans (qk.cell (Nat.lt_of_lt_of_le hz qaK))) (Nat.le_refl _)) hB hc)
 have hcl : ∀ args w,(callFunc 39 args).run Tryz.prog w = .ok (.enter 39 args) w:=enters_of Tryz.func39 (by kernel_rfl) rfl
 have HD:=hZ (aZ hd (aZ jt qqv))
 have HK:=hZ hk
 have z0:=qc (qg qk jt) 0 (v:=qiI nb cb) rfl
 have z1:=qc yc 22 hk.1
 have z2:=qc (qg qk hd) 0 (v:=.int .i64 v) rfl
 rw [qh] at z0 z1 z2
 clear h1 h2 qn qA yO zW hB hC hd hdn jt qk yc jZ hn2 hk qgv qaK hN
 go_enter Tryz.func41,Tryz.ntmps41
 simp only [e4]
 clear e4 hT
 go_wp2_with fail
 rw [<- qh,<- qqv]
 clear qh qqv z0 z1 z2
 (with_reducible refine zU.out.mono ?_)
 rintro e w2 ⟨⟨b,rfl⟩,hn,hc⟩
 cases b
 ·have H2:=hZ (aZ ((yH HN1.out.1).trans hn) hc)
  clear hn hc
  go_wp2
  go_ret
  exact ⟨⟨_,rfl⟩,H2.out.1,H2.out.2⟩
 ·obtain ⟨TC2,hc2⟩:=hc.c
  have hwl : w.heap.size ≠ nb:=by
   obtain ⟨x,hx⟩:=HN1.out.2.2.1.n
   have := (Array.getElem?_eq_some_iff.1 hx).1
   omega
  have hp2:=(hn.block _ (Array.getElem?_eq_some_iff.1 HN1.out.2.1).1 hwl).trans HN1.out.2.1
  have hd1:=qg HN1.out.1 HD.out.1
  have hd2:=(hn.block _ (Array.getElem?_eq_some_iff.1 hd1).1 HN1.out.2.2.2).trans hd1
  have z0:=qc hc2 0 (v:=qiI nb cb) rfl
  have z1:=qc hp2 23 HK.out.2
  have z2:=qc hd2 0 (v:=.int .i64 v) rfl
  have H2:=hZ (aZ hn hc)
  have hde:=HD.out.2.2
  clear hn hc hc2 hp2 hd1 hd2 hwl
  go_wp2_with fail
  rw [<- hde]
  clear hde z0 z1 z2
  (with_reducible refine (yp.out _ H2.out.1 H2.out.2).mono ?_)
  rintro e w3 ⟨⟨b,rfl⟩,hn,hc⟩
  have H3:=hZ (aZ ((yH HN1.out.1).trans (H2.out.1.trans hn)) hc)
  clear hn hc
  go_wp2
  go_ret
  exact ⟨⟨_,rfl⟩,H3.out.1,H3.out.2⟩
theorem qqL (nb cb db B0 : Nat) (l : List St) (hok : ∀ s ∈ l,qcv nb cb B0 s.body /\ qcv nb cb B0 s.els) (L : Option Addr) (ln lc : Nat) (w : World) (jC : ln = l.length) (hm : ln <= maxLen) (hr : StRow w B0 l L) (hB : B0 <= nb) (hC : CntAt nb cb w) (hd : ∃ v : Int,w.heap[db]? = some (.cells #[.int .i64 v] 3 (0,0))) (hdn : db ≠ nb) :
 Calls Tryz.prog 58 #[.slice L ln lc,.func (.func 41) #[] #[.pointer (some ⟨cb,0,none⟩),.pointer (some ⟨db,0,none⟩)]] w fun e w' => (∃ q : Int,e = .returned (.int .i64 q)) /\ Near nb w w' /\ CntAt nb cb w':=by
 obtain ⟨T,N,hT,hN,hag,qK⟩:=yo
 have e1 : ∀ y : Operand,Op.load 90 y = Op.load T y:=fun y => by rw [hT]
 have qaK : B0 <= w.heap.size:=Nat.le_trans hB (Nat.le_of_lt (by obtain ⟨x,hx⟩:=hC.n;exact (Array.getElem?_eq_some_iff.1 hx).1))
 have HH:=hZ (aZ hr (aZ jC (aZ hok (aZ hN (aZ hB (aZ hC (aZ hd (aZ hdn qaK))))))))
 have hcl : ∀ args w,(callFunc 41 args).run Tryz.prog w = .ok (.enter 41 args) w:=enters_of Tryz.func41 (by kernel_rfl) rfl
 clear hr jC hok hN hB hC hd hdn qaK
 unfold maxLen at hm
 go_enter Tryz.func58,Tryz.ntmps58
 simp only [e1]
 clear e1 hT
 go_wp2
 go_loopg [8] ln (fun m j wr => ∃ k : Nat,m = ln - k /\ k <= ln /\ j = .int .i64 k /\ Hid (Near nb w wr /\ CntAt nb cb wr))
 case atStart => exact ⟨0,rfl,Nat.zero_le _,rfl,hZ ⟨yH (Below.refl _ _),HH.out.2.2.2.2.2.1⟩⟩
 case round =>
  obtain ⟨k,rfl,hk,rfl,HI⟩:=hrel
  have hk0 : (0 : Int) <= k:=by omega
  by_cases qB : k < ln
  ·have jD : (k : Int) < ln:=by omega
   obtain ⟨s,hx⟩ : ∃ x,l[k]? = some x:=⟨l[k]'(by rw [<- HH.out.2.1];exact qB),List.getElem?_eq_getElem _⟩
   obtain ⟨hr,jC,hok,hN,hB,hC,hd,hdn,qaK⟩:=HH.out
   obtain ⟨a,sd,rfl,qx,qaH,qA,yO,zW⟩:=(hr.keep (fun z hz => xt HI.out.1 (Nat.lt_of_lt_of_le hz qaK) (Nat.ne_of_lt (Nat.lt_of_lt_of_le hz hB))) (Nat.le_refl B0)).at_ hx
   obtain ⟨cs,qn⟩ : ∃ cs,cs = jW sd s:=⟨_,rfl⟩
   have qu : cs.size = N:=by rw [hN,qn];exact zO _ _
   rw [<- qn] at qaH
   have xy : (loadCellsFrom (a.add (k * 24)) 0 N #[]).run Tryz.prog wr = .ok cs wr:=qZ (fun j v hv => qaH j v hv) qu
   obtain ⟨v,hdv⟩:=hd
   have HC:=hZ (qqM nb cb db B0 s (hok s (List.mem_of_getElem? hx)).1 (hok s (List.mem_of_getElem? hx)).2 sd cs qn wr qA yO zW hB HI.out.2 ⟨v,(HI.out.1.block _ (Array.getElem?_eq_some_iff.1 hdv).1 hdn).trans hdv⟩ hdn)
   clear hr jC hok hN hB hC hdv hdn qaK qaH qA yO zW qn qx hx
   go_wp2_with fail
   clear xy
   (with_reducible refine HC.out.mono ?_)
   rintro e w3 ⟨⟨b,rfl⟩,hn,hc⟩
   have H3:=hZ (aZ (HI.out.1.trans hn) hc)
   clear hn hc
   cases b
   ·go_wp2
    go_roundg (ln - (k + 1))
    case measure => omega
    case rel => exact ⟨k + 1,rfl,by omega,by go_num,H3⟩
   ·go_wp2
    go_ret
    exact ⟨⟨_,rfl⟩,H3.out⟩
  ·have hlt' : ¬ (k : Int) < ln:=by omega
   obtain rfl : k = ln:=by omega
   go_wp2
   go_ret
   exact ⟨⟨_,rfl⟩,HI.out⟩
theorem qoM (nb cb db B0 : Nat) (l : List St) (hok : ∀ s ∈ l,qcv nb cb B0 s.body /\ qcv nb cb B0 s.els) (L : Option Addr) (ln lc : Nat) (w : World) (jC : ln = l.length) (hm : ln <= maxLen) (hr : StRow w B0 l L) (hB : B0 <= nb) (hC : CntAt nb cb w) (hd : ∃ v : Int,w.heap[db]? = some (.cells #[.int .i64 v] 3 (0,0))) (hdn : db ≠ nb) :
 Calls Tryz.prog 40 #[.slice L ln lc,.func (.func 41) #[] #[.pointer (some ⟨cb,0,none⟩),.pointer (some ⟨db,0,none⟩)]] w (qgE nb cb w):=by
 have HC:=hZ (qqL nb cb db B0 l hok L ln lc w jC hm hr hB hC hd hdn)
 clear hok jC hm hr hB hC hd hdn
 go_enter Tryz.func40,Tryz.ntmps40
 go_wp2_with fail
 (with_reducible refine HC.out.mono ?_)
 rintro e w3 ⟨⟨q,rfl⟩,hn,hc⟩
 have H3:=hZ (aZ hn hc)
 clear hn hc
 obtain ⟨b,hb⟩ : ∃ b : Bool,b = decide (q >= 0):=⟨_,rfl⟩
 by_cases h0 : (0 : Int) <= q
 ·go_wp2
  go_ret
  exact ⟨⟨_,rfl⟩,H3.out⟩
 ·go_wp2
  go_ret
  exact ⟨⟨_,rfl⟩,H3.out⟩
theorem qqN (nb cb B0 : Nat) (l : List St) (hok : ∀ s ∈ l,qcv nb cb B0 s.body /\ qcv nb cb B0 s.els) : qcv nb cb B0 l:=by
 intro L ln lc dep w jC hm hr hB hC
 obtain ⟨v,xv⟩:=hC.n
 have hnlt:=(Array.getElem?_eq_some_iff.1 xv).1
 obtain ⟨W1,qh⟩ : ∃ W1,W1 = w.alloc (.cells #[.int .i64 dep] 3):=⟨_,rfl⟩
 have qk : Below w.heap.size w W1:=by rw [qh];exact qd w _
 have yc : W1.heap[w.heap.size]? = some (.cells #[.int .i64 dep] 3):=by rw [qh];exact qe w _
 obtain ⟨x,hx⟩ : ∃ x,x = wrap64 (v + ln):=⟨_,rfl⟩
 obtain ⟨W2,xB⟩ : ∃ W2,W2 = W1.setCell ⟨nb,0,none⟩ (.int .i64 x):=⟨_,rfl⟩
 have jZ:=qg qk xv
 have qfZ : Near nb W1 W2:=by rw [xB];exact yi W1 0 _
 have qhe : W2.heap[nb]? = some (.cells #[.int .i64 x] 3 (0,0)):=by rw [xB];exact qC jZ 0 (.int .i64 x)
 obtain ⟨TC,jt⟩:=hC.c
 have hcb2:=(qfZ.block _ (Array.getElem?_eq_some_iff.1 (qg qk jt)).1 (Ne.symm hC.ne)).trans (qg qk jt)
 have hp2:=(qfZ.block _ (Array.getElem?_eq_some_iff.1 yc).1 (by omega)).trans yc
 have hC2 : CntAt nb cb W2:=⟨hC.ne,⟨x,qhe⟩,TC,hcb2⟩
 have hn2 : Near nb w W2:=(yH qk).trans qfZ
 have qaK : B0 <= w.heap.size:=Nat.le_trans hB (Nat.le_of_lt hnlt)
 have zW : StRow W2 B0 l L:=hr.keep (fun z hz => xt hn2 (Nat.lt_of_lt_of_le hz qaK) (Nat.ne_of_lt (Nat.lt_of_lt_of_le hz hB))) (Nat.le_refl B0)
 have HC:=hZ (qoM nb cb w.heap.size B0 l hok L ln lc W2 jC hm zW hB hC2 ⟨dep,hp2⟩ (by omega))
 have HN:=hZ (aZ hn2 hC2)
 have z0:=qc jZ 0 (v:=.int .i64 v) rfl
 have f0:=zh jZ 0
 have z1:=qc qhe 0 (v:=.int .i64 x) rfl
 have z2:=qc hp2 0 (v:=.int .i64 dep) rfl
 have hmf : ∀ (fn : Fn) (first cap : Array Value) (w : World),(Instr.makeFunc fn first cap).run Tryz.prog w = .ok (.func fn first cap) w:=fun _ _ _ _ => rfl
 rw [xB,hx] at z1 z2
 rw [qh] at z0 f0 z1 z2
 rw [qh,hx] at xB
 have HX:=hZ hx
 clear hok jC hm hr hB hC xv hnlt qk yc jZ qfZ qhe jt hcb2 hp2 hC2 hn2 qaK zW qh
 go_enter Tryz.func39,Tryz.ntmps39
 by_cases h1 : wrap64 (v + ln) <= 60
 ·by_cases h2 : dep <= 40
  ·go_wp2_with fail
   rw [<- xB]
   clear xB z0 f0 z1 z2
   (with_reducible refine HC.out.mono ?_)
   rintro e w3 ⟨⟨b,rfl⟩,hn,hc⟩
   have H3:=hZ (aZ (HN.out.1.trans hn) hc)
   clear hn hc
   go_wp2
   go_ret
   exact ⟨⟨_,rfl⟩,H3.out⟩
  ·go_wp2
   go_ret
   rw [<- xB]
   exact ⟨⟨_,rfl⟩,HN.out⟩
 ·go_wp2
  go_ret
  rw [<- xB]
  exact ⟨⟨_,rfl⟩,HN.out⟩
theorem qsS (nb cb B0 : Nat) : ∀ (M : Nat) (l : List St),SizeOf.sizeOf l < M -> qcv nb cb B0 l:=by
 intro M
 induction M with
 | zero => intro l h;omega
 | succ M ih =>
   intro l hM
   refine qqN nb cb B0 l fun s hs => ?_
   have q1:=List.sizeOf_lt_of_mem hs
   have q2:=qiX s
   exact ⟨ih _ (by omega),ih _ (by omega)⟩
end
section
set_option maxRecDepth 100000
set_option maxHeartbeats 16000000
open Go.RowKit Go.Lib
theorem qmf (p : Pg) (d : GAd) (w : World) (own : xK w w.heap.size d p) :
 Calls Tryz.prog 8 #[.agg #[.slice d.r p.rs.length d.nr,.slice d.g p.gs.length d.ng,.slice d.k p.ks.length d.nk,.slice d.d p.ds.length d.nd,.slice d.m p.ms.length d.nm,.slice d.x p.xs.length d.nx]] w fun e w' => ((∃ v : Int,e = .returned (.int .i64 v) /\ (v = 0 \/ v = 1))) /\ Below w.heap.size w w':=by
 obtain ⟨nr,xU⟩ : ∃ n,n = p.rs.length:=⟨_,rfl⟩
 obtain ⟨ng,hng⟩ : ∃ n,n = p.gs.length:=⟨_,rfl⟩
 obtain ⟨nk,hnk⟩ : ∃ n,n = p.ks.length:=⟨_,rfl⟩
 obtain ⟨nd,vN⟩ : ∃ n,n = p.ds.length:=⟨_,rfl⟩
 obtain ⟨nm,yS⟩ : ∃ n,n = p.ms.length:=⟨_,rfl⟩
 obtain ⟨nx,hnx⟩ : ∃ n,n = p.xs.length:=⟨_,rfl⟩
 obtain ⟨Ax,hAx⟩ : ∃ a,a = d.x:=⟨_,rfl⟩
 have HO:=hZ (aZ hnx (aZ hAx own))
 rw [<- xU,<- hng,<- hnk,<- vN,<- yS,<- hnx,<- hAx]
 have zE : nx <= maxLen:=by rw [hnx];exact own.1.2.2.2.2.2
 obtain ⟨W1,qh⟩ : ∃ W1,W1 = w.alloc (.cells #[.slice d.r nr d.nr,.slice d.g ng d.ng,.slice d.k nk d.nk,.slice d.d nd d.nd,.slice d.m nm d.nm,.slice Ax nx d.nx] 29):=⟨_,rfl⟩
 have qk : Below w.heap.size w W1:=by rw [qh];exact qd w _
 have qw:=hZ qk
 obtain ⟨nb,xv⟩ : ∃ n,n = w.heap.size + 1:=⟨_,rfl⟩
 obtain ⟨cb,jt⟩ : ∃ n,n = w.heap.size + 1 + 1:=⟨_,rfl⟩
 have hs1 : W1.heap.size = nb:=by rw [qh,World.size_alloc,xv]
 obtain ⟨W2,xB⟩ : ∃ W2,W2 = W1.alloc (.cells #[.int .i64 0] 3):=⟨_,rfl⟩
 have hs2 : W2.heap.size = cb:=by rw [xB,World.size_alloc,hs1,jt,xv]
 obtain ⟨W3,hW3⟩ : ∃ W3,W3 = W2.alloc (.cells #[qiI nb cb] 102):=⟨_,rfl⟩
 have b2:=qe W1 (.cells #[.int .i64 0] 3)
 rw [hs1,<- xB] at b2
 have b3:=qe W2 (.cells #[qiI nb cb] 102)
 rw [hs2,<- hW3] at b3
 have qnh : Below W2.heap.size W2 W3:=by rw [hW3];exact qd _ _
 have qqA : Below W1.heap.size W1 W2:=by rw [xB];exact qd _ _
 have hC3 : CntAt nb cb W3:=⟨by omega,⟨0,qg qnh b2⟩,_,b3⟩
 have qt : Below w.heap.size w W3:=qk.chain (qqA.chain qnh)
 have b1:=qe w (.cells #[.slice d.r nr d.nr,.slice d.g ng d.ng,.slice d.k nk d.nk,.slice d.d nd d.nd,.slice d.m nm d.nm,.slice Ax nx d.nx] 29)
 rw [<- qh] at b1
 have z5:=qc (qg (qqA.chain qnh) b1) 5 (v:=.slice Ax nx d.nx) rfl
 have vD:=hZ (aZ hC3 (aZ qt (aZ xv jt)))
 have hmf : ∀ (fn : Fn) (first cap : Array Value) (w : World),(Instr.makeFunc fn first cap).run Tryz.prog w = .ok (.func fn first cap) w:=fun _ _ _ _ => rfl
 have hcl : ∀ args w,(callFunc 39 args).run Tryz.prog w = .ok (.enter 39 args) w:=enters_of Tryz.func39 (by kernel_rfl) rfl
 obtain ⟨T,N,zc,hT,hN,zd,hag,qK,yR⟩:=qjf
 have e1 : ∀ y : Operand,Op.load 46 y = Op.load T y:=fun y => by rw [hT]
 have e2 : ∀ y z : Operand,Op.store 46 y z = Op.store T y z:=fun y z => by rw [hT]
 have e3 : Op.alloc 46 = Op.alloc T:=by rw [hT]
 have HN:=hZ (aZ hN zd)
 rw [xv,jt] at hW3
 rw [xB,qh] at hW3
 rw [hW3] at z5
 clear own xU hng hnk vN yS hnx hAx qk hs1 hs2 b1 b2 b3 qnh qqA hC3 qt hN zd
 unfold maxLen at zE
 go_enter Tryz.func8,Tryz.ntmps8
 simp only [e1,e2,e3]
 clear e1 e2 e3 hT
 by_cases h0 : (10 : Int) < nr
 ·go_wp2
  go_ret
  rw [<- qh]
  exact ⟨⟨0,rfl,.inl rfl⟩,qw.out⟩
 by_cases h1 : (10 : Int) < ng
 ·go_wp2
  go_ret
  rw [<- qh]
  exact ⟨⟨0,rfl,.inl rfl⟩,qw.out⟩
 by_cases h2 : (10 : Int) < nk
 ·go_wp2
  go_ret
  rw [<- qh]
  exact ⟨⟨0,rfl,.inl rfl⟩,qw.out⟩
 by_cases h3 : (10 : Int) < nd
 ·go_wp2
  go_ret
  rw [<- qh]
  exact ⟨⟨0,rfl,.inl rfl⟩,qw.out⟩
 by_cases h4 : (10 : Int) < nm
 ·go_wp2
  go_ret
  rw [<- qh]
  exact ⟨⟨0,rfl,.inl rfl⟩,qw.out⟩
 by_cases h5 : (10 : Int) < nx
 ·go_wp2
  go_ret
  rw [<- qh]
  exact ⟨⟨0,rfl,.inl rfl⟩,qw.out⟩
 go_wp2
 rw [<- hW3,<- jt,<- xv]
 clear hW3 xB qh xv jt z5 h0 h1 h2 h3 h4 h5
 go_loopg [45] nx (fun m j wr => ∃ k : Nat,m = nx - k /\ k <= nx /\ j = .int .i64 k /\ Hid (Near nb W3 wr /\ CntAt nb cb wr))
 case atStart => exact ⟨0,rfl,Nat.zero_le _,rfl,hZ ⟨yH (Below.refl _ _),vD.out.1⟩⟩
 case round =>
  obtain ⟨k,rfl,hk,rfl,HI⟩:=hrel
  have hk0 : (0 : Int) <= k:=by omega
  by_cases qB : k < nx
  ·have jD : (k : Int) < nx:=by omega
   obtain ⟨y,hg⟩ : ∃ y,p.xs[k]? = some y:=⟨p.xs[k]'(by rw [<- HO.out.1];exact qB),List.getElem?_eq_getElem _⟩
   have hwn : w.heap.size <= nb:=by have := vD.out.2.2.1;omega
   have hbr : Below w.heap.size w wr:=qbE vD.out.2.1 HI.out.1 hwn
   obtain ⟨a,cs,hA,qx,qn,qP,hv⟩:=yB xf (Nat.le_refl _) hbr (qde HO.out.2.2.2.2.2.2.2.2) k y hg
   obtain rfl : Ax = some a:=HO.out.2.1.trans hA
   have qu : cs.size = N:=qn.trans HN.out.1.symm
   have zz : cs.all (·.oneCell') = true:=qaA hv
   have xy : (loadCellsFrom (a.add (k * 12)) 0 N #[]).run Tryz.prog wr = .ok cs wr:=qZ (fun j v hv => qP j v hv) qu
   have zv:=xF (w:=wr) (t:=T) (HN.out.2.trans qu.symm) zz
   obtain ⟨dp,hdp,how⟩:=hv
   obtain ⟨nbd,qfY⟩ : ∃ n,n = y.bd.length:=⟨_,rfl⟩
   have k11 : cs[11]? = some (.slice dp.b nbd dp.nb):=by rw [hdp,qfY];rfl
   obtain ⟨W6,qW⟩ : ∃ W6,W6 = wr.alloc (.cells cs T):=⟨_,rfl⟩
   have vu : Below wr.heap.size wr W6:=by rw [qW];exact qd wr _
   have xu : W6.heap[wr.heap.size]? = some (.cells cs T):=by rw [qW];exact qe wr _
   have hc6:=HI.out.2.on vu
   obtain ⟨TC,hcb6⟩:=hc6.c
   have z0:=qc hcb6 0 (v:=qiI nb cb) rfl
   have z1:=qc xu 11 k11
   rw [qW] at z0 z1
   have HQ:=hZ (qsS nb cb w.heap.size _ y.bd (Nat.lt_succ_self _) dp.b nbd dp.nb 0 W6 qfY (by rw [qfY];exact how.1.2.2.2.2.2.2.2.2) (how.2.2.2.2.2.2.keep (fun z hz => vu.cell (Nat.lt_of_lt_of_le hz hbr.size)) (Nat.le_refl _)) hwn hc6)
   have K6:=hZ (HI.out.1.trans (yH vu))
   clear hg hwn hbr qx qn qP zz hdp how qfY k11 vu xu hc6 hcb6
   go_wp2_with fail
   rw [<- qW]
   clear qW xy zv z0 z1
   (with_reducible refine HQ.out.mono ?_)
   rintro e w5 ⟨⟨b,rfl⟩,hn,hc⟩
   have K7:=hZ (aZ (K6.out.trans hn) hc)
   clear hn hc
   cases b
   ·go_wp2
    go_ret
    exact ⟨⟨0,rfl,.inl rfl⟩,qbE vD.out.2.1 K7.out.1 (by have := vD.out.2.2.1;omega)⟩
   ·go_wp2
    go_roundg (nx - (k + 1))
    case measure => omega
    case rel => exact ⟨k + 1,rfl,by omega,by go_num,K7⟩
  ·have hlt' : ¬ (k : Int) < nx:=by omega
   obtain rfl : k = nx:=by omega
   go_wp2
   go_ret
   exact ⟨⟨1,rfl,.inr rfl⟩,qbE vD.out.2.1 HI.out.1 (by have := vD.out.2.2.1;omega)⟩
end
end Go.Proofs.YtojjfdegkooknaaGreatDoor
