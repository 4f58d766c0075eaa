import Derived.Test.YtojjfdegkooknaaGreatDoorSTypH
import Derived.Test.YtojjfdegkooknaaGreatDoorSTypT
import Derived.Test.YtojjfdegkooknaaGreatDoorSTypTg
set_option linter.unusedVariables false
set_option linter.unusedSimpArgs false
namespace Go.Proofs.YtojjfdegkooknaaGreatDoor
section
set_option maxRecDepth 100000
set_option maxHeartbeats 8000000
open Go.RowKit Go.Lib
theorem qcm (A1 A2 : Option Addr) (n1 c1 n2 c2 S : Nat) (L1 L2 : List Pm) (hn : n1 + n2 <= 4400000000000) (w : World) (r1 : qI w w.heap.size 2 A1 n1 (qY L1)) (r2 : qI w w.heap.size 2 A2 n2 (qY L2)) (k1 : w.cell? ⟨S,0,none⟩ = some (.slice A1 n1 c1)) (k2 : w.cell? ⟨S,1,none⟩ = some (.slice A2 n2 c2)) (hS : S < w.heap.size) :
 Calls Tryz.prog 61 #[.slice (some ⟨S,0,none⟩) 2 2] w fun e w' => ∃ v,e = .returned v /\ w'.ownsRow w.heap.size 42 2 v (n1 + n2) (qY L1 ++ qY L2) /\ Below w.heap.size w w':=by
 have xW:=hZ r1
 have HR2:=hZ r2
 have HK:=hZ (aZ k1 k2)
 obtain ⟨i0,hi,hiz,his,yM⟩:=info_parts qgu
 have zt:=hZ (aZ hi (aZ hiz (aZ his yM)))
 obtain ⟨t2,ht2⟩ : ∃ t,t = n1 + n2:=⟨_,rfl⟩
 have hw1 : IntKind.i64.wrap (0 + (n1 : Int)) = (n1 : Int):=by rw [IntKind.wrap_i64];omega
 have hw1' : IntKind.i64.wrap (n1 : Int) = (n1 : Int):=by rw [IntKind.wrap_i64];omega
 have qk : ¬ (n1 : Int) < 0:=by omega
 have hw2 : IntKind.i64.wrap ((n1 : Int) + n2) = (t2 : Int):=by rw [IntKind.wrap_i64];omega
 have zF : ¬ (t2 : Int) < 0:=by omega
 have hN : t2 <= 4400000000000:=by omega
 rw [show n1 + n2 = t2 by omega]
 have xL:=hZ ht2
 have HN:=hZ hn
 clear r1 r2 hi hiz his yM ht2 hn
 go_enter Tryz.func61,Tryz.ntmps61
 go_wp2
 refine wp_loop_rounds 3 ?_
 rw [rounds_succ]
 go_wp2
 rw [rounds_succ]
 go_wp2
 rw [rounds_succ]
 go_wp2_with (go_at_call 85;refine (qh5 t2 _ rfl hN _).mono ?_;rintro e w2 ⟨v0,rfl,q1,q2⟩;have H0 : Hid (Below w.heap.size w w2 /\ w2.ownsRow w.heap.size 42 2 v0 0 []):=hZ ⟨q2,q1⟩;have d1:=(q2.cell (p:=⟨S,0,none⟩) hS).trans HK.out.1;have d2:=(q2.cell (p:=⟨S,1,none⟩) hS).trans HK.out.2;clear q1 q2 k1 k2)
 refine wp_loop_rounds 3 ?_
 rw [rounds_succ]
 go_wp2_with (at_builtin;refine qcw (o:=⟨some 33,_,_,_,_,_⟩) _ rfl _ _ 23 rfl w.heap.size 42 i0 _ 2 32 Tryz.underlying23 zt.out.1 zt.out.2.1 zt.out.2.2.1 zt.out.2.2.2 rfl (by decide) _ 0 [] rfl H0.out.2 w.heap.size A1 n1 _ (qY L1) rfl (xW.out.below H0.out.1) (vL _) (by unfold maxLen;have := HN.out;have := xL.out;omega) (by have := HN.out;have := xL.out;omega) H0.out.1.size ?_;intro v1 w3 o1 g1;have H1 : Hid (Below w.heap.size w w3 /\ w3.ownsRow w.heap.size 42 2 v1 n1 (qY L1)):=hZ ⟨H0.out.1.trans (zi H0.out.2 g1 H0.out.1.size),by simpa using o1⟩;clear o1 g1;clear d1 d2;have d2:=(H1.out.1.cell (p:=⟨S,1,none⟩) hS).trans HK.out.2)
 rw [rounds_succ]
 go_wp2_with (at_builtin;refine qcw (o:=⟨some 33,_,_,_,_,_⟩) _ rfl _ _ 23 rfl w.heap.size 42 i0 _ 2 32 Tryz.underlying23 zt.out.1 zt.out.2.1 zt.out.2.2.1 zt.out.2.2.2 rfl (by decide) _ n1 (qY L1) rfl H1.out.2 w.heap.size A2 n2 _ (qY L2) rfl (HR2.out.below H1.out.1) (vL _) (by unfold maxLen;have := HN.out;have := xL.out;omega) (by have := HN.out;have := xL.out;omega) H1.out.1.size ?_;intro v2 w4 o1 g1;have H2 : Hid (Below w.heap.size w w4 /\ w4.ownsRow w.heap.size 42 2 v2 t2 (qY L1 ++ qY L2)):=hZ ⟨H1.out.1.trans (zi H1.out.2 g1 H1.out.1.size),by rw [xL.out];exact o1⟩;clear o1 g1;clear d2)
 rw [rounds_succ]
 go_wp2
 go_ret
 exact ⟨_,rfl,H2.out.2,H2.out.1⟩
end
section
set_option maxRecDepth 100000
set_option maxHeartbeats 16000000
open Go.RowKit Go.Lib
def qaW (r : PCk) (cb : Nat) (d : GAd) (p : Pg) (w : World) (e : Ending) (w' : World) : Prop:=qbe r.1 e /\ Near cb w w' /\ w'.heap[cb]? = some (qbQ d p r.2)
def qk9 (P : St -> Prop) : Prop:=∀ s,P s -> (∀ t ∈ s.body,P t) /\ ∀ t ∈ s.els,P t
abbrev qu6 : Array Value:=#[.int .i64 0,.int .i64 0,.int .i64 0,.string ⟨#[]⟩,.string ⟨#[]⟩,.string ⟨#[]⟩,.int .i64 0,.int .i64 0,.string ⟨#[]⟩,.slice none 0 0,.int .i64 0,.int .i64 0,.int .i64 0,.string ⟨#[]⟩,.slice none 0 0,.int .i64 0,.int .i64 0,.string ⟨#[]⟩,.slice none 0 0,.slice none 0 0,.slice none 0 0,.slice none 0 0,.slice none 0 0,.slice none 0 0]
theorem qoy : ∃ (T N : Nat) (zc : Array Value),90 = T /\ N = 24 /\ zc.size = N /\ (∀ w : World,(isAgg T).run Tryz.prog w = .ok true w) /\ (∀ w : World,(sizeOf T).run Tryz.prog w = .ok N w) /\ (∀ w : World,(zeroValue T).run Tryz.prog w = .ok (.agg zc) w) :=
 ⟨_,24,qu6,rfl,rfl,rfl,fun w => by kernel_rfl,fun w => by kernel_rfl,fun w => by kernel_rfl⟩
theorem qiX (s : St) : SizeOf.sizeOf s.body < SizeOf.sizeOf s /\ SizeOf.sizeOf s.els < SizeOf.sizeOf s:=by
 obtain ⟨k,l,c,nm,fd,fr,e,cn,cl,iv,b,o⟩:=s
 constructor
 ·show SizeOf.sizeOf b < _
  simp;omega
 ·show SizeOf.sizeOf o < _
  simp;omega
theorem yi {cb : Nat} (w : World) (j : Nat) (v : Value) : Near cb w (w.setCell ⟨cb,j,none⟩ v) :=
 ⟨rfl,rfl,rfl,by simp [World.setCell],fun b _ zN => RowKit.Below.heap_setCell _ _ _ _ zN⟩
theorem qpU (p : Pg) (d : GAd) (B0 B1 cb : Nat) (sc br asn : List Pm) (b : BAd) (P : St -> Prop) (hP : qk9 P) (zv : ∀ s,P s -> qa3 p d B0 B1 cb sc br asn b s) :
 ∀ (M : Nat) (l : List St),SizeOf.sizeOf l < M -> (∀ s ∈ l,P s) -> ∀ (L : Option Addr) (ln lc : Nat) (w : World) (q : Int × Int),ln = l.length -> StRow w B0 l L -> l.length <= maxLen -> ChkW w B0 cb d p q -> BdAt w B1 cb sc br asn b ->
 Calls Tryz.prog 104 #[bV cb b,.slice L ln lc] w (qaW (yg p sc br asn q l) cb d p w):=by
 intro M
 induction M with
 | zero => intro l h;omega
 | succ M ih =>
   intro l hM hgood L ln lc w q jC qL hlm hC hB
   obtain ⟨A,n,c1,D,m,d1,E,k,ec⟩:=b
   obtain ⟨T,N,zc,hT,hN,zd,hag,qK,yR⟩:=qoy
   have e1 : ∀ y : Operand,Op.load 90 y = Op.load T y:=fun y => by rw [hT]
   have e2 : ∀ y z : Operand,Op.store 90 y z = Op.store T y z:=fun y z => by rw [hT]
   have e3 : Op.alloc 90 = Op.alloc T:=by rw [hT]
   show Calls Tryz.prog _ #[zT cb A n c1 D m d1 E k ec,.slice L ln lc] w _
   obtain ⟨W1,qh⟩ : ∃ W1,W1 = w.alloc (qS cb A n c1 D m d1 E k ec):=⟨_,rfl⟩
   have qk : Below w.heap.size w W1:=by rw [qh];exact qd w _
   have yc : W1.heap[w.heap.size]? = some (qS cb A n c1 D m d1 E k ec):=by rw [qh];exact qe w _
   have jt : w.heap.size ≠ cb:=by have := hC.lt;omega
   have ih2 : ∀ (l2 : List St),SizeOf.sizeOf l2 < M -> (∀ s ∈ l2,P s) -> ∀ (L : Option Addr) (ln lc : Nat) (w : World) (q : Int × Int),ln = l2.length -> StRow w B0 l2 L -> l2.length <= maxLen -> ChkW w B0 cb d p q -> BodyAt w B1 cb sc br asn A n D m E k ->
    Calls Tryz.prog 104 #[zT cb A n c1 D m d1 E k ec,.slice L ln lc] w (qaW (yg p sc br asn q l2) cb d p w):=ih
   have hst2 : ∀ s,P s -> ∀ (cs : Array Value) (w : World) (q : Int × Int),qig w B0 s cs -> ChkW w B0 cb d p q -> BodyAt w B1 cb sc br asn A n D m E k -> Calls Tryz.prog 136 #[zT cb A n c1 D m d1 E k ec,.agg cs] w (qV (stC p sc br asn s) w):=zv
   have HR:=hZ (aZ (qL.keep (fun z hz => qk.cell (Nat.lt_of_lt_of_le hz (Nat.le_trans hC.le (Nat.le_of_lt hC.lt)))) (Nat.le_refl _) : StRow W1 B0 l L) (aZ jC (aZ (hC.on qk) (aZ (hB.on qk) hgood))))
   have HI2:=hZ (aZ (show SizeOf.sizeOf l < M + 1 from hM) (aZ ih2 hst2))
   have qw:=hZ (aZ qk (aZ yc jt))
   have HN:=hZ (aZ hN zd)
   have hlm' : ln <= maxLen:=by rw [jC];exact hlm
   have HF : Hid (∀ r,qaW r cb d p W1 = qaW r cb d p W1):=hZ (fun _ => rfl)
   clear qL jC hC hB hgood hM ih ih2 zv hst2 qk yc hN zd hlm jt
   unfold maxLen at hlm'
   go_enter Tryz.func104,Tryz.ntmps104
   simp only [e1,e2,e3]
   clear e1 e2 e3 hT
   go_wp2
   rw [<- qh]
   clear qh
   go_loopg [8] ln (fun mm j wr => ∃ (i : Nat) (q1 : Int × Int),mm = ln - i /\ i <= ln /\ j = .int .i64 i /\ Hid (Near cb W1 wr /\ wr.heap[cb]? = some (qbQ d p q1) /\ yg p sc br asn q (l.take i) = (none,q1)))
   case atStart => exact ⟨0,q,rfl,Nat.zero_le _,rfl,hZ ⟨yH (Below.refl _ _),HR.out.2.2.1.box,by rw [List.take_zero,yg]⟩⟩
   case round =>
    obtain ⟨i,q1,rfl,hi,rfl,HI⟩:=hrel
    have xj : (0 : Int) <= i:=by omega
    by_cases qB : i < ln
    ·have hii : (i : Int) < ln:=by omega
     obtain ⟨s,hg⟩ : ∃ x,l[i]? = some x:=⟨l[i]'(by rw [<- HR.out.2.1];exact qB),List.getElem?_eq_getElem _⟩
     have hCr:=HR.out.2.2.1.near HI.out.1 HI.out.2.1
     have qz : B0 <= W1.heap.size:=Nat.le_trans HR.out.2.2.1.le (Nat.le_of_lt HR.out.2.2.1.lt)
     have qkq : ∀ z : Addr,z.block < B0 -> wr.cell? z = W1.cell? z:=fun z hz => xt HI.out.1 (Nat.lt_of_lt_of_le hz qz) (Nat.ne_of_lt (Nat.lt_of_lt_of_le hz hCr.le))
     obtain ⟨a,sd,rfl,qx,qaH,qA,yO,zW⟩:=(HR.out.1.keep qkq (Nat.le_refl B0)).at_ hg
     obtain ⟨cs,qn⟩ : ∃ cs,cs = jW sd s:=⟨_,rfl⟩
     have qM : cs.size = 24:=by rw [qn];exact zO _ _
     have zz : cs.all (·.oneCell') = true:=by rw [qn];exact qj6 _ _
     rw [<- qn] at qaH
     have qu : cs.size = N:=qM.trans HN.out.1.symm
     have xy : (loadCellsFrom (a.add (i * 24)) 0 N #[]).run Tryz.prog wr = .ok cs wr:=qZ (fun j v hv => qaH j v hv) qu
     have zv:=xF (w:=wr) (t:=T) (HN.out.2.trans qu.symm) zz
     -- the box of the statement
     obtain ⟨W5,hW5⟩ : ∃ W5,W5 = wr.alloc (.cells cs T):=⟨_,rfl⟩
     have hb5 : Below wr.heap.size wr W5:=by rw [hW5];exact qd wr _
     have hp5 : W5.heap[wr.heap.size]? = some (.cells cs T):=by rw [hW5];exact qe wr _
     have qm7 : W5.heap[w.heap.size]? = some (qS cb A n c1 D m d1 E k ec):=(hb5.block _ (Nat.lt_of_lt_of_le (Array.getElem?_eq_some_iff.1 qw.out.2.1).1 HI.out.1.size)).trans ((HI.out.1.block _ (Array.getElem?_eq_some_iff.1 qw.out.2.1).1 qw.out.2.2).trans qw.out.2.1)
     have qgw : W5.heap[cb]? = some (qbQ d p q1):=qg hb5 HI.out.2.1
     obtain ⟨ln0,qqs⟩ : ∃ x,x = stLn s:=⟨_,rfl⟩
     obtain ⟨co0,qqx⟩ : ∃ x,x = stCo s:=⟨_,rfl⟩
     obtain ⟨nb,xv⟩ : ∃ x,x = s.body.length:=⟨_,rfl⟩
     obtain ⟨no,hno⟩ : ∃ x,x = s.els.length:=⟨_,rfl⟩
     have k12 : cs[1]? = some (.int .i64 ln0) /\ cs[2]? = some (.int .i64 co0) /\ cs[22]? = some (.slice sd.s nb sd.ns) /\ cs[23]? = some (.slice sd.t no sd.nt):=by
      rw [qn,qqs,qqx,xv,hno]
      obtain ⟨k,l,c,nm,fd,fr,⟨ek,en,es,exl⟩,⟨ck,⟨ak,an,sa,al⟩,⟨bk,bn,sb,bl⟩,cls⟩,cl,iv,b,o⟩:=s
      exact ⟨rfl,rfl,rfl,rfl⟩
     obtain ⟨W7,vX⟩ : ∃ W7,W7 = (W5.setCell ⟨cb,6,none⟩ (.int .i64 ln0)).setCell ⟨cb,7,none⟩ (.int .i64 co0):=⟨_,rfl⟩
     have qnd : Near cb W5 W7:=by rw [vX];exact (yi W5 6 _).trans (yi _ 7 _)
     have qry : W7.heap[cb]? = some (qbQ d p (ln0,co0)):=by rw [vX];exact qC (qC qgw 6 (.int .i64 ln0)) 7 (.int .i64 co0)
     have hs15 : W1.heap.size <= wr.heap.size:=HI.out.1.size
     have hcb5 : wr.heap.size ≠ cb:=by have := HR.out.2.2.1.lt;omega
     have hp7 : W7.heap[wr.heap.size]? = some (.cells cs T):=(qnd.block _ (Array.getElem?_eq_some_iff.1 hp5).1 hcb5).trans hp5
     have qiA : W7.heap[w.heap.size]? = some (qS cb A n c1 D m d1 E k ec):=(qnd.block _ (Array.getElem?_eq_some_iff.1 qm7).1 qw.out.2.2).trans qm7
     have qkp : Near cb W1 W7:=(HI.out.1.trans (yH hb5)).trans qnd
     have hC7 : ChkW W7 B0 cb d p (ln0,co0):=HR.out.2.2.1.near qkp qry
     have hB7:=HR.out.2.2.2.1.near qkp
     have qeG : ∀ z : Addr,z.block < B0 -> W7.cell? z = wr.cell? z:=fun z hz => (xt qkp (Nat.lt_of_lt_of_le hz qz) (Nat.ne_of_lt (Nat.lt_of_lt_of_le hz hCr.le))).trans (qkq z hz).symm
     have HS:=hZ (HI2.out.2.2 s (HR.out.2.2.2.2 s (List.mem_of_getElem? hg)) cs W7 (ln0,co0) ⟨sd,qn,qA.keep qeG (Nat.le_refl _),yO.keep qeG (Nat.le_refl _),zW.keep qeG (Nat.le_refl _)⟩ hC7 hB7)
     have HK7:=hZ (aZ qkp (aZ hp7 (aZ qiA (aZ hC7 (aZ hB7 (aZ (yO.keep qeG (Nat.le_refl _)) (zW.keep qeG (Nat.le_refl _))))))))
     have qgv : s.body.length <= maxLen /\ s.els.length <= maxLen:=by
      obtain ⟨k,l,c,nm,fd,fr,⟨ek,en,es,exl⟩,⟨ck,⟨ak,an,sa,al⟩,⟨bk,bn,sb,bl⟩,cls⟩,cl,iv,b,o⟩:=s
      exact ⟨qA.1.2.2.2.2.2.2.2.2.2.2.2.2.1,qA.1.2.2.2.2.2.2.2.2.2.2.2.2.2⟩
     have HG:=hZ (aZ hg (aZ xv (aZ hno (aZ qgv (aZ qu (qtf p sc br asn s ln0 co0 qqs.symm qqx.symm))))))
     have HK:=hZ k12
     have z0:=qc qm7 0 (v:=.pointer (some ⟨cb,0,none⟩)) rfl
     have z1:=qc hp5 1 k12.1
     have z2:=qc hp5 2 k12.2.1
     have y6:=qc qgw 6 (v:=.int .i64 q1.1) rfl
     have y7:=qc qgw 7 (v:=.int .i64 q1.2) rfl
     have f6:=zh qgw 6
     have f7:=zh qgw 7
     have x0:=qc qiA 0 (v:=.pointer (some ⟨cb,0,none⟩)) rfl
     have x1:=qc qiA 1 (v:=.slice A n c1) rfl
     have x2:=qc qiA 2 (v:=.slice D m d1) rfl
     have x3:=qc qiA 3 (v:=.slice E k ec) rfl
     have hl7:=zI hp7 qu
     rw [vX] at x0 x1 x2 x3 hl7
     rw [hW5] at z0 z1 z2 y6 y7 f6 f7 x0 x1 x2 x3 hl7
     clear hg hCr qz qkq qx qaH qA yO zW qn qM zz hb5 hp5 qm7 qgw qqs qqx xv hno k12 qnd qry hs15 hcb5 hp7 qiA qkp hC7 hB7 qeG qgv
     go_wp2_with fail
     rw [<- hW5,<- vX]
     clear z0 z1 z2 y6 y7 f6 f7 x0 x1 x2 x3 hl7 hW5 vX xy zv
     (with_reducible refine HS.out.mono ?_)
     rintro ee w8 ⟨he,hb8⟩
     have HK8:=hZ (aZ (HK7.out.1.trans (yH hb8)) (aZ (qg hb8 HK7.out.2.1) (aZ (qg hb8 HK7.out.2.2.1) (aZ (HK7.out.2.2.2.1.on hb8) (HK7.out.2.2.2.2.1.on hb8)))))
     have qz : B0 <= W7.heap.size:=Nat.le_trans HK7.out.2.2.2.1.le (Nat.le_of_lt HK7.out.2.2.2.1.lt)
     have HRW:=hZ (aZ (HK7.out.2.2.2.2.2.1.keep (fun z hz => hb8.cell (Nat.lt_of_lt_of_le hz qz)) (Nat.le_refl _)) (HK7.out.2.2.2.2.2.2.keep (fun z hz => hb8.cell (Nat.lt_of_lt_of_le hz qz)) (Nat.le_refl _)))
     clear hb8 qz
     have hsl : SizeOf.sizeOf s.body < M /\ SizeOf.sizeOf s.els < M:=by
      have q3:=List.sizeOf_lt_of_mem (List.mem_of_getElem? HG.out.1)
      have q4:=qiX s
      have q5:=HI2.out.1
      omega
     have hgs:=hP s (HR.out.2.2.2.2 s (List.mem_of_getElem? HG.out.1))
     have HNW : Hid (Near cb w W1):=hZ (yH qw.out.1)
     cases vf : stC p sc br asn s with
     | some t =>
       rw [vf] at he
       obtain rfl : ee = _:=he
       have hstp : stP p sc br asn s = (some t,(ln0,co0)):=by rw [HG.out.2.2.2.2.2,vf,qdU]
       have ja:=qfK p sc br asn q q1 l i s t (ln0,co0) HG.out.1 HI.out.2.2 hstp
       refine ⟨rfl,?_⟩
       rw [ja]
       exact ⟨rfl,HNW.out.trans HK8.out.1,HK8.out.2.2.2.1.box⟩
     | none =>
       rw [vf] at he
       obtain rfl : ee = _:=he
       obtain ⟨r1,yO⟩ : ∃ r,r = yg p sc br asn (ln0,co0) s.body:=⟨_,rfl⟩
       have HS1:=hZ (HI2.out.2.1 s.body hsl.1 hgs.1 sd.s nb sd.ns w8 (ln0,co0) HG.out.2.1 HRW.out.1 HG.out.2.2.2.1.1 HK8.out.2.2.2.1 HK8.out.2.2.2.2)
       rw [<- yO] at HS1
       have HQ1 : Hid (stP p sc br asn s = vm r1 fun q => yg p sc br asn q s.els):=hZ (by rw [HG.out.2.2.2.2.2,vf,qcy,yO])
       have x0:=qc HK8.out.2.2.1 0 (v:=.pointer (some ⟨cb,0,none⟩)) rfl
       have x1:=qc HK8.out.2.2.1 1 (v:=.slice A n c1) rfl
       have x2:=qc HK8.out.2.2.1 2 (v:=.slice D m d1) rfl
       have x3:=qc HK8.out.2.2.1 3 (v:=.slice E k ec) rfl
       have x4:=qc HK8.out.2.1 22 HK.out.2.2.1
       have HSL:=hZ (aZ hsl hgs)
       clear yO vf hsl hgs
       go_wp2_with fail
       clear x0 x1 x2 x3 x4
       (with_reducible refine HS1.out.mono ?_)
       rintro ee w9 ⟨he,hn9,qdD⟩
       have qz : B0 <= w8.heap.size:=Nat.le_trans HK8.out.2.2.2.1.le (Nat.le_of_lt HK8.out.2.2.2.1.lt)
       have qfV : wr.heap.size ≠ cb:=by have := HR.out.2.2.1.lt;have := HI.out.1.size;omega
       have hp9 : w9.heap[wr.heap.size]? = some (.cells cs T):=(hn9.block _ (Array.getElem?_eq_some_iff.1 HK8.out.2.1).1 qfV).trans HK8.out.2.1
       have hpb9 : w9.heap[w.heap.size]? = some (qS cb A n c1 D m d1 E k ec):=(hn9.block _ (Array.getElem?_eq_some_iff.1 HK8.out.2.2.1).1 qw.out.2.2).trans HK8.out.2.2.1
       have HRW9:=hZ (HRW.out.2.keep (fun z hz => xt hn9 (Nat.lt_of_lt_of_le hz qz) (Nat.ne_of_lt (Nat.lt_of_lt_of_le hz HK8.out.2.2.2.1.le))) (Nat.le_refl _))
       obtain ⟨ck,q2⟩:=r1
       have HK9:=hZ (aZ (HK8.out.1.trans hn9) (aZ hp9 (aZ hpb9 (aZ (HK8.out.2.2.2.1.near hn9 qdD) (HK8.out.2.2.2.2.near hn9)))))
       clear hn9 qdD qz qfV hp9 hpb9
       cases ck with
       | some t =>
         obtain rfl : ee = _:=he
         have ja:=qfK p sc br asn q q1 l i s t q2 HG.out.1 HI.out.2.2 (by rw [HQ1.out,qdU])
         refine ⟨rfl,?_⟩
         rw [ja]
         exact ⟨rfl,HNW.out.trans HK9.out.1,HK9.out.2.2.2.1.box⟩
       | none =>
         obtain rfl : ee = _:=he
         obtain ⟨r2,zW⟩ : ∃ r,r = yg p sc br asn q2 s.els:=⟨_,rfl⟩
         have qo:=hZ (HI2.out.2.1 s.els HSL.out.1.2 HSL.out.2.2 sd.t no sd.nt w9 q2 HG.out.2.2.1 HRW9.out HG.out.2.2.2.1.2 HK9.out.2.2.2.1 HK9.out.2.2.2.2)
         rw [<- zW] at qo
         have yQ : Hid (stP p sc br asn s = r2):=hZ (by rw [HQ1.out,qcy,zW])
         have x0:=qc HK9.out.2.2.1 0 (v:=.pointer (some ⟨cb,0,none⟩)) rfl
         have x1:=qc HK9.out.2.2.1 1 (v:=.slice A n c1) rfl
         have x2:=qc HK9.out.2.2.1 2 (v:=.slice D m d1) rfl
         have x3:=qc HK9.out.2.2.1 3 (v:=.slice E k ec) rfl
         have x4:=qc HK9.out.2.1 23 HK.out.2.2.2
         clear zW
         go_wp2_with fail
         clear x0 x1 x2 x3 x4
         (with_reducible refine qo.out.mono ?_)
         rintro ee w10 ⟨he,hn10,hbx10⟩
         obtain ⟨ck2,q3⟩:=r2
         have qnC:=hZ (aZ (HK9.out.1.trans hn10) hbx10)
         clear hn10 hbx10
         cases ck2 with
         | some t =>
           obtain rfl : ee = _:=he
           have ja:=qfK p sc br asn q q1 l i s t q3 HG.out.1 HI.out.2.2 yQ.out
           refine ⟨rfl,?_⟩
           rw [ja]
           exact ⟨rfl,HNW.out.trans qnC.out.1,qnC.out.2⟩
         | none =>
           obtain rfl : ee = _:=he
           have HT : Hid (yg p sc br asn q (l.take (i + 1)) = (none,q3)):=hZ ((qiU p sc br asn q q1 l i s HG.out.1 HI.out.2.2).trans yQ.out)
           skip
           go_wp2
           go_roundg (ln - (i + 1))
           case measure => omega
           case rel => exact ⟨i + 1,q3,rfl,by omega,by go_num,hZ ⟨qnC.out.1,qnC.out.2,HT.out⟩⟩
    ·have hlt' : ¬ (i : Int) < ln:=by omega
     obtain rfl : i = ln:=by omega
     have ja:=HI.out.2.2
     rw [List.take_of_length_le (by rw [HR.out.2.1];exact Nat.le_refl _)] at ja
     have HE:=hZ ja
     clear ja
     go_wp2
     refine bodyPost_end (results_none rfl _ _ _) rfl ?_
     rw [HE.out]
     exact ⟨rfl,(yH qw.out.1).trans HI.out.1,HI.out.2.1⟩
end
section
set_option maxRecDepth 100000
set_option maxHeartbeats 8000000
open Go.RowKit Go.Lib
theorem qs3 (A1 A2 A3 : Option Addr) (n1 c1 n2 c2 n3 c3 S : Nat) (L1 L2 L3 : List Pm) (hn : n1 + n2 + n3 <= 4000000000000) (w : World) (r1 : qI w w.heap.size 2 A1 n1 (qY L1)) (r2 : qI w w.heap.size 2 A2 n2 (qY L2)) (r3 : qI w w.heap.size 2 A3 n3 (qY L3)) (k1 : w.cell? ⟨S,0,none⟩ = some (.slice A1 n1 c1)) (k2 : w.cell? ⟨S,1,none⟩ = some (.slice A2 n2 c2)) (k3 : w.cell? ⟨S,2,none⟩ = some (.slice A3 n3 c3)) (hS : S < w.heap.size) :
 Calls Tryz.prog 61 #[.slice (some ⟨S,0,none⟩) 3 3] w fun e w' => ∃ v,e = .returned v /\ w'.ownsRow w.heap.size 42 2 v (n1 + n2 + n3) (qY L1 ++ qY L2 ++ qY L3) /\ Below w.heap.size w w':=by
 have xW:=hZ r1
 have HR2:=hZ r2
 have HR3:=hZ r3
 have HK:=hZ (aZ k1 (aZ k2 k3))
 obtain ⟨i0,hi,hiz,his,yM⟩:=info_parts qgu
 have zt:=hZ (aZ hi (aZ hiz (aZ his yM)))
 obtain ⟨t2,ht2⟩ : ∃ t,t = n1 + n2:=⟨_,rfl⟩
 obtain ⟨t3,ht3⟩ : ∃ t,t = t2 + n3:=⟨_,rfl⟩
 have hw1 : IntKind.i64.wrap (0 + (n1 : Int)) = (n1 : Int):=by rw [IntKind.wrap_i64];omega
 have hw1' : IntKind.i64.wrap (n1 : Int) = (n1 : Int):=by rw [IntKind.wrap_i64];omega
 have qk : ¬ (n1 : Int) < 0:=by omega
 have hw2 : IntKind.i64.wrap ((n1 : Int) + n2) = (t2 : Int):=by rw [IntKind.wrap_i64];omega
 have zF : ¬ (t2 : Int) < 0:=by omega
 have hw3 : IntKind.i64.wrap ((t2 : Int) + n3) = (t3 : Int):=by rw [IntKind.wrap_i64];omega
 have qt : ¬ (t3 : Int) < 0:=by omega
 have hN : t3 <= 4000000000000:=by omega
 rw [show n1 + n2 + n3 = t3 by omega]
 have xL:=hZ ht2
 have vS:=hZ ht3
 have HN:=hZ hn
 clear r1 r2 r3 hi hiz his yM ht2 ht3 hn
 go_enter Tryz.func61,Tryz.ntmps61
 go_wp2
 refine wp_loop_rounds 4 ?_
 rw [rounds_succ]
 go_wp2
 rw [rounds_succ]
 go_wp2
 rw [rounds_succ]
 go_wp2
 rw [rounds_succ]
 go_wp2_with (go_at_call 85;refine (qjm t3 _ rfl hN _).mono ?_;rintro e w2 ⟨v0,rfl,q1,q2⟩;have H0 : Hid (Below w.heap.size w w2 /\ w2.ownsRow w.heap.size 42 2 v0 0 []):=hZ ⟨q2,q1⟩;have d1:=(q2.cell (p:=⟨S,0,none⟩) hS).trans HK.out.1;have d2:=(q2.cell (p:=⟨S,1,none⟩) hS).trans HK.out.2.1;have d3:=(q2.cell (p:=⟨S,2,none⟩) hS).trans HK.out.2.2;clear q1 q2 k1 k2 k3)
 refine wp_loop_rounds 4 ?_
 rw [rounds_succ]
 go_wp2_with (at_builtin;refine qQ (o:=⟨some 33,_,_,_,_,_⟩) _ rfl _ _ 23 rfl w.heap.size 42 i0 _ 2 32 Tryz.underlying23 zt.out.1 zt.out.2.1 zt.out.2.2.1 zt.out.2.2.2 rfl (by decide) _ 0 [] rfl H0.out.2 w.heap.size A1 n1 _ (qY L1) rfl (xW.out.below H0.out.1) (vL _) (by unfold maxLen;have := HN.out;have := xL.out;have := vS.out;omega) (by have := HN.out;have := xL.out;have := vS.out;omega) H0.out.1.size ?_;intro v1 w3 o1 g1 _;have H1 : Hid (Below w.heap.size w w3 /\ w3.ownsRow w.heap.size 42 2 v1 n1 (qY L1)):=hZ ⟨H0.out.1.trans (zi H0.out.2 g1 H0.out.1.size),by simpa using o1⟩;clear o1 g1;clear d1 d2 d3;have d2:=(H1.out.1.cell (p:=⟨S,1,none⟩) hS).trans HK.out.2.1;have d3:=(H1.out.1.cell (p:=⟨S,2,none⟩) hS).trans HK.out.2.2)
 rw [rounds_succ]
 go_wp2_with (at_builtin;refine qQ (o:=⟨some 33,_,_,_,_,_⟩) _ rfl _ _ 23 rfl w.heap.size 42 i0 _ 2 32 Tryz.underlying23 zt.out.1 zt.out.2.1 zt.out.2.2.1 zt.out.2.2.2 rfl (by decide) _ n1 (qY L1) rfl H1.out.2 w.heap.size A2 n2 _ (qY L2) rfl (HR2.out.below H1.out.1) (vL _) (by unfold maxLen;have := HN.out;have := xL.out;have := vS.out;omega) (by have := HN.out;have := xL.out;have := vS.out;omega) H1.out.1.size ?_;intro v2 w4 o1 g1 _;have H2 : Hid (Below w.heap.size w w4 /\ w4.ownsRow w.heap.size 42 2 v2 t2 (qY L1 ++ qY L2)):=hZ ⟨H1.out.1.trans (zi H1.out.2 g1 H1.out.1.size),by rw [xL.out];exact o1⟩;clear o1 g1;clear d2 d3;have d3:=(H2.out.1.cell (p:=⟨S,2,none⟩) hS).trans HK.out.2.2)
 rw [rounds_succ]
 go_wp2_with (at_builtin;refine qQ (o:=⟨some 33,_,_,_,_,_⟩) _ rfl _ _ 23 rfl w.heap.size 42 i0 _ 2 32 Tryz.underlying23 zt.out.1 zt.out.2.1 zt.out.2.2.1 zt.out.2.2.2 rfl (by decide) _ t2 (qY L1 ++ qY L2) rfl H2.out.2 w.heap.size A3 n3 _ (qY L3) rfl (HR3.out.below H2.out.1) (vL _) (by unfold maxLen;have := HN.out;have := xL.out;have := vS.out;omega) (by have := HN.out;have := xL.out;have := vS.out;omega) H2.out.1.size ?_;intro v3 w5 o1 g1 _;have H3 : Hid (Below w.heap.size w w5 /\ w5.ownsRow w.heap.size 42 2 v3 t3 (qY L1 ++ qY L2 ++ qY L3)):=hZ ⟨H2.out.1.trans (zi H2.out.2 g1 H2.out.1.size),by rw [vS.out];exact o1⟩;clear o1 g1;clear d3)
 rw [rounds_succ]
 go_wp2
 go_ret
 exact ⟨_,rfl,H3.out.2,H3.out.1⟩
end
end Go.Proofs.YtojjfdegkooknaaGreatDoor
