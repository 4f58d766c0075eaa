import Derived.Test.YtojjfdegkooknaaGreatDoorSTypW
set_option linter.unusedVariables false
set_option linter.unusedSimpArgs false
namespace Go.Proofs.YtojjfdegkooknaaGreatDoor
section
set_option maxRecDepth 100000
set_option maxHeartbeats 8000000
open Go.RowKit
open Go.Maps (Keyed)
abbrev qpu : Array Value:=#[.string ⟨#[]⟩,.slice none 0 0,.slice none 0 0]
theorem qci : ∃ (T N : Nat) (zc : Array Value),64 = T /\ N = 3 /\ zc.size = N /\ zc = qpu /\ (∀ w : World,(isAgg T).run Tryz.prog w = .ok true w) /\ (∀ w : World,(sizeOf T).run Tryz.prog w = .ok N w) /\ (∀ w : World,(zeroValue T).run Tryz.prog w = .ok (.agg zc) w) :=
 ⟨_,3,qpu,rfl,rfl,rfl,rfl,fun w => by kernel_rfl,fun w => by kernel_rfl,fun w => by kernel_rfl⟩
theorem qfG {w : World} {B : Nat} {cs : Array Value} {x : Df} (hv : vg w B cs x) : cs.size = 3:=by
 obtain ⟨_,_,_,_,rfl,_⟩:=hv
 rfl
theorem qeW {w : World} {B : Nat} {cs : Array Value} {x : Df} (hv : vg w B cs x) : cs.all (·.oneCell') = true:=by
 obtain ⟨_,_,_,_,rfl,_⟩:=hv
 rw [List.all_toArray]
 rfl
theorem qsg {w : World} {B : Nat} {cs : Array Value} {x : Df} (hv : vg w B cs x) : cs[0]? = some (.string ⟨x.nm.toArray⟩):=by
 obtain ⟨_,_,_,_,rfl,_⟩:=hv
 rfl
theorem qof : xm 99 vg (·.nm):=by
 intro x cs w hv
 obtain ⟨T,N,zc,hT,hN,zd,_,hag,qK,yR⟩:=qci
 have e4 : ∀ y : Operand,Op.box 64 y = Op.box T y:=fun y => by rw [hT]
 have qu : cs.size = N:=(qfG hv).trans hN.symm
 have c:=qc (qe w (.cells cs T)) 0 (qsg hv)
 have HB:=hZ (qd w (.cells cs T))
 clear hN zd hv
 go_enter Tryz.func99,Tryz.ntmps99
 simp only [e4]
 clear e4 hT
 go_wp2
 go_ret
 exact ⟨rfl,HB.out⟩
theorem qs4 (NF : Nat) (hG : ∀ args w,(callFunc NF args).run Tryz.prog w = .ok (.enter NF args) w) (nm : Df -> List UInt8) (hN0 : xm NF vg nm) (s : List UInt8) (x : Df) (cs : Array Value) (bf bs : Nat) (w : World) (hv : vg w w.heap.size cs x)
 (yd : w.cell? ⟨bf,0,none⟩ = some (.func (.func NF) #[] #[])) (yV : w.cell? ⟨bs,0,none⟩ = some (.string ⟨s.toArray⟩)) :
 Calls Tryz.prog 180 #[.agg cs,.pointer (some ⟨bf,0,none⟩),.pointer (some ⟨bs,0,none⟩)] w fun e w' => e = .returned (.bool (nm x == s)) /\ Below w.heap.size w w':=by
 obtain ⟨T,N,zc,hT,hN,zd,_,hag,qK,yR⟩:=qci
 have e1 : ∀ y : Operand,Op.load 64 y = Op.load T y:=fun y => by rw [hT]
 have e4 : ∀ y : Operand,Op.box 64 y = Op.box T y:=fun y => by rw [hT]
 have qu : cs.size = N:=(qfG hv).trans hN.symm
 obtain ⟨W1,qh⟩ : ∃ W1,W1 = w.alloc (.cells cs T):=⟨_,rfl⟩
 have qk : Below w.heap.size w W1:=by rw [qh];exact qd w _
 have yc : W1.heap[w.heap.size]? = some (.cells cs T (0,0)):=by rw [qh];exact qe w _
 obtain ⟨S,hS⟩ : ∃ S : World -> Prop,S = fun W => Below W1.heap.size W1 W:=⟨_,rfl⟩
 have qo : Hid (∀ W,Below W1.heap.size W1 W -> S W):=hZ (fun W hb => by rw [hS];exact hb)
 have qX : Hid (∀ W,S W -> W.cell? ⟨bf,0,none⟩ = some (.func (.func NF) #[] #[]) /\ W.cell? ⟨bs,0,none⟩ = some (.string ⟨s.toArray⟩) /\ (loadCellsFrom ⟨w.heap.size,0,none⟩ 0 N #[]).run Tryz.prog W = .ok cs W):=hZ (fun W hs => by
  rw [hS] at hs
  have hb:=qk.chain hs
  exact ⟨(hb.cell (World.block_lt_of_cell? w _ yd)).trans yd,(hb.cell (World.block_lt_of_cell? w _ yV)).trans yV,zI (qg hs yc) qu⟩)
 have HC : Hid (∀ W,Below W1.heap.size W1 W -> Calls Tryz.prog NF #[.agg cs] W fun e w' => e = .returned (.string ⟨(nm x).toArray⟩) /\ Below W.heap.size W w'):=hZ (fun W hb => hN0 x cs W (kept ji (qk.chain hb) hv))
 have qw:=hZ qk
 have zE : Tryz.prog.follows .mixedOrders = true:=by kernel_rfl
 have ze:=hZ (Below.refl W1.heap.size W1).drew
 have g0:=qo.out _ ze.out
 obtain ⟨u,hu⟩ : ∃ u,u = nm x:=⟨_,rfl⟩
 rw [<- hu] at HC ⊢
 clear hN zd hv yd yV qk yc hS hu hN0
 go_enter Tryz.func180,Tryz.ntmps180
 simp only [e1,e4]
 clear e1 e4 hT
 go_wp2
 rw [<- qh]
 clear qh
 refine wp_region_held (S:=S) zE ?_
 change wpAnyH _ _ _ _ _ 6 #[false,false,false,false,false,false] _ W1.drew
 refine tk 0 5 (.func (.func NF) #[] #[]) g0 ?v ?_
 case v => intro Wx hSx;obtain ⟨z1,z2,z3⟩:=qX.out Wx hSx;go_simp
 refine tk 1 6 (.agg cs) g0 ?v ?_
 case v => intro Wx hSx;obtain ⟨z1,z2,z3⟩:=qX.out Wx hSx;go_simp
 refine tk 3 8 (.string ⟨s.toArray⟩) g0 ?v ?_
 case v => intro Wx hSx;obtain ⟨z1,z2,z3⟩:=qX.out Wx hSx;go_simp
 try simp only [qf]
 refine o1 2 (fun K hK => ?_)
 go_simp
 refine (HC.out _ ze.out).mono ?_
 rintro e w1 ⟨rfl,hb⟩
 have jv:=hZ (ze.out.chain hb)
 clear hb
 have g1:=qo.out _ jv.out
 refine hK _ _ g1 ?_
 clear hK K g0
 refine tk 4 9 (.bool (u == s)) g1 ?v ?_
 case v => intro Wx hSx;obtain ⟨z1,z2,z3⟩:=qX.out Wx hSx;go_simp
 refine tk 5 4 (.bool (u == s)) g1 ?v ?_
 case v => intro Wx hSx;obtain ⟨z1,z2,z3⟩:=qX.out Wx hSx;go_simp
 try simp only [qf]
 refine wpAnyH_done (by kernel_rfl) ?_ _
 go_wp2
 go_ret
 exact ⟨rfl,qw.out.chain jv.out⟩
theorem qsN (NF : Nat) (hG : ∀ args w,(callFunc NF args).run Tryz.prog w = .ok (.enter NF args) w) (nm : Df -> List UInt8) (hN0 : xm NF vg nm) (s : List UInt8) (l : List Df) (A : Option Addr) (c n : Nat) (hn : n = l.length) (hm : n <= maxLen) (bf bs : Nat) (B0 : Nat) (w : World) (qz : B0 <= w.heap.size)
 (hA : qD vg 3 w B0 l A) (yd : w.cell? ⟨bf,0,none⟩ = some (.func (.func NF) #[] #[])) (yV : w.cell? ⟨bs,0,none⟩ = some (.string ⟨s.toArray⟩)) :
 Calls Tryz.prog 179 #[.slice A n c,.func (.func 180) #[] #[.pointer (some ⟨bf,0,none⟩),.pointer (some ⟨bs,0,none⟩)]] w fun e w' => ∃ q : Int,e = .returned (.int .i64 q) /\ Ixd (fun x => nm x == s) l q /\ Below w.heap.size w w':=by
 obtain ⟨T,N,zc,hT,hN,zd,_,hag,qK,yR⟩:=qci
 have e1 : ∀ y : Operand,Op.load 64 y = Op.load T y:=fun y => by rw [hT]
 have HB:=hZ qz
 have HH:=hZ (aZ hA (aZ hn (aZ hN0 (aZ hN (aZ yd yV)))))
 have HG : Hid (∀ args w,(callFunc NF args).run Tryz.prog w = .ok (.enter NF args) w):=hZ hG
 have hcl : ∀ args w,(callFunc 180 args).run Tryz.prog w = .ok (.enter 180 args) w:=enters_of Tryz.func180 (by kernel_rfl) rfl
 clear hA hn hN0 hG hN zd yR yd yV qz
 unfold maxLen at hm
 go_enter Tryz.func179,Tryz.ntmps179
 simp only [e1]
 clear e1 hT
 go_wp2
 go_loopg [8] n (fun m j wr => ∃ k : Nat,m = n - k /\ k <= n /\ j = .int .i64 k /\ Hid (Below w.heap.size w wr /\ (l.take k).all (fun y => !(nm y == s)) = true))
 case atStart => exact ⟨0,rfl,Nat.zero_le _,rfl,hZ ⟨Below.refl _ _,by rw [List.take_zero];rfl⟩⟩
 case round =>
  obtain ⟨k,rfl,hk,rfl,HI⟩:=hrel
  have hk0 : (0 : Int) <= k:=by omega
  by_cases qB : k < n
  ·have jD : (k : Int) < n:=by omega
   obtain ⟨x,hx⟩ : ∃ x,l[k]? = some x:=⟨l[k]'(by rw [<- HH.out.2.1];exact qB),List.getElem?_eq_getElem _⟩
   obtain ⟨a,cs,rfl,qx,qn,qP,hv⟩:=HH.out.1 k x hx
   have xy : (loadCellsFrom (a.add (k * 3)) 0 N #[]).run Tryz.prog wr = .ok cs wr:=qZ (fun j v hv => (HI.out.1.cell (by rw [qm,qm];exact Nat.lt_of_lt_of_le qx HB.out)).trans (qP j v hv)) (qn.trans HH.out.2.2.2.1.symm)
   have HC:=hZ (qs4 NF HG.out nm HH.out.2.2.1 s x cs bf bs wr (jh ji HB.out (Nat.le_trans HB.out HI.out.1.size) HI.out.1 hv) ((HI.out.1.cell (World.block_lt_of_cell? w _ HH.out.2.2.2.2.1)).trans HH.out.2.2.2.2.1) ((HI.out.1.cell (World.block_lt_of_cell? w _ HH.out.2.2.2.2.2)).trans HH.out.2.2.2.2.2))
   obtain ⟨r,hr⟩ : ∃ r,r = (nm x == s):=⟨_,rfl⟩
   rw [<- hr] at HC
   have HX:=hZ (aZ hx hr)
   clear hx hr qP qn hv qx
   go_wp2_with fail
   refine HC.out.mono ?_
   rintro e w3 ⟨rfl,hb⟩
   have H3:=hZ (HI.out.1.chain hb)
   clear hb
   cases r
   ·go_wp2
    go_roundg (n - (k + 1))
    case measure => omega
    case rel => exact ⟨k + 1,rfl,by omega,by go_num,hZ ⟨H3.out,by rw [zB (fun y => !(nm y == s)) l k x HX.out.1,HI.out.2,<- HX.out.2];rfl⟩⟩
   ·go_wp2
    go_ret
    exact ⟨k,rfl,.inr ⟨k,x,rfl,HX.out.1,qaM _ l k x HX.out.1 HI.out.2 HX.out.2.symm⟩,H3.out⟩
  ·have hlt' : ¬ (k : Int) < n:=by omega
   obtain rfl : k = n:=by omega
   go_wp2
   go_ret
   refine ⟨-1,rfl,.inl ⟨rfl,qbv _ l ?_⟩,HI.out.1⟩
   have h:=HI.out.2
   rw [List.take_of_length_le (by rw [HH.out.2.1];exact Nat.le_refl _)] at h
   exact h
theorem qsO (NF : Nat) (hG : ∀ args w,(callFunc NF args).run Tryz.prog w = .ok (.enter NF args) w) (nm : Df -> List UInt8) (hN0 : xm NF vg nm) (s : List UInt8) (l : List Df) (A : Option Addr) (c n : Nat) (hn : n = l.length) (hm : n <= maxLen) (B0 : Nat) (w : World) (qz : B0 <= w.heap.size) (hA : qD vg 3 w B0 l A) :
 Calls Tryz.prog 145 #[.slice A n c,.string ⟨s.toArray⟩,.func (.func NF) #[] #[]] w (qdl vg qpu (qG nm l s) B0 w):=by
 obtain ⟨T,N,zc,hT,hN,zd,hzz,hag,qK,yR⟩:=qci
 have e1 : ∀ y : Operand,Op.load 64 y = Op.load T y:=fun y => by rw [hT]
 have e2 : ∀ y z : Operand,Op.store 64 y z = Op.store T y z:=fun y z => by rw [hT]
 have e3 : Op.alloc 64 = Op.alloc T:=by rw [hT]
 obtain ⟨W1,qh⟩ : ∃ W1,W1 = ((w.alloc (.cells #[.string ⟨s.toArray⟩] 9)).alloc (.cells #[.func (.func NF) #[] #[]] 165)).alloc (.cells zc T):=⟨_,rfl⟩
 have qk : Below w.heap.size w W1:=by rw [qh];exact ((qd w _).chain (qd _ _)).chain (qd _ _)
 have hq0 : W1.heap[w.heap.size]? = some (.cells #[.string ⟨s.toArray⟩] 9 (0,0)):=by rw [qh];exact qr (qr (qe w _))
 have hq1 : W1.heap[w.heap.size + 1]? = some (.cells #[.func (.func NF) #[] #[]] 165 (0,0)):=by
  rw [qh]
  have h:=qr (o:=.cells zc T) (qe (w.alloc (.cells #[.string ⟨s.toArray⟩] 9)) (.cells #[.func (.func NF) #[] #[]] 165))
  simp only [qj] at h
  exact h
 have yK : W1.heap[w.heap.size + 2]? = some (.cells zc T (0,0)):=by
  rw [qh]
  have h:=qe ((w.alloc (.cells #[.string ⟨s.toArray⟩] 9)).alloc (.cells #[.func (.func NF) #[] #[]] 165)) (.cells zc T)
  simp only [qj] at h
  exact h
 have HI:=hZ (qsN NF hG nm hN0 s l A c n hn hm (w.heap.size + 1) w.heap.size B0 W1 (Nat.le_trans qz qk.size) (yB ji qz qk hA) (qc hq1 0 rfl) (qc hq0 0 rfl))
 have HH:=hZ (aZ hA (aZ qk (aZ yK (aZ hN (aZ zd (aZ hzz hn))))))
 have HB:=hZ qz
 clear qz
 clear hA hn hN0 hG hN zd qk hq0 hq1 yK hzz
 unfold maxLen at hm
 go_enter Tryz.func145,Tryz.ntmps145
 simp only [e1,e2,e3]
 clear e1 e2 e3 hT
 go_wp2_with fail
 rw [<- qh]
 clear qh
 refine HI.out.mono ?_
 rintro e w3 ⟨q,rfl,hq,hb⟩
 have H3:=hZ (aZ hq (aZ hb (qg hb HH.out.2.2.1)))
 clear hb
 by_cases hq0 : q < 0
 ·have xg : zc.size = N:=HH.out.2.2.2.2.1
  have ye:=zI (qe w3 (.cells zc T)) xg
  have h6 : (w3.alloc (.cells zc T)).heap[w.heap.size + 1 + 1]? = some (.cells zc T (0,0)):=qr H3.out.2.2
  have hzo : zc.all (·.oneCell') = true:=by rw [HH.out.2.2.2.2.2.1];rw [List.all_toArray];rfl
  have zv:=zl h6 rfl hzo
  have H6:=hZ (aZ h6 hzo)
  clear h6 hzo
  go_wp2
  refine bodyPost_ret (yz rfl _ _ (w.heap.size + 1 + 1) T zc (0,0) _ rfl (setRow_heap _ _ zc _ _ _ H6.out.1) Tryz.underlying64 rfl (by rw [xg,HH.out.2.2.2.1];kernel_rfl)) rfl ?_
  refine ⟨⟨zc,false,rfl,.inl ⟨rfl,HH.out.2.2.2.2.2.1,?_⟩⟩,below_setRow ((HH.out.2.1.chain H3.out.2.1).chain (qd w3 _)) (by omega) _⟩
  rcases H3.out.1 with ⟨_,h⟩ | ⟨i,x,hi,_,_⟩
  ·exact h
  ·omega
 ·rcases H3.out.1 with ⟨h,_⟩ | ⟨i,x,hi,hx,hf⟩
  ·omega
  subst hi
  have hin : i < n:=by rw [HH.out.2.2.2.2.2.2];exact (List.getElem?_eq_some_iff.1 hx).1
  have hii : (i : Int) < n:=by omega
  have xj : (0 : Int) <= i:=by omega
  obtain ⟨a,cs,rfl,qx,qn,qP,hv⟩:=HH.out.1 i x hx
  have qu : cs.size = N:=qn.trans HH.out.2.2.2.1.symm
  have xy : (loadCellsFrom (a.add (i * 3)) 0 N #[]).run Tryz.prog w3 = .ok cs w3:=qZ (fun j v hv => ((HH.out.2.1.chain H3.out.2.1).cell (by rw [qm,qm];exact Nat.lt_of_lt_of_le qx HB.out)).trans (qP j v hv)) qu
  have h6 : w3.heap[w.heap.size + 1 + 1]? = some (.cells zc T (0,0)):=H3.out.2.2
  have zv:=zl h6 (HH.out.2.2.2.2.1.trans qu.symm) (qeW hv)
  have HX:=hZ (aZ hf (aZ hv h6))
  clear hf hv hx qP qn qx h6 hin
  go_wp2
  refine bodyPost_ret (yz rfl _ _ (w.heap.size + 1 + 1) T cs (0,0) _ rfl (setRow_heap _ _ zc _ _ _ HX.out.2.2) Tryz.underlying64 rfl (by rw [qu,HH.out.2.2.2.1];kernel_rfl)) rfl ?_
  have yd:=below_setRow (HH.out.2.1.chain H3.out.2.1) (show w.heap.size <= w.heap.size + 1 + 1 by omega) cs
  exact ⟨⟨cs,true,rfl,.inr ⟨rfl,x,HX.out.1,jh ji HB.out (Nat.le_refl _) yd HX.out.2.1⟩⟩,yd⟩
theorem qsP (NF : Nat) (hG : ∀ args w,(callFunc NF args).run Tryz.prog w = .ok (.enter NF args) w) (nm : Df -> List UInt8) (hN0 : xm NF vg nm) (s : List UInt8) (l : List Df) (A : Option Addr) (c n : Nat) (hn : n = l.length) (hm : n <= maxLen) (B0 : Nat) (w : World) (qz : B0 <= w.heap.size) (hA : qD vg 3 w B0 l A) :
 Calls Tryz.prog 116 #[.slice A n c,.string ⟨s.toArray⟩,.func (.func NF) #[] #[]] w (jr vg s (qG nm l s) B0 w):=by
 obtain ⟨T,N,zc,hT,hN,zd,hzz,hag,qK,yR⟩:=qci
 have e1 : ∀ y : Operand,Op.load 64 y = Op.load T y:=fun y => by rw [hT]
 have e2 : ∀ y z : Operand,Op.store 64 y z = Op.store T y z:=fun y z => by rw [hT]
 have e3 : Op.alloc 64 = Op.alloc T:=by rw [hT]
 obtain ⟨W1,qh⟩ : ∃ W1,W1 = w.alloc (.cells zc T):=⟨_,rfl⟩
 have qk : Below w.heap.size w W1:=by rw [qh];exact qd w _
 have yK : W1.heap[w.heap.size]? = some (.cells zc T (0,0)):=by rw [qh];exact qe w _
 have HI:=hZ (qsO NF hG nm hN0 s l A c n hn hm B0 W1 (Nat.le_trans qz qk.size) (yB ji qz qk hA))
 have HH:=hZ (aZ hA (aZ qk (aZ yK (aZ hN (aZ zd (aZ hzz hn))))))
 have HB:=hZ qz
 clear qz
 clear hA hn hN0 hG hN zd qk yK hzz
 unfold maxLen at hm
 go_enter Tryz.func116,Tryz.ntmps116
 simp only [e1,e2,e3]
 clear e1 e2 e3 hT
 go_wp2_with fail
 rw [<- qh]
 clear qh
 refine HI.out.mono ?_
 rintro e w3 ⟨⟨cs,b,rfl,hr⟩,hb⟩
 have xg : zc.size = N:=HH.out.2.2.2.2.1
 have qu : cs.size = N:=by
  rcases hr with ⟨_,h,_⟩ | ⟨_,x,_,h⟩
  ·rw [h,<- HH.out.2.2.2.2.2.1];exact xg
  ·exact (qfG h).trans HH.out.2.2.2.1.symm
 have zz : cs.all (·.oneCell') = true:=by
  rcases hr with ⟨_,h,_⟩ | ⟨_,x,_,h⟩
  ·rw [h];rw [List.all_toArray];rfl
  ·exact qeW h
 have zv:=xF (w:=w3) (t:=T) (xg.trans qu.symm) zz
 have ye:=zI (qe w3 (.cells cs T)) qu
 have h6 : (w3.alloc (.cells cs T)).heap[w.heap.size]? = some (.cells zc T (0,0)):=qr (qg hb HH.out.2.2.1)
 have qm6:=zl h6 (xg.trans qu.symm) zz
 have H3:=hZ (aZ hr (aZ (HH.out.2.1.chain hb) h6))
 have HD:=hZ (qU b 7 s (w3.alloc (.cells cs T)))
 clear hr hb zz h6
 go_wp2_with fail
 refine HD.out.mono ?_
 rintro e w4 ⟨he,rfl⟩
 rcases H3.out.1 with ⟨rfl,_,ho⟩ | ⟨rfl,x,ho,hv⟩
 ·obtain rfl : e = _:=he
  exact ⟨rfl,.inr ⟨ho,rfl⟩,H3.out.2.1.chain (qd w3 _)⟩
 ·obtain rfl : e = _:=he
  have HV:=hZ (aZ ho hv)
  clear ho hv
  go_wp2
  refine bodyPost_ret (results_cell_row rfl _ _ w.heap.size T cs (0,0) _ rfl (setRow_heap _ _ zc _ _ _ H3.out.2.2) Tryz.underlying64 rfl (by rw [qu,HH.out.2.2.2.1];kernel_rfl)) rfl ?_
  have yd:=below_setRow (H3.out.2.1.chain (qd w3 (.cells cs T))) (Nat.le_refl w.heap.size) cs
  refine ⟨.inl ⟨cs,x,rfl,HV.out.1,ji _ _ _ _ _ _ (fun q hq => ?_) (Nat.le_refl _) HV.out.2⟩,yd⟩
  have yK:=Nat.lt_of_lt_of_le hq HB.out
  exact (yd.cell yK).trans (H3.out.2.1.cell yK).symm
theorem qsX (NF : Nat) (hG : ∀ args w,(callFunc NF args).run Tryz.prog w = .ok (.enter NF args) w) (nm : Df -> List UInt8) (hN0 : xm NF vg nm) (l : List Df) (yL : ∀ x ∈ l,(nm x).length <= maxLen) (A : Option Addr) (c n : Nat) (hn : n = l.length) (hm : n <= maxLen) (B0 : Nat) (w : World) (qz : B0 <= w.heap.size) (hA : qD vg 3 w B0 l A) :
 Calls Tryz.prog 98 #[.slice A n c,.func (.func NF) #[] #[]] w (qV (zH [] (l.map nm)) w):=by
 obtain ⟨T,N,zc,hT,hN,zd,hzz,hag,qK,yR⟩:=qci
 have e1 : ∀ y : Operand,Op.load 64 y = Op.load T y:=fun y => by rw [hT]
 have e2 : ∀ y z : Operand,Op.store 64 y z = Op.store T y z:=fun y z => by rw [hT]
 have e3 : Op.alloc 64 = Op.alloc T:=by rw [hT]
 have hmm:=@run_makeMap Tryz.prog
 have HO0:=hZ (World.ownsMap_made w Tryz.prog 9 (plainElem (H:=Unit) Tryz.prog 4))
 have zo:=hZ (qd w (.map #[] 0))
 have HZ : Hid (∀ w : World,(zeroValue 4).run Tryz.prog w = .ok (.bool false) w):=hZ (fun w => by kernel_rfl)
 have HH:=hZ (aZ hA (aZ hn (aZ hN0 (aZ hN (aZ zd (aZ qz (aZ yL hm)))))))
 clear hA hn hN0 hN zd qz hzz yL
 unfold maxLen at hm
 go_enter Tryz.func98,Tryz.ntmps98
 simp only [e1,e2,e3]
 clear e1 e2 e3 hT
 go_wp2
 go_loopg [11] n (fun m j wr => ∃ k : Nat,m = n - k /\ k <= n /\ j = .int .i64 k /\ Hid (zn wr w.heap.size k (kwD ((l.map nm).take k)) /\ Below w.heap.size w wr /\ zH [] ((l.map nm).take k) = none))
 case atStart => exact ⟨0,rfl,Nat.zero_le _,rfl,hZ ⟨HO0.out,zo.out,rfl⟩⟩
 case round =>
  obtain ⟨k,rfl,hk,rfl,HI⟩:=hrel
  have hk0 : (0 : Int) <= k:=by omega
  by_cases qB : k < n
  ·have jD : (k : Int) < n:=by omega
   obtain ⟨x,hx⟩ : ∃ x,l[k]? = some x:=⟨l[k]'(by rw [<- HH.out.2.1];exact qB),List.getElem?_eq_getElem _⟩
   obtain ⟨a,cs,rfl,qx,qn,qP,hv⟩:=HH.out.1 k x hx
   have qu : cs.size = N:=qn.trans HH.out.2.2.2.1.symm
   have xy : (loadCellsFrom (a.add (k * 3)) 0 N #[]).run Tryz.prog wr = .ok cs wr:=qZ (fun j v hv => (HI.out.2.1.cell (by rw [qm,qm];exact Nat.lt_of_lt_of_le qx HH.out.2.2.2.2.2.1)).trans (qP j v hv)) qu
   have zv:=xF (w:=wr) (t:=T) (HH.out.2.2.2.2.1.trans qu.symm) (qeW hv)
   have ye:=zI (qe wr (.cells cs T)) qu
   have qR:=HI.out.2.1.chain (qd wr (.cells cs T))
   have HC:=hZ (HH.out.2.2.1 x cs (wr.alloc (.cells cs T)) (jh ji HH.out.2.2.2.2.2.1 (Nat.le_trans HH.out.2.2.2.2.2.1 qR.size) qR hv))
   have hxn : (l.map nm)[k]? = some (nm x):=by rw [List.getElem?_map,hx];rfl
   obtain ⟨d1,d2⟩:=qae (l.map nm) [] k (nm x) hxn HI.out.2.2
   obtain ⟨r,hr⟩ : ∃ r,r = ((l.map nm).take k).contains (nm x):=⟨_,rfl⟩
   have vh:=hZ (Go.WideMaps.keyOf_string_mk Tryz.underlying9 (s:=⟨(nm x).toArray⟩) (HH.out.2.2.2.2.2.2.1 x (List.mem_of_getElem? hx)))
   have HAt : Hid ((kwD ((l.map nm).take k)).atKey (.string (nm x)) (.lit (.bool false)) = .lit (.bool r)):=hZ (by rw [hr];exact qdx _ _)
   have HX:=hZ (aZ d1 (aZ d2 (aZ hr (aZ qR (aZ hxn (Nat.lt_of_lt_of_le qB HH.out.2.2.2.2.2.2.2))))))
   obtain ⟨u,hu⟩ : ∃ u,u = nm x:=⟨_,rfl⟩
   rw [<- hu] at HC vh HAt HX
   clear hx qP qn hv qx d1 d2 hr hxn qR hu
   go_wp2_with fail
   refine HC.out.mono ?_
   rintro e w3 ⟨rfl,hb⟩
   have HO3:=hZ (qds (HI.out.1.alloc (.cells cs T)) hb)
   have H3:=hZ (HX.out.2.2.2.1.chain hb)
   clear hb
   go_wp2_with (refine ym _ rfl _ _ 183 rfl 9 4 (Keyed.of_law (Go.WideMaps.string_law Tryz.underlying9)) Tryz.underlying183 Tryz.underlying4 (HZ.out _) w.heap.size k _ rfl HO3.out _ _ rfl vh.out r HAt.out ?_)
   refine (qU (!r) 8 u w3).mono ?_
   rintro e w4 ⟨he,rfl⟩
   cases r
   ·obtain rfl : e = _:=he
    go_wp2_with (at_mapUpdate;refine wpList_mapUpdate_own _ rfl _ _ _ 183 rfl 9 4 (Keyed.of_law (Go.WideMaps.string_law Tryz.underlying9)) Tryz.underlying183 _ w.heap.size _ _ rfl HO3.out HX.out.2.2.2.2.2 _ _ _ rfl rfl vh.out _ _ (Go.plainElem_bool Tryz.underlying4 true) ?_;intro wk qA hgr;have jm:=hZ qA;have HG2:=hZ (H3.out.trans (jN hgr (Nat.le_refl _) H3.out.size));clear qA hgr)
    go_roundg (n - (k + 1))
    case measure => omega
    case rel =>
     have e1 : (l.map nm).take (k + 1) = (l.map nm).take k ++ [u]:=by rw [List.take_add_one,HX.out.2.2.2.2.1];rfl
     have jk : ¬ (u ∈ ([] : List (List UInt8)) \/ u ∈ (l.map nm).take k):=by
      have h:=HX.out.2.2.1
      rintro (h0 | h0)
      ·cases h0
      ·rw [List.contains_iff_mem.2 h0] at h
       cases h
     exact ⟨k + 1,rfl,by omega,by go_num,hZ ⟨by rw [e1,qch];exact jm.out,HG2.out,HX.out.2.1 jk⟩⟩
   ·obtain rfl : e = _:=he
    refine ⟨rfl,?_,H3.out⟩
    rw [HX.out.1 (.inr (List.contains_iff_mem.1 HX.out.2.2.1.symm))]
    rfl
  ·obtain rfl : k = n:=by omega
   go_wp2
   refine bodyPost_end (results_none rfl _ _ _) rfl ⟨?_,HI.out.2.1⟩
   have h:=HI.out.2.2
   rw [List.take_of_length_le (by rw [List.length_map,HH.out.2.1];exact Nat.le_refl _)] at h
   rw [h]
   rfl
end
section
set_option maxRecDepth 100000
set_option maxHeartbeats 8000000
open Go.RowKit
open Go.Maps (Keyed)
abbrev qmu : Array Value:=#[.string ⟨#[]⟩,.slice none 0 0]
theorem qbu : ∃ (T N : Nat) (zc : Array Value),61 = T /\ N = 2 /\ zc.size = N /\ zc = qmu /\ (∀ w : World,(isAgg T).run Tryz.prog w = .ok true w) /\ (∀ w : World,(sizeOf T).run Tryz.prog w = .ok N w) /\ (∀ w : World,(zeroValue T).run Tryz.prog w = .ok (.agg zc) w) :=
 ⟨_,2,qmu,rfl,rfl,rfl,rfl,fun w => by kernel_rfl,fun w => by kernel_rfl,fun w => by kernel_rfl⟩
theorem qeV {w : World} {B : Nat} {cs : Array Value} {x : Lk} (hv : vA w B cs x) : cs.size = 2:=by
 obtain ⟨_,_,rfl,_⟩:=hv
 rfl
theorem qfE {w : World} {B : Nat} {cs : Array Value} {x : Lk} (hv : vA w B cs x) : cs.all (·.oneCell') = true:=by
 obtain ⟨_,_,rfl,_⟩:=hv
 rw [List.all_toArray]
 rfl
theorem qpH {w : World} {B : Nat} {cs : Array Value} {x : Lk} (hv : vA w B cs x) : cs[0]? = some (.string ⟨x.nm.toArray⟩):=by
 obtain ⟨_,_,rfl,_⟩:=hv
 rfl
theorem qlR : xm 97 vA (·.nm):=by
 intro x cs w hv
 obtain ⟨T,N,zc,hT,hN,zd,_,hag,qK,yR⟩:=qbu
 have e4 : ∀ y : Operand,Op.box 61 y = Op.box T y:=fun y => by rw [hT]
 have qu : cs.size = N:=(qeV hv).trans hN.symm
 have c:=qc (qe w (.cells cs T)) 0 (qpH hv)
 have HB:=hZ (qd w (.cells cs T))
 clear hN zd hv
 go_enter Tryz.func97,Tryz.ntmps97
 simp only [e4]
 clear e4 hT
 go_wp2
 go_ret
 exact ⟨rfl,HB.out⟩
theorem qqX (NF : Nat) (hG : ∀ args w,(callFunc NF args).run Tryz.prog w = .ok (.enter NF args) w) (nm : Lk -> List UInt8) (hN0 : xm NF vA nm) (s : List UInt8) (x : Lk) (cs : Array Value) (bf bs : Nat) (w : World) (hv : vA w w.heap.size cs x)
 (yd : w.cell? ⟨bf,0,none⟩ = some (.func (.func NF) #[] #[])) (yV : w.cell? ⟨bs,0,none⟩ = some (.string ⟨s.toArray⟩)) :
 Calls Tryz.prog 217 #[.agg cs,.pointer (some ⟨bf,0,none⟩),.pointer (some ⟨bs,0,none⟩)] w fun e w' => e = .returned (.bool (nm x == s)) /\ Below w.heap.size w w':=by
 obtain ⟨T,N,zc,hT,hN,zd,_,hag,qK,yR⟩:=qbu
 have e1 : ∀ y : Operand,Op.load 61 y = Op.load T y:=fun y => by rw [hT]
 have e4 : ∀ y : Operand,Op.box 61 y = Op.box T y:=fun y => by rw [hT]
 have qu : cs.size = N:=(qeV hv).trans hN.symm
 obtain ⟨W1,qh⟩ : ∃ W1,W1 = w.alloc (.cells cs T):=⟨_,rfl⟩
 have qk : Below w.heap.size w W1:=by rw [qh];exact qd w _
 have yc : W1.heap[w.heap.size]? = some (.cells cs T (0,0)):=by rw [qh];exact qe w _
 obtain ⟨S,hS⟩ : ∃ S : World -> Prop,S = fun W => Below W1.heap.size W1 W:=⟨_,rfl⟩
 have qo : Hid (∀ W,Below W1.heap.size W1 W -> S W):=hZ (fun W hb => by rw [hS];exact hb)
 have qX : Hid (∀ W,S W -> W.cell? ⟨bf,0,none⟩ = some (.func (.func NF) #[] #[]) /\ W.cell? ⟨bs,0,none⟩ = some (.string ⟨s.toArray⟩) /\ (loadCellsFrom ⟨w.heap.size,0,none⟩ 0 N #[]).run Tryz.prog W = .ok cs W):=hZ (fun W hs => by
  rw [hS] at hs
  have hb:=qk.chain hs
  exact ⟨(hb.cell (World.block_lt_of_cell? w _ yd)).trans yd,(hb.cell (World.block_lt_of_cell? w _ yV)).trans yV,zI (qg hs yc) qu⟩)
 have HC : Hid (∀ W,Below W1.heap.size W1 W -> Calls Tryz.prog NF #[.agg cs] W fun e w' => e = .returned (.string ⟨(nm x).toArray⟩) /\ Below W.heap.size W w'):=hZ (fun W hb => hN0 x cs W (kept jA (qk.chain hb) hv))
 have qw:=hZ qk
 have zE : Tryz.prog.follows .mixedOrders = true:=by kernel_rfl
 have ze:=hZ (Below.refl W1.heap.size W1).drew
 have g0:=qo.out _ ze.out
 obtain ⟨u,hu⟩ : ∃ u,u = nm x:=⟨_,rfl⟩
 rw [<- hu] at HC ⊢
 clear hN zd hv yd yV qk yc hS hu hN0
 go_enter Tryz.func217,Tryz.ntmps217
 simp only [e1,e4]
 clear e1 e4 hT
 go_wp2
 rw [<- qh]
 clear qh
 refine wp_region_held (S:=S) zE ?_
 change wpAnyH _ _ _ _ _ 6 #[false,false,false,false,false,false] _ W1.drew
 refine tk 0 5 (.func (.func NF) #[] #[]) g0 ?v ?_
 case v => intro Wx hSx;obtain ⟨z1,z2,z3⟩:=qX.out Wx hSx;go_simp
 refine tk 1 6 (.agg cs) g0 ?v ?_
 case v => intro Wx hSx;obtain ⟨z1,z2,z3⟩:=qX.out Wx hSx;go_simp
 refine tk 3 8 (.string ⟨s.toArray⟩) g0 ?v ?_
 case v => intro Wx hSx;obtain ⟨z1,z2,z3⟩:=qX.out Wx hSx;go_simp
 try simp only [qf]
 refine o1 2 (fun K hK => ?_)
 go_simp
 refine (HC.out _ ze.out).mono ?_
 rintro e w1 ⟨rfl,hb⟩
 have jv:=hZ (ze.out.chain hb)
 clear hb
 have g1:=qo.out _ jv.out
 refine hK _ _ g1 ?_
 clear hK K g0
 refine tk 4 9 (.bool (u == s)) g1 ?v ?_
 case v => intro Wx hSx;obtain ⟨z1,z2,z3⟩:=qX.out Wx hSx;go_simp
 refine tk 5 4 (.bool (u == s)) g1 ?v ?_
 case v => intro Wx hSx;obtain ⟨z1,z2,z3⟩:=qX.out Wx hSx;go_simp
 try simp only [qf]
 refine wpAnyH_done (by kernel_rfl) ?_ _
 go_wp2
 go_ret
 exact ⟨rfl,qw.out.chain jv.out⟩
theorem qqo (NF : Nat) (hG : ∀ args w,(callFunc NF args).run Tryz.prog w = .ok (.enter NF args) w) (nm : Lk -> List UInt8) (hN0 : xm NF vA nm) (s : List UInt8) (l : List Lk) (A : Option Addr) (c n : Nat) (hn : n = l.length) (hm : n <= maxLen) (bf bs : Nat) (B0 : Nat) (w : World) (qz : B0 <= w.heap.size)
 (hA : qD vA 2 w B0 l A) (yd : w.cell? ⟨bf,0,none⟩ = some (.func (.func NF) #[] #[])) (yV : w.cell? ⟨bs,0,none⟩ = some (.string ⟨s.toArray⟩)) :
 Calls Tryz.prog 216 #[.slice A n c,.func (.func 217) #[] #[.pointer (some ⟨bf,0,none⟩),.pointer (some ⟨bs,0,none⟩)]] w fun e w' => ∃ q : Int,e = .returned (.int .i64 q) /\ Ixd (fun x => nm x == s) l q /\ Below w.heap.size w w':=by
 obtain ⟨T,N,zc,hT,hN,zd,_,hag,qK,yR⟩:=qbu
 have e1 : ∀ y : Operand,Op.load 61 y = Op.load T y:=fun y => by rw [hT]
 have HB:=hZ qz
 have HH:=hZ (aZ hA (aZ hn (aZ hN0 (aZ hN (aZ yd yV)))))
 have HG : Hid (∀ args w,(callFunc NF args).run Tryz.prog w = .ok (.enter NF args) w):=hZ hG
 have hcl : ∀ args w,(callFunc 217 args).run Tryz.prog w = .ok (.enter 217 args) w:=enters_of Tryz.func217 (by kernel_rfl) rfl
 clear hA hn hN0 hG hN zd yR yd yV qz
 unfold maxLen at hm
 go_enter Tryz.func216,Tryz.ntmps216
 simp only [e1]
 clear e1 hT
 go_wp2
 go_loopg [8] n (fun m j wr => ∃ k : Nat,m = n - k /\ k <= n /\ j = .int .i64 k /\ Hid (Below w.heap.size w wr /\ (l.take k).all (fun y => !(nm y == s)) = true))
 case atStart => exact ⟨0,rfl,Nat.zero_le _,rfl,hZ ⟨Below.refl _ _,by rw [List.take_zero];rfl⟩⟩
 case round =>
  obtain ⟨k,rfl,hk,rfl,HI⟩:=hrel
  have hk0 : (0 : Int) <= k:=by omega
  by_cases qB : k < n
  ·have jD : (k : Int) < n:=by omega
   obtain ⟨x,hx⟩ : ∃ x,l[k]? = some x:=⟨l[k]'(by rw [<- HH.out.2.1];exact qB),List.getElem?_eq_getElem _⟩
   obtain ⟨a,cs,rfl,qx,qn,qP,hv⟩:=HH.out.1 k x hx
   have xy : (loadCellsFrom (a.add (k * 2)) 0 N #[]).run Tryz.prog wr = .ok cs wr:=qZ (fun j v hv => (HI.out.1.cell (by rw [qm,qm];exact Nat.lt_of_lt_of_le qx HB.out)).trans (qP j v hv)) (qn.trans HH.out.2.2.2.1.symm)
   have HC:=hZ (qqX NF HG.out nm HH.out.2.2.1 s x cs bf bs wr (jh jA HB.out (Nat.le_trans HB.out HI.out.1.size) HI.out.1 hv) ((HI.out.1.cell (World.block_lt_of_cell? w _ HH.out.2.2.2.2.1)).trans HH.out.2.2.2.2.1) ((HI.out.1.cell (World.block_lt_of_cell? w _ HH.out.2.2.2.2.2)).trans HH.out.2.2.2.2.2))
   obtain ⟨r,hr⟩ : ∃ r,r = (nm x == s):=⟨_,rfl⟩
   rw [<- hr] at HC
   have HX:=hZ (aZ hx hr)
   clear hx hr qP qn hv qx
   go_wp2_with fail
   refine HC.out.mono ?_
   rintro e w3 ⟨rfl,hb⟩
   have H3:=hZ (HI.out.1.chain hb)
   clear hb
   cases r
   ·go_wp2
    go_roundg (n - (k + 1))
    case measure => omega
    case rel => exact ⟨k + 1,rfl,by omega,by go_num,hZ ⟨H3.out,by rw [zB (fun y => !(nm y == s)) l k x HX.out.1,HI.out.2,<- HX.out.2];rfl⟩⟩
   ·go_wp2
    go_ret
    exact ⟨k,rfl,.inr ⟨k,x,rfl,HX.out.1,qaM _ l k x HX.out.1 HI.out.2 HX.out.2.symm⟩,H3.out⟩
  ·have hlt' : ¬ (k : Int) < n:=by omega
   obtain rfl : k = n:=by omega
   go_wp2
   go_ret
   refine ⟨-1,rfl,.inl ⟨rfl,qbv _ l ?_⟩,HI.out.1⟩
   have h:=HI.out.2
   rw [List.take_of_length_le (by rw [HH.out.2.1];exact Nat.le_refl _)] at h
   exact h
theorem qqE (NF : Nat) (hG : ∀ args w,(callFunc NF args).run Tryz.prog w = .ok (.enter NF args) w) (nm : Lk -> List UInt8) (hN0 : xm NF vA nm) (s : List UInt8) (l : List Lk) (A : Option Addr) (c n : Nat) (hn : n = l.length) (hm : n <= maxLen) (B0 : Nat) (w : World) (qz : B0 <= w.heap.size) (hA : qD vA 2 w B0 l A) :
 Calls Tryz.prog 197 #[.slice A n c,.string ⟨s.toArray⟩,.func (.func NF) #[] #[]] w (qdl vA qmu (qG nm l s) B0 w):=by
 obtain ⟨T,N,zc,hT,hN,zd,hzz,hag,qK,yR⟩:=qbu
 have e1 : ∀ y : Operand,Op.load 61 y = Op.load T y:=fun y => by rw [hT]
 have e2 : ∀ y z : Operand,Op.store 61 y z = Op.store T y z:=fun y z => by rw [hT]
 have e3 : Op.alloc 61 = Op.alloc T:=by rw [hT]
 obtain ⟨W1,qh⟩ : ∃ W1,W1 = ((w.alloc (.cells #[.string ⟨s.toArray⟩] 9)).alloc (.cells #[.func (.func NF) #[] #[]] 163)).alloc (.cells zc T):=⟨_,rfl⟩
 have qk : Below w.heap.size w W1:=by rw [qh];exact ((qd w _).chain (qd _ _)).chain (qd _ _)
 have hq0 : W1.heap[w.heap.size]? = some (.cells #[.string ⟨s.toArray⟩] 9 (0,0)):=by rw [qh];exact qr (qr (qe w _))
 have hq1 : W1.heap[w.heap.size + 1]? = some (.cells #[.func (.func NF) #[] #[]] 163 (0,0)):=by
  rw [qh]
  have h:=qr (o:=.cells zc T) (qe (w.alloc (.cells #[.string ⟨s.toArray⟩] 9)) (.cells #[.func (.func NF) #[] #[]] 163))
  simp only [qj] at h
  exact h
 have yK : W1.heap[w.heap.size + 2]? = some (.cells zc T (0,0)):=by
  rw [qh]
  have h:=qe ((w.alloc (.cells #[.string ⟨s.toArray⟩] 9)).alloc (.cells #[.func (.func NF) #[] #[]] 163)) (.cells zc T)
  simp only [qj] at h
  exact h
 have HI:=hZ (qqo NF hG nm hN0 s l A c n hn hm (w.heap.size + 1) w.heap.size B0 W1 (Nat.le_trans qz qk.size) (yB jA qz qk hA) (qc hq1 0 rfl) (qc hq0 0 rfl))
 have HH:=hZ (aZ hA (aZ qk (aZ yK (aZ hN (aZ zd (aZ hzz hn))))))
 have HB:=hZ qz
 clear qz
 clear hA hn hN0 hG hN zd qk hq0 hq1 yK hzz
 unfold maxLen at hm
 go_enter Tryz.func197,Tryz.ntmps197
 simp only [e1,e2,e3]
 clear e1 e2 e3 hT
 go_wp2_with fail
 rw [<- qh]
 clear qh
 refine HI.out.mono ?_
 rintro e w3 ⟨q,rfl,hq,hb⟩
 have H3:=hZ (aZ hq (aZ hb (qg hb HH.out.2.2.1)))
 clear hb
 by_cases hq0 : q < 0
 ·have xg : zc.size = N:=HH.out.2.2.2.2.1
  have ye:=zI (qe w3 (.cells zc T)) xg
  have h6 : (w3.alloc (.cells zc T)).heap[w.heap.size + 1 + 1]? = some (.cells zc T (0,0)):=qr H3.out.2.2
  have hzo : zc.all (·.oneCell') = true:=by rw [HH.out.2.2.2.2.2.1];rw [List.all_toArray];rfl
  have zv:=zl h6 rfl hzo
  have H6:=hZ (aZ h6 hzo)
  clear h6 hzo
  go_wp2
  refine bodyPost_ret (yz rfl _ _ (w.heap.size + 1 + 1) T zc (0,0) _ rfl (setRow_heap _ _ zc _ _ _ H6.out.1) Tryz.underlying61 rfl (by rw [xg,HH.out.2.2.2.1];kernel_rfl)) rfl ?_
  refine ⟨⟨zc,false,rfl,.inl ⟨rfl,HH.out.2.2.2.2.2.1,?_⟩⟩,below_setRow ((HH.out.2.1.chain H3.out.2.1).chain (qd w3 _)) (by omega) _⟩
  rcases H3.out.1 with ⟨_,h⟩ | ⟨i,x,hi,_,_⟩
  ·exact h
  ·omega
 ·rcases H3.out.1 with ⟨h,_⟩ | ⟨i,x,hi,hx,hf⟩
  ·omega
  subst hi
  have hin : i < n:=by rw [HH.out.2.2.2.2.2.2];exact (List.getElem?_eq_some_iff.1 hx).1
  have hii : (i : Int) < n:=by omega
  have xj : (0 : Int) <= i:=by omega
  obtain ⟨a,cs,rfl,qx,qn,qP,hv⟩:=HH.out.1 i x hx
  have qu : cs.size = N:=qn.trans HH.out.2.2.2.1.symm
  have xy : (loadCellsFrom (a.add (i * 2)) 0 N #[]).run Tryz.prog w3 = .ok cs w3:=qZ (fun j v hv => ((HH.out.2.1.chain H3.out.2.1).cell (by rw [qm,qm];exact Nat.lt_of_lt_of_le qx HB.out)).trans (qP j v hv)) qu
  have h6 : w3.heap[w.heap.size + 1 + 1]? = some (.cells zc T (0,0)):=H3.out.2.2
  have zv:=zl h6 (HH.out.2.2.2.2.1.trans qu.symm) (qfE hv)
  have HX:=hZ (aZ hf (aZ hv h6))
  clear hf hv hx qP qn qx h6 hin
  go_wp2
  refine bodyPost_ret (yz rfl _ _ (w.heap.size + 1 + 1) T cs (0,0) _ rfl (setRow_heap _ _ zc _ _ _ HX.out.2.2) Tryz.underlying61 rfl (by rw [qu,HH.out.2.2.2.1];kernel_rfl)) rfl ?_
  have yd:=below_setRow (HH.out.2.1.chain H3.out.2.1) (show w.heap.size <= w.heap.size + 1 + 1 by omega) cs
  exact ⟨⟨cs,true,rfl,.inr ⟨rfl,x,HX.out.1,jh jA HB.out (Nat.le_refl _) yd HX.out.2.1⟩⟩,yd⟩
theorem qqI (NF : Nat) (hG : ∀ args w,(callFunc NF args).run Tryz.prog w = .ok (.enter NF args) w) (nm : Lk -> List UInt8) (hN0 : xm NF vA nm) (s : List UInt8) (l : List Lk) (A : Option Addr) (c n : Nat) (hn : n = l.length) (hm : n <= maxLen) (B0 : Nat) (w : World) (qz : B0 <= w.heap.size) (hA : qD vA 2 w B0 l A) :
 Calls Tryz.prog 167 #[.slice A n c,.string ⟨s.toArray⟩,.func (.func NF) #[] #[]] w (jr vA s (qG nm l s) B0 w):=by
 obtain ⟨T,N,zc,hT,hN,zd,hzz,hag,qK,yR⟩:=qbu
 have e1 : ∀ y : Operand,Op.load 61 y = Op.load T y:=fun y => by rw [hT]
 have e2 : ∀ y z : Operand,Op.store 61 y z = Op.store T y z:=fun y z => by rw [hT]
 have e3 : Op.alloc 61 = Op.alloc T:=by rw [hT]
 obtain ⟨W1,qh⟩ : ∃ W1,W1 = w.alloc (.cells zc T):=⟨_,rfl⟩
 have qk : Below w.heap.size w W1:=by rw [qh];exact qd w _
 have yK : W1.heap[w.heap.size]? = some (.cells zc T (0,0)):=by rw [qh];exact qe w _
 have HI:=hZ (qqE NF hG nm hN0 s l A c n hn hm B0 W1 (Nat.le_trans qz qk.size) (yB jA qz qk hA))
 have HH:=hZ (aZ hA (aZ qk (aZ yK (aZ hN (aZ zd (aZ hzz hn))))))
 have HB:=hZ qz
 clear qz
 clear hA hn hN0 hG hN zd qk yK hzz
 unfold maxLen at hm
 go_enter Tryz.func167,Tryz.ntmps167
 simp only [e1,e2,e3]
 clear e1 e2 e3 hT
 go_wp2_with fail
 rw [<- qh]
 clear qh
 refine HI.out.mono ?_
 rintro e w3 ⟨⟨cs,b,rfl,hr⟩,hb⟩
 have xg : zc.size = N:=HH.out.2.2.2.2.1
 have qu : cs.size = N:=by
  rcases hr with ⟨_,h,_⟩ | ⟨_,x,_,h⟩
  ·rw [h,<- HH.out.2.2.2.2.2.1];exact xg
  ·exact (qeV h).trans HH.out.2.2.2.1.symm
 have zz : cs.all (·.oneCell') = true:=by
  rcases hr with ⟨_,h,_⟩ | ⟨_,x,_,h⟩
  ·rw [h];rw [List.all_toArray];rfl
  ·exact qfE h
 have zv:=xF (w:=w3) (t:=T) (xg.trans qu.symm) zz
 have ye:=zI (qe w3 (.cells cs T)) qu
 have h6 : (w3.alloc (.cells cs T)).heap[w.heap.size]? = some (.cells zc T (0,0)):=qr (qg hb HH.out.2.2.1)
 have qm6:=zl h6 (xg.trans qu.symm) zz
 have H3:=hZ (aZ hr (aZ (HH.out.2.1.chain hb) h6))
 have HD:=hZ (qU b 7 s (w3.alloc (.cells cs T)))
 clear hr hb zz h6
 go_wp2_with fail
 refine HD.out.mono ?_
 rintro e w4 ⟨he,rfl⟩
 rcases H3.out.1 with ⟨rfl,_,ho⟩ | ⟨rfl,x,ho,hv⟩
 ·obtain rfl : e = _:=he
  exact ⟨rfl,.inr ⟨ho,rfl⟩,H3.out.2.1.chain (qd w3 _)⟩
 ·obtain rfl : e = _:=he
  have HV:=hZ (aZ ho hv)
  clear ho hv
  go_wp2
  refine bodyPost_ret (results_cell_row rfl _ _ w.heap.size T cs (0,0) _ rfl (setRow_heap _ _ zc _ _ _ H3.out.2.2) Tryz.underlying61 rfl (by rw [qu,HH.out.2.2.2.1];kernel_rfl)) rfl ?_
  have yd:=below_setRow (H3.out.2.1.chain (qd w3 (.cells cs T))) (Nat.le_refl w.heap.size) cs
  refine ⟨.inl ⟨cs,x,rfl,HV.out.1,jA _ _ _ _ _ _ (fun q hq => ?_) (Nat.le_refl _) HV.out.2⟩,yd⟩
  have yK:=Nat.lt_of_lt_of_le hq HB.out
  exact (yd.cell yK).trans (H3.out.2.1.cell yK).symm
theorem qqR (NF : Nat) (hG : ∀ args w,(callFunc NF args).run Tryz.prog w = .ok (.enter NF args) w) (nm : Lk -> List UInt8) (hN0 : xm NF vA nm) (l : List Lk) (yL : ∀ x ∈ l,(nm x).length <= maxLen) (A : Option Addr) (c n : Nat) (hn : n = l.length) (hm : n <= maxLen) (B0 : Nat) (w : World) (qz : B0 <= w.heap.size) (hA : qD vA 2 w B0 l A) :
 Calls Tryz.prog 96 #[.slice A n c,.func (.func NF) #[] #[]] w (qV (zH [] (l.map nm)) w):=by
 obtain ⟨T,N,zc,hT,hN,zd,hzz,hag,qK,yR⟩:=qbu
 have e1 : ∀ y : Operand,Op.load 61 y = Op.load T y:=fun y => by rw [hT]
 have e2 : ∀ y z : Operand,Op.store 61 y z = Op.store T y z:=fun y z => by rw [hT]
 have e3 : Op.alloc 61 = Op.alloc T:=by rw [hT]
 have hmm:=@run_makeMap Tryz.prog
 have HO0:=hZ (World.ownsMap_made w Tryz.prog 9 (plainElem (H:=Unit) Tryz.prog 4))
 have zo:=hZ (qd w (.map #[] 0))
 have HZ : Hid (∀ w : World,(zeroValue 4).run Tryz.prog w = .ok (.bool false) w):=hZ (fun w => by kernel_rfl)
 have HH:=hZ (aZ hA (aZ hn (aZ hN0 (aZ hN (aZ zd (aZ qz (aZ yL hm)))))))
 clear hA hn hN0 hN zd qz hzz yL
 unfold maxLen at hm
 go_enter Tryz.func96,Tryz.ntmps96
 simp only [e1,e2,e3]
 clear e1 e2 e3 hT
 go_wp2
 go_loopg [11] n (fun m j wr => ∃ k : Nat,m = n - k /\ k <= n /\ j = .int .i64 k /\ Hid (zn wr w.heap.size k (kwD ((l.map nm).take k)) /\ Below w.heap.size w wr /\ zH [] ((l.map nm).take k) = none))
 case atStart => exact ⟨0,rfl,Nat.zero_le _,rfl,hZ ⟨HO0.out,zo.out,rfl⟩⟩
 case round =>
  obtain ⟨k,rfl,hk,rfl,HI⟩:=hrel
  have hk0 : (0 : Int) <= k:=by omega
  by_cases qB : k < n
  ·have jD : (k : Int) < n:=by omega
   obtain ⟨x,hx⟩ : ∃ x,l[k]? = some x:=⟨l[k]'(by rw [<- HH.out.2.1];exact qB),List.getElem?_eq_getElem _⟩
   obtain ⟨a,cs,rfl,qx,qn,qP,hv⟩:=HH.out.1 k x hx
   have qu : cs.size = N:=qn.trans HH.out.2.2.2.1.symm
   have xy : (loadCellsFrom (a.add (k * 2)) 0 N #[]).run Tryz.prog wr = .ok cs wr:=qZ (fun j v hv => (HI.out.2.1.cell (by rw [qm,qm];exact Nat.lt_of_lt_of_le qx HH.out.2.2.2.2.2.1)).trans (qP j v hv)) qu
   have zv:=xF (w:=wr) (t:=T) (HH.out.2.2.2.2.1.trans qu.symm) (qfE hv)
   have ye:=zI (qe wr (.cells cs T)) qu
   have qR:=HI.out.2.1.chain (qd wr (.cells cs T))
   have HC:=hZ (HH.out.2.2.1 x cs (wr.alloc (.cells cs T)) (jh jA HH.out.2.2.2.2.2.1 (Nat.le_trans HH.out.2.2.2.2.2.1 qR.size) qR hv))
   have hxn : (l.map nm)[k]? = some (nm x):=by rw [List.getElem?_map,hx];rfl
   obtain ⟨d1,d2⟩:=qae (l.map nm) [] k (nm x) hxn HI.out.2.2
   obtain ⟨r,hr⟩ : ∃ r,r = ((l.map nm).take k).contains (nm x):=⟨_,rfl⟩
   have vh:=hZ (Go.WideMaps.keyOf_string_mk Tryz.underlying9 (s:=⟨(nm x).toArray⟩) (HH.out.2.2.2.2.2.2.1 x (List.mem_of_getElem? hx)))
   have HAt : Hid ((kwD ((l.map nm).take k)).atKey (.string (nm x)) (.lit (.bool false)) = .lit (.bool r)):=hZ (by rw [hr];exact qdx _ _)
   have HX:=hZ (aZ d1 (aZ d2 (aZ hr (aZ qR (aZ hxn (Nat.lt_of_lt_of_le qB HH.out.2.2.2.2.2.2.2))))))
   obtain ⟨u,hu⟩ : ∃ u,u = nm x:=⟨_,rfl⟩
   rw [<- hu] at HC vh HAt HX
   clear hx qP qn hv qx d1 d2 hr hxn qR hu
   go_wp2_with fail
   refine HC.out.mono ?_
   rintro e w3 ⟨rfl,hb⟩
   have HO3:=hZ (qds (HI.out.1.alloc (.cells cs T)) hb)
   have H3:=hZ (HX.out.2.2.2.1.chain hb)
   clear hb
   go_wp2_with (refine ym _ rfl _ _ 183 rfl 9 4 (Keyed.of_law (Go.WideMaps.string_law Tryz.underlying9)) Tryz.underlying183 Tryz.underlying4 (HZ.out _) w.heap.size k _ rfl HO3.out _ _ rfl vh.out r HAt.out ?_)
   refine (qU (!r) 8 u w3).mono ?_
   rintro e w4 ⟨he,rfl⟩
   cases r
   ·obtain rfl : e = _:=he
    go_wp2_with (at_mapUpdate;refine wpList_mapUpdate_own _ rfl _ _ _ 183 rfl 9 4 (Keyed.of_law (Go.WideMaps.string_law Tryz.underlying9)) Tryz.underlying183 _ w.heap.size _ _ rfl HO3.out HX.out.2.2.2.2.2 _ _ _ rfl rfl vh.out _ _ (Go.plainElem_bool Tryz.underlying4 true) ?_;intro wk qA hgr;have jm:=hZ qA;have HG2:=hZ (H3.out.trans (jN hgr (Nat.le_refl _) H3.out.size));clear qA hgr)
    go_roundg (n - (k + 1))
    case measure => omega
    case rel =>
     have e1 : (l.map nm).take (k + 1) = (l.map nm).take k ++ [u]:=by rw [List.take_add_one,HX.out.2.2.2.2.1];rfl
     have jk : ¬ (u ∈ ([] : List (List UInt8)) \/ u ∈ (l.map nm).take k):=by
      have h:=HX.out.2.2.1
      rintro (h0 | h0)
      ·cases h0
      ·rw [List.contains_iff_mem.2 h0] at h
       cases h
     exact ⟨k + 1,rfl,by omega,by go_num,hZ ⟨by rw [e1,qch];exact jm.out,HG2.out,HX.out.2.1 jk⟩⟩
   ·obtain rfl : e = _:=he
    refine ⟨rfl,?_,H3.out⟩
    rw [HX.out.1 (.inr (List.contains_iff_mem.1 HX.out.2.2.1.symm))]
    rfl
  ·obtain rfl : k = n:=by omega
   go_wp2
   refine bodyPost_end (results_none rfl _ _ _) rfl ⟨?_,HI.out.2.1⟩
   have h:=HI.out.2.2
   rw [List.take_of_length_le (by rw [List.length_map,HH.out.2.1];exact Nat.le_refl _)] at h
   rw [h]
   rfl
end
section
set_option maxRecDepth 100000
set_option maxHeartbeats 8000000
open Go.RowKit
open Go.Maps (Keyed)
abbrev qnG : Array Value:=#[.string ⟨#[]⟩,.slice none 0 0,.slice none 0 0,.slice none 0 0,.slice none 0 0,.slice none 0 0,.slice none 0 0,.slice none 0 0]
theorem qhX : ∃ (T N : Nat) (zc : Array Value),71 = T /\ N = 8 /\ zc.size = N /\ zc = qnG /\ (∀ w : World,(isAgg T).run Tryz.prog w = .ok true w) /\ (∀ w : World,(sizeOf T).run Tryz.prog w = .ok N w) /\ (∀ w : World,(zeroValue T).run Tryz.prog w = .ok (.agg zc) w) :=
 ⟨_,8,qnG,rfl,rfl,rfl,rfl,fun w => by kernel_rfl,fun w => by kernel_rfl,fun w => by kernel_rfl⟩
theorem qlb {w : World} {B : Nat} {cs : Array Value} {x : Lm} (hv : VLm w B cs x) : cs.size = 8:=by
 obtain ⟨_,_,_,_,rfl,_⟩:=hv
 rfl
theorem qhu {w : World} {B : Nat} {cs : Array Value} {x : Lm} (hv : VLm w B cs x) : cs.all (·.oneCell') = true:=by
 obtain ⟨_,_,_,_,rfl,_⟩:=hv
 unfold qg9;rw [List.all_toArray]
 rfl
theorem qnI {w : World} {B : Nat} {cs : Array Value} {x : Lm} (hv : VLm w B cs x) : cs[0]? = some (.string ⟨x.nm.toArray⟩):=by
 obtain ⟨_,_,_,_,rfl,_⟩:=hv
 rfl
theorem qp9 : xm 101 VLm (·.nm):=by
 intro x cs w hv
 obtain ⟨T,N,zc,hT,hN,zd,_,hag,qK,yR⟩:=qhX
 have e4 : ∀ y : Operand,Op.box 71 y = Op.box T y:=fun y => by rw [hT]
 have qu : cs.size = N:=(qlb hv).trans hN.symm
 have c:=qc (qe w (.cells cs T)) 0 (qnI hv)
 have HB:=hZ (qd w (.cells cs T))
 clear hN zd hv
 go_enter Tryz.func101,Tryz.ntmps101
 simp only [e4]
 clear e4 hT
 go_wp2
 go_ret
 exact ⟨rfl,HB.out⟩
theorem qoP (NF : Nat) (hG : ∀ args w,(callFunc NF args).run Tryz.prog w = .ok (.enter NF args) w) (nm : Lm -> List UInt8) (hN0 : xm NF VLm nm) (l : List Lm) (yL : ∀ x ∈ l,(nm x).length <= maxLen) (A : Option Addr) (c n : Nat) (hn : n = l.length) (hm : n <= maxLen) (B0 : Nat) (w : World) (qz : B0 <= w.heap.size) (hA : qD VLm 8 w B0 l A) :
 Calls Tryz.prog 100 #[.slice A n c,.func (.func NF) #[] #[]] w (qV (zH [] (l.map nm)) w):=by
 obtain ⟨T,N,zc,hT,hN,zd,hzz,hag,qK,yR⟩:=qhX
 have e1 : ∀ y : Operand,Op.load 71 y = Op.load T y:=fun y => by rw [hT]
 have e2 : ∀ y z : Operand,Op.store 71 y z = Op.store T y z:=fun y z => by rw [hT]
 have e3 : Op.alloc 71 = Op.alloc T:=by rw [hT]
 have hmm:=@run_makeMap Tryz.prog
 have HO0:=hZ (World.ownsMap_made w Tryz.prog 9 (plainElem (H:=Unit) Tryz.prog 4))
 have zo:=hZ (qd w (.map #[] 0))
 have HZ : Hid (∀ w : World,(zeroValue 4).run Tryz.prog w = .ok (.bool false) w):=hZ (fun w => by kernel_rfl)
 have HH:=hZ (aZ hA (aZ hn (aZ hN0 (aZ hN (aZ zd (aZ qz (aZ yL hm)))))))
 clear hA hn hN0 hN zd qz hzz yL
 unfold maxLen at hm
 go_enter Tryz.func100,Tryz.ntmps100
 simp only [e1,e2,e3]
 clear e1 e2 e3 hT
 go_wp2
 go_loopg [11] n (fun m j wr => ∃ k : Nat,m = n - k /\ k <= n /\ j = .int .i64 k /\ Hid (zn wr w.heap.size k (kwD ((l.map nm).take k)) /\ Below w.heap.size w wr /\ zH [] ((l.map nm).take k) = none))
 case atStart => exact ⟨0,rfl,Nat.zero_le _,rfl,hZ ⟨HO0.out,zo.out,rfl⟩⟩
 case round =>
  obtain ⟨k,rfl,hk,rfl,HI⟩:=hrel
  have hk0 : (0 : Int) <= k:=by omega
  by_cases qB : k < n
  ·have jD : (k : Int) < n:=by omega
   obtain ⟨x,hx⟩ : ∃ x,l[k]? = some x:=⟨l[k]'(by rw [<- HH.out.2.1];exact qB),List.getElem?_eq_getElem _⟩
   obtain ⟨a,cs,rfl,qx,qn,qP,hv⟩:=HH.out.1 k x hx
   have qu : cs.size = N:=qn.trans HH.out.2.2.2.1.symm
   have xy : (loadCellsFrom (a.add (k * 8)) 0 N #[]).run Tryz.prog wr = .ok cs wr:=qZ (fun j v hv => (HI.out.2.1.cell (by rw [qm,qm];exact Nat.lt_of_lt_of_le qx HH.out.2.2.2.2.2.1)).trans (qP j v hv)) qu
   have zv:=xF (w:=wr) (t:=T) (HH.out.2.2.2.2.1.trans qu.symm) (qhu hv)
   have ye:=zI (qe wr (.cells cs T)) qu
   have qR:=HI.out.2.1.chain (qd wr (.cells cs T))
   have HC:=hZ (HH.out.2.2.1 x cs (wr.alloc (.cells cs T)) (jh qcx HH.out.2.2.2.2.2.1 (Nat.le_trans HH.out.2.2.2.2.2.1 qR.size) qR hv))
   have hxn : (l.map nm)[k]? = some (nm x):=by rw [List.getElem?_map,hx];rfl
   obtain ⟨d1,d2⟩:=qae (l.map nm) [] k (nm x) hxn HI.out.2.2
   obtain ⟨r,hr⟩ : ∃ r,r = ((l.map nm).take k).contains (nm x):=⟨_,rfl⟩
   have vh:=hZ (Go.WideMaps.keyOf_string_mk Tryz.underlying9 (s:=⟨(nm x).toArray⟩) (HH.out.2.2.2.2.2.2.1 x (List.mem_of_getElem? hx)))
   have HAt : Hid ((kwD ((l.map nm).take k)).atKey (.string (nm x)) (.lit (.bool false)) = .lit (.bool r)):=hZ (by rw [hr];exact qdx _ _)
   have HX:=hZ (aZ d1 (aZ d2 (aZ hr (aZ qR (aZ hxn (Nat.lt_of_lt_of_le qB HH.out.2.2.2.2.2.2.2))))))
   obtain ⟨u,hu⟩ : ∃ u,u = nm x:=⟨_,rfl⟩
   rw [<- hu] at HC vh HAt HX
   clear hx qP qn hv qx d1 d2 hr hxn qR hu
   go_wp2_with fail
   refine HC.out.mono ?_
   rintro e w3 ⟨rfl,hb⟩
   have HO3:=hZ (qds (HI.out.1.alloc (.cells cs T)) hb)
   have H3:=hZ (HX.out.2.2.2.1.chain hb)
   clear hb
   go_wp2_with (refine ym _ rfl _ _ 183 rfl 9 4 (Keyed.of_law (Go.WideMaps.string_law Tryz.underlying9)) Tryz.underlying183 Tryz.underlying4 (HZ.out _) w.heap.size k _ rfl HO3.out _ _ rfl vh.out r HAt.out ?_)
   refine (qU (!r) 8 u w3).mono ?_
   rintro e w4 ⟨he,rfl⟩
   cases r
   ·obtain rfl : e = _:=he
    go_wp2_with (at_mapUpdate;refine wpList_mapUpdate_own _ rfl _ _ _ 183 rfl 9 4 (Keyed.of_law (Go.WideMaps.string_law Tryz.underlying9)) Tryz.underlying183 _ w.heap.size _ _ rfl HO3.out HX.out.2.2.2.2.2 _ _ _ rfl rfl vh.out _ _ (Go.plainElem_bool Tryz.underlying4 true) ?_;intro wk qA hgr;have jm:=hZ qA;have HG2:=hZ (H3.out.trans (jN hgr (Nat.le_refl _) H3.out.size));clear qA hgr)
    go_roundg (n - (k + 1))
    case measure => omega
    case rel =>
     have e1 : (l.map nm).take (k + 1) = (l.map nm).take k ++ [u]:=by rw [List.take_add_one,HX.out.2.2.2.2.1];rfl
     have jk : ¬ (u ∈ ([] : List (List UInt8)) \/ u ∈ (l.map nm).take k):=by
      have h:=HX.out.2.2.1
      rintro (h0 | h0)
      ·cases h0
      ·rw [List.contains_iff_mem.2 h0] at h
       cases h
     exact ⟨k + 1,rfl,by omega,by go_num,hZ ⟨by rw [e1,qch];exact jm.out,HG2.out,HX.out.2.1 jk⟩⟩
   ·obtain rfl : e = _:=he
    refine ⟨rfl,?_,H3.out⟩
    rw [HX.out.1 (.inr (List.contains_iff_mem.1 HX.out.2.2.1.symm))]
    rfl
  ·obtain rfl : k = n:=by omega
   go_wp2
   refine bodyPost_end (results_none rfl _ _ _) rfl ⟨?_,HI.out.2.1⟩
   have h:=HI.out.2.2
   rw [List.take_of_length_le (by rw [List.length_map,HH.out.2.1];exact Nat.le_refl _)] at h
   rw [h]
   rfl
end
section
set_option maxRecDepth 100000
set_option maxHeartbeats 8000000
open Go.RowKit
open Go.Maps (Keyed)
abbrev qmt : Array Value:=#[.string ⟨#[]⟩,.int .i64 0,.int .i64 0,.slice none 0 0,.slice none 0 0,.string ⟨#[]⟩,.string ⟨#[]⟩,.bool false,.slice none 0 0,.slice none 0 0,.slice none 0 0,.slice none 0 0]
theorem qaG : ∃ (T N : Nat) (zc : Array Value),46 = T /\ N = 12 /\ zc.size = N /\ zc = qmt /\ (∀ w : World,(isAgg T).run Tryz.prog w = .ok true w) /\ (∀ w : World,(sizeOf T).run Tryz.prog w = .ok N w) /\ (∀ w : World,(zeroValue T).run Tryz.prog w = .ok (.agg zc) w) :=
 ⟨_,12,qmt,rfl,rfl,rfl,rfl,fun w => by kernel_rfl,fun w => by kernel_rfl,fun w => by kernel_rfl⟩
theorem qbA {w : World} {B : Nat} {cs : Array Value} {x : Pr} (hv : xP w B cs x) : cs.size = 12:=by
 obtain ⟨_,rfl,_⟩:=hv
 rfl
theorem qaA {w : World} {B : Nat} {cs : Array Value} {x : Pr} (hv : xP w B cs x) : cs.all (·.oneCell') = true:=by
 obtain ⟨_,rfl,_⟩:=hv
 unfold jJ;rw [List.all_toArray]
 rfl
theorem qpG {w : World} {B : Nat} {cs : Array Value} {x : Pr} (hv : xP w B cs x) : cs[0]? = some (.string ⟨x.nm.toArray⟩):=by
 obtain ⟨_,rfl,_⟩:=hv
 rfl
theorem qlQ : xm 43 xP (·.nm):=by
 intro x cs w hv
 obtain ⟨T,N,zc,hT,hN,zd,_,hag,qK,yR⟩:=qaG
 have e4 : ∀ y : Operand,Op.box 46 y = Op.box T y:=fun y => by rw [hT]
 have qu : cs.size = N:=(qbA hv).trans hN.symm
 have c:=qc (qe w (.cells cs T)) 0 (qpG hv)
 have HB:=hZ (qd w (.cells cs T))
 clear hN zd hv
 go_enter Tryz.func43,Tryz.ntmps43
 simp only [e4]
 clear e4 hT
 go_wp2
 go_ret
 exact ⟨rfl,HB.out⟩
theorem qqW (NF : Nat) (hG : ∀ args w,(callFunc NF args).run Tryz.prog w = .ok (.enter NF args) w) (nm : Pr -> List UInt8) (hN0 : xm NF xP nm) (s : List UInt8) (x : Pr) (cs : Array Value) (bf bs : Nat) (w : World) (hv : xP w w.heap.size cs x)
 (yd : w.cell? ⟨bf,0,none⟩ = some (.func (.func NF) #[] #[])) (yV : w.cell? ⟨bs,0,none⟩ = some (.string ⟨s.toArray⟩)) :
 Calls Tryz.prog 60 #[.agg cs,.pointer (some ⟨bf,0,none⟩),.pointer (some ⟨bs,0,none⟩)] w fun e w' => e = .returned (.bool (nm x == s)) /\ Below w.heap.size w w':=by
 obtain ⟨T,N,zc,hT,hN,zd,_,hag,qK,yR⟩:=qaG
 have e1 : ∀ y : Operand,Op.load 46 y = Op.load T y:=fun y => by rw [hT]
 have e4 : ∀ y : Operand,Op.box 46 y = Op.box T y:=fun y => by rw [hT]
 have qu : cs.size = N:=(qbA hv).trans hN.symm
 obtain ⟨W1,qh⟩ : ∃ W1,W1 = w.alloc (.cells cs T):=⟨_,rfl⟩
 have qk : Below w.heap.size w W1:=by rw [qh];exact qd w _
 have yc : W1.heap[w.heap.size]? = some (.cells cs T (0,0)):=by rw [qh];exact qe w _
 obtain ⟨S,hS⟩ : ∃ S : World -> Prop,S = fun W => Below W1.heap.size W1 W:=⟨_,rfl⟩
 have qo : Hid (∀ W,Below W1.heap.size W1 W -> S W):=hZ (fun W hb => by rw [hS];exact hb)
 have qX : Hid (∀ W,S W -> W.cell? ⟨bf,0,none⟩ = some (.func (.func NF) #[] #[]) /\ W.cell? ⟨bs,0,none⟩ = some (.string ⟨s.toArray⟩) /\ (loadCellsFrom ⟨w.heap.size,0,none⟩ 0 N #[]).run Tryz.prog W = .ok cs W):=hZ (fun W hs => by
  rw [hS] at hs
  have hb:=qk.chain hs
  exact ⟨(hb.cell (World.block_lt_of_cell? w _ yd)).trans yd,(hb.cell (World.block_lt_of_cell? w _ yV)).trans yV,zI (qg hs yc) qu⟩)
 have HC : Hid (∀ W,Below W1.heap.size W1 W -> Calls Tryz.prog NF #[.agg cs] W fun e w' => e = .returned (.string ⟨(nm x).toArray⟩) /\ Below W.heap.size W w'):=hZ (fun W hb => hN0 x cs W (kept xf (qk.chain hb) hv))
 have qw:=hZ qk
 have zE : Tryz.prog.follows .mixedOrders = true:=by kernel_rfl
 have ze:=hZ (Below.refl W1.heap.size W1).drew
 have g0:=qo.out _ ze.out
 obtain ⟨u,hu⟩ : ∃ u,u = nm x:=⟨_,rfl⟩
 rw [<- hu] at HC ⊢
 clear hN zd hv yd yV qk yc hS hu hN0
 go_enter Tryz.func60,Tryz.ntmps60
 simp only [e1,e4]
 clear e1 e4 hT
 go_wp2
 rw [<- qh]
 clear qh
 refine wp_region_held (S:=S) zE ?_
 change wpAnyH _ _ _ _ _ 6 #[false,false,false,false,false,false] _ W1.drew
 refine tk 0 5 (.func (.func NF) #[] #[]) g0 ?v ?_
 case v => intro Wx hSx;obtain ⟨z1,z2,z3⟩:=qX.out Wx hSx;go_simp
 refine tk 1 6 (.agg cs) g0 ?v ?_
 case v => intro Wx hSx;obtain ⟨z1,z2,z3⟩:=qX.out Wx hSx;go_simp
 refine tk 3 8 (.string ⟨s.toArray⟩) g0 ?v ?_
 case v => intro Wx hSx;obtain ⟨z1,z2,z3⟩:=qX.out Wx hSx;go_simp
 try simp only [qf]
 refine o1 2 (fun K hK => ?_)
 go_simp
 refine (HC.out _ ze.out).mono ?_
 rintro e w1 ⟨rfl,hb⟩
 have jv:=hZ (ze.out.chain hb)
 clear hb
 have g1:=qo.out _ jv.out
 refine hK _ _ g1 ?_
 clear hK K g0
 refine tk 4 9 (.bool (u == s)) g1 ?v ?_
 case v => intro Wx hSx;obtain ⟨z1,z2,z3⟩:=qX.out Wx hSx;go_simp
 refine tk 5 4 (.bool (u == s)) g1 ?v ?_
 case v => intro Wx hSx;obtain ⟨z1,z2,z3⟩:=qX.out Wx hSx;go_simp
 try simp only [qf]
 refine wpAnyH_done (by kernel_rfl) ?_ _
 go_wp2
 go_ret
 exact ⟨rfl,qw.out.chain jv.out⟩
theorem qqn (NF : Nat) (hG : ∀ args w,(callFunc NF args).run Tryz.prog w = .ok (.enter NF args) w) (nm : Pr -> List UInt8) (hN0 : xm NF xP nm) (s : List UInt8) (l : List Pr) (A : Option Addr) (c n : Nat) (hn : n = l.length) (hm : n <= maxLen) (bf bs : Nat) (B0 : Nat) (w : World) (qz : B0 <= w.heap.size)
 (hA : qD xP 12 w B0 l A) (yd : w.cell? ⟨bf,0,none⟩ = some (.func (.func NF) #[] #[])) (yV : w.cell? ⟨bs,0,none⟩ = some (.string ⟨s.toArray⟩)) :
 Calls Tryz.prog 59 #[.slice A n c,.func (.func 60) #[] #[.pointer (some ⟨bf,0,none⟩),.pointer (some ⟨bs,0,none⟩)]] w fun e w' => ∃ q : Int,e = .returned (.int .i64 q) /\ Ixd (fun x => nm x == s) l q /\ Below w.heap.size w w':=by
 obtain ⟨T,N,zc,hT,hN,zd,_,hag,qK,yR⟩:=qaG
 have e1 : ∀ y : Operand,Op.load 46 y = Op.load T y:=fun y => by rw [hT]
 have HB:=hZ qz
 have HH:=hZ (aZ hA (aZ hn (aZ hN0 (aZ hN (aZ yd yV)))))
 have HG : Hid (∀ args w,(callFunc NF args).run Tryz.prog w = .ok (.enter NF args) w):=hZ hG
 have hcl : ∀ args w,(callFunc 60 args).run Tryz.prog w = .ok (.enter 60 args) w:=enters_of Tryz.func60 (by kernel_rfl) rfl
 clear hA hn hN0 hG hN zd yR yd yV qz
 unfold maxLen at hm
 go_enter Tryz.func59,Tryz.ntmps59
 simp only [e1]
 clear e1 hT
 go_wp2
 go_loopg [8] n (fun m j wr => ∃ k : Nat,m = n - k /\ k <= n /\ j = .int .i64 k /\ Hid (Below w.heap.size w wr /\ (l.take k).all (fun y => !(nm y == s)) = true))
 case atStart => exact ⟨0,rfl,Nat.zero_le _,rfl,hZ ⟨Below.refl _ _,by rw [List.take_zero];rfl⟩⟩
 case round =>
  obtain ⟨k,rfl,hk,rfl,HI⟩:=hrel
  have hk0 : (0 : Int) <= k:=by omega
  by_cases qB : k < n
  ·have jD : (k : Int) < n:=by omega
   obtain ⟨x,hx⟩ : ∃ x,l[k]? = some x:=⟨l[k]'(by rw [<- HH.out.2.1];exact qB),List.getElem?_eq_getElem _⟩
   obtain ⟨a,cs,rfl,qx,qn,qP,hv⟩:=HH.out.1 k x hx
   have xy : (loadCellsFrom (a.add (k * 12)) 0 N #[]).run Tryz.prog wr = .ok cs wr:=qZ (fun j v hv => (HI.out.1.cell (by rw [qm,qm];exact Nat.lt_of_lt_of_le qx HB.out)).trans (qP j v hv)) (qn.trans HH.out.2.2.2.1.symm)
   have HC:=hZ (qqW NF HG.out nm HH.out.2.2.1 s x cs bf bs wr (jh xf HB.out (Nat.le_trans HB.out HI.out.1.size) HI.out.1 hv) ((HI.out.1.cell (World.block_lt_of_cell? w _ HH.out.2.2.2.2.1)).trans HH.out.2.2.2.2.1) ((HI.out.1.cell (World.block_lt_of_cell? w _ HH.out.2.2.2.2.2)).trans HH.out.2.2.2.2.2))
   obtain ⟨r,hr⟩ : ∃ r,r = (nm x == s):=⟨_,rfl⟩
   rw [<- hr] at HC
   have HX:=hZ (aZ hx hr)
   clear hx hr qP qn hv qx
   go_wp2_with fail
   refine HC.out.mono ?_
   rintro e w3 ⟨rfl,hb⟩
   have H3:=hZ (HI.out.1.chain hb)
   clear hb
   cases r
   ·go_wp2
    go_roundg (n - (k + 1))
    case measure => omega
    case rel => exact ⟨k + 1,rfl,by omega,by go_num,hZ ⟨H3.out,by rw [zB (fun y => !(nm y == s)) l k x HX.out.1,HI.out.2,<- HX.out.2];rfl⟩⟩
   ·go_wp2
    go_ret
    exact ⟨k,rfl,.inr ⟨k,x,rfl,HX.out.1,qaM _ l k x HX.out.1 HI.out.2 HX.out.2.symm⟩,H3.out⟩
  ·have hlt' : ¬ (k : Int) < n:=by omega
   obtain rfl : k = n:=by omega
   go_wp2
   go_ret
   refine ⟨-1,rfl,.inl ⟨rfl,qbv _ l ?_⟩,HI.out.1⟩
   have h:=HI.out.2
   rw [List.take_of_length_le (by rw [HH.out.2.1];exact Nat.le_refl _)] at h
   exact h
theorem qqD (NF : Nat) (hG : ∀ args w,(callFunc NF args).run Tryz.prog w = .ok (.enter NF args) w) (nm : Pr -> List UInt8) (hN0 : xm NF xP nm) (s : List UInt8) (l : List Pr) (A : Option Addr) (c n : Nat) (hn : n = l.length) (hm : n <= maxLen) (B0 : Nat) (w : World) (qz : B0 <= w.heap.size) (hA : qD xP 12 w B0 l A) :
 Calls Tryz.prog 42 #[.slice A n c,.string ⟨s.toArray⟩,.func (.func NF) #[] #[]] w (qdl xP qmt (qG nm l s) B0 w):=by
 obtain ⟨T,N,zc,hT,hN,zd,hzz,hag,qK,yR⟩:=qaG
 have e1 : ∀ y : Operand,Op.load 46 y = Op.load T y:=fun y => by rw [hT]
 have e2 : ∀ y z : Operand,Op.store 46 y z = Op.store T y z:=fun y z => by rw [hT]
 have e3 : Op.alloc 46 = Op.alloc T:=by rw [hT]
 obtain ⟨W1,qh⟩ : ∃ W1,W1 = ((w.alloc (.cells #[.string ⟨s.toArray⟩] 9)).alloc (.cells #[.func (.func NF) #[] #[]] 106)).alloc (.cells zc T):=⟨_,rfl⟩
 have qk : Below w.heap.size w W1:=by rw [qh];exact ((qd w _).chain (qd _ _)).chain (qd _ _)
 have hq0 : W1.heap[w.heap.size]? = some (.cells #[.string ⟨s.toArray⟩] 9 (0,0)):=by rw [qh];exact qr (qr (qe w _))
 have hq1 : W1.heap[w.heap.size + 1]? = some (.cells #[.func (.func NF) #[] #[]] 106 (0,0)):=by
  rw [qh]
  have h:=qr (o:=.cells zc T) (qe (w.alloc (.cells #[.string ⟨s.toArray⟩] 9)) (.cells #[.func (.func NF) #[] #[]] 106))
  simp only [qj] at h
  exact h
 have yK : W1.heap[w.heap.size + 2]? = some (.cells zc T (0,0)):=by
  rw [qh]
  have h:=qe ((w.alloc (.cells #[.string ⟨s.toArray⟩] 9)).alloc (.cells #[.func (.func NF) #[] #[]] 106)) (.cells zc T)
  simp only [qj] at h
  exact h
 have HI:=hZ (qqn NF hG nm hN0 s l A c n hn hm (w.heap.size + 1) w.heap.size B0 W1 (Nat.le_trans qz qk.size) (yB xf qz qk hA) (qc hq1 0 rfl) (qc hq0 0 rfl))
 have HH:=hZ (aZ hA (aZ qk (aZ yK (aZ hN (aZ zd (aZ hzz hn))))))
 have HB:=hZ qz
 clear qz
 clear hA hn hN0 hG hN zd qk hq0 hq1 yK hzz
 unfold maxLen at hm
 go_enter Tryz.func42,Tryz.ntmps42
 simp only [e1,e2,e3]
 clear e1 e2 e3 hT
 go_wp2_with fail
 rw [<- qh]
 clear qh
 refine HI.out.mono ?_
 rintro e w3 ⟨q,rfl,hq,hb⟩
 have H3:=hZ (aZ hq (aZ hb (qg hb HH.out.2.2.1)))
 clear hb
 by_cases hq0 : q < 0
 ·have xg : zc.size = N:=HH.out.2.2.2.2.1
  have ye:=zI (qe w3 (.cells zc T)) xg
  have h6 : (w3.alloc (.cells zc T)).heap[w.heap.size + 1 + 1]? = some (.cells zc T (0,0)):=qr H3.out.2.2
  have hzo : zc.all (·.oneCell') = true:=by rw [HH.out.2.2.2.2.2.1];rw [List.all_toArray];rfl
  have zv:=zl h6 rfl hzo
  have H6:=hZ (aZ h6 hzo)
  clear h6 hzo
  go_wp2
  refine bodyPost_ret (yz rfl _ _ (w.heap.size + 1 + 1) T zc (0,0) _ rfl (setRow_heap _ _ zc _ _ _ H6.out.1) Tryz.underlying46 rfl (by rw [xg,HH.out.2.2.2.1];kernel_rfl)) rfl ?_
  refine ⟨⟨zc,false,rfl,.inl ⟨rfl,HH.out.2.2.2.2.2.1,?_⟩⟩,below_setRow ((HH.out.2.1.chain H3.out.2.1).chain (qd w3 _)) (by omega) _⟩
  rcases H3.out.1 with ⟨_,h⟩ | ⟨i,x,hi,_,_⟩
  ·exact h
  ·omega
 ·rcases H3.out.1 with ⟨h,_⟩ | ⟨i,x,hi,hx,hf⟩
  ·omega
  subst hi
  have hin : i < n:=by rw [HH.out.2.2.2.2.2.2];exact (List.getElem?_eq_some_iff.1 hx).1
  have hii : (i : Int) < n:=by omega
  have xj : (0 : Int) <= i:=by omega
  obtain ⟨a,cs,rfl,qx,qn,qP,hv⟩:=HH.out.1 i x hx
  have qu : cs.size = N:=qn.trans HH.out.2.2.2.1.symm
  have xy : (loadCellsFrom (a.add (i * 12)) 0 N #[]).run Tryz.prog w3 = .ok cs w3:=qZ (fun j v hv => ((HH.out.2.1.chain H3.out.2.1).cell (by rw [qm,qm];exact Nat.lt_of_lt_of_le qx HB.out)).trans (qP j v hv)) qu
  have h6 : w3.heap[w.heap.size + 1 + 1]? = some (.cells zc T (0,0)):=H3.out.2.2
  have zv:=zl h6 (HH.out.2.2.2.2.1.trans qu.symm) (qaA hv)
  have HX:=hZ (aZ hf (aZ hv h6))
  clear hf hv hx qP qn qx h6 hin
  go_wp2
  refine bodyPost_ret (yz rfl _ _ (w.heap.size + 1 + 1) T cs (0,0) _ rfl (setRow_heap _ _ zc _ _ _ HX.out.2.2) Tryz.underlying46 rfl (by rw [qu,HH.out.2.2.2.1];kernel_rfl)) rfl ?_
  have yd:=below_setRow (HH.out.2.1.chain H3.out.2.1) (show w.heap.size <= w.heap.size + 1 + 1 by omega) cs
  exact ⟨⟨cs,true,rfl,.inr ⟨rfl,x,HX.out.1,jh xf HB.out (Nat.le_refl _) yd HX.out.2.1⟩⟩,yd⟩
theorem qqH (NF : Nat) (hG : ∀ args w,(callFunc NF args).run Tryz.prog w = .ok (.enter NF args) w) (nm : Pr -> List UInt8) (hN0 : xm NF xP nm) (s : List UInt8) (l : List Pr) (A : Option Addr) (c n : Nat) (hn : n = l.length) (hm : n <= maxLen) (B0 : Nat) (w : World) (qz : B0 <= w.heap.size) (hA : qD xP 12 w B0 l A) :
 Calls Tryz.prog 196 #[.slice A n c,.string ⟨s.toArray⟩,.func (.func NF) #[] #[]] w (jr xP s (qG nm l s) B0 w):=by
 obtain ⟨T,N,zc,hT,hN,zd,hzz,hag,qK,yR⟩:=qaG
 have e1 : ∀ y : Operand,Op.load 46 y = Op.load T y:=fun y => by rw [hT]
 have e2 : ∀ y z : Operand,Op.store 46 y z = Op.store T y z:=fun y z => by rw [hT]
 have e3 : Op.alloc 46 = Op.alloc T:=by rw [hT]
 obtain ⟨W1,qh⟩ : ∃ W1,W1 = w.alloc (.cells zc T):=⟨_,rfl⟩
 have qk : Below w.heap.size w W1:=by rw [qh];exact qd w _
 have yK : W1.heap[w.heap.size]? = some (.cells zc T (0,0)):=by rw [qh];exact qe w _
 have HI:=hZ (qqD NF hG nm hN0 s l A c n hn hm B0 W1 (Nat.le_trans qz qk.size) (yB xf qz qk hA))
 have HH:=hZ (aZ hA (aZ qk (aZ yK (aZ hN (aZ zd (aZ hzz hn))))))
 have HB:=hZ qz
 clear qz
 clear hA hn hN0 hG hN zd qk yK hzz
 unfold maxLen at hm
 go_enter Tryz.func196,Tryz.ntmps196
 simp only [e1,e2,e3]
 clear e1 e2 e3 hT
 go_wp2_with fail
 rw [<- qh]
 clear qh
 refine HI.out.mono ?_
 rintro e w3 ⟨⟨cs,b,rfl,hr⟩,hb⟩
 have xg : zc.size = N:=HH.out.2.2.2.2.1
 have qu : cs.size = N:=by
  rcases hr with ⟨_,h,_⟩ | ⟨_,x,_,h⟩
  ·rw [h,<- HH.out.2.2.2.2.2.1];exact xg
  ·exact (qbA h).trans HH.out.2.2.2.1.symm
 have zz : cs.all (·.oneCell') = true:=by
  rcases hr with ⟨_,h,_⟩ | ⟨_,x,_,h⟩
  ·rw [h];rw [List.all_toArray];rfl
  ·exact qaA h
 have zv:=xF (w:=w3) (t:=T) (xg.trans qu.symm) zz
 have ye:=zI (qe w3 (.cells cs T)) qu
 have h6 : (w3.alloc (.cells cs T)).heap[w.heap.size]? = some (.cells zc T (0,0)):=qr (qg hb HH.out.2.2.1)
 have qm6:=zl h6 (xg.trans qu.symm) zz
 have H3:=hZ (aZ hr (aZ (HH.out.2.1.chain hb) h6))
 have HD:=hZ (qU b 7 s (w3.alloc (.cells cs T)))
 clear hr hb zz h6
 go_wp2_with fail
 refine HD.out.mono ?_
 rintro e w4 ⟨he,rfl⟩
 rcases H3.out.1 with ⟨rfl,_,ho⟩ | ⟨rfl,x,ho,hv⟩
 ·obtain rfl : e = _:=he
  exact ⟨rfl,.inr ⟨ho,rfl⟩,H3.out.2.1.chain (qd w3 _)⟩
 ·obtain rfl : e = _:=he
  have HV:=hZ (aZ ho hv)
  clear ho hv
  go_wp2
  refine bodyPost_ret (results_cell_row rfl _ _ w.heap.size T cs (0,0) _ rfl (setRow_heap _ _ zc _ _ _ H3.out.2.2) Tryz.underlying46 rfl (by rw [qu,HH.out.2.2.2.1];kernel_rfl)) rfl ?_
  have yd:=below_setRow (H3.out.2.1.chain (qd w3 (.cells cs T))) (Nat.le_refl w.heap.size) cs
  refine ⟨.inl ⟨cs,x,rfl,HV.out.1,xf _ _ _ _ _ _ (fun q hq => ?_) (Nat.le_refl _) HV.out.2⟩,yd⟩
  have yK:=Nat.lt_of_lt_of_le hq HB.out
  exact (yd.cell yK).trans (H3.out.2.1.cell yK).symm
theorem qqQ (NF : Nat) (hG : ∀ args w,(callFunc NF args).run Tryz.prog w = .ok (.enter NF args) w) (nm : Pr -> List UInt8) (hN0 : xm NF xP nm) (l : List Pr) (yL : ∀ x ∈ l,(nm x).length <= maxLen) (A : Option Addr) (c n : Nat) (hn : n = l.length) (hm : n <= maxLen) (B0 : Nat) (w : World) (qz : B0 <= w.heap.size) (hA : qD xP 12 w B0 l A) :
 Calls Tryz.prog 102 #[.slice A n c,.func (.func NF) #[] #[]] w (qV (zH [] (l.map nm)) w):=by
 obtain ⟨T,N,zc,hT,hN,zd,hzz,hag,qK,yR⟩:=qaG
 have e1 : ∀ y : Operand,Op.load 46 y = Op.load T y:=fun y => by rw [hT]
 have e2 : ∀ y z : Operand,Op.store 46 y z = Op.store T y z:=fun y z => by rw [hT]
 have e3 : Op.alloc 46 = Op.alloc T:=by rw [hT]
 have hmm:=@run_makeMap Tryz.prog
 have HO0:=hZ (World.ownsMap_made w Tryz.prog 9 (plainElem (H:=Unit) Tryz.prog 4))
 have zo:=hZ (qd w (.map #[] 0))
 have HZ : Hid (∀ w : World,(zeroValue 4).run Tryz.prog w = .ok (.bool false) w):=hZ (fun w => by kernel_rfl)
 have HH:=hZ (aZ hA (aZ hn (aZ hN0 (aZ hN (aZ zd (aZ qz (aZ yL hm)))))))
 clear hA hn hN0 hN zd qz hzz yL
 unfold maxLen at hm
 go_enter Tryz.func102,Tryz.ntmps102
 simp only [e1,e2,e3]
 clear e1 e2 e3 hT
 go_wp2
 go_loopg [11] n (fun m j wr => ∃ k : Nat,m = n - k /\ k <= n /\ j = .int .i64 k /\ Hid (zn wr w.heap.size k (kwD ((l.map nm).take k)) /\ Below w.heap.size w wr /\ zH [] ((l.map nm).take k) = none))
 case atStart => exact ⟨0,rfl,Nat.zero_le _,rfl,hZ ⟨HO0.out,zo.out,rfl⟩⟩
 case round =>
  obtain ⟨k,rfl,hk,rfl,HI⟩:=hrel
  have hk0 : (0 : Int) <= k:=by omega
  by_cases qB : k < n
  ·have jD : (k : Int) < n:=by omega
   obtain ⟨x,hx⟩ : ∃ x,l[k]? = some x:=⟨l[k]'(by rw [<- HH.out.2.1];exact qB),List.getElem?_eq_getElem _⟩
   obtain ⟨a,cs,rfl,qx,qn,qP,hv⟩:=HH.out.1 k x hx
   have qu : cs.size = N:=qn.trans HH.out.2.2.2.1.symm
   have xy : (loadCellsFrom (a.add (k * 12)) 0 N #[]).run Tryz.prog wr = .ok cs wr:=qZ (fun j v hv => (HI.out.2.1.cell (by rw [qm,qm];exact Nat.lt_of_lt_of_le qx HH.out.2.2.2.2.2.1)).trans (qP j v hv)) qu
   have zv:=xF (w:=wr) (t:=T) (HH.out.2.2.2.2.1.trans qu.symm) (qaA hv)
   have ye:=zI (qe wr (.cells cs T)) qu
   have qR:=HI.out.2.1.chain (qd wr (.cells cs T))
   have HC:=hZ (HH.out.2.2.1 x cs (wr.alloc (.cells cs T)) (jh xf HH.out.2.2.2.2.2.1 (Nat.le_trans HH.out.2.2.2.2.2.1 qR.size) qR hv))
   have hxn : (l.map nm)[k]? = some (nm x):=by rw [List.getElem?_map,hx];rfl
   obtain ⟨d1,d2⟩:=qae (l.map nm) [] k (nm x) hxn HI.out.2.2
   obtain ⟨r,hr⟩ : ∃ r,r = ((l.map nm).take k).contains (nm x):=⟨_,rfl⟩
   have vh:=hZ (Go.WideMaps.keyOf_string_mk Tryz.underlying9 (s:=⟨(nm x).toArray⟩) (HH.out.2.2.2.2.2.2.1 x (List.mem_of_getElem? hx)))
   have HAt : Hid ((kwD ((l.map nm).take k)).atKey (.string (nm x)) (.lit (.bool false)) = .lit (.bool r)):=hZ (by rw [hr];exact qdx _ _)
   have HX:=hZ (aZ d1 (aZ d2 (aZ hr (aZ qR (aZ hxn (Nat.lt_of_lt_of_le qB HH.out.2.2.2.2.2.2.2))))))
   obtain ⟨u,hu⟩ : ∃ u,u = nm x:=⟨_,rfl⟩
   rw [<- hu] at HC vh HAt HX
   clear hx qP qn hv qx d1 d2 hr hxn qR hu
   go_wp2_with fail
   refine HC.out.mono ?_
   rintro e w3 ⟨rfl,hb⟩
   have HO3:=hZ (qds (HI.out.1.alloc (.cells cs T)) hb)
   have H3:=hZ (HX.out.2.2.2.1.chain hb)
   clear hb
   go_wp2_with (refine ym _ rfl _ _ 183 rfl 9 4 (Keyed.of_law (Go.WideMaps.string_law Tryz.underlying9)) Tryz.underlying183 Tryz.underlying4 (HZ.out _) w.heap.size k _ rfl HO3.out _ _ rfl vh.out r HAt.out ?_)
   refine (qU (!r) 8 u w3).mono ?_
   rintro e w4 ⟨he,rfl⟩
   cases r
   ·obtain rfl : e = _:=he
    go_wp2_with (at_mapUpdate;refine wpList_mapUpdate_own _ rfl _ _ _ 183 rfl 9 4 (Keyed.of_law (Go.WideMaps.string_law Tryz.underlying9)) Tryz.underlying183 _ w.heap.size _ _ rfl HO3.out HX.out.2.2.2.2.2 _ _ _ rfl rfl vh.out _ _ (Go.plainElem_bool Tryz.underlying4 true) ?_;intro wk qA hgr;have jm:=hZ qA;have HG2:=hZ (H3.out.trans (jN hgr (Nat.le_refl _) H3.out.size));clear qA hgr)
    go_roundg (n - (k + 1))
    case measure => omega
    case rel =>
     have e1 : (l.map nm).take (k + 1) = (l.map nm).take k ++ [u]:=by rw [List.take_add_one,HX.out.2.2.2.2.1];rfl
     have jk : ¬ (u ∈ ([] : List (List UInt8)) \/ u ∈ (l.map nm).take k):=by
      have h:=HX.out.2.2.1
      rintro (h0 | h0)
      ·cases h0
      ·rw [List.contains_iff_mem.2 h0] at h
       cases h
     exact ⟨k + 1,rfl,by omega,by go_num,hZ ⟨by rw [e1,qch];exact jm.out,HG2.out,HX.out.2.1 jk⟩⟩
   ·obtain rfl : e = _:=he
    refine ⟨rfl,?_,H3.out⟩
    rw [HX.out.1 (.inr (List.contains_iff_mem.1 HX.out.2.2.1.symm))]
    rfl
  ·obtain rfl : k = n:=by omega
   go_wp2
   refine bodyPost_end (results_none rfl _ _ _) rfl ⟨?_,HI.out.2.1⟩
   have h:=HI.out.2.2
   rw [List.take_of_length_le (by rw [List.length_map,HH.out.2.1];exact Nat.le_refl _)] at h
   rw [h]
   rfl
end
end Go.Proofs.YtojjfdegkooknaaGreatDoor
