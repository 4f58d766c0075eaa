import Derived.Test.YtojjfdegkooknaaGreatDoorSTypCh
import Derived.Test.YtojjfdegkooknaaGreatDoorSTypGh
import Derived.Test.YtojjfdegkooknaaGreatDoorSTypSk
import Derived.Test.YtojjfdegkooknaaGreatDoorSTypPr
set_option linter.unusedVariables false
set_option linter.unusedSimpArgs false
namespace Go.Proofs.YtojjfdegkooknaaGreatDoor
section
set_option maxRecDepth 100000
set_option maxHeartbeats 8000000
open Go.RowKit Go.Lib
theorem qpR (p : Pg) (d : GAd) (B0 cb : Nat) (y : Df) (hok : ∀ f ∈ y.cs,qc0 p d B0 cb f) (zN : y.ps ≠ []) (hps : y.ps.length <= 1000000) : qrh p d B0 cb y:=by
 rintro cs w ⟨A,c,A2,c2,rfl,yS,hpm,hcm,rp,rc⟩ hC
 have qz : B0 <= w.heap.size:=Nat.le_trans hC.le (Nat.le_of_lt hC.lt)
 have zE : Tryz.prog.follows .mixedOrders = true:=by kernel_rfl
 obtain ⟨np,jS⟩ : ∃ z,z = y.ps.length:=⟨_,rfl⟩
 obtain ⟨nc,jk⟩ : ∃ z,z = y.cs.length:=⟨_,rfl⟩
 obtain ⟨nm,qhd⟩ : ∃ z,z = y.nm:=⟨_,rfl⟩
 rw [<- jS,<- jk,<- qhd]
 obtain ⟨x,xs,hx⟩ : ∃ x l,y.ps = x :: l:=by
  cases h : y.ps with
  | nil => exact absurd h zN
  | cons x l => exact ⟨x,l,rfl⟩
 obtain ⟨a,rfl,qx,g0,g1,-,-⟩:=rp.at_ (i:=0) (x:=x) (by rw [hx];rfl)
 have ea : a.add (0 * 2) = a:=by simp [Addr.add]
 rw [ea] at g0
 obtain ⟨W1,qh⟩ : ∃ W1,W1 = w.alloc (.cells #[.string ⟨nm.toArray⟩,.slice (some a) np c,.slice A2 nc c2] 64):=⟨_,rfl⟩
 have qk : Below w.heap.size w W1:=by rw [qh];exact qd w _
 have yc : W1.heap[w.heap.size]? = some (.cells #[.string ⟨nm.toArray⟩,.slice (some a) np c,.slice A2 nc c2] 64 (0,0)):=by rw [qh];exact qe w _
 obtain ⟨t,ht⟩ : ∃ t,t = x.t:=⟨_,rfl⟩
 rw [<- ht] at g0
 have HK : Hid (∀ W,Below W1.heap.size W1 W -> W.cell? ⟨w.heap.size,0,none⟩ = some (.string ⟨nm.toArray⟩) /\ W.cell? ⟨w.heap.size,1,none⟩ = some (.slice (some a) np c) /\ W.cell? ⟨w.heap.size,2,none⟩ = some (.slice A2 nc c2) /\ W.cell? a = some (.string ⟨t.toArray⟩)):=hZ (fun W hb => by
  have q:=qg hb yc
  exact ⟨qc q 0 rfl,qc q 1 rfl,qc q 2 rfl,((qk.chain hb).cell (Nat.lt_of_lt_of_le qx qz)).trans g0⟩)
 have HR : Hid (∀ W,Below W1.heap.size W1 W -> qD zp 2 W B0 y.ps (some a)):=hZ (fun W hb => yB qT qz (qk.chain hb) (zm rp))
 have HP:=hZ (qcr p d B0 cb y.ps (some a) c np jS (by unfold maxLen;omega) B0 W1 (Nat.le_trans qz qk.size) (HR.out W1 (Below.refl _ _)) (hC.on qk))
 have HF : Hid (∀ W,Below W1.heap.size W1 W -> Calls Tryz.prog 74 #[.pointer (some ⟨cb,0,none⟩),.slice (some a) np c,.slice A2 nc c2] W (qV (xH p y.ps y.cs) W)):=hZ (fun W hb => by
  have yA:=qk.chain hb
  exact qaL p d B0 cb y.cs hok y.ps (some a) np c B0 A2 nc c2 jk (by rw [jk];exact hcm) W jS (by omega) (Nat.le_trans qz yA.size) (HR.out W hb) (hC.on yA) (rc.keep yk (fun z hz => yA.cell (Nat.lt_of_lt_of_le hz qz)) (Nat.le_refl _)))
 obtain ⟨r1,yO⟩ : ∃ r : Ck,r = yU p.rs y.ps:=⟨_,rfl⟩
 obtain ⟨r3,hr3⟩ : ∃ r : Ck,r = xH p y.ps y.cs:=⟨_,rfl⟩
 obtain ⟨u,hu⟩ : ∃ u,u = (t == jy):=⟨_,rfl⟩
 have hD : dfC p y = zw r1 (zw (zQ (!u) 9 nm) r3):=by
  unfold dfC
  rw [<- yO,<- hr3,hx]
  show zw r1 (zw (zQ (!(x.t == jy)) 9 y.nm) r3) = _
  rw [hu,ht,qhd]
 rw [hD]
 rw [<- yO] at HP
 rw [<- hr3] at HF
 have hu1 : (t == [105,110,116]) = u:=hu.symm
 have hu2 : (t != [105,110,116]) = !u:=by rw [bne,hu1]
 have qw:=hZ qk
 have hn0 : ¬ np = 0:=by rw [jS,hx];simp
 obtain ⟨S,hS⟩ : ∃ S : World -> Prop,S = fun W => Below W1.heap.size W1 W:=⟨_,rfl⟩
 have qo : Hid (∀ W,Below W1.heap.size W1 W -> S W):=hZ (fun W hb => by rw [hS];exact hb)
 have HSB : Hid (∀ W,S W -> Below W1.heap.size W1 W):=hZ (fun W hs => by rw [hS] at hs;exact hs)
 obtain ⟨k0,k1,k2,-⟩:=HK.out _ (Below.refl _ _)
 clear hok zN hps yS hpm hcm rp rc hC qz jS jk qhd hx qx g0 g1 ea qk yc ht yO hr3 hu hD hS
 rw [qh] at k0 k1 k2
 go_enter Tryz.func75,Tryz.ntmps75
 go_wp2_with fail
 rw [<- qh]
 clear qh k0 k1 k2
 (with_reducible refine HP.out.mono ?_)
 rintro e w2 ⟨he,hb⟩
 have H2:=hZ hb
 clear hb
 cases r1 with
 | some q =>
   obtain rfl : e = _:=he
   exact ⟨rfl,rfl,qw.out.chain H2.out⟩
 | none =>
 obtain rfl : e = _:=he
 have X0:=hZ H2.out.drew
 have g0:=qo.out _ X0.out
 go_upto_region 2 with fail
 refine wp_region_held (S:=S) zE ?_
 change wpAnyH _ _ _ _ _ 9 #[false,false,false,false,false,false,false,false,false] _ w2.drew
 refine tk 0 8 (.pointer (some ⟨w.heap.size,1,none⟩)) g0 ?v ?_
 case v => intro Wx hSx;go_simp
 refine tk 1 9 (.slice (some a) np c) g0 ?v ?_
 case v => intro Wx hSx;obtain ⟨k0,k1,k2,k3⟩:=HK.out Wx (HSB.out Wx hSx);go_simp
 refine tk 2 10 (.pointer (some a)) g0 ?v ?_
 case v => intro Wx hSx;go_simp
 refine tk 3 11 (.pointer (some a)) g0 ?v ?_
 case v => intro Wx hSx;go_simp
 try simp only [qf]
 refine tk 4 12 (.string ⟨t.toArray⟩) g0 ?v ?_
 case v => intro Wx hSx;obtain ⟨k0,k1,k2,k3⟩:=HK.out Wx (HSB.out Wx hSx);go_simp
 refine tk 5 13 (.bool (!u)) g0 ?v ?_
 case v => intro Wx hSx;go_simp
 refine tk 6 14 (.pointer (some ⟨w.heap.size,0,none⟩)) g0 ?v ?_
 case v => intro Wx hSx;go_simp
 refine tk 7 15 (.string ⟨nm.toArray⟩) g0 ?v ?_
 case v => intro Wx hSx;obtain ⟨k0,k1,k2,k3⟩:=HK.out Wx (HSB.out Wx hSx);go_simp
 try simp only [qf]
 clear hu1 hu2
 refine o1 8 (fun K hK => ?_)
 go_simp
 (with_reducible refine (qU (!u) 9 nm _).mono ?_)
 rintro e w5 ⟨he,hw⟩
 subst hw
 cases u
 rotate_left
 ·obtain rfl : e = _:=he
  exact ⟨rfl,rfl,qw.out.chain X0.out⟩
 obtain rfl : e = _:=he
 refine hK _ _ (qo.out _ X0.out) ?_
 clear hK K
 refine wpAnyH_done (by kernel_rfl) ?_ _
 obtain ⟨k0,k1,k2,-⟩:=HK.out _ X0.out
 go_wp2_with fail
 clear k0 k1 k2
 (with_reducible refine (HF.out _ X0.out).mono ?_)
 rintro e w6 ⟨he,hb⟩
 have H6:=hZ (qw.out.chain (X0.out.chain hb))
 clear hb
 cases r3 with
 | some q =>
   obtain rfl : e = _:=he
   exact ⟨rfl,rfl,H6.out⟩
 | none =>
   obtain rfl : e = _:=he
   go_wp2
   exact bodyPost_end (results_none rfl _ _ _) rfl ⟨rfl,H6.out⟩
theorem qmA (p : Pg) (d : GAd) (B0 cb : Nat) (y : Lm) (hkl : qc0 p d B0 cb y.lf) (hkr : qc0 p d B0 cb y.rt) (hps : y.ps.length <= 1000000) : qrc p d B0 cb y:=by
 rintro cs w ⟨A,c,dl,dr,qn,yS,hpm,rp,vW,hfr⟩ hC
 have qz : B0 <= w.heap.size:=Nat.le_trans hC.le (Nat.le_of_lt hC.lt)
 obtain ⟨Lp,La,Lc,lp,la,lc⟩:=dl
 obtain ⟨Rp,Ra,Rc,rp',ra,rc⟩:=dr
 obtain ⟨np,jS⟩ : ∃ z,z = y.ps.length:=⟨_,rfl⟩
 obtain ⟨nm,qhd⟩ : ∃ z,z = y.nm:=⟨_,rfl⟩
 obtain ⟨n0,h0⟩ : ∃ z,z = y.lf.ps.length:=⟨_,rfl⟩
 obtain ⟨n1,h1⟩ : ∃ z,z = y.lf.ats.length:=⟨_,rfl⟩
 obtain ⟨n2,h2⟩ : ∃ z,z = y.lf.cls.length:=⟨_,rfl⟩
 obtain ⟨n3,h3⟩ : ∃ z,z = y.rt.ps.length:=⟨_,rfl⟩
 obtain ⟨n4,h4⟩ : ∃ z,z = y.rt.ats.length:=⟨_,rfl⟩
 obtain ⟨n5,h5⟩ : ∃ z,z = y.rt.cls.length:=⟨_,rfl⟩
 have qku : cs = #[.string ⟨nm.toArray⟩,.slice A np c,.slice Lp n0 lp,.slice La n1 la,.slice Lc n2 lc,.slice Rp n3 rp',.slice Ra n4 ra,.slice Rc n5 rc]:=by rw [qn,jS,qhd,h0,h1,h2,h3,h4,h5];rfl
 clear qn
 subst qku
 obtain ⟨W1,qh⟩ : ∃ W1,W1 = w.alloc (.cells #[.string ⟨nm.toArray⟩,.slice A np c,.slice Lp n0 lp,.slice La n1 la,.slice Lc n2 lc,.slice Rp n3 rp',.slice Ra n4 ra,.slice Rc n5 rc] 71):=⟨_,rfl⟩
 have qk : Below w.heap.size w W1:=by rw [qh];exact qd w _
 have yc : W1.heap[w.heap.size]? = some (.cells #[.string ⟨nm.toArray⟩,.slice A np c,.slice Lp n0 lp,.slice La n1 la,.slice Lc n2 lc,.slice Rp n3 rp',.slice Ra n4 ra,.slice Rc n5 rc] 71 (0,0)):=by rw [qh];exact qe w _
 have HK : Hid (∀ W,Below W1.heap.size W1 W -> W.cell? ⟨w.heap.size,0,none⟩ = some (.string ⟨nm.toArray⟩) /\ W.cell? ⟨w.heap.size,1,none⟩ = some (.slice A np c) /\ (W.cell? ⟨w.heap.size,2,none⟩ = some (.slice Lp n0 lp) /\ W.cell? ⟨w.heap.size,3,none⟩ = some (.slice La n1 la) /\ W.cell? ⟨w.heap.size,4,none⟩ = some (.slice Lc n2 lc)) /\ W.cell? ⟨w.heap.size,5,none⟩ = some (.slice Rp n3 rp') /\ W.cell? ⟨w.heap.size,6,none⟩ = some (.slice Ra n4 ra) /\ W.cell? ⟨w.heap.size,7,none⟩ = some (.slice Rc n5 rc)):=hZ (fun W hb => by
  have q:=qg hb yc
  exact ⟨qc q 0 rfl,qc q 1 rfl,⟨qc q 2 rfl,qc q 3 rfl,qc q 4 rfl⟩,qc q 5 rfl,qc q 6 rfl,qc q 7 rfl⟩)
 have hR : ∀ W,Below W1.heap.size W1 W -> qD zp 2 W B0 y.ps A:=fun W hb => yB qT qz (qk.chain hb) (zm rp)
 have HP:=hZ (qcr p d B0 cb y.ps A c np jS (by unfold maxLen;omega) B0 W1 (Nat.le_trans qz qk.size) (hR W1 (Below.refl _ _)) (hC.on qk))
 have HL : Hid (∀ W,Below W1.heap.size W1 W -> Calls Tryz.prog 56 #[.pointer (some ⟨cb,0,none⟩),.slice A np c,vv (.slice Lp n0 lp) (.slice La n1 la) (.slice Lc n2 lc)] W (qV (fmC p y.ps y.lf) W)):=hZ (fun W hb => by
  have yA:=qk.chain hb
  have h:=hkl y.ps A np c B0 ⟨Lp,La,Lc,lp,la,lc⟩ W jS (by omega) (Nat.le_trans qz yA.size) (hR W hb) (hC.on yA) (vW.keep (fun z hz => yA.cell (Nat.lt_of_lt_of_le hz qz)) (Nat.le_refl _))
  dsimp only at h
  rwa [<- h0,<- h1,<- h2] at h)
 have HRr : Hid (∀ W,Below W1.heap.size W1 W -> Calls Tryz.prog 56 #[.pointer (some ⟨cb,0,none⟩),.slice A np c,vv (.slice Rp n3 rp') (.slice Ra n4 ra) (.slice Rc n5 rc)] W (qV (fmC p y.ps y.rt) W)):=hZ (fun W hb => by
  have yA:=qk.chain hb
  have h:=hkr y.ps A np c B0 ⟨Rp,Ra,Rc,rp',ra,rc⟩ W jS (by omega) (Nat.le_trans qz yA.size) (hR W hb) (hC.on yA) (hfr.keep (fun z hz => yA.cell (Nat.lt_of_lt_of_le hz qz)) (Nat.le_refl _))
  dsimp only at h
  rwa [<- h3,<- h4,<- h5] at h)
 obtain ⟨r1,yO⟩ : ∃ r : Ck,r = yU p.rs y.ps:=⟨_,rfl⟩
 obtain ⟨r3,hr3⟩ : ∃ r : Ck,r = fmC p y.ps y.lf:=⟨_,rfl⟩
 obtain ⟨r4,hr4⟩ : ∃ r : Ck,r = fmC p y.ps y.rt:=⟨_,rfl⟩
 obtain ⟨u,hu⟩ : ∃ u,u = (n0 == 0):=⟨_,rfl⟩
 have hD : lmC p y = zw r1 (zw (zQ u 3 nm) (zw r3 r4)):=by
  unfold lmC
  rw [yO,hr3,hr4,hu,h0,qhd]
 rw [hD]
 rw [<- yO] at HP
 rw [<- hr3] at HL
 rw [<- hr4] at HRr
 have qw:=hZ qk
 have HU:=hZ hu
 obtain ⟨k0,k1,-⟩:=HK.out _ (Below.refl _ _)
 clear hkl hkr hps yS hpm rp vW hfr hC qz jS qhd h0 h1 h2 h3 h4 h5 qk yc hR yO hr3 hr4 hD hu
 rw [qh] at k0 k1
 go_enter Tryz.func76,Tryz.ntmps76
 go_wp2_with fail
 rw [<- qh]
 clear qh k0 k1
 (with_reducible refine HP.out.mono ?_)
 rintro e w2 ⟨he,hb⟩
 have H2:=hZ hb
 clear hb
 cases r1 with
 | some q =>
   obtain rfl : e = _:=he
   exact ⟨rfl,rfl,qw.out.chain H2.out⟩
 | none =>
 obtain rfl : e = _:=he
 obtain ⟨k0,k1,⟨k2,k3,k4⟩,-⟩:=HK.out _ H2.out
 cases u
 ·have hz : ¬ n0 = 0:=fun h => by have := HU.out;rw [h] at this;cases this
  have hz1 : ¬ (n0 : Int) = 0:=by omega
  have hz2 : ((n0 : Int) == 0) = false:=beq_eq_false_iff_ne.2 hz1
  go_wp2_with fail
  (with_reducible refine (qU false 3 nm w2).mono ?_)
  rintro e w5 ⟨he,hw⟩
  subst hw
  obtain rfl : e = _:=he
  exact ⟨rfl,rfl,qw.out.chain H2.out⟩
 ·obtain rfl : n0 = 0:=by have := HU.out;simpa using this.symm
  go_wp2_with fail
  (with_reducible refine (qU true 3 nm w2).mono ?_)
  rintro e w5 ⟨he,hw⟩
  subst hw
  obtain rfl : e = _:=he
  go_wp2_with fail
  clear k0 k1 k2 k3 k4
  (with_reducible refine (HL.out _ H2.out).mono ?_)
  rintro e w6 ⟨he,hb⟩
  have H6:=hZ (H2.out.chain hb)
  clear hb
  cases r3 with
  | some q =>
    obtain rfl : e = _:=he
    exact ⟨rfl,rfl,qw.out.chain H6.out⟩
  | none =>
  obtain rfl : e = _:=he
  obtain ⟨k0,k1,-,k5,k6,k7⟩:=HK.out _ H6.out
  go_wp2_with fail
  clear k0 k1 k5 k6 k7
  (with_reducible refine (HRr.out _ H6.out).mono ?_)
  rintro e w7 ⟨he,hb⟩
  have H7:=hZ (qw.out.chain (H6.out.chain hb))
  clear hb
  cases r4 with
  | some q =>
    obtain rfl : e = _:=he
    exact ⟨rfl,rfl,H7.out⟩
  | none =>
    obtain rfl : e = _:=he
    go_wp2
    exact bodyPost_end (results_none rfl _ _ _) rfl ⟨rfl,H7.out⟩
end
section
open Go.RowKit
theorem quc {var : List UInt8 -> Bool} {nu ex : Int} (hex : ex <= 1000000) {f : Fm} (h : vF var nu ex f = true) : qjO f:=by
 obtain ⟨⟨h1,h2,h3⟩,h4,h5⟩:=qtd h
 refine ⟨by omega,by omega,by omega,fun x hx => ?_,fun x hx => ?_⟩
 ·obtain ⟨q1,q2,q3⟩:=qsh (h5 x hx)
  exact ⟨q1,by omega,fun e he => Nat.le_trans (qfF (q3 e he)) (by omega)⟩
 ·obtain ⟨q1,q2⟩:=h4 x hx
  exact ⟨Nat.le_trans (qfF q1) (by omega),Nat.le_trans (qfF q2) (by omega)⟩
theorem qes {l : List Pm} (h : vPs l = true) : l.length <= 8:=by
 unfold vPs at h
 simp only [Bool.and_eq_true_iff] at h
 have h1:=of_decide_eq_true h.1.2
 omega
theorem qgl {l : List Fm} (h : vDj l = true) : ∀ f ∈ l,vF zu 1048576 8 f = true:=by
 unfold vDj at h
 simp only [Bool.and_eq_true_iff] at h
 exact List.all_eq_true.1 h.2
theorem qbl {p : Pg} (h : xT p = true) : (∀ x ∈ p.rs,vRc x = true) /\ p.gs.length <= 100 /\ (∀ x ∈ p.ks,vLk x = true) /\ (∀ x ∈ p.ds,vDf x = true) /\ (∀ x ∈ p.ms,vLm x = true) /\ ∀ x ∈ p.xs,vPr x = true:=by
 unfold xT at h
 simp only [Bool.and_eq_true_iff] at h
 obtain ⟨⟨⟨⟨⟨⟨_,h1⟩,⟨⟨_,h2⟩,_⟩⟩,⟨_,h3⟩⟩,⟨_,h4⟩⟩,⟨_,h5⟩⟩,⟨_,h6⟩⟩:=h
 have h2:=of_decide_eq_true h2
 exact ⟨List.all_eq_true.1 h1,by omega,List.all_eq_true.1 h3,List.all_eq_true.1 h4,List.all_eq_true.1 h5,List.all_eq_true.1 h6⟩
theorem qdF {p : Pg} (h : xT p = true) : qiq p:=fun r hr => by
 have h1:=(qbl h).1 r hr
 unfold vRc at h1
 simp only [Bool.and_eq_true_iff] at h1
 have := qes h1.2
 omega
theorem qe9 {p : Pg} (d : GAd) (B0 cb : Nat) (hfs : qiq p) {f : Fm} (h : vF zu 1048576 8 f = true) : qc0 p d B0 cb f :=
 qsk p d B0 cb hfs f (quc (by decide) h)
/-! ### statements -/
theorem qvf : yJ (zY.getD (7 : Int).toNat 0) 128 1 + yJ (zY.getD (7 : Int).toNat 0) 256 1 = 1:=by kernel_rfl
theorem qtp : yJ (zY.getD (12 : Int).toNat 0) 128 1 + yJ (zY.getD (12 : Int).toNat 0) 256 1 = 2:=by kernel_rfl
theorem qub {p : Pg} (d : GAd) (B0 cb : Nat) (hfs : qiq p) (sub : List St -> Bool) (s : St) (h : vSt zu 1048576 8 sub s = true) : qrO p d B0 cb s:=by
 obtain ⟨k,ln,co,nm,fd,fr,e,c,cl,iv,b,o⟩:=s
 unfold vSt at h
 dsimp only at h
 by_cases hk : 1 <= k /\ k <= 12
 ·rw [if_pos hk] at h
  simp only [Bool.and_eq_true_iff] at h
  obtain ⟨⟨⟨⟨_,⟨⟨h3,_⟩,_⟩⟩,⟨_,h8⟩⟩,_⟩,_⟩:=h
  have h3:=of_decide_eq_true h3
  refine ⟨fun e => ?_,fun e => ?_,fun _ f hf => qe9 d B0 cb hfs (List.all_eq_true.1 h8 f hf)⟩
  ·rw [e,qvf] at h3
   rintro rfl
   simp at h3
  ·rw [e,qtp] at h3
   omega
 ·rw [if_neg hk] at h
  cases h
def qnE (s : St) : Prop:=∃ n,vSt zu 1048576 8 (vx zu 1048576 8 n) s = true
theorem qjR {n : Nat} {l : List St} (h : vx zu 1048576 8 n l = true) : ∀ t ∈ l,qnE t:=fun t ht => by
 cases n with
 | zero =>
   unfold vx at h
   rw [List.isEmpty_iff.1 h] at ht
   cases ht
 | succ n =>
   unfold vx at h
   rcases Bool.or_eq_true_iff.1 h with h1 | h1
   ·rw [List.isEmpty_iff.1 h1] at ht
    cases ht
   ·simp only [Bool.and_eq_true_iff] at h1
    exact ⟨n,List.all_eq_true.1 h1.2 t ht⟩
theorem qj2 {n : Nat} {l : List St} {c : Prop} [Decidable c] (h : (if c then vx zu 1048576 8 n l else l.isEmpty) = true) : ∀ t ∈ l,qnE t:=by
 split at h
 ·exact qjR h
 ·intro t ht
  rw [List.isEmpty_iff.1 h] at ht
  cases ht
theorem qoL : qk9 qnE:=by
 rintro ⟨k,ln,co,nm,fd,fr,e,c,cl,iv,b,o⟩ ⟨n,h⟩
 unfold vSt at h
 dsimp only at h
 by_cases hk : 1 <= k /\ k <= 12
 ·rw [if_pos hk] at h
  simp only [Bool.and_eq_true_iff] at h
  obtain ⟨⟨_,hb⟩,ho⟩:=h
  simp only [St.body,St.els]
  exact ⟨qj2 hb,qj2 ho⟩
 ·rw [if_neg hk] at h
  cases h
/-! ### the items -/
theorem qsA {p : Pg} (d : GAd) (B0 cb : Nat) (hv : xT p = true) {x : Pr} (hx : x ∈ p.xs) : qrb p d B0 cb x:=by
 have hfs:=qdF hv
 have hg:=(qbl hv).2.1
 have h:=(qbl hv).2.2.2.2.2 x hx
 unfold vPr at h
 simp only [Bool.and_eq_true_iff] at h
 obtain ⟨⟨⟨⟨⟨⟨_,_⟩,hps⟩,_⟩,hct⟩,⟨⟨_,hlo⟩,_⟩⟩,hbd⟩:=h
 have hps:=qes hps
 have hlo:=of_decide_eq_true hlo
 have hc : x.lg.length <= 8 /\ (∀ f ∈ x.rq,vF zu 1048576 8 f = true) /\ ∀ f ∈ x.es,vF zu 1048576 8 f = true:=by
  unfold vCt at hct
  split at hct
  ·simp only [Bool.and_eq_true_iff] at hct
   exact ⟨qes hct.1.1,qgl hct.1.2,qgl hct.2⟩
  ·simp only [Bool.and_eq_true_iff] at hct
   have q1:=of_decide_eq_true hct.1.1
   have q2:=of_decide_eq_true hct.1.2
   have q3:=of_decide_eq_true hct.2
   have e2 : x.rq = []:=List.length_eq_zero_iff.1 (by omega)
   have e3 : x.es = []:=List.length_eq_zero_iff.1 (by omega)
   rw [e2,e3]
   exact ⟨by omega,(fun f hf => by cases hf),(fun f hf => by cases hf)⟩
 have hr : (yb x).length <= 1:=by
  unfold yb
  split <;> simp
 have hsc : (yE p.gs x).length <= 3999999000000:=by
  unfold yE
  simp only [List.length_append]
  omega
 intro cs w q hvx hC
 exact qiT p d B0 cb x (fun f hf => qe9 d B0 cb hfs (hc.2.1 f hf)) (fun f hf => qe9 d B0 cb hfs (hc.2.2 f hf)) qnE qoL (qjR hbd)
  (fun B1 b s hs => by
    obtain ⟨n,hn⟩:=hs
    exact qnO p d B0 B1 cb (yE p.gs x) x.lg (zk x) b hsc s (qub d B0 cb hfs _ s hn)) (by omega) cs w q hvx hC
theorem qdI {p : Pg} (d : GAd) (B0 cb : Nat) (hv : xT p = true) : AllOk p d B0 cb where
 gs _:=by have := (qbl hv).2.1;omega
 fm _ k hk f hf:=by
  have h:=(qbl hv).2.2.1 k hk
  unfold vLk at h
  exact qe9 d B0 cb (qdF hv) (qgl (Bool.and_eq_true_iff.1 h).2 f hf)
 df _ y hy:=by
  have h:=(qbl hv).2.2.2.1 y hy
  unfold vDf at h
  simp only [Bool.and_eq_true_iff] at h
  obtain ⟨⟨⟨_,h1⟩,h2⟩,h3⟩:=h
  have h1:=of_decide_eq_true h1
  have h2:=qes h2
  exact qpR p d B0 cb y (fun f hf => qe9 d B0 cb (qdF hv) (qgl h3 f hf)) (fun e => by rw [e] at h1;simp at h1) (by omega)
 lm _ y hy:=by
  have h:=(qbl hv).2.2.2.2.1 y hy
  unfold vLm at h
  simp only [Bool.and_eq_true_iff] at h
  obtain ⟨⟨⟨_,h1⟩,h2⟩,h3⟩:=h
  have h1:=qes h1
  exact qmA p d B0 cb y (qe9 d B0 cb (qdF hv) h2) (qe9 d B0 cb (qdF hv) h3) (by omega)
 pr _ y hy:=qsA d B0 cb hv hy
theorem qjt (p : Pg) (d : GAd) (B0 cb : Nat) : AllOk p d B0 cb where
 gs hv:=(qdI d B0 cb hv).gs hv
 fm hv:=(qdI d B0 cb hv).fm hv
 df hv:=(qdI d B0 cb hv).df hv
 lm hv:=(qdI d B0 cb hv).lm hv
 pr hv:=(qdI d B0 cb hv).pr hv
theorem qps (p : Pg) (d : GAd) (w : World) (hp : yY w) (own : xK w w.heap.size d p) :
 Calls Tryz.prog 29 #[.agg #[.slice d.r p.rs.length d.nr,.slice d.g p.gs.length d.ng,.slice d.k p.ks.length d.nk,.slice d.d p.ds.length d.nd,.slice d.m p.ms.length d.nm,.slice d.x p.xs.length d.nx]] w (qaS (qaf p) w) :=
 qeg p d w hp own (qjt p d _ _)
theorem qbx (p : Pg) (d : GAd) (w : World) (hp : yY w) (own : xK w w.heap.size d p) :
 Calls Tryz.prog 18 #[.agg #[.slice d.r p.rs.length d.nr,.slice d.g p.gs.length d.ng,.slice d.k p.ks.length d.nk,.slice d.d p.ds.length d.nd,.slice d.m p.ms.length d.nm,.slice d.x p.xs.length d.nx]] w fun e w' => e = .returned (.bool (qaj p)) /\ Below w.heap.size w w' :=
 qju p d w hp own (qjt p d _ _)
end
section
open Go.RowKit
theorem qgm {a b : Ck} : zw a b = none ↔ a = none /\ b = none :=
 ⟨qg4,fun ⟨h1,h2⟩ => by rw [h1,h2];rfl⟩
theorem qgB {α : Type} {f : α -> Ck} : ∀ {l : List α},zJ f l = none ↔ ∀ x ∈ l,f x = none
 | [] => ⟨fun _ x hx => (by cases hx),fun _ => rfl⟩
 | y :: l => by
   show zw (f y) (zJ f l) = none ↔ _
   rw [qgm,qgB (l:=l),List.forall_mem_cons]
theorem qdp {a : PCk} {f : Int × Int -> PCk} : (vm a f).1 = none ↔ a.1 = none /\ (f a.2).1 = none:=by
 obtain ⟨c,q⟩:=a
 cases c with
 | none => exact ⟨fun h => ⟨rfl,h⟩,fun h => h.2⟩
 | some t => exact ⟨fun h => (by cases h),fun h => (by cases h.1)⟩
theorem qkI : ∀ {l seen : List (List UInt8)},zH seen l = none ↔ l.Nodup /\ ∀ n ∈ l,n ∉ seen
 | [],seen => ⟨fun _ => ⟨List.nodup_nil,fun n hn => (by cases hn)⟩,fun _ => rfl⟩
 | m :: l,seen => by
   show (if seen.contains m then some (m,8) else zH (m :: seen) l) = none ↔ _
   rw [List.nodup_cons,List.forall_mem_cons]
   by_cases h : m ∈ seen
   ·rw [if_pos (List.contains_iff_mem.2 h)]
    exact ⟨fun h => (by cases h),fun h2 => absurd h h2.2.1⟩
   ·rw [if_neg (fun h2 => h (List.contains_iff_mem.1 h2)),qkI (l:=l)]
    constructor
    ·rintro ⟨h1,h2⟩
     exact ⟨⟨fun h3 => h2 m h3 (List.mem_cons_self ..),h1⟩,h,fun n hn h3 => h2 n hn (List.mem_cons_of_mem _ h3)⟩
    ·rintro ⟨⟨h1,h2⟩,_,h3⟩
     refine ⟨h2,fun n hn h4 => ?_⟩
     rcases List.mem_cons.1 h4 with rfl | h5
     ·exact h1 hn
     ·exact h3 n hn h5
theorem qaD {l : List (List UInt8)} : zH [] l = none ↔ l.Nodup:=by
 rw [qkI]
 exact ⟨fun h => h.1,fun h => ⟨h,fun n _ h2 => (by cases h2)⟩⟩
theorem qlF {p : Pg} : ∀ {l : List Pr} {q : Int × Int},(vK p q l).1 = none ↔ ∀ x ∈ l,(prC p x).1 = none
 | [],_ => ⟨fun _ x hx => (by cases hx),fun _ => rfl⟩
 | y :: l,q => by
   show (vm (prC p y) fun q => vK p q l).1 = none ↔ _
   rw [qdp,qlF (l:=l),List.forall_mem_cons]
theorem qlC {p : Pg} {sc br asn : List Pm} : ∀ {l : List St} {q : Int × Int},(yg p sc br asn q l).1 = none ↔ ∀ s ∈ l,(stP p sc br asn s).1 = none
 | [],q => ⟨fun _ x hx => (by cases hx),fun _ => by rw [yg]⟩
 | y :: l,q => by
   rw [yg,qdp,qlC (l:=l),List.forall_mem_cons]
theorem qsj {c : Ck} (h : ∀ t,c = some t -> t.2 ≠ 0) : (qc6 c).2 = 0 ↔ c = none:=by
 cases c with
 | none => exact ⟨fun _ => rfl,fun _ => rfl⟩
 | some t => exact ⟨fun h2 => absurd h2 (h t rfl),fun h => (by cases h)⟩
/-! ### what is found where names are different -/
theorem qqF {α : Type} {nm : α -> List UInt8} {l : List α} (hn : (l.map nm).Nodup) {x : α} (hx : x ∈ l) : qG nm l (nm x) = some x:=by
 induction l with
 | nil => cases hx
 | cons y l ih =>
   rw [List.map_cons,List.nodup_cons] at hn
   show (y :: l).find? _ = _
   rw [List.find?_cons]
   rcases List.mem_cons.1 hx with rfl | h
   ·rw [beq_self_eq_true]
   ·have zN : nm y ≠ nm x:=fun e => hn.1 (by rw [e];exact List.mem_map_of_mem h)
    rw [beq_eq_false_iff_ne.2 zN]
    exact ih hn.2 h
theorem qcM {α : Type} {nm : α -> List UInt8} {l m : List α} (hn : (l.map nm).Nodup) (hm : (m.map nm).Nodup) (he : ∀ x,x ∈ l ↔ x ∈ m) (s : List UInt8) : qG nm l s = qG nm m s:=by
 cases h : qG nm m s with
 | some x =>
   have h1:=List.mem_of_find?_eq_some h
   have h2 : nm x = s:=beq_iff_eq.1 (List.find?_some (p:=fun x => nm x == s) h)
   rw [<- h2]
   exact qqF hn ((he x).2 h1)
 | none =>
   refine List.find?_eq_none.2 fun x hx => ?_
   exact List.find?_eq_none.1 h x ((he x).1 hx)
end
section
open Go.RowKit
def EqS (sc sc' : List Pm) : Prop:=∀ n,qG (·.nm) sc n = qG (·.nm) sc' n
theorem EqS.add {sc sc' : List Pm} (h : EqS sc sc') (l : List Pm) : EqS (sc ++ l) (sc' ++ l):=fun n => by
 rw [qgR,qgR,h n]
theorem qkj {sc sc' : List Pm} (h : EqS sc sc') (br : List Pm) (s : List UInt8) : vG sc br s = vG sc' br s:=by
 unfold vG
 rw [h s]
mutual
theorem qga {sc sc' : List Pm} (h : EqS sc sc') (br : List Pm) : ∀ e : Ex,yZ sc br e = yZ sc' br e
 | .mk k n s l => by rw [yZ,yZ,qkj h,qkH h br l]
theorem qkH {sc sc' : List Pm} (h : EqS sc sc') (br : List Pm) : ∀ l : List Ex,jM sc br l = jM sc' br l
 | [] => by rw [jM,jM]
 | x :: l => by rw [jM,jM,qga h br x,qkH h br l]
end
theorem qmk {sc sc' : List Pm} (h : EqS sc sc') (br : List Pm) (k : Int) (a b : Ex) : qcn sc br k a b = qcn sc' br k a b:=by
 unfold qcn
 rw [qga h br a,qga h br b]
mutual
theorem qoT {sc sc' : List Pm} (h : EqS sc sc') (br : List Pm) : ∀ c : Cn,vY sc br c = vY sc' br c
 | .mk k a b l => by rw [vY,vY,qmk h,qkL h br l]
theorem qkL {sc sc' : List Pm} (h : EqS sc sc') (br : List Pm) : ∀ l : List Cn,qbP sc br l = qbP sc' br l
 | [] => by rw [qbP,qbP]
 | x :: l => by rw [qbP,qbP,qoT h br x,qkL h br l]
end
theorem qkS {sc sc' : List Pm} (h : EqS sc sc') (br : List Pm) (nm : List UInt8) (l : List Ex) (ps : List Pm) : jp sc br nm l ps = jp sc' br nm l ps:=by
 have e : qcZ sc br nm = qcZ sc' br nm:=by
  funext x
  unfold qcZ
  rw [qga h br x.1]
 unfold jp
 rw [e]
structure EqP (p p' : Pg) : Prop where
 rs : ∀ n,qG (·.nm) p.rs n = qG (·.nm) p'.rs n
 ks : ∀ n,(qG (·.nm) p.ks n).isSome = (qG (·.nm) p'.ks n).isSome
 ds : ∀ n,qG (·.nm) p.ds n = qG (·.nm) p'.ds n
 xs : ∀ n,(qG (·.nm) p.xs n).map (fun x => (x.ps,x.rt)) = (qG (·.nm) p'.xs n).map (fun x => (x.ps,x.rt))
theorem qns {p p' : Pg} (h : EqP p p') (x : Cl) : jG p x = jG p' x:=by
 unfold jG
 rw [h.ds,h.rs]
theorem quj {p p' : Pg} (h : EqP p p') {sc sc' : List Pm} (hs : EqS sc sc') (x : Cl) : clC p sc x = clC p' sc' x:=by
 have e : jp sc [] x.nm x.l = jp sc' [] x.nm x.l:=funext fun ps => qkS hs [] x.nm x.l ps
 unfold clC
 rw [qns h x,e]
theorem qiu {rs rs' : List Rc} (h : ∀ n,qG (·.nm) rs n = qG (·.nm) rs' n) (l : List Pm) : jU rs l = jU rs' l:=by
 have e : tyC rs = tyC rs':=by
  funext x
  unfold tyC
  rw [h x.t]
 unfold jU
 rw [e]
theorem qc8 {rs rs' : List Rc} (h : ∀ n,qG (·.nm) rs n = qG (·.nm) rs' n) (l : List Pm) : yU rs l = yU rs' l:=by
 unfold yU
 rw [qiu h l]
theorem qkD {p p' : Pg} (h : EqP p p') {sc sc' : List Pm} (hs : EqS sc sc') (f : Fm) : fmC p sc f = fmC p' sc' f:=by
 have e1 : qfb sc = qfb sc':=by
  funext x
  unfold qfb
  rw [hs x.nm]
 have e2 : atC (sc ++ f.ps) = atC (sc' ++ f.ps):=by
  funext x
  unfold atC
  exact qmk (hs.add f.ps) [] _ _ _
 have e3 : clC p (sc ++ f.ps) = clC p' (sc' ++ f.ps):=funext fun x => quj h (hs.add f.ps) x
 unfold fmC
 rw [e1,e2,e3,qiu h.rs f.ps]
theorem qdj {p p' : Pg} (h : EqP p p') {sc sc' : List Pm} (hs : EqS sc sc') (l : List Fm) : xH p sc l = xH p' sc' l:=by
 have e : fmC p sc = fmC p' sc':=funext fun f => qkD h hs f
 unfold xH
 rw [e]
theorem qly {sc sc' : List Pm} (hs : EqS sc sc') (asn : List Pm) (s : List UInt8) : jV sc asn s = jV sc' asn s:=by
 unfold jV
 rw [hs s]
theorem qsw {p p' : Pg} (h : EqP p p') {sc sc' : List Pm} (hs : EqS sc sc') (br : List Pm) (s : List UInt8) : qa2 p sc br s = qa2 p' sc' br s:=by
 unfold qa2
 rw [qkj hs br s]
 cases vG sc' br s with
 | error t => rfl
 | ok t => show xx _ _ _ = xx _ _ _;rw [h.rs t]
theorem qs8 {p p' : Pg} (h : EqP p p') {sc sc' : List Pm} (hs : EqS sc sc') (br asn : List Pm) (c : Cal) : qag p sc br asn c = qag p' sc' br asn c:=by
 have hx:=h.xs c.p
 unfold qag
 cases h1 : qG (·.nm) p.xs c.p with
 | none =>
   rw [h1] at hx
   cases h2 : qG (·.nm) p'.xs c.p with
   | none => rfl
   | some y => rw [h2] at hx;cases hx
 | some x =>
   rw [h1] at hx
   cases h2 : qG (·.nm) p'.xs c.p with
   | none => rw [h2] at hx;cases hx
   | some y =>
     rw [h2] at hx
     have hx:=Option.some.inj hx
     have q1 : x.ps = y.ps:=congrArg (·.1) hx
     have q2 : x.rt = y.rt:=congrArg (·.2) hx
     show zw (jp sc br c.p c.l x.ps) (if c.r = [] then none else zy (jV sc asn c.r) fun t => zQ (t == x.rt) 9 c.r) = zw (jp sc' br c.p c.l y.ps) (if c.r = [] then none else zy (jV sc' asn c.r) fun t => zQ (t == y.rt) 9 c.r)
     rw [q1,q2,qkS hs,qly hs]
theorem qti {p p' : Pg} (h : EqP p p') {sc sc' : List Pm} (hs : EqS sc sc') (br asn : List Pm) (s : St) : stC p sc br asn s = stC p' sc' br asn s:=by
 obtain ⟨k,ln,co,nm,fd,fr,e,c,cl,iv,b,o⟩:=s
 have ee : yZ sc br = yZ sc' br:=funext fun e => qga hs br e
 have et : jV sc asn = jV sc' asn:=funext fun s => qly hs asn s
 have er : qa2 p sc br = qa2 p' sc' br:=funext fun s => qsw h hs br s
 have ec : vY sc br = vY sc' br:=funext fun s => qoT hs br s
 have ea : qag p sc br asn = qag p' sc' br asn:=funext fun s => qs8 h hs br asn s
 have ef : xH p sc = xH p' sc':=funext fun s => qdj h hs s
 have ek : wiC p nm = wiC p' nm:=by
  have hk:=h.ks nm
  unfold wiC
  cases h1 : qG (·.nm) p.ks nm <;> cases h2 : qG (·.nm) p'.ks nm <;> rw [h1,h2] at hk <;> first | rfl | cases hk
 unfold stC qiJ ldC svC nwC frC inC qg6
 dsimp only
 rw [ee,et,er,ec,ea,ef,ek,h.rs]
mutual
theorem qsp {p p' : Pg} (h : EqP p p') {sc sc' : List Pm} (hs : EqS sc sc') (br asn : List Pm) : ∀ s : St,stP p sc br asn s = stP p' sc' br asn s
 | .mk k ln co nm fd fr e c cl iv b o => by
   have e1 : (fun q => yg p sc br asn q b) = fun q => yg p' sc' br asn q b:=funext fun q => qdo h hs br asn b q
   have e2 : (fun q => yg p sc br asn q o) = fun q => yg p' sc' br asn q o:=funext fun q => qdo h hs br asn o q
   rw [stP,stP,qti h hs,e2]
   simp only [fun q => qdo h hs br asn b q]
theorem qdo {p p' : Pg} (h : EqP p p') {sc sc' : List Pm} (hs : EqS sc sc') (br asn : List Pm) : ∀ (l : List St) (q : Int × Int),yg p sc br asn q l = yg p' sc' br asn q l
 | [],q => by rw [yg,yg]
 | s :: l,q => by
   rw [yg,yg,qsp h hs br asn s]
   simp only [fun q => qdo h hs br asn l q]
end
end
section
open Go.RowKit
structure Good (p : Pg) : Prop where
 v : xT p = true
 n1 : (p.rs.map (·.nm)).Nodup
 n2 : (p.gs.map (·.nm)).Nodup
 n3 : (p.ks.map (·.nm)).Nodup
 n4 : (p.ds.map (·.nm)).Nodup
 n5 : (p.ms.map (·.nm)).Nodup
 n6 : (p.xs.map (·.nm)).Nodup
 rc : ∀ r ∈ p.rs,yU p.rs r.fs = none
 gl : jU p.rs p.gs = none
 lk : ∀ k ∈ p.ks,xH p p.gs k.iv = none
 df : ∀ y ∈ p.ds,dfC p y = none
 lm : ∀ y ∈ p.ms,lmC p y = none
 pr : ∀ x ∈ p.xs,(prC p x).1 = none
theorem qkC {p : Pg} : (qaf p).1 = none ↔ Good p:=by
 unfold qaf
 by_cases hv : xT p = true
 ·rw [if_pos hv]
  unfold pgC qcD
  rw [qdp,qlF]
  simp only [qgm,qaD,qgB]
  constructor
  ·rintro ⟨⟨⟨n1,n2,n3,n4,n5,n6⟩,a1,a2,a3,a4,a5⟩,a6⟩
   exact ⟨hv,n1,n2,n3,n4,n5,n6,a1,a2,a3,a4,a5,a6⟩
  ·rintro ⟨_,n1,n2,n3,n4,n5,n6,a1,a2,a3,a4,a5,a6⟩
   exact ⟨⟨⟨n1,n2,n3,n4,n5,n6⟩,a1,a2,a3,a4,a5⟩,a6⟩
 ·rw [if_neg hv]
  exact ⟨fun h => (by cases h),fun h => absurd h.v hv⟩
theorem qoQ {p p' : Pg} (h : EqP p p') (y : Df) : dfC p y = dfC p' y:=by
 unfold dfC
 rw [qc8 h.rs,qdj h (fun _ => rfl)]
theorem qoh {p p' : Pg} (h : EqP p p') (y : Lm) : lmC p y = lmC p' y:=by
 unfold lmC
 rw [qc8 h.rs,qkD h (fun _ => rfl),qkD h (fun _ => rfl)]
theorem qlq {rs : List Rc} {l m : List Pm} (h : l.Perm m) (hl : yU rs l = none) : yU rs m = none:=by
 unfold yU jU at hl ⊢
 rw [qgm,qaD,qgB] at hl ⊢
 exact ⟨(h.map (fun x => x.nm)).nodup_iff.1 hl.1,fun x hx => hl.2 x (h.mem_iff.2 hx)⟩
theorem qlH {p p' : Pg} (h : EqP p p') (hg : EqS p.gs p'.gs) (hp : p.gs.Perm p'.gs) {x : Pr} (hx : (prC p x).1 = none) : (prC p' x).1 = none:=by
 unfold prC at hx ⊢
 rw [qdp] at hx ⊢
 have hsc : EqS (yE p.gs x) (yE p'.gs x):=by
  unfold yE
  exact (((hg.add _).add _).add _).add _
 obtain ⟨h1,h2⟩:=hx
 simp only [qgm] at h1 ⊢
 refine ⟨⟨?_,?_,?_⟩,?_⟩
 ·rw [<- qc8 h.rs]
  refine qlq ?_ h1.1
  unfold yE
  exact (((hp.append_right _).append_right _).append_right _).append_right _
 ·rw [<- qdj h ((hg.add _).add _)]
  exact h1.2.1
 ·rw [<- qdj h (((hg.add _).add _).add _)]
  exact h1.2.2
 ·rw [<- qdo h hsc]
  exact h2
theorem qoI {p p' : Pg} (g : Good p) (e1 : p.rs.Perm p'.rs) (e2 : p.gs.Perm p'.gs) (e3 : p.ks.Perm p'.ks) (e4 : p.ds.Perm p'.ds) (e5 : p.ms.Perm p'.ms) (e6 : p.xs.Perm p'.xs) : Good p':=by
 have m1:=(e1.map (·.nm)).nodup_iff.1 g.n1
 have m2:=(e2.map (·.nm)).nodup_iff.1 g.n2
 have m3:=(e3.map (·.nm)).nodup_iff.1 g.n3
 have m4:=(e4.map (·.nm)).nodup_iff.1 g.n4
 have m5:=(e5.map (·.nm)).nodup_iff.1 g.n5
 have m6:=(e6.map (·.nm)).nodup_iff.1 g.n6
 have hg : EqS p.gs p'.gs:=qcM g.n2 m2 (fun x => e2.mem_iff)
 have h : EqP p p':=⟨qcM g.n1 m1 (fun x => e1.mem_iff),fun n => by rw [qcM g.n3 m3 (fun x => e3.mem_iff)],qcM g.n4 m4 (fun x => e4.mem_iff),fun n => by rw [qcM g.n6 m6 (fun x => e6.mem_iff)]⟩
 have hv:=g.v
 refine ⟨?_,m1,m2,m3,m4,m5,m6,fun r hr => ?_,?_,fun k hk => ?_,fun y hy => ?_,fun y hy => ?_,fun x hx => ?_⟩
 ·unfold xT at hv ⊢
  simp only [Bool.and_eq_true_iff,decide_eq_true_eq,List.all_eq_true] at hv ⊢
  rw [<- e1.length_eq,<- e2.length_eq,<- e3.length_eq,<- e4.length_eq,<- e5.length_eq,<- e6.length_eq]
  obtain ⟨⟨⟨⟨⟨⟨a1,b1⟩,⟨a2,b2⟩⟩,⟨a3,b3⟩⟩,⟨a4,b4⟩⟩,⟨a5,b5⟩⟩,⟨a6,b6⟩⟩:=hv
  exact ⟨⟨⟨⟨⟨⟨a1,fun x hx => b1 x (e1.mem_iff.2 hx)⟩,⟨a2,fun x hx => b2 x (e2.mem_iff.2 hx)⟩⟩,⟨a3,fun x hx => b3 x (e3.mem_iff.2 hx)⟩⟩,⟨a4,fun x hx => b4 x (e4.mem_iff.2 hx)⟩⟩,⟨a5,fun x hx => b5 x (e5.mem_iff.2 hx)⟩⟩,⟨a6,fun x hx => b6 x (e6.mem_iff.2 hx)⟩⟩
 ·rw [<- qc8 h.rs]
  exact g.rc r (e1.mem_iff.2 hr)
 ·rw [<- qiu h.rs]
  have hl:=g.gl
  unfold jU at hl ⊢
  rw [qgB] at hl ⊢
  exact fun x hx => hl x (e2.mem_iff.2 hx)
 ·rw [<- qdj h hg]
  exact g.lk k (e3.mem_iff.2 hk)
 ·rw [<- qoQ h]
  exact g.df y (e4.mem_iff.2 hy)
 ·rw [<- qoh h]
  exact g.lm y (e5.mem_iff.2 hy)
 ·exact qlH h hg e2 (g.pr x (e6.mem_iff.2 hx))
end
section
open Go.RowKit
structure Lik (x y : Pr) : Prop where
 eq : y = { x with bd:=y.bd }
 sub : ∀ s ∈ y.bd,s ∈ x.bd
 len : y.bd.length <= x.bd.length
def jq : List Pr -> List Pr -> Prop
 | [],[] => True
 | x :: l,y :: m => Lik x y /\ jq l m
 | _,_ => False
theorem Lik.refl (x : Pr) : Lik x x:=⟨rfl,fun _ h => h,Nat.le_refl _⟩
theorem jq.refl : ∀ l : List Pr,jq l l
 | [] => trivial
 | x :: l => ⟨Lik.refl x,jq.refl l⟩
theorem Lik.empty (x : Pr) : Lik x { x with bd:=[] }:=⟨rfl,fun _ h => (by cases h),Nat.zero_le _⟩
theorem jq.empty : ∀ l : List Pr,jq l (l.map fun x => { x with bd:=[] })
 | [] => trivial
 | x :: l => ⟨Lik.empty x,jq.empty l⟩
theorem Lik.nm {x y : Pr} (h : Lik x y) : y.nm = x.nm:=by rw [h.eq]
theorem jq.names : ∀ {l m : List Pr},jq l m -> m.map (·.nm) = l.map (·.nm)
 | [],[],_ => rfl
 | x :: l,y :: m,h => by rw [List.map_cons,List.map_cons,h.1.nm,jq.names h.2]
 | [],_ :: _,h => h.elim
 | _ :: _,[],h => h.elim
theorem jq.from_ : ∀ {l m : List Pr},jq l m -> ∀ y ∈ m,∃ x ∈ l,Lik x y
 | [],[],_,y,hy => by cases hy
 | x :: l,z :: m,h,y,hy => by
   rcases List.mem_cons.1 hy with rfl | h2
   ·exact ⟨x,List.mem_cons_self ..,h.1⟩
   ·obtain ⟨u,hu,hl⟩:=jq.from_ h.2 y h2
    exact ⟨u,List.mem_cons_of_mem _ hu,hl⟩
 | [],_ :: _,h,_,_ => h.elim
 | _ :: _,[],h,_,_ => h.elim
theorem jq.found (n : List UInt8) : ∀ {l m : List Pr},jq l m -> (qG (·.nm) l n).map (fun x => (x.ps,x.rt)) = (qG (·.nm) m n).map (fun x => (x.ps,x.rt))
 | [],[],_ => rfl
 | x :: l,y :: m,h => by
   show ((x :: l).find? _).map _ = ((y :: m).find? _).map _
   rw [List.find?_cons,List.find?_cons]
   dsimp only
   rw [h.1.nm]
   cases x.nm == n with
   | true =>
     show some (x.ps,x.rt) = some (y.ps,y.rt)
     rw [h.1.eq]
   | false => exact jq.found n h.2
 | [],_ :: _,h => h.elim
 | _ :: _,[],h => h.elim
theorem qsd {var : List UInt8 -> Bool} {nu ex : Int} {d : Nat} {l m : List St} (h : vx var nu ex d l = true) (hs : ∀ s ∈ m,s ∈ l) (hl : m.length <= l.length) : vx var nu ex d m = true:=by
 cases hm : m with
 | nil => cases d <;> rfl
 | cons s r =>
   rw [<- hm]
   have hml : 1 <= m.length:=by rw [hm];simp
   have zN : l.isEmpty = false:=by
    cases l with
    | nil => rw [List.length_nil] at hl;omega
    | cons a b => rfl
   cases d with
   | zero =>
     unfold vx at h
     rw [zN] at h
     cases h
   | succ d =>
     unfold vx at h ⊢
     rw [zN,Bool.false_or] at h
     simp only [Bool.and_eq_true_iff,decide_eq_true_eq,List.all_eq_true] at h
     refine Bool.or_eq_true_iff.2 (.inr ?_)
     simp only [Bool.and_eq_true_iff,decide_eq_true_eq,List.all_eq_true]
     exact ⟨⟨by omega,by omega⟩,fun t ht => h.2 t (hs t ht)⟩
theorem qse {x y : Pr} (h : Lik x y) (hx : vPr x = true) : vPr y = true:=by
 rw [h.eq]
 unfold vPr at hx ⊢
 simp only [Bool.and_eq_true_iff] at hx ⊢
 exact ⟨hx.1,qsd hx.2 h.sub h.len⟩
theorem qsD {p : Pg} {x y : Pr} (h : Lik x y) (hx : (prC p x).1 = none) : (prC p y).1 = none:=by
 rw [h.eq]
 unfold prC at hx ⊢
 rw [qdp] at hx ⊢
 refine ⟨hx.1,?_⟩
 have h2:=hx.2
 rw [qlC] at h2 ⊢
 exact fun s hs => h2 s (h.sub s hs)
theorem qkB {p : Pg} (g : Good p) {m : List Pr} (hm : jq p.xs m) : Good { p with xs:=m }:=by
 obtain ⟨rs,gs,ks,ds,ms,xs⟩:=p
 have hm : jq xs m:=hm
 have h : EqP ⟨rs,gs,ks,ds,ms,xs⟩ ⟨rs,gs,ks,ds,ms,m⟩:=⟨fun _ => rfl,fun _ => rfl,fun _ => rfl,fun n => hm.found n⟩
 have hv:=g.v
 refine ⟨?_,g.n1,g.n2,g.n3,g.n4,g.n5,?_,g.rc,g.gl,fun k hk => ?_,fun y hy => ?_,fun y hy => ?_,fun y hy => ?_⟩
 ·unfold xT at hv ⊢
  simp only [Bool.and_eq_true_iff,decide_eq_true_eq,List.all_eq_true] at hv ⊢
  have qE : m.length = xs.length:=by
   have := congrArg List.length hm.names
   rwa [List.length_map,List.length_map] at this
  obtain ⟨h1,⟨h2,h3⟩,h4⟩:=hv
  refine ⟨h1,⟨by show (0 : Int) <= m.length;omega,by show (m.length : Int) <= 100;rw [qE];exact h3⟩,fun y hy => ?_⟩
  obtain ⟨x,hx,hl⟩:=hm.from_ y hy
  exact qse hl (h4 x hx)
 ·show (m.map (·.nm)).Nodup
  rw [hm.names]
  exact g.n6
 ·rw [<- qdj h (fun _ => rfl)]
  exact g.lk k hk
 ·rw [<- qoQ h]
  exact g.df y hy
 ·rw [<- qoh h]
  exact g.lm y hy
 ·obtain ⟨x,hx,hl⟩:=hm.from_ y hy
  exact qsD hl (qlH h (fun _ => rfl) (List.Perm.refl _) (g.pr x hx))
/-! ### one procedure twice -/
theorem qjr : ∀ {l seen : List (List UInt8)} {n : List UInt8},l.Nodup -> (∀ m ∈ l,m ∉ seen) -> (n ∈ l \/ n ∈ seen) -> zH seen (l ++ [n]) = some (n,8)
 | [],seen,n,_,_,h => by
   have h1 : n ∈ seen:=h.elim (fun h => by cases h) id
   show (if seen.contains n then some (n,8) else zH (n :: seen) []) = _
   rw [if_pos (List.contains_iff_mem.2 h1)]
 | m :: l,seen,n,hn,hs,h => by
   rw [List.nodup_cons] at hn
   have h0 : m ∉ seen:=hs m (List.mem_cons_self ..)
   show (if seen.contains m then some (m,8) else zH (m :: seen) (l ++ [n])) = _
   rw [if_neg (fun h2 => h0 (List.contains_iff_mem.1 h2))]
   refine qjr hn.2 (fun u hu h2 => ?_) ?_
   ·rcases List.mem_cons.1 h2 with rfl | h3
    ·exact hn.1 hu
    ·exact hs u (List.mem_cons_of_mem _ hu) h3
   ·rcases h with h | h
    ·rcases List.mem_cons.1 h with rfl | h2
     ·exact .inr (List.mem_cons_self ..)
     ·exact .inl h2
    ·exact .inr (List.mem_cons_of_mem _ h)
theorem qjY {p : Pg} (g : Good p) {x : Pr} {l : List Pr} (hx : p.xs = x :: l) (hl : p.xs.length < 100) : qaf { p with xs:=p.xs ++ [x] } = (some (x.nm,8),(0,0)):=by
 obtain ⟨rs,gs,ks,ds,ms,xs⟩:=p
 have hx : xs = x :: l:=hx
 have hv:=g.v
 have je : xT ⟨rs,gs,ks,ds,ms,xs ++ [x]⟩ = true:=by
  unfold xT at hv ⊢
  simp only [Bool.and_eq_true_iff,decide_eq_true_eq,List.all_eq_true] at hv ⊢
  obtain ⟨h1,⟨h2,h3⟩,h4⟩:=hv
  have hl : xs.length < 100:=hl
  refine ⟨h1,⟨by omega,by show ((xs ++ [x]).length : Int) <= 100;rw [List.length_append];simp only [List.length_cons,List.length_nil];omega⟩,fun y hy => ?_⟩
  rcases List.mem_append.1 hy with h5 | h5
  ·exact h4 y h5
  ·obtain rfl:=List.mem_singleton.1 h5
   exact h4 y (by rw [hx];exact List.mem_cons_self ..)
 have hd : zH [] ((xs ++ [x]).map (·.nm)) = some (x.nm,8):=by
  rw [List.map_append]
  exact qjr g.n6 (fun _ _ h => by cases h) (.inl (by rw [hx];exact List.mem_cons_self ..))
 have hn : qcD ⟨rs,gs,ks,ds,ms,xs ++ [x]⟩ = some (x.nm,8):=by
  unfold qcD
  rw [qaD.2 g.n1,qaD.2 g.n2,qaD.2 g.n3,qaD.2 g.n4,qaD.2 g.n5,hd]
  rfl
 unfold qaf pgC
 rw [if_pos je,hn]
 rfl
end
section
open Go.RowKit
def qbd (p : Pg) : Pg:=⟨p.rs.reverse,p.gs.reverse,p.ks,p.ds.reverse,p.ms,p.xs.reverse⟩
theorem qh6 {p : Pg} (g : Good p) : Good (qbd p) :=
 qoI g (List.reverse_perm _).symm (List.reverse_perm _).symm (List.Perm.refl _) (List.reverse_perm _).symm (List.Perm.refl _) (List.reverse_perm _).symm
def qid (p : Pg) : Pg:={ p with xs:=p.xs.map fun x => { x with bd:=[] } }
theorem qh8 {p : Pg} (g : Good p) : Good (qid p):=qkB g (jq.empty p.xs)
theorem qjX {p : Pg} (g : Good p) {x : Pr} {l : List Pr} (hx : (qid (qbd p)).xs = x :: l) (hl : p.xs.length < 10) : qaf { qid (qbd p) with xs:=(qid (qbd p)).xs ++ [x] } = (some (x.nm,8),(0,0)):=by
 refine qjY (qh8 (qh6 g)) hx ?_
 show ((p.xs.reverse).map _).length < 100
 rw [List.length_map,List.length_reverse]
 omega
def jQ (p : Pg) (b : List St) : Pg:=match p.xs with
 | [] => p
 | x :: l => { p with xs:={ x with bd:=b } :: l }
theorem qh7 {p : Pg} (g : Good p) {x : Pr} {l : List Pr} (hx : p.xs = x :: l) {b : List St} (hs : ∀ s ∈ b,s ∈ x.bd) (hl : b.length <= x.bd.length) : Good (jQ p b):=by
 unfold jQ
 rw [hx]
 refine qkB g ?_
 rw [hx]
 exact ⟨⟨rfl,hs,hl⟩,jq.refl l⟩
theorem qkA {p : Pg} (g : Good p) {x : Pr} {l : List Pr} (hx : p.xs = x :: l) (i : Nat) (_hi : i < x.bd.length) : Good (jQ p (x.bd.take i ++ x.bd.drop (i + 1))):=by
 refine qh7 g hx (fun s hs => ?_) ?_
 ·rcases List.mem_append.1 hs with h | h
  ·exact List.mem_of_mem_take h
  ·exact List.mem_of_mem_drop h
 ·rw [List.length_append,List.length_take,List.length_drop]
  omega
theorem qnj {p : Pg} (g : Good p) {x : Pr} {l : List Pr} (hx : p.xs = x :: l) (i : Nat) (hi : i < x.bd.length) : Good (jQ p ((x.bd.drop i).take 1 ++ x.bd.take i ++ x.bd.drop (i + 1))):=by
 refine qh7 g hx (fun s hs => ?_) ?_
 ·rcases List.mem_append.1 hs with h | h
  ·rcases List.mem_append.1 h with h | h
   ·exact List.mem_of_mem_drop (List.mem_of_mem_take h)
   ·exact List.mem_of_mem_take h
  ·exact List.mem_of_mem_drop h
 ·rw [List.length_append,List.length_append,List.length_take,List.length_take,List.length_drop,List.length_drop]
  omega
end
section
open Go.RowKit
theorem xZ {α : Type} {r : Except jl α} {f : α -> Ck} (hr : NZE r) (hf : ∀ x,NZ (f x)) : NZ (zy r f):=by
 cases r with
 | error t => exact fun t' h => hr t' (by rw [<- Option.some.inj h])
 | ok x => exact hf x
theorem qdg {α : Type} (o : Option α) {s : List UInt8} {x : Int} (h : x ≠ 0) : NZE (xx o s x):=by
 cases o with
 | some y => exact fun t h => by cases h
 | none => exact fun t ht => by cases ht;exact h
theorem qex (sc asn : List Pm) (s : List UInt8) : NZE (jV sc asn s):=by
 unfold jV qpQ
 cases qG (·.nm) sc s with
 | none => exact fun t h => by cases h;show (7 : Int) ≠ 0;decide
 | some x =>
   dsimp only
   by_cases hb : (qG (·.nm) asn s).isSome = true
   ·rw [if_pos hb];exact fun t h => by cases h
   ·rw [if_neg hb];exact fun t h => by cases h;show (6 : Int) ≠ 0;decide
theorem qiy (p : Pg) (sc br : List Pm) (s : List UInt8) : NZE (qa2 p sc br s):=by
 unfold qa2
 have h:=qkg sc br s
 cases hk : vG sc br s with
 | error t => exact fun t' h2 => by cases h2;exact h t hk
 | ok t => exact qdg _ (by decide)
mutual
theorem qmU (sc br : List Pm) : ∀ c : Cn,NZ (vY sc br c)
 | .mk k a b l => by
   rw [vY]
   split
   ·exact qlM sc br l
   ·exact qoe sc br k a b
theorem qlM (sc br : List Pm) : ∀ l : List Cn,NZ (qbP sc br l)
 | [] => by rw [qbP];exact xq
 | x :: l => by rw [qbP];exact yf (qmU sc br x) (qlM sc br l)
end
theorem qfS (p : Pg) (sc : List Pm) (l : List Fm) : NZ (xH p sc l):=vM (qmT p sc) l
theorem qkh (p : Pg) (sc br asn : List Pm) (c : Cal) : NZ (qag p sc br asn c):=by
 unfold qag
 refine xZ (qdg _ (by decide)) fun x => yf (qlN _ _ _ _ _) ?_
 split
 ·exact xq
 ·exact xZ (qex _ _ _) fun t => jK (by decide)
theorem qu9 (p : Pg) (sc br asn : List Pm) (s : St) : NZ (stC p sc br asn s):=by
 obtain ⟨k,ln,co,nm,fd,fr,e,c,cl,iv,b,o⟩:=s
 unfold stC
 dsimp only
 by_cases h0 : k = 1
 ·rw [if_pos h0]
  exact xZ (qex _ _ _) fun t => xZ (qdh _ _ _) fun y => jK (by decide)
 rw [if_neg h0]
 by_cases h1 : k = 2
 ·rw [if_pos h1]
  exact xZ (qex _ _ _) fun t => xZ (qiy _ _ _ _) fun r => xZ (qdg _ (by decide)) fun f => jK (by decide)
 rw [if_neg h1]
 by_cases h2 : k = 3
 ·rw [if_pos h2]
  exact xZ (qiy _ _ _ _) fun r => xZ (qdg _ (by decide)) fun f => xZ (qdh _ _ _) fun y => jK (by decide)
 rw [if_neg h2]
 by_cases h3 : k = 4
 ·rw [if_pos h3]
  exact xZ (qdg _ (by decide)) fun r => xZ (qex _ _ _) fun t => jK (by decide)
 rw [if_neg h3]
 by_cases h4 : k = 5
 ·rw [if_pos h4]
  exact xZ (qiy _ _ _ _) fun r => xq
 rw [if_neg h4]
 by_cases h5 : k = 6
 ·rw [if_pos h5]
  exact xZ (qex _ _ _) fun t => jK (by decide)
 rw [if_neg h5]
 by_cases h6 : k = 7
 ·rw [if_pos h6]
  cases cl with
  | nil => exact xq
  | cons a r => exact qkh _ _ _ _ a
 rw [if_neg h6]
 by_cases h7 : k = 8 \/ k = 10
 ·rw [if_pos h7]
  exact qmU _ _ c
 rw [if_neg h7]
 by_cases h8 : k = 9
 ·rw [if_pos h8]
  exact yf (qmU _ _ c) (qfS _ _ iv)
 rw [if_neg h8]
 by_cases h9 : k = 11
 ·rw [if_pos h9]
  exact xZ (qdg _ (by decide)) fun _ => xq
 rw [if_neg h9]
 by_cases h10 : k = 12
 ·rw [if_pos h10]
  match cl with
  | [] => exact xq
  | [_] => exact xq
  | a :: b :: _ => exact yf (qkh _ _ _ _ a) (yf (qkh _ _ _ _ b) (jK (by decide)))
 ·rw [if_neg h10]
  exact xq
theorem qdf {a : PCk} {f : Int × Int -> PCk} (ha : NZ a.1) (hf : ∀ q,NZ (f q).1) : NZ (vm a f).1:=by
 obtain ⟨c,q⟩:=a
 cases c with
 | none => exact hf q
 | some t => exact ha
mutual
theorem qtn (p : Pg) (sc br asn : List Pm) : ∀ s : St,NZ (stP p sc br asn s).1
 | .mk k ln co nm fd fr e c cl iv b o => by
   rw [stP]
   exact qdf (a:=(stC p sc br asn (.mk k ln co nm fd fr e c cl iv b o),(ln,co))) (qu9 p sc br asn (.mk k ln co nm fd fr e c cl iv b o)) fun q => qdf (qgr p sc br asn b q) fun q => qgr p sc br asn o q
theorem qgr (p : Pg) (sc br asn : List Pm) : ∀ (l : List St) (q : Int × Int),NZ (yg p sc br asn q l).1
 | [],q => by rw [yg];exact xq
 | s :: l,q => by
   rw [yg]
   exact qdf (qtn p sc br asn s) fun q => qgr p sc br asn l q
end
theorem qbq : ∀ (l seen : List (List UInt8)),NZ (zH seen l)
 | [],_ => xq
 | m :: l,seen => by
   show NZ (if seen.contains m then some (m,8) else zH (m :: seen) l)
   split
   ·exact qgs (by decide)
   ·exact qbq l _
theorem qoc (rs : List Rc) (l : List Pm) : NZ (jU rs l):=vM (qrj rs) l
theorem qdW (rs : List Rc) (l : List Pm) : NZ (yU rs l):=yf (qbq _ _) (qoc _ _)
theorem qvc (p : Pg) (y : Df) : NZ (dfC p y):=by
 unfold dfC
 refine yf (qdW _ _) (yf ?_ (qfS _ _ _))
 cases y.ps with
 | nil => exact xq
 | cons x l => exact jK (by decide)
theorem qvb (p : Pg) (y : Lm) : NZ (lmC p y):=yf (qdW _ _) (yf (jK (by decide)) (yf (qmT _ _ _) (qmT _ _ _)))
theorem qva (p : Pg) (x : Pr) : NZ (prC p x).1:=qdf (yf (qdW _ _) (yf (qfS _ _ _) (qfS _ _ _))) fun q => qgr _ _ _ _ _ q
theorem qod (p : Pg) : ∀ (l : List Pr) (q : Int × Int),NZ (vK p q l).1
 | [],_ => xq
 | x :: l,q => qdf (qva p x) fun q => qod p l q
theorem qto (p : Pg) : NZ (qaf p).1:=by
 unfold qaf
 split
 ·unfold pgC qcD
  exact qdf (yf (yf (qbq _ _) (yf (qbq _ _) (yf (qbq _ _) (yf (qbq _ _) (yf (qbq _ _) (qbq _ _)))))) (yf (vM (fun _ => qdW _ _) _) (yf (qoc _ _) (yf (vM (fun _ => qfS _ _ _) _) (yf (vM (qvc p) _) (vM (qvb p) _)))))) fun q => qod p p.xs q
 ·exact qgs (by decide)
theorem vZ {p : Pg} : qaj p = true ↔ Good p:=by
 unfold qaj
 rw [beq_iff_eq,qsj (qto p),qkC]
end
end Go.Proofs.YtojjfdegkooknaaGreatDoor
