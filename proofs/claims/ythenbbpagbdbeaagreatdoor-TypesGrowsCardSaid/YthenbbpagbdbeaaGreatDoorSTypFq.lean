import Derived.Test.YthenbbpagbdbeaaGreatDoorSTypTg
import Derived.Test.YthenbbpagbdbeaaGreatDoorSTypFDef
import Derived.Test.YthenbbpagbdbeaaGreatDoorSTypN
import Derived.Test.YthenbbpagbdbeaaGreatDoorSTypSu
import Derived.Test.YthenbbpagbdbeaaGreatDoorSTypDv
import Derived.Test.YthenbbpagbdbeaaGreatDoorSTreeGf
set_option linter.unusedVariables false
set_option linter.unusedSimpArgs false
namespace Go.Proofs.YthenbbpagbdbeaaGreatDoor
set_option maxRecDepth 100000
set_option maxHeartbeats 8000000
open Go.RowKit Go.Lib
def FmOk (p : Pg) (d : GAd) (B0 cb : Nat) (f : Fm) : Prop :=
 ∀ (sc : List Pm) (G : Option Addr) (n c B1 : Nat) (fd : FAd) (w : World),n = sc.length → n ≤ 3999999000000 → B1 ≤ w.heap.size → RowV VPm 2 w B1 sc G → ChkAt w B0 cb d p → FmOwn w B0 fd f →
  Calls Tryz.prog 45 #[.pointer (some ⟨cb,0,none⟩),.slice G n c,formulaV (.slice fd.p f.ps.length fd.np) (.slice fd.a f.ats.length fd.na) (.slice fd.c f.cls.length fd.nc)] w (CkPost (fmC p sc f) w)
theorem formulas_any (p : Pg) (d : GAd) (B0 cb : Nat) (l : List Fm) (hok : ∀ f ∈ l,FmOk p d B0 cb f) (sc : List Pm) (G : Option Addr) (n c B1 : Nat) (F : Option Addr) (nf cf : Nat) (hnf : nf = l.length) (hmf : nf ≤ maxLen) (w : World) (hn : n = sc.length) (hm : n ≤ 3999999000000) (hB1 : B1 ≤ w.heap.size) (hG : RowV VPm 2 w B1 sc G) (hC : ChkAt w B0 cb d p) (hF : FmRow w B0 l F) :
 Calls Tryz.prog 73 #[.pointer (some ⟨cb,0,none⟩),.slice G n c,.slice F nf cf] w (CkPost (fmsC p sc l) w):=by
 have HH:=Lib.hid (And.intro hF (And.intro hnf (And.intro hC (And.intro hG (And.intro hB1 (And.intro hok (And.intro hn hm)))))))
 obtain ⟨R,hR⟩ : ∃ R : Ck,R = fmsC p sc l:=⟨_,rfl⟩
 have HR:=Lib.hid hR
 rw [← hR]
 clear hF hnf hC hG hB1 hok hn hm hR
 unfold maxLen at hmf
 go_enter Tryz.func73,Tryz.ntmps73
 go_wp2
 go_loopg [10] nf (fun mm j wr => ∃ i : Nat,mm = nf - i ∧ i ≤ nf ∧ j = .int .i64 i ∧ Hid (Below w.heap.size w wr ∧ fmsC p sc (l.take i) = none))
 case atStart => exact ⟨0,rfl,Nat.zero_le _,rfl,Lib.hid ⟨Below.refl _ _,rfl⟩⟩
 case round =>
  obtain ⟨i,rfl,hi,rfl,HI⟩:=hrel
  have hi0 : (0 : Int) ≤ i:=by omega
  by_cases hlt : i < nf
  ·have hii : (i : Int) < nf:=by omega
   obtain ⟨f,hg⟩ : ∃ x,l[i]? = some x:=⟨l[i]'(by rw [← HH.out.2.1];exact hlt),List.getElem?_eq_getElem _⟩
   have hB0 : B0 ≤ w.heap.size:=Nat.le_trans HH.out.2.2.1.le (Nat.le_of_lt HH.out.2.2.1.lt)
   obtain ⟨a,rfl,hab,Ap,cp,Aa,ca,Ac,cc,d0,d1,d2,hls,rp,ra,rc⟩:=(HH.out.1.stay fm_keeps HI.out.1 hB0).at_ hg
   obtain ⟨n1,h1⟩ : ∃ n,n = f.ps.length:=⟨_,rfl⟩
   obtain ⟨n2,h2⟩ : ∃ n,n = f.ats.length:=⟨_,rfl⟩
   obtain ⟨n3,h3⟩ : ∃ n,n = f.cls.length:=⟨_,rfl⟩
   rw [← h1] at d0
   rw [← h2] at d1
   rw [← h3] at d2
   have e0 : wr.cell? (a.add (i * 3)) = some (.slice Ap n1 cp):=d0
   have e1 : wr.cell? ⟨(a.add (i * 3)).block,(a.add (i * 3)).off + 1,none⟩ = some (.slice Aa n2 ca):=d1
   have e2 : wr.cell? ⟨(a.add (i * 3)).block,(a.add (i * 3)).off + 2,none⟩ = some (.slice Ac n3 cc):=d2
   obtain ⟨W6,hW6⟩ : ∃ W6,W6 = wr.alloc (formulaC (.slice Ap n1 cp) (.slice Aa n2 ca) (.slice Ac n3 cc)):=⟨_,rfl⟩
   have hb6 : Below wr.heap.size wr W6:=by rw [hW6];exact below_alloc wr _
   have hbb:=HI.out.1.chain hb6
   have HC:=Lib.hid (HH.out.2.2.2.2.2.1 f (List.mem_of_getElem? hg) sc G n c B1 ⟨Ap,Aa,Ac,cp,ca,cc⟩ W6 HH.out.2.2.2.2.2.2.1 HH.out.2.2.2.2.2.2.2 (Nat.le_trans HH.out.2.2.2.2.1 hbb.size) (rowB vpm_keeps HH.out.2.2.2.2.1 hbb HH.out.2.2.2.1) (HH.out.2.2.1.on hbb) (FmOwn.keep (fun q hq => hb6.cell (Nat.lt_of_lt_of_le hq (Nat.le_trans hB0 HI.out.1.size))) (Nat.le_refl _) ⟨hls,rp,ra,rc⟩))
   dsimp only at HC
   rw [← h1,← h2,← h3] at HC
   obtain ⟨q,hq⟩ : ∃ q,q = fmC p sc f:=⟨_,rfl⟩
   rw [← hq] at HC
   have H6:=Lib.hid hbb
   have HX:=Lib.hid (And.intro hg hq)
   clear hg hq hab d0 d1 d2 hls rp ra rc hb6 hbb hB0 h1 h2 h3
   go_wp2_with fail
   rw [← hW6]
   clear hW6 e0 e1 e2
   (with_reducible refine HC.out.mono ?_)
   rintro e w3 ⟨he,hb⟩
   have H3:=Lib.hid (H6.out.chain hb)
   clear hb
   cases q with
   | some t =>
     obtain rfl : e = _:=he
     refine ⟨rfl,?_,H3.out⟩
     rw [HR.out,show fmsC p sc l = some t from allC_some _ l i f t HX.out.1 HI.out.2 HX.out.2.symm]
     exact rfl
   | none =>
     obtain rfl : e = _:=he
     have HN : Hid (fmsC p sc (l.take (i + 1)) = none):=Lib.hid (by
      unfold fmsC
      rw [allC_take_succ _ l i f HX.out.1,show allC _ (l.take i) = none from HI.out.2,← HX.out.2]
      rfl)
     go_wp2
     go_roundg (nf - (i + 1))
     case measure => omega
     case rel => exact ⟨i + 1,rfl,by omega,by go_num,Lib.hid ⟨H3.out,HN.out⟩⟩
  ·have hlt' : ¬ (i : Int) < nf:=by omega
   obtain rfl : i = nf:=by omega
   have h:=HI.out.2
   rw [List.take_of_length_le (by rw [HH.out.2.1];exact Nat.le_refl _)] at h
   have HE:=Lib.hid h
   clear h
   go_wp2
   refine bodyPost_end (results_none rfl _ _ _) rfl ⟨?_,HI.out.1⟩
   rw [HR.out,HE.out]
   exact rfl
theorem nm_lens {α : Type} {V : World → Nat → Array Value → α → Prop} (nm : α → List UInt8) (hV : ∀ w B cs x,V w B cs x → (nm x).length ≤ maxLen) {k : Nat} {w : World} {B : Nat} {l : List α} {A : Option Addr} (h : RowV V k w B l A) : ∀ x ∈ l,(nm x).length ≤ maxLen:=by
 intro x hx
 obtain ⟨i,hi,he⟩:=List.getElem_of_mem hx
 obtain ⟨_,cs,_,_,_,_,hv⟩:=h i x (by rw [List.getElem?_eq_getElem hi,he])
 exact hV _ _ _ _ hv
theorem tnames_any (p : Pg) (d : GAd) (B0 cb : Nat) (w : World) (hC : ChkAt w B0 cb d p) :
 Calls Tryz.prog 71 #[.pointer (some ⟨cb,0,none⟩)] w (CkPost (namesC p) w):=by
 have hB : ∀ W,Below w.heap.size w W → B0 ≤ W.heap.size:=fun W hb => Nat.le_trans (Nat.le_trans hC.le (Nat.le_of_lt hC.lt)) hb.size
 have HD0 : Hid (∀ W,Below w.heap.size w W → Calls Tryz.prog 106 #[.slice d.r p.rs.length d.nr,.func (.func 54) #[] #[]] W (CkPost (diffC [] (p.rs.map (·.nm))) W)):=Lib.hid (fun W hb => by
  have hk:=(hC.on hb).own
  exact dif_Record 54 (enters_of Tryz.func54 (by kernel_rfl) rfl) (·.nm) nm_Record p.rs (nm_lens (V:=VRc) _ (fun _ _ _ _ ⟨_,_,_,h,_⟩ => h) (rc_rowV hk.2.1)) d.r d.nr _ rfl hk.1.1 B0 W (hB W hb) (rc_rowV hk.2.1))
 have HD1 : Hid (∀ W,Below w.heap.size w W → Calls Tryz.prog 107 #[.slice d.g p.gs.length d.ng,.func (.func 94) #[] #[]] W (CkPost (diffC [] (p.gs.map (·.nm))) W)):=Lib.hid (fun W hb => by
  have hk:=(hC.on hb).own
  exact dif_Param 94 (enters_of Tryz.func94 (by kernel_rfl) rfl) (·.nm) nm_Param p.gs (pm_names (pm_rowV hk.2.2.1)) d.g d.ng _ rfl hk.1.2.1 B0 W (hB W hb) (pm_rowV hk.2.2.1))
 have HD2 : Hid (∀ W,Below w.heap.size w W → Calls Tryz.prog 108 #[.slice d.k p.ks.length d.nk,.func (.func 109) #[] #[]] W (CkPost (diffC [] (p.ks.map (·.nm))) W)):=Lib.hid (fun W hb => by
  have hk:=(hC.on hb).own
  exact dif_Lock 109 (enters_of Tryz.func109 (by kernel_rfl) rfl) (·.nm) nm_Lock p.ks (nm_lens (V:=VLk) _ (fun _ _ _ _ ⟨_,_,_,h,_⟩ => h) (lk_rowV hk.2.2.2.1)) d.k d.nk _ rfl hk.1.2.2.1 B0 W (hB W hb) (lk_rowV hk.2.2.2.1))
 have HD3 : Hid (∀ W,Below w.heap.size w W → Calls Tryz.prog 110 #[.slice d.d p.ds.length d.nd,.func (.func 100) #[] #[]] W (CkPost (diffC [] (p.ds.map (·.nm))) W)):=Lib.hid (fun W hb => by
  have hk:=(hC.on hb).own
  exact dif_Def 100 (enters_of Tryz.func100 (by kernel_rfl) rfl) (·.nm) nm_Def p.ds (nm_lens (V:=VDf) _ (fun _ _ _ _ ⟨_,_,_,_,_,h,_⟩ => h) (df_rowV hk.2.2.2.2.1)) d.d d.nd _ rfl hk.1.2.2.2.1 B0 W (hB W hb) (df_rowV hk.2.2.2.2.1))
 have HD4 : Hid (∀ W,Below w.heap.size w W → Calls Tryz.prog 111 #[.slice d.m p.ms.length d.nm,.func (.func 112) #[] #[]] W (CkPost (diffC [] (p.ms.map (·.nm))) W)):=Lib.hid (fun W hb => by
  have hk:=(hC.on hb).own
  exact dif_Lemma 112 (enters_of Tryz.func112 (by kernel_rfl) rfl) (·.nm) nm_Lemma p.ms (nm_lens (V:=VLm) _ (fun _ _ _ _ ⟨_,_,_,_,_,h,_⟩ => h) (lm_rowV hk.2.2.2.2.2.1)) d.m d.nm _ rfl hk.1.2.2.2.2.1 B0 W (hB W hb) (lm_rowV hk.2.2.2.2.2.1))
 have HD5 : Hid (∀ W,Below w.heap.size w W → Calls Tryz.prog 113 #[.slice d.x p.xs.length d.nx,.func (.func 51) #[] #[]] W (CkPost (diffC [] (p.xs.map (·.nm))) W)):=Lib.hid (fun W hb => by
  have hk:=(hC.on hb).own
  exact dif_Proc 51 (enters_of Tryz.func51 (by kernel_rfl) rfl) (·.nm) nm_Proc p.xs (nm_lens (V:=VPr) _ (fun _ _ _ _ ⟨_,_,h⟩ => h.1.1) (pr_rowV hk.2.2.2.2.2.2)) d.x d.nx _ rfl hk.1.2.2.2.2.2 B0 W (hB W hb) (pr_rowV hk.2.2.2.2.2.2))
 have HCL : Hid (∀ W,Below w.heap.size w W → W.cell? ⟨cb,0,none⟩ = some (.slice d.r p.rs.length d.nr) ∧ W.cell? ⟨cb,1,none⟩ = some (.slice d.g p.gs.length d.ng) ∧ W.cell? ⟨cb,2,none⟩ = some (.slice d.k p.ks.length d.nk) ∧ W.cell? ⟨cb,3,none⟩ = some (.slice d.d p.ds.length d.nd) ∧ W.cell? ⟨cb,4,none⟩ = some (.slice d.m p.ms.length d.nm) ∧ W.cell? ⟨cb,5,none⟩ = some (.slice d.x p.xs.length d.nx)):=Lib.hid (fun W hb => ⟨(hC.on hb).c0,(hC.on hb).c1,(hC.on hb).c2,(hC.on hb).c3,(hC.on hb).c4,(hC.on hb).c5⟩)
 obtain ⟨R,hR⟩ : ∃ R : Ck,R = namesC p:=⟨_,rfl⟩
 rw [← hR]
 obtain ⟨r0,h0⟩ : ∃ R : Ck,R = diffC [] (p.rs.map (·.nm)):=⟨_,rfl⟩
 obtain ⟨r1,h1⟩ : ∃ R : Ck,R = diffC [] (p.gs.map (·.nm)):=⟨_,rfl⟩
 obtain ⟨r2,h2⟩ : ∃ R : Ck,R = diffC [] (p.ks.map (·.nm)):=⟨_,rfl⟩
 obtain ⟨r3,h3⟩ : ∃ R : Ck,R = diffC [] (p.ds.map (·.nm)):=⟨_,rfl⟩
 obtain ⟨r4,h4⟩ : ∃ R : Ck,R = diffC [] (p.ms.map (·.nm)):=⟨_,rfl⟩
 obtain ⟨r5,h5⟩ : ∃ R : Ck,R = diffC [] (p.xs.map (·.nm)):=⟨_,rfl⟩
 have HR : Hid (R = seqC r0 (seqC r1 (seqC r2 (seqC r3 (seqC r4 r5))))):=Lib.hid (by rw [hR,h0,h1,h2,h3,h4,h5];rfl)
 rw [← h0] at HD0
 rw [← h1] at HD1
 rw [← h2] at HD2
 rw [← h3] at HD3
 rw [← h4] at HD4
 rw [← h5] at HD5
 obtain ⟨n0,g0⟩ : ∃ n,n = p.rs.length:=⟨_,rfl⟩
 obtain ⟨n1,g1⟩ : ∃ n,n = p.gs.length:=⟨_,rfl⟩
 obtain ⟨n2,g2⟩ : ∃ n,n = p.ks.length:=⟨_,rfl⟩
 obtain ⟨n3,g3⟩ : ∃ n,n = p.ds.length:=⟨_,rfl⟩
 obtain ⟨n4,g4⟩ : ∃ n,n = p.ms.length:=⟨_,rfl⟩
 obtain ⟨n5,g5⟩ : ∃ n,n = p.xs.length:=⟨_,rfl⟩
 rw [← g0] at HD0 HCL
 rw [← g1] at HD1 HCL
 rw [← g2] at HD2 HCL
 rw [← g3] at HD3 HCL
 rw [← g4] at HD4 HCL
 rw [← g5] at HD5 HCL
 clear hC hB hR h0 h1 h2 h3 h4 h5 g0 g1 g2 g3 g4 g5
 have K0:=Lib.hid (Below.refl w.heap.size w)
 obtain ⟨c0,-,-,-,-,-⟩:=HCL.out _ K0.out
 go_enter Tryz.func71,Tryz.ntmps71
 go_wp2_with fail
 clear c0
 (with_reducible refine (HD0.out _ K0.out).mono ?_)
 rintro e x1 ⟨he,hb⟩
 have K1:=Lib.hid (K0.out.chain hb)
 clear hb
 cases r0 with
 | some t =>
   obtain rfl : e = _:=he
   refine ⟨rfl,?_,K1.out⟩
   rw [HR.out]
   exact rfl
 | none =>
 obtain rfl : e = _:=he
 obtain ⟨-,c0,-,-,-,-⟩:=HCL.out _ K1.out
 go_wp2_with fail
 clear c0
 (with_reducible refine (HD1.out _ K1.out).mono ?_)
 rintro e x2 ⟨he,hb⟩
 have K2:=Lib.hid (K1.out.chain hb)
 clear hb
 cases r1 with
 | some t =>
   obtain rfl : e = _:=he
   refine ⟨rfl,?_,K2.out⟩
   rw [HR.out]
   exact rfl
 | none =>
 obtain rfl : e = _:=he
 obtain ⟨-,-,c0,-,-,-⟩:=HCL.out _ K2.out
 go_wp2_with fail
 clear c0
 (with_reducible refine (HD2.out _ K2.out).mono ?_)
 rintro e x3 ⟨he,hb⟩
 have K3:=Lib.hid (K2.out.chain hb)
 clear hb
 cases r2 with
 | some t =>
   obtain rfl : e = _:=he
   refine ⟨rfl,?_,K3.out⟩
   rw [HR.out]
   exact rfl
 | none =>
 obtain rfl : e = _:=he
 obtain ⟨-,-,-,c0,-,-⟩:=HCL.out _ K3.out
 go_wp2_with fail
 clear c0
 (with_reducible refine (HD3.out _ K3.out).mono ?_)
 rintro e x4 ⟨he,hb⟩
 have K4:=Lib.hid (K3.out.chain hb)
 clear hb
 cases r3 with
 | some t =>
   obtain rfl : e = _:=he
   refine ⟨rfl,?_,K4.out⟩
   rw [HR.out]
   exact rfl
 | none =>
 obtain rfl : e = _:=he
 obtain ⟨-,-,-,-,c0,-⟩:=HCL.out _ K4.out
 go_wp2_with fail
 clear c0
 (with_reducible refine (HD4.out _ K4.out).mono ?_)
 rintro e x5 ⟨he,hb⟩
 have K5:=Lib.hid (K4.out.chain hb)
 clear hb
 cases r4 with
 | some t =>
   obtain rfl : e = _:=he
   refine ⟨rfl,?_,K5.out⟩
   rw [HR.out]
   exact rfl
 | none =>
 obtain rfl : e = _:=he
 obtain ⟨-,-,-,-,-,c0⟩:=HCL.out _ K5.out
 go_wp2_with fail
 clear c0
 (with_reducible refine (HD5.out _ K5.out).mono ?_)
 rintro e x6 ⟨he,hb⟩
 have K6:=Lib.hid (K5.out.chain hb)
 clear hb
 cases r5 with
 | some t =>
   obtain rfl : e = _:=he
   refine ⟨rfl,?_,K6.out⟩
   rw [HR.out]
   exact rfl
 | none =>
 obtain rfl : e = _:=he
 go_wp2
 refine bodyPost_end (results_none rfl _ _ _) rfl ⟨?_,K6.out⟩
 rw [HR.out]
 exact rfl
end Go.Proofs.YthenbbpagbdbeaaGreatDoor
namespace Go.Proofs.YthenbbpagbdbeaaGreatDoor
set_option maxRecDepth 100000
set_option maxHeartbeats 8000000
open Go.RowKit Go.Lib
theorem fld_Def1 (u v x : Value) (w : World) : (Instr.field 63 (.agg #[u,v,x]) 1).run Tryz.prog w = .ok v w:=by kernel_rfl
def ParEnd (r : Except Thr (List Pm)) (e : Ending) (w' : World) : Prop :=
 match r with
 | .ok ps => ∃ (A : Option Addr) (n c : Nat),e = .returned (.slice A n c) ∧ n = ps.length ∧ n ≤ maxLen ∧ RowV VPm 2 w' w'.heap.size ps A
 | .error t => e = .panicked [{ v:=thrV t,recovered:=false }]
def FewFs (p : Pg) : Prop:=∀ r ∈ p.rs,r.fs.length ≤ 4399999999998
theorem cellps_any (p : Pg) (d : GAd) (B0 cb : Nat) (hfs : FewFs p) (x : Cl) (L : Option Addr) (ln lc : Nat) (w : World) (hC : ChkAt w B0 cb d p) :
 Calls Tryz.prog 68 #[.pointer (some ⟨cb,0,none⟩),cellV x.k ⟨x.nm.toArray⟩ (.slice L ln lc)] w fun e w' => ParEnd (cellPsE p x) e w' ∧ Below w.heap.size w w':=by
 obtain ⟨k,nm,xl⟩:=x
 show Calls _ _ #[_,cellV k ⟨nm.toArray⟩ (.slice L ln lc)] _ _
 obtain ⟨W1,hW1⟩ : ∃ W1,W1 = w.alloc (cellC k ⟨nm.toArray⟩ (.slice L ln lc)):=⟨_,rfl⟩
 have hb1 : Below w.heap.size w W1:=by rw [hW1];exact below_alloc w _
 have hp1 : W1.heap[w.heap.size]? = some (cellC k ⟨nm.toArray⟩ (.slice L ln lc)):=by rw [hW1];exact heap_of_alloc w _
 have hmx : Tryz.prog.follows .mixedOrders = true:=by kernel_rfl
 obtain ⟨S,hS⟩ : ∃ S : World → Prop,S = fun W => Below W1.heap.size W1 W:=⟨_,rfl⟩
 have HS2 : Hid (∀ W,Below W1.heap.size W1 W → S W):=Lib.hid (fun W hb => by rw [hS];exact hb)
 have HX0:=Lib.hid (Below.refl W1.heap.size W1).drew
 have g0:=HS2.out _ HX0.out
 have HB1:=Lib.hid hb1
 by_cases h2 : k = 2
 ·subst h2
  obtain ⟨nd,hnd⟩ : ∃ nd,nd = p.ds.length:=⟨_,rfl⟩
  obtain ⟨q,hq⟩ : ∃ q,q = fstO (fun y : Df => y.nm) p.ds nm:=⟨_,rfl⟩
  have HR : Hid (cellPsE p ⟨2,nm,xl⟩ = dfPs q nm):=Lib.hid (by rw [hq];rfl)
  obtain ⟨R,hR⟩ : ∃ R,R = cellPsE p ⟨2,nm,xl⟩:=⟨_,rfl⟩
  rw [← hR] at HR ⊢
  have HLD : Hid (∀ W,S W → W.cell? ⟨cb,3,none⟩ = some (.slice d.d nd d.nd) ∧ W.cell? ⟨w.heap.size,1,none⟩ = some (.string ⟨nm.toArray⟩)):=Lib.hid (fun W hs => by
   rw [hS] at hs
   exact ⟨by rw [hnd];exact (hC.on (hb1.chain hs)).c3,cell_of_block (kept_box hs hp1) 1 rfl⟩)
  have HF : Hid (∀ W,Below W1.heap.size W1 W → Calls Tryz.prog 99 #[.slice d.d nd d.nd,.string ⟨nm.toArray⟩,.func (.func 100) #[] #[]] W (FndPost VDf nm q B0 W)):=Lib.hid (fun W hb => by
   have hk:=hC.on (hb1.chain hb)
   rw [hq,hnd]
   exact fnd_Def 100 (enters_of Tryz.func100 (by kernel_rfl) rfl) (·.nm) nm_Def nm p.ds d.d d.nd p.ds.length rfl hk.own.1.2.2.2.1 B0 W (Nat.le_trans hk.le (Nat.le_of_lt hk.lt)) (df_rowV hk.own.2.2.2.2.1))
  have HB0 : Hid (B0 ≤ w.heap.size):=Lib.hid (Nat.le_trans hC.le (Nat.le_of_lt hC.lt))
  have hfd:=fld_Def1
  clear hb1 hp1 hS hC hq hnd hR
  go_enter Tryz.func68,Tryz.ntmps68
  go_wp2
  rw [← hW1]
  clear hW1
  refine wp_region_held (S:=S) hmx ?_
  change wpAnyH _ _ _ _ _ 10 #[false,false,false,false,false,false,false,false,false,false] _ W1.drew
  refine tk 0 9 (.pointer (some ⟨cb,0,none⟩)) g0 ?v ?_
  case v => intro Wx hSx;go_simp
  refine tk 1 10 (.pointer (some ⟨cb,0,none⟩)) g0 ?v ?_
  case v => intro Wx hSx;go_simp
  refine tk 2 11 (.pointer (some ⟨cb,0,none⟩)) g0 ?v ?_
  case v => intro Wx hSx;go_simp
  refine tk 3 12 (.pointer (some ⟨cb,3,none⟩)) g0 ?v ?_
  case v => intro Wx hSx;go_simp
  try simp only [Act.put,List.setIfInBounds_toArray,List.set_cons_zero,List.set_cons_succ]
  refine tk 4 13 (.slice d.d nd d.nd) g0 ?v ?_
  case v => intro Wx hSx;obtain ⟨z1,z2⟩:=HLD.out Wx hSx;go_simp
  refine tk 5 14 (.pointer (some ⟨w.heap.size,1,none⟩)) g0 ?v ?_
  case v => intro Wx hSx;go_simp
  refine tk 6 15 (.string ⟨nm.toArray⟩) g0 ?v ?_
  case v => intro Wx hSx;obtain ⟨z1,z2⟩:=HLD.out Wx hSx;go_simp
  try simp only [Act.put,List.setIfInBounds_toArray,List.set_cons_zero,List.set_cons_succ]
  refine o1 7 (fun K hK => ?_)
  go_simp
  (with_reducible refine (HF.out _ HX0.out).mono ?_)
  rintro e w3 ⟨hr,hb3⟩
  have H3:=Lib.hid (HX0.out.chain hb3)
  clear hb3
  rcases hr with ⟨cs',y,rfl,ho,A,c,A2,c2,hcs,hy⟩ | ⟨ho,he⟩
  ·subst hcs
   have HV:=Lib.hid hy
   have HQ:=Lib.hid ho
   clear hy ho
   have g3:=HS2.out _ H3.out
   refine hK _ _ g3 ?_
   clear hK K
   refine tk 8 17 (.slice A y.ps.length c) g3 ?v ?_
   case v => intro Wx hSx;go_simp
   refine tk 9 4 (.slice A y.ps.length c) g3 ?v ?_
   case v => intro Wx hSx;go_simp
   try simp only [Act.put,List.setIfInBounds_toArray,List.set_cons_zero,List.set_cons_succ]
   refine wpAnyH_done (by kernel_rfl) ?_ _
   go_wp2
   go_ret
   refine ⟨?_,HB1.out.chain H3.out⟩
   rw [HR.out,HQ.out]
   refine ⟨A,_,c,rfl,rfl,HV.out.2.1,fun i z hz => ?_⟩
   obtain ⟨a,cs,q1,q2,q3⟩:=pm_rowV HV.out.2.2.2.1 i z hz
   exact ⟨a,cs,q1,Nat.lt_of_lt_of_le q2 (Nat.le_trans HB0.out (HB1.out.chain H3.out).size),q3⟩
  ·subst he
   refine ⟨rfl,?_,HB1.out.chain H3.out⟩
   rw [HR.out,ho]
   exact rfl
 ·have h2' : (k == 2) = false:=beq_eq_false_iff_ne.2 h2
  obtain ⟨nr,hnr⟩ : ∃ nr,nr = p.rs.length:=⟨_,rfl⟩
  obtain ⟨q,hq⟩ : ∃ q,q = fstO (fun y : Rc => y.nm) p.rs nm:=⟨_,rfl⟩
  have HR : Hid (cellPsE p ⟨k,nm,xl⟩ = rcPs q nm):=Lib.hid (by rw [hq];exact if_neg h2)
  obtain ⟨R,hR⟩ : ∃ R,R = cellPsE p ⟨k,nm,xl⟩:=⟨_,rfl⟩
  rw [← hR] at HR ⊢
  have HLD : Hid (∀ W,S W → W.cell? ⟨cb,0,none⟩ = some (.slice d.r nr d.nr) ∧ W.cell? ⟨w.heap.size,1,none⟩ = some (.string ⟨nm.toArray⟩)):=Lib.hid (fun W hs => by
   rw [hS] at hs
   exact ⟨by rw [hnr];exact (hC.on (hb1.chain hs)).c0,cell_of_block (kept_box hs hp1) 1 rfl⟩)
  have HF : Hid (∀ W,Below W1.heap.size W1 W → Calls Tryz.prog 95 #[.slice d.r nr d.nr,.string ⟨nm.toArray⟩,.func (.func 54) #[] #[]] W (FndPost VRc nm q B0 W)):=Lib.hid (fun W hb => by
   have hk:=hC.on (hb1.chain hb)
   rw [hq,hnr]
   exact fnd_Record 54 (enters_of Tryz.func54 (by kernel_rfl) rfl) (·.nm) nm_Record nm p.rs d.r d.nr p.rs.length rfl hk.own.1.1 B0 W (Nat.le_trans hk.le (Nat.le_of_lt hk.lt)) (rc_rowV hk.own.2.1))
  have HB0 : Hid (B0 ≤ w.heap.size):=Lib.hid (Nat.le_trans hC.le (Nat.le_of_lt hC.lt))
  have HQ : Hid (∀ y,q = some y → y.fs.length ≤ 4399999999998):=Lib.hid (fun y hy => hfs y (by
   rw [hq] at hy
   exact List.mem_of_find?_eq_some hy))
  clear hb1 hp1 hS hC hq hnr h2 hR
  go_enter Tryz.func68,Tryz.ntmps68
  go_upto_region 3 with fail
  rw [← hW1]
  clear hW1
  go_cut [5] from 18 to 25 (fun v5 wx => ∃ (g : Nat) (W : World) (y : Rc) (A : Option Addr) (c : Nat),W = wx ∧ v5 = .pointer (some ⟨g,0,none⟩) ∧ Hid (W.heap[g]? = some (.cells #[.string ⟨y.nm.toArray⟩,.slice A y.fs.length c] 56 (0,0)) ∧ Below W1.heap.size W1 W ∧ q = some y ∧ VRc W B0 #[.string ⟨y.nm.toArray⟩,.slice A y.fs.length c] y))
  case first =>
   refine wp_region_held (S:=S) hmx ?_
   change wpAnyH _ _ _ _ _ 10 #[false,false,false,false,false,false,false,false,false,false] _ W1.drew
   refine tk 0 18 (.pointer (some ⟨cb,0,none⟩)) g0 ?v ?_
   case v => intro Wx hSx;go_simp
   refine tk 1 19 (.pointer (some ⟨cb,0,none⟩)) g0 ?v ?_
   case v => intro Wx hSx;go_simp
   refine tk 2 20 (.pointer (some ⟨cb,0,none⟩)) g0 ?v ?_
   case v => intro Wx hSx;go_simp
   refine tk 3 21 (.pointer (some ⟨cb,0,none⟩)) g0 ?v ?_
   case v => intro Wx hSx;go_simp
   try simp only [Act.put,List.setIfInBounds_toArray,List.set_cons_zero,List.set_cons_succ]
   refine tk 4 22 (.slice d.r nr d.nr) g0 ?v ?_
   case v => intro Wx hSx;obtain ⟨z1,z2⟩:=HLD.out Wx hSx;go_simp
   refine tk 5 23 (.pointer (some ⟨w.heap.size,1,none⟩)) g0 ?v ?_
   case v => intro Wx hSx;go_simp
   refine tk 6 24 (.string ⟨nm.toArray⟩) g0 ?v ?_
   case v => intro Wx hSx;obtain ⟨z1,z2⟩:=HLD.out Wx hSx;go_simp
   try simp only [Act.put,List.setIfInBounds_toArray,List.set_cons_zero,List.set_cons_succ]
   refine anyH_two 7 8 (by kernel_rfl) rfl rfl (by kernel_rfl) (by kernel_rfl) (fun K hK => ?_) (fun K hK => ?_)
   ·go_simp
    (with_reducible refine (HF.out _ HX0.out).mono ?_)
    rintro e w3 ⟨hr,hb3⟩
    have H3:=Lib.hid (HX0.out.chain hb3)
    clear hb3
    rcases hr with ⟨cs',y,rfl,ho,A,c,hcs,hy⟩ | ⟨ho,he⟩
    ·subst hcs
     have HV:=Lib.hid (show VRc w3 B0 #[.string ⟨y.nm.toArray⟩,.slice A y.fs.length c] y from ⟨A,c,rfl,hy⟩)
     have HO:=Lib.hid ho
     clear hy ho
     refine hK _ _ (HS2.out _ H3.out) ?_
     clear hK K
     try simp only [Act.put,List.setIfInBounds_toArray,List.set_cons_zero,List.set_cons_succ]
     have hst:=st_new (w:=w3) (t:=56) (zc:=zRecord) (cs:=#[.string ⟨y.nm.toArray⟩,.slice A y.fs.length c]) rfl (by rw [List.all_toArray];rfl)
     have H4:=Lib.hid (H3.out.alloc H3.out.size (.cells zRecord 56))
     have H5:=Lib.hid (H3.out.alloc H3.out.size (.cells #[.string ⟨y.nm.toArray⟩,.slice A y.fs.length c] 56))
     refine o1 8 (fun K hK => ?_)
     go_simp
     refine hK _ _ (HS2.out _ H4.out) ?_
     clear hK K
     try simp only [Act.put,List.setIfInBounds_toArray,List.set_cons_zero,List.set_cons_succ]
     refine o1 9 (fun K hK => ?_)
     go_simp
     refine hK _ _ (HS2.out _ H5.out) ?_
     clear hK K
     refine wpAnyH_done (by kernel_rfl) ?_ _
     go_wp2
     go_meet
     exact ⟨_,_,y,A,c,rfl,rfl,Lib.hid ⟨heap_of_alloc w3 _,H5.out,HO.out,keptB vrc_keeps (Nat.le_trans HB0.out (HB1.out.chain H3.out).size) (Nat.le_refl _) (below_alloc w3 _) HV.out⟩⟩
    ·subst he
     refine ⟨rfl,?_,HB1.out.chain H3.out⟩
     rw [HR.out,ho]
     exact rfl
   ·go_simp
    have HA:=Lib.hid ((Below.refl W1.heap.size W1).alloc (Nat.le_refl _) (.cells zRecord 56)).drew
    have HPA : Hid ((W1.alloc (.cells zRecord 56)).drew.heap[W1.heap.size]? = some (.cells zRecord 56)):=Lib.hid (heap_of_alloc W1 (.cells zRecord 56))
    refine hK _ _ (HS2.out _ HA.out) ?_
    clear hK K
    try simp only [Act.put,List.setIfInBounds_toArray,List.set_cons_zero,List.set_cons_succ]
    refine o1 7 (fun K hK => ?_)
    go_simp
    (with_reducible refine (HF.out _ HA.out).mono ?_)
    rintro e w3 ⟨hr,hb3⟩
    have hbx:=kept_box hb3 HPA.out
    have H3:=Lib.hid (HA.out.chain hb3)
    clear hb3
    rcases hr with ⟨cs',y,rfl,ho,A,c,hcs,hy⟩ | ⟨ho,he⟩
    ·subst hcs
     have HV:=Lib.hid (show VRc w3 B0 #[.string ⟨y.nm.toArray⟩,.slice A y.fs.length c] y from ⟨A,c,rfl,hy⟩)
     have HO:=Lib.hid ho
     clear hy ho
     refine hK _ _ (HS2.out _ H3.out) ?_
     clear hK K
     try simp only [Act.put,List.setIfInBounds_toArray,List.set_cons_zero,List.set_cons_succ]
     have z0:=cell_of_block hbx 0 (v:=.string ⟨#[]⟩) rfl
     have z1:=cell_of_block hbx 1 (v:=.slice none 0 0) rfl
     have f0:=frozen_at hbx 0
     have f1:=frozen_at hbx 1
     obtain ⟨W5,hW5⟩ : ∃ W5,W5 = (w3.setCell ⟨W1.heap.size,0,none⟩ (.string ⟨y.nm.toArray⟩)).setCell ⟨W1.heap.size,1,none⟩ (.slice A y.fs.length c):=⟨_,rfl⟩
     have HY : Hid (W5.heap[W1.heap.size]? = some (.cells #[.string ⟨y.nm.toArray⟩,.slice A y.fs.length c] 56 (0,0))):=Lib.hid (by rw [hW5];exact heap_setCell_at (heap_setCell_at hbx 0 (.string ⟨y.nm.toArray⟩)) 1 (.slice A y.fs.length c))
     have hb35 : Below W1.heap.size w3 W5:=by rw [hW5];exact ((Below.refl W1.heap.size w3).setCell (p:=⟨W1.heap.size,0,none⟩) (Nat.le_refl _) _).setCell (p:=⟨W1.heap.size,1,none⟩) (Nat.le_refl _) _
     have H5:=Lib.hid (H3.out.trans hb35)
     have HV5:=Lib.hid (vrc_keeps w3 W5 B0 B0 _ _ (fun qq hqq => hb35.cell (Nat.lt_of_lt_of_le hqq (Nat.le_trans HB0.out HB1.out.size))) (Nat.le_refl _) HV.out)
     clear hb35
     clear hbx
     refine o1 9 (fun K hK => ?_)
     go_simp
     rw [← hW5]
     clear hW5
     refine hK _ _ (HS2.out _ H5.out) ?_
     clear hK K
     refine wpAnyH_done (by kernel_rfl) ?_ _
     go_wp2
     go_meet
     exact ⟨_,_,y,A,c,rfl,rfl,Lib.hid ⟨HY.out,H5.out,HO.out,HV5.out⟩⟩
    ·subst he
     refine ⟨rfl,?_,HB1.out.chain H3.out⟩
     rw [HR.out,ho]
     exact rfl
  case rest =>
   obtain ⟨g,W3,y,A,c,rfl,rfl,H⟩:=hcut
   obtain ⟨h1,h2,h3,A',c',h4,hnml,hfl,hrow⟩:=H.out
   obtain ⟨rfl,rfl⟩ : A = A' ∧ c = c':=by
    have e : (.slice A y.fs.length c : Value) = .slice A' y.fs.length c':=by
     have := congrArg (fun a : Array Value => a[1]?) h4
     exact Option.some.inj this
    injection e with e1 _ e2
    exact ⟨e1,e2⟩
   have HQy:=Lib.hid (HQ.out y h3)
   have hB3 : B0 ≤ W3.heap.size:=Nat.le_trans HB0.out (HB1.out.chain h2).size
   have c0:=cell_of_block h1 0 (v:=.string ⟨y.nm.toArray⟩) rfl
   have c1:=cell_of_block (heap_keep (o:=.cells #[.string ⟨y.nm.toArray⟩,.string ⟨#[]⟩] 35) h1) 1 (v:=.slice A y.fs.length c) rfl
   obtain ⟨W4,hW4⟩ : ∃ W4,W4 = W3.alloc (.cells #[.string ⟨y.nm.toArray⟩,.string ⟨#[]⟩] 35):=⟨_,rfl⟩
   obtain ⟨W5,hW5⟩ : ∃ W5,W5 = W4.alloc (.cells #[.slice (some ⟨W3.heap.size,0,none⟩) 1 1,.slice A y.fs.length c] 23):=⟨_,rfl⟩
   have hb34 : Below W3.heap.size W3 W4:=by rw [hW4];exact below_alloc W3 _
   have hb45 : Below W4.heap.size W4 W5:=by rw [hW5];exact below_alloc W4 _
   have hs4 : W4.heap.size = W3.heap.size + 1:=by rw [hW4,World.size_alloc]
   have hs5 : W5.heap.size = W4.heap.size + 1:=by rw [hW5,World.size_alloc]
   have hp5 : W5.heap[W3.heap.size + 1]? = some (.cells #[.slice (some ⟨W3.heap.size,0,none⟩) 1 1,.slice A y.fs.length c] 23):=by rw [← hs4,hW5];exact heap_of_alloc W4 _
   have r1 : Reads W5 W5.heap.size 2 (some ⟨W3.heap.size,0,none⟩) 1 (pcL [⟨y.nm,[]⟩]):=by
    have h:=pm_one (t:=y.nm) (n:=[]) W3 35 hnml (by unfold maxLen;exact Nat.zero_le _) rfl
    rw [show W3.alloc (.cells #[.string ⟨y.nm.toArray⟩,.string ⟨([] : List UInt8).toArray⟩] 35) = W4 from hW4.symm] at h
    exact (pc_reads (rowB vpm_keeps (Nat.le_refl _) hb45 h)).more hb45.size
   have r2 : Reads W5 W5.heap.size 2 A y.fs.length (pcL y.fs):=(pc_reads (rowB vpm_keeps hB3 (hb34.chain hb45) (pm_rowV hrow))).more (Nat.le_trans hB3 (hb34.chain hb45).size)
   have HC:=Lib.hid (concat2 (some ⟨W3.heap.size,0,none⟩) A 1 1 y.fs.length c (W3.heap.size + 1) [⟨y.nm,[]⟩] y.fs (by have := HQy.out;omega) W5 r1 r2 (cell_of_block hp5 0 rfl) (cell_of_block hp5 1 rfl) (by omega))
   have H5:=Lib.hid (HB1.out.chain (h2.chain (hb34.chain hb45)))
   have HL : Hid (∀ z ∈ (⟨y.nm,[]⟩ :: y.fs : List Pm),z.t.length ≤ maxLen ∧ z.nm.length ≤ maxLen):=Lib.hid (fun z hz => by
    rcases List.mem_cons.1 hz with rfl | hz
    ·exact ⟨hnml,by unfold maxLen;exact Nat.zero_le _⟩
    ·exact pm_lens' (pm_rowV hrow) z hz)
   have HO:=Lib.hid h3
   clear h1 h2 h3 h4 hnml hfl hrow hB3 hb34 hb45 hs5 hp5 r1 r2
   go_wp2_with fail
   rw [← hW4,← hs4,← hW5] at *
   clear hW5 hW4
   (with_reducible refine HC.out.mono ?_)
   rintro e w6 ⟨v,rfl,hv,hb6⟩
   have H6:=Lib.hid (H5.out.chain hb6)
   have HV:=Lib.hid hv
   clear hb6 hv
   go_wp2
   go_ret
   obtain ⟨A6,k6,rfl⟩:=own_sliceM HV.out
   refine ⟨?_,H6.out⟩
   rw [HR.out,HO.out]
   have hlen : 1 + y.fs.length = (⟨y.nm,[]⟩ :: y.fs : List Pm).length:=by rw [List.length_cons,Nat.add_comm]
   refine ⟨A6,_,k6,rfl,hlen,by have := HQy.out;unfold maxLen;omega,pc_row hlen ?_ HL.out⟩
   have h:=Reads.of_own HV.out
   rwa [← pcL_append] at h
end Go.Proofs.YthenbbpagbdbeaaGreatDoor
namespace Go.Proofs.YthenbbpagbdbeaaGreatDoor
set_option maxRecDepth 100000
set_option maxHeartbeats 16000000
open Go.RowKit Go.Lib
theorem varsTop {w : World} {B : Nat} {sc br : List Pm} {A : Option Addr} {n : Nat} {D : Option Addr} {m : Nat} (h : VarsAt w B sc br A n D m) : VarsAt w w.heap.size sc br A n D m :=
 ⟨h.hn,h.hm,h.hn2,h.hm2,Nat.le_refl _,fun i x hi => by
   obtain ⟨a,cs,h1,h2,h3⟩:=h.r1 i x hi
   exact ⟨a,cs,h1,Nat.lt_of_lt_of_le h2 h.hB,h3⟩,fun i x hi => by
   obtain ⟨a,cs,h1,h2,h3⟩:=h.r2 i x hi
   exact ⟨a,cs,h1,Nat.lt_of_lt_of_le h2 h.hB,h3⟩⟩
theorem rowTop {w : World} {B : Nat} (hB : B ≤ w.heap.size) {l : List Pm} {A : Option Addr} (h : RowV VPm 2 w B l A) : RowV VPm 2 w w.heap.size l A:=fun i x hi => by
 obtain ⟨a,cs,h1,h2,h3⟩:=h i x hi
 exact ⟨a,cs,h1,Nat.lt_of_lt_of_le h2 hB,h3⟩
theorem tfm_any (p : Pg) (d : GAd) (B0 cb : Nat) (hfs : FewFs p) (f : Fm) (hf : FmFew f) : FmOk p d B0 cb f:=by
 intro sc G n c B1 fd w hn hm hB1 hG hC hF
 obtain ⟨Fp,Fa,Fc,kp,ka,kc⟩:=fd
 obtain ⟨hls,rp,ra,rc⟩:=hF
 dsimp only at rp ra rc
 dsimp only
 obtain ⟨np,hnp⟩ : ∃ z,z = f.ps.length:=⟨_,rfl⟩
 obtain ⟨na,hna⟩ : ∃ z,z = f.ats.length:=⟨_,rfl⟩
 obtain ⟨nc,hnc⟩ : ∃ z,z = f.cls.length:=⟨_,rfl⟩
 rw [← hnp,← hna,← hnc]
 have hB0 : B0 ≤ w.heap.size:=Nat.le_trans hC.le (Nat.le_of_lt hC.lt)
 have hmx : Tryz.prog.follows .mixedOrders = true:=by kernel_rfl
 obtain ⟨W1,hW1⟩ : ∃ W1,W1 = w.alloc (formulaC (.slice Fp np kp) (.slice Fa na ka) (.slice Fc nc kc)):=⟨_,rfl⟩
 have hb1 : Below w.heap.size w W1:=by rw [hW1];exact below_alloc w _
 have hp1 : W1.heap[w.heap.size]? = some (formulaC (.slice Fp np kp) (.slice Fa na ka) (.slice Fc nc kc)):=by rw [hW1];exact heap_of_alloc w _
 have HK : Hid (∀ W,Below W1.heap.size W1 W → W.cell? ⟨w.heap.size,0,none⟩ = some (.slice Fp np kp) ∧ W.cell? ⟨w.heap.size,1,none⟩ = some (.slice Fa na ka) ∧ W.cell? ⟨w.heap.size,2,none⟩ = some (.slice Fc nc kc)):=Lib.hid (fun W hb => by
  have q:=kept_box hb hp1
  exact ⟨cell_of_block q 0 rfl,cell_of_block q 1 rfl,cell_of_block q 2 rfl⟩)
 have HB1:=Lib.hid hb1
 -- the memory that came in,in every world behind
 have HP : Hid (∀ W,Below W1.heap.size W1 W → RowV VPm 2 W B0 f.ps Fp):=Lib.hid (fun W hb => rowB vpm_keeps hB0 (hb1.chain hb) (pm_rowV rp))
 have HA : Hid (∀ W,Below W1.heap.size W1 W → AtRow W B0 f.ats Fa):=Lib.hid (fun W hb => ra.stay at_keeps (hb1.chain hb) hB0)
 have HC : Hid (∀ W,Below W1.heap.size W1 W → ClRow W B0 f.cls Fc):=Lib.hid (fun W hb => rc.stay cl_keeps (hb1.chain hb) hB0)
 have HChk : Hid (∀ W,Below W1.heap.size W1 W → ChkAt W B0 cb d p):=Lib.hid (fun W hb => hC.on (hb1.chain hb))
 have HG : Hid (∀ W,Below W1.heap.size W1 W → RowV VPm 2 W B1 sc G):=Lib.hid (fun W hb => rowB vpm_keeps hB1 (hb1.chain hb) hG)
 have HLe : Hid (∀ W,Below W1.heap.size W1 W → B0 ≤ W.heap.size ∧ B1 ≤ W.heap.size ∧ w.heap.size ≤ W.heap.size):=Lib.hid (fun W hb => by have := (hb1.chain hb).size;exact ⟨by omega,by omega,by omega⟩)
 have HN:=Lib.hid (And.intro hn (And.intro hm (And.intro hnp (And.intro hna (And.intro hnc (And.intro hls (And.intro hf hfs)))))))
 have hnp6 : np ≤ 1000000:=by rw [hnp];exact hf.1
 have hna6 : na ≤ 1000000:=by rw [hna];exact hf.2.1
 have hnc6 : nc ≤ 1000000:=by rw [hnc];exact hf.2.2.1
 obtain ⟨a0,a1,a2⟩:=HK.out _ (Below.refl _ _)
 obtain ⟨R,hR⟩ : ∃ R : Ck,R = fmC p sc f:=⟨_,rfl⟩
 have HR:=Lib.hid hR
 rw [← hR]
 clear hls rp ra rc hnp hna hnc hn hm hB1 hG hC hB0 hb1 hp1 hf hfs hR
 rw [hW1] at a0 a1 a2
 go_enter Tryz.func45,Tryz.ntmps45
 go_wp2
 rw [← hW1]
 clear a0 a1 a2 hW1
 go_loopg [16] np (fun mm j wr => ∃ i : Nat,mm = np - i ∧ i ≤ np ∧ j = .int .i64 i ∧ Hid (Below W1.heap.size W1 wr ∧ allC (exiC sc) (f.ps.take i) = none))
 case atStart => exact ⟨0,rfl,Nat.zero_le _,rfl,Lib.hid ⟨Below.refl _ _,rfl⟩⟩
 case round =>
  obtain ⟨i,rfl,hi,rfl,HI⟩:=hrel
  have hi0 : (0 : Int) ≤ i:=by omega
  by_cases hlt : i < np
  ·have hii : (i : Int) < np:=by omega
   obtain ⟨x,hx⟩ : ∃ x,f.ps[i]? = some x:=⟨f.ps[i]'(by rw [← HN.out.2.2.1];exact hlt),List.getElem?_eq_getElem _⟩
   obtain ⟨a,cs,rfl,hab,hcs,hca,hv⟩:=HP.out wr HI.out.1 i x hx
   obtain ⟨hv0,hv1,hv2⟩:=hv
   have e0 : wr.cell? (a.add (i * 2)) = some (.string ⟨x.t.toArray⟩):=by
    have h:=hca 0 _ (by rw [hv0];rfl)
    rwa [add_add_plain,Nat.add_zero] at h
   have e1 : wr.cell? ⟨(a.add (i * 2)).block,(a.add (i * 2)).off + 1,none⟩ = some (.string ⟨x.nm.toArray⟩):=hca 1 _ (by rw [hv0];rfl)
   obtain ⟨u,hu⟩ : ∃ u,u = x.t:=⟨_,rfl⟩
   obtain ⟨y,hy⟩ : ∃ y,y = x.nm:=⟨_,rfl⟩
   rw [← hu] at e0
   rw [← hy] at e1
   obtain ⟨W6,hW6⟩ : ∃ W6,W6 = wr.alloc (.cells #[.string ⟨u.toArray⟩,.string ⟨y.toArray⟩] 35):=⟨_,rfl⟩
   have hb6 : Below wr.heap.size wr W6:=by rw [hW6];exact below_alloc wr _
   have hp6 : W6.heap[wr.heap.size]? = some (.cells #[.string ⟨u.toArray⟩,.string ⟨y.toArray⟩] 35 (0,0)):=by rw [hW6];exact heap_of_alloc wr _
   have H6:=Lib.hid (HI.out.1.chain hb6)
   obtain ⟨h,hh⟩ : ∃ h,h = (fstO (fun z : Pm => z.nm) sc y).isSome:=⟨_,rfl⟩
   have HX : Hid (f.ps[i]? = some x ∧ exiC sc x = demC (!h) 8 y):=Lib.hid ⟨hx,by unfold exiC;rw [hh,hy]⟩
   have HHas : Hid (BC W6 63 #[.slice G n c,.string ⟨y.toArray⟩] h):=Lib.hid (fun W hb => by
    rw [hh]
    exact has_any' y sc G c n HN.out.1 (Nat.le_trans HN.out.2.1 (by unfold maxLen;omega)) B1 W (HLe.out W (H6.out.chain hb)).2.1 (HG.out W (H6.out.chain hb)))
   obtain ⟨S,hS⟩ : ∃ S : World → Prop,S = fun W => Below W6.heap.size W6 W:=⟨_,rfl⟩
   have HS2 : Hid (∀ W,Below W6.heap.size W6 W → S W):=Lib.hid (fun W hb => by rw [hS];exact hb)
   have HLD : Hid (∀ W,S W → W.cell? ⟨wr.heap.size,1,none⟩ = some (.string ⟨y.toArray⟩)):=Lib.hid (fun W hs => by
    rw [hS] at hs
    exact cell_of_block (kept_box hs hp6) 1 rfl)
   have HX0:=Lib.hid (Below.refl W6.heap.size W6).drew
   have g0:=HS2.out _ HX0.out
   clear hca hab hcs hv0 hv1 hv2 hx hu hy hh hb6 hp6 hS
   go_wp2
   rw [← hW6]
   clear hW6
   refine wp_region_held (S:=S) hmx ?_
   change wpAnyH _ _ _ _ _ 8 #[false,false,false,false,false,false,false,false] _ W6.drew
   refine tk 0 20 (.slice G n c) g0 ?v ?_
   case v => intro Wx hSx;go_simp
   refine tk 1 21 (.pointer (some ⟨wr.heap.size,1,none⟩)) g0 ?v ?_
   case v => intro Wx hSx;go_simp
   refine tk 2 22 (.string ⟨y.toArray⟩) g0 ?v ?_
   case v => intro Wx hSx;obtain z1:=HLD.out Wx hSx;go_simp
   refine tk 5 25 (.pointer (some ⟨wr.heap.size,1,none⟩)) g0 ?v ?_
   case v => intro Wx hSx;go_simp
   try simp only [Act.put,List.setIfInBounds_toArray,List.set_cons_zero,List.set_cons_succ]
   refine tk 6 26 (.string ⟨y.toArray⟩) g0 ?v ?_
   case v => intro Wx hSx;obtain z1:=HLD.out Wx hSx;go_simp
   try simp only [Act.put,List.setIfInBounds_toArray,List.set_cons_zero,List.set_cons_succ]
   refine o1 3 (fun K hK => ?_)
   go_simp
   (with_reducible refine (HHas.out _ HX0.out).mono ?_)
   rintro e x1 ⟨rfl,hb⟩
   have X1:=Lib.hid (HX0.out.chain hb)
   clear hb
   refine hK _ _ (HS2.out _ X1.out) ?_
   clear hK K
   try simp only [Act.put,List.setIfInBounds_toArray,List.set_cons_zero,List.set_cons_succ]
   refine tk 4 24 (.bool (!h)) (HS2.out _ X1.out) ?v ?_
   case v => intro Wx hSx;go_simp
   try simp only [Act.put,List.setIfInBounds_toArray,List.set_cons_zero,List.set_cons_succ]
   refine o1 7 (fun K hK => ?_)
   go_simp
   (with_reducible refine (demand_any (!h) 8 y x1).mono ?_)
   rintro e x2 ⟨he,hw⟩
   subst hw
   cases h
   ·obtain rfl : e = _:=he
    refine hK _ _ (HS2.out _ X1.out) ?_
    clear hK K
    refine wpAnyH_done (by kernel_rfl) ?_ _
    go_wp2
    go_roundg (np - (i + 1))
    case measure => omega
    case rel => exact ⟨i + 1,rfl,by omega,by go_num,Lib.hid ⟨H6.out.chain X1.out,by rw [allC_take_succ _ f.ps i x HX.out.1,HI.out.2,seqC_none,HX.out.2];rfl⟩⟩
   ·obtain rfl : e = _:=he
    refine ⟨rfl,?_,HB1.out.chain (H6.out.chain X1.out)⟩
    rw [HR.out]
    unfold fmC
    rw [allC_some (exiC sc) f.ps i x (y,8) HX.out.1 HI.out.2 (by rw [HX.out.2];rfl)]
    exact rfl
  ·obtain rfl : np = i:=by omega
   have HEx : Hid (allC (exiC sc) f.ps = none):=Lib.hid (by
    have h:=HI.out.2
    rwa [List.take_of_length_le (by rw [← HN.out.2.2.1];exact Nat.le_refl _)] at h)
   have H0:=Lib.hid HI.out.1
   clear HI
   obtain ⟨b0,b1,b2⟩:=HK.out _ H0.out
   have HT:=Lib.hid (types_any p d B0 cb f.ps Fp kp np HN.out.2.2.1 (by unfold maxLen;omega) B0 wr (HLe.out wr H0.out).1 (HP.out wr H0.out) (HChk.out wr H0.out))
   obtain ⟨r2,hr2⟩ : ∃ r,r = tysC p.rs f.ps:=⟨_,rfl⟩
   rw [← hr2] at HT
   have HR2:=Lib.hid hr2
   clear hr2
   go_wp2_with fail
   (with_reducible refine HT.out.mono ?_)
   rintro e w2 ⟨he,hb⟩
   have H2:=Lib.hid (H0.out.chain hb)
   clear hb b0 b1 b2
   cases r2 with
   | some t =>
     obtain rfl : e = _:=he
     refine ⟨rfl,?_,HB1.out.chain H2.out⟩
     rw [HR.out]
     unfold fmC
     rw [HEx.out,seqC_none,← HR2.out]
     exact rfl
   | none =>
   obtain rfl : e = _:=he
   obtain ⟨b0,b1,b2⟩:=HK.out _ H2.out
   obtain ⟨W7,hW7⟩ : ∃ W7,W7 = w2.alloc (.cells #[.slice G n c,.slice Fp np kp] 23):=⟨_,rfl⟩
   have hb7 : Below w2.heap.size w2 W7:=by rw [hW7];exact below_alloc w2 _
   have hp7 : W7.heap[w2.heap.size]? = some (.cells #[.slice G n c,.slice Fp np kp] 23 (0,0)):=by rw [hW7];exact heap_of_alloc w2 _
   have H7:=Lib.hid (H2.out.chain hb7)
   have HCc:=Lib.hid (concat2 G Fp n c np kp w2.heap.size sc f.ps (by have := HN.out.2.1;omega) W7 (by have h:=pc_reads (rowTop (HLe.out W7 H7.out).2.1 (HG.out W7 H7.out));rw [← HN.out.1] at h;exact h) (by have h:=pc_reads (rowTop (HLe.out W7 H7.out).1 (HP.out W7 H7.out));rw [← HN.out.2.2.1] at h;exact h) (cell_of_block hp7 0 rfl) (cell_of_block hp7 1 rfl) (by rw [hW7,size_of_alloc];omega))
   clear hb7 hp7
   go_wp2_with fail
   rw [← hW7]
   clear hW7 b0 b1 b2
   (with_reducible refine HCc.out.mono ?_)
   rintro e w3 ⟨v,rfl,hown,hb⟩
   obtain ⟨Av,cv,rfl⟩:=own_sliceM hown
   have H3:=Lib.hid (H7.out.chain hb)
   obtain ⟨m,hm⟩ : ∃ m,m = n + np:=⟨_,rfl⟩
   have HL : Hid (m = (sc ++ f.ps).length):=Lib.hid (by rw [hm,List.length_append,← HN.out.1,← HN.out.2.2.1])
   have hrow : RowV VPm 2 w3 w3.heap.size (sc ++ f.ps) Av:=by
    have hr:=Reads.of_own hown
    rw [← pcL_append] at hr
    refine pc_row (HL.out ▸ hm ▸ rfl) hr (fun x hx => ?_)
    rcases List.mem_append.1 hx with hx | hx
    ·exact pm_lens' (HG.out w3 H3.out) x hx
    ·exact pm_lens' (HP.out w3 H3.out) x hx
   rw [← hm]
   have hmm : m ≤ 4000000000000:=by have := HN.out.2.1;omega
   obtain ⟨W8,hW8⟩ : ∃ W8,W8 = w3.alloc (varsC Av m cv none 0 0):=⟨_,rfl⟩
   have hb8 : Below w3.heap.size w3 W8:=by rw [hW8];exact below_alloc w3 _
   have hp8 : W8.heap[w3.heap.size]? = some (varsC Av m cv none 0 0):=by rw [hW8];exact heap_of_alloc w3 _
   have H8:=Lib.hid (H3.out.chain hb8)
   have HV : Hid (VarsAt W8 w3.heap.size (sc ++ f.ps) [] Av m none 0):=Lib.hid ⟨HL.out,by unfold maxLen;omega,rfl,Nat.zero_le _,hb8.size,rowB vpm_keeps (Nat.le_refl _) hb8 hrow,fun i x hi => by simp at hi⟩
   have HP8:=Lib.hid hp8
   obtain ⟨b0,b1,b2⟩:=HK.out _ H8.out
   clear hb hown hrow hb8 hp8 hm
   go_upto_region 8 with fail
   rw [← hW8]
   clear hW8
   go_wp2
   clear b0 b1 b2
   go_loopg [42] na (fun mm j wr => ∃ i : Nat,mm = na - i ∧ i ≤ na ∧ j = .int .i64 i ∧ Hid (Below W8.heap.size W8 wr ∧ allC (atC (sc ++ f.ps)) (f.ats.take i) = none))
   case atStart => exact ⟨0,rfl,Nat.zero_le _,rfl,Lib.hid ⟨Below.refl _ _,rfl⟩⟩
   case round =>
    obtain ⟨i,rfl,hi,rfl,HI⟩:=hrel
    have hi0 : (0 : Int) ≤ i:=by omega
    by_cases hlt : i < na
    ·have hii : (i : Int) < na:=by omega
     obtain ⟨⟨k0,⟨ak,an,sa,al⟩,⟨bk,bn,sb,bl⟩⟩,hg⟩ : ∃ x,f.ats[i]? = some x:=⟨f.ats[i]'(by rw [← HN.out.2.2.2.1];exact hlt),List.getElem?_eq_getElem _⟩
     obtain ⟨a,rfl,hab,ak',an',sa',al',bk',bn',sb',bl',Aa0,ca0,Ab0,cb0,heq1,heq2,hcs,hls,ra,rb⟩:=(HA.out wr (H8.out.chain HI.out.1)).at_ hg
     obtain ⟨rfl,rfl,rfl,rfl⟩ : ak' = ak ∧ an' = an ∧ sa' = sa ∧ al' = al:=by injection heq1 with h1 h2 h3 h4;exact ⟨h1.symm,h2.symm,h3.symm,h4.symm⟩
     obtain ⟨rfl,rfl,rfl,rfl⟩ : bk' = bk ∧ bn' = bn ∧ sb' = sb ∧ bl' = bl:=by injection heq2 with h1 h2 h3 h4;exact ⟨h1.symm,h2.symm,h3.symm,h4.symm⟩
     obtain ⟨e0,e1,e2,e3,e4,e5,e6,e7,e8⟩:=hcs.flat
     obtain ⟨na0,hna0⟩ : ∃ n,n = al'.length:=⟨_,rfl⟩
     obtain ⟨nb0,hnb0⟩ : ∃ n,n = bl'.length:=⟨_,rfl⟩
     rw [← hna0] at e4
     rw [← hnb0] at e8
     obtain ⟨W6,hW6⟩ : ∃ W6,W6 = wr.alloc (.cells #[.int .i64 k0,.int .i64 ak',.int .i64 an',.string ⟨sa'.toArray⟩,.slice Aa0 na0 ca0,.int .i64 bk',.int .i64 bn',.string ⟨sb'.toArray⟩,.slice Ab0 nb0 cb0] 136):=⟨_,rfl⟩
     have hb6 : Below wr.heap.size wr W6:=by rw [hW6];exact below_alloc wr _
     have hp6 : W6.heap[wr.heap.size]? = some (.cells #[.int .i64 k0,.int .i64 ak',.int .i64 an',.string ⟨sa'.toArray⟩,.slice Aa0 na0 ca0,.int .i64 bk',.int .i64 bn',.string ⟨sb'.toArray⟩,.slice Ab0 nb0 cb0] 136 (0,0)):=by rw [hW6];exact heap_of_alloc wr _
     have H6:=Lib.hid (HI.out.1.chain hb6)
     have hle:=(HLe.out W6 (H8.out.chain H6.out)).1
     have HCm:=Lib.hid (cmp_any (sc ++ f.ps) [] Av m cv none 0 0 w3.heap.size k0 ak' an' sa' al' Aa0 ca0 bk' bn' sb' bl' Ab0 cb0 W6 (HV.out.on H6.out) ((ra.stay hb6 (HLe.out wr (H8.out.chain HI.out.1)).1).more hle) ((rb.stay hb6 (HLe.out wr (H8.out.chain HI.out.1)).1).more hle) hls.1 hls.2.1 hls.2.2.1 hls.2.2.2)
     obtain ⟨q,hq⟩ : ∃ q,q = cmpC (sc ++ f.ps) [] k0 (.mk ak' an' sa' al') (.mk bk' bn' sb' bl'):=⟨_,rfl⟩
     rw [← hq,← hna0,← hnb0] at HCm
     have HX:=Lib.hid (And.intro hg hq)
     have p6:=kept_box H6.out HP8.out
     have v0:=cell_of_block p6 0 (v:=.slice Av m cv) rfl
     have v1:=cell_of_block p6 1 (v:=.slice none 0 0) rfl
     have f0:=cell_of_block hp6 0 rfl
     have f1:=cell_of_block hp6 1 rfl
     have f2:=cell_of_block hp6 2 rfl
     have f3:=cell_of_block hp6 3 rfl
     have f4:=cell_of_block hp6 4 rfl
     have f5:=cell_of_block hp6 5 rfl
     have f6:=cell_of_block hp6 6 rfl
     have f7:=cell_of_block hp6 7 rfl
     have f8:=cell_of_block hp6 8 rfl
     clear hab heq1 heq2 hcs hls ra rb hb6 hp6 p6 hle hg hq hna0 hnb0
     go_upto_region 11 with fail
     rw [← hW6]
     clear hW6 e0 e1 e2 e3 e4 e5 e6 e7 e8
     go_wp2_with fail
     clear v0 v1 f0 f1 f2 f3 f4 f5 f6 f7 f8
     (with_reducible refine HCm.out.mono ?_)
     rintro e w5 ⟨he,hb⟩
     have H5:=Lib.hid (H6.out.chain hb)
     clear hb
     cases q with
     | some t =>
       obtain rfl : e = _:=he
       refine ⟨rfl,?_,HB1.out.chain (H8.out.chain H5.out)⟩
       rw [HR.out]
       unfold fmC
       rw [HEx.out,seqC_none,← HR2.out,seqC_none,allC_some (atC (sc ++ f.ps)) f.ats i _ t HX.out.1 HI.out.2 HX.out.2.symm]
       exact rfl
     | none =>
       obtain rfl : e = _:=he
       go_wp2
       go_roundg (na - (i + 1))
       case measure => omega
       case rel => exact ⟨i + 1,rfl,by omega,by go_num,Lib.hid ⟨H5.out,by rw [allC_take_succ _ f.ats i _ HX.out.1,HI.out.2,seqC_none];exact HX.out.2.symm⟩⟩
    ·obtain rfl : na = i:=by omega
     have HAt : Hid (allC (atC (sc ++ f.ps)) f.ats = none):=Lib.hid (by
      have h:=HI.out.2
      rwa [List.take_of_length_le (by rw [← HN.out.2.2.2.1];exact Nat.le_refl _)] at h)
     have H9:=Lib.hid HI.out.1
     clear HI
     obtain ⟨b0,b1,b2⟩:=HK.out _ (H8.out.chain H9.out)
     go_wp2
     clear b0 b1 b2
     go_loopg [58] nc (fun mm j wr => ∃ i : Nat,mm = nc - i ∧ i ≤ nc ∧ j = .int .i64 i ∧ Hid (Below W8.heap.size W8 wr ∧ allC (clC p (sc ++ f.ps)) (f.cls.take i) = none))
     case atStart => exact ⟨0,rfl,Nat.zero_le _,rfl,Lib.hid ⟨H9.out,rfl⟩⟩
     case round =>
      obtain ⟨i,rfl,hi,rfl,HI⟩:=hrel
      have hi0 : (0 : Int) ≤ i:=by omega
      by_cases hlt : i < nc
      ·have hii : (i : Int) < nc:=by omega
       obtain ⟨⟨k0,nm0,l0⟩,hg⟩ : ∃ x,f.cls[i]? = some x:=⟨f.cls[i]'(by rw [← HN.out.2.2.2.2.1];exact hlt),List.getElem?_eq_getElem _⟩
       obtain ⟨a,rfl,hab,A',c',d0,d1,d2,hnl,hll,hrow,hcap⟩:=(HC.out wr (H8.out.chain HI.out.1)).at_ hg
       obtain ⟨nl,hnl0⟩ : ∃ n,n = l0.length:=⟨_,rfl⟩
       have e0 : wr.cell? (a.add (i * 3)) = some (.int .i64 k0):=d0
       have e1 : wr.cell? ⟨(a.add (i * 3)).block,(a.add (i * 3)).off + 1,none⟩ = some (.string ⟨nm0.toArray⟩):=d1
       have e2 : wr.cell? ⟨(a.add (i * 3)).block,(a.add (i * 3)).off + 2,none⟩ = some (.slice A' nl c'):=by rw [hnl0];exact d2
       obtain ⟨W6,hW6⟩ : ∃ W6,W6 = wr.alloc (cellC k0 ⟨nm0.toArray⟩ (.slice A' nl c')):=⟨_,rfl⟩
       have hb6 : Below wr.heap.size wr W6:=by rw [hW6];exact below_alloc wr _
       have hp6 : W6.heap[wr.heap.size]? = some (cellC k0 ⟨nm0.toArray⟩ (.slice A' nl c')):=by rw [hW6];exact heap_of_alloc wr _
       have H6:=Lib.hid (HI.out.1.chain hb6)
       have hle0:=(HLe.out wr (H8.out.chain HI.out.1)).1
       obtain ⟨r,hr⟩ : ∃ r,r = cellPsE p ⟨k0,nm0,l0⟩:=⟨_,rfl⟩
       have HCp : Hid (∀ W,Below W6.heap.size W6 W → Calls Tryz.prog 68 #[.pointer (some ⟨cb,0,none⟩),cellV k0 ⟨nm0.toArray⟩ (.slice A' nl c')] W fun e w' => ParEnd r e w' ∧ Below W.heap.size W w'):=Lib.hid (fun W hb => by
        rw [hr]
        exact cellps_any p d B0 cb HN.out.2.2.2.2.2.2.2 ⟨k0,nm0,l0⟩ A' nl c' W (HChk.out W (H8.out.chain (H6.out.chain hb))))
       have HAr : Hid (∀ (ps : List Pm) (P : Option Addr) (pn pc : Nat) (W : World),Below W6.heap.size W6 W → pn = ps.length → pn ≤ maxLen → RowV VPm 2 W W.heap.size ps P → Calls Tryz.prog 67 #[varsV Av m cv none 0 0,.slice A' nl c',.slice P pn pc,.string ⟨nm0.toArray⟩] W (CkPost (argsC (sc ++ f.ps) [] nm0 l0 ps) W)):=Lib.hid (fun ps P pn pc W hb h1 h2 h3 =>
        args_any (sc ++ f.ps) [] Av m cv none 0 0 W.heap.size nm0 l0 A' c' nl hnl0 (by rw [hnl0];exact hll) ps P pc pn h1 h2 W (varsTop (HV.out.on (H6.out.chain hb))) ((hrow.stay (hb6.chain hb) hle0).more (Nat.le_trans hle0 (hb6.chain hb).size)) h3)
       have HX : Hid (f.cls[i]? = some ⟨k0,nm0,l0⟩ ∧ clC p (sc ++ f.ps) ⟨k0,nm0,l0⟩ = bindC r fun ps => argsC (sc ++ f.ps) [] nm0 l0 ps):=Lib.hid ⟨hg,by rw [hr];rfl⟩
       obtain ⟨S,hS⟩ : ∃ S : World → Prop,S = fun W => Below W6.heap.size W6 W:=⟨_,rfl⟩
       have HS2 : Hid (∀ W,Below W6.heap.size W6 W → S W):=Lib.hid (fun W hb => by rw [hS];exact hb)
       have HLD : Hid (∀ W,S W → W.cell? ⟨w3.heap.size,0,none⟩ = some (.slice Av m cv) ∧ W.cell? ⟨w3.heap.size,1,none⟩ = some (.slice none 0 0) ∧ W.cell? ⟨wr.heap.size,0,none⟩ = some (.int .i64 k0) ∧ W.cell? ⟨wr.heap.size,1,none⟩ = some (.string ⟨nm0.toArray⟩) ∧ W.cell? ⟨wr.heap.size,2,none⟩ = some (.slice A' nl c')):=Lib.hid (fun W hs => by
        rw [hS] at hs
        have p6:=kept_box (H6.out.chain hs) HP8.out
        have q6:=kept_box hs hp6
        exact ⟨cell_of_block p6 0 rfl,cell_of_block p6 1 rfl,cell_of_block q6 0 rfl,cell_of_block q6 1 rfl,cell_of_block q6 2 rfl⟩)
       have HX0:=Lib.hid (Below.refl W6.heap.size W6).drew
       have g0:=HS2.out _ HX0.out
       clear hab d0 d1 d2 hnl hll hrow hcap hg hb6 hp6 hle0 hr hS hnl0
       go_upto_region 16 with fail
       rw [← hW6]
       clear hW6 e0 e1 e2
       refine wp_region_held (S:=S) hmx ?_
       change wpAnyH _ _ _ _ _ 9 #[false,false,false,false,false,false,false,false,false] _ W6.drew
       refine tk 0 62 (varsV Av m cv none 0 0) g0 ?v ?_
       case v => intro Wx hSx;obtain ⟨z1,z2,z3,z4,z5⟩:=HLD.out Wx hSx;go_simp
       refine tk 1 63 (.pointer (some ⟨wr.heap.size,2,none⟩)) g0 ?v ?_
       case v => intro Wx hSx;go_simp
       refine tk 2 64 (.slice A' nl c') g0 ?v ?_
       case v => intro Wx hSx;obtain ⟨z1,z2,z3,z4,z5⟩:=HLD.out Wx hSx;go_simp
       refine tk 3 65 (.pointer (some ⟨cb,0,none⟩)) g0 ?v ?_
       case v => intro Wx hSx;go_simp
       try simp only [Act.put,List.setIfInBounds_toArray,List.set_cons_zero,List.set_cons_succ]
       refine tk 4 66 (cellV k0 ⟨nm0.toArray⟩ (.slice A' nl c')) g0 ?v ?_
       case v => intro Wx hSx;obtain ⟨z1,z2,z3,z4,z5⟩:=HLD.out Wx hSx;go_simp
       refine tk 6 68 (.pointer (some ⟨wr.heap.size,1,none⟩)) g0 ?v ?_
       case v => intro Wx hSx;go_simp
       refine tk 7 69 (.string ⟨nm0.toArray⟩) g0 ?v ?_
       case v => intro Wx hSx;obtain ⟨z1,z2,z3,z4,z5⟩:=HLD.out Wx hSx;go_simp
       try simp only [Act.put,List.setIfInBounds_toArray,List.set_cons_zero,List.set_cons_succ]
       refine o1 5 (fun K hK => ?_)
       go_simp
       (with_reducible refine (HCp.out _ HX0.out).mono ?_)
       rintro e x1 ⟨he,hb⟩
       have X1:=Lib.hid (HX0.out.chain hb)
       clear hb
       cases r with
       | error t =>
         obtain rfl : e = _:=he
         refine ⟨rfl,?_,HB1.out.chain (H8.out.chain (H6.out.chain X1.out))⟩
         rw [HR.out]
         unfold fmC
         rw [HEx.out,seqC_none,← HR2.out,seqC_none,HAt.out,seqC_none,allC_some (clC p (sc ++ f.ps)) f.cls i _ t HX.out.1 HI.out.2 HX.out.2]
         exact rfl
       | ok ps =>
       obtain ⟨P,pn,pc,rfl,hpn,hpm,hpr⟩:=he
       have HA2:=Lib.hid (HAr.out ps P pn pc x1 X1.out hpn hpm hpr)
       obtain ⟨q,hq⟩ : ∃ q,q = argsC (sc ++ f.ps) [] nm0 l0 ps:=⟨_,rfl⟩
       rw [← hq] at HA2
       have HQ : Hid (clC p (sc ++ f.ps) ⟨k0,nm0,l0⟩ = q):=Lib.hid (by rw [HX.out.2,hq];rfl)
       clear hpn hpm hpr hq
       refine hK _ _ (HS2.out _ X1.out) ?_
       clear hK K
       try simp only [Act.put,List.setIfInBounds_toArray,List.set_cons_zero,List.set_cons_succ]
       refine o1 8 (fun K hK => ?_)
       go_simp
       (with_reducible refine HA2.out.mono ?_)
       rintro e x2 ⟨he,hb⟩
       have X2:=Lib.hid (X1.out.chain hb)
       clear hb
       cases q with
       | some t =>
         obtain rfl : e = _:=he
         refine ⟨rfl,?_,HB1.out.chain (H8.out.chain (H6.out.chain X2.out))⟩
         rw [HR.out]
         unfold fmC
         rw [HEx.out,seqC_none,← HR2.out,seqC_none,HAt.out,seqC_none,allC_some (clC p (sc ++ f.ps)) f.cls i _ t HX.out.1 HI.out.2 HQ.out]
         exact rfl
       | none =>
         obtain rfl : e = _:=he
         refine hK _ _ (HS2.out _ X2.out) ?_
         clear hK K
         refine wpAnyH_done (by kernel_rfl) ?_ _
         go_wp2
         go_roundg (nc - (i + 1))
         case measure => omega
         case rel => exact ⟨i + 1,rfl,by omega,by go_num,Lib.hid ⟨H6.out.chain X2.out,by rw [allC_take_succ _ f.cls i _ HX.out.1,HI.out.2,seqC_none];exact HQ.out⟩⟩
      ·obtain rfl : nc = i:=by omega
       have HCl : Hid (allC (clC p (sc ++ f.ps)) f.cls = none):=Lib.hid (by
        have h:=HI.out.2
        rwa [List.take_of_length_le (by rw [← HN.out.2.2.2.2.1];exact Nat.le_refl _)] at h)
       have H10:=Lib.hid (H8.out.chain HI.out.1)
       have hle:=(HLe.out wr H10.out).1
       obtain ⟨b0,b1,b2⟩:=HK.out _ H10.out
       have HD:=Lib.hid (determined_any f Fp np kp Fa na ka Fc nc kc HN.out.2.2.1 HN.out.2.2.2.1 HN.out.2.2.2.2.1 HN.out.2.2.2.2.2.2.1 wr (rowTop hle (HP.out wr H10.out)) ((HA.out wr H10.out).more at_keeps hle) ((HC.out wr H10.out).more cl_keeps hle))
       obtain ⟨q,hq⟩ : ∃ q,q = detC f:=⟨_,rfl⟩
       rw [← hq] at HD
       have HQ : Hid (R = q):=Lib.hid (by
        rw [HR.out]
        unfold fmC
        rw [HEx.out,seqC_none,← HR2.out,seqC_none,HAt.out,seqC_none,HCl.out,seqC_none,hq])
       clear HI hle hq
       go_wp2_with fail
       clear b0 b1 b2
       (with_reducible refine HD.out.mono ?_)
       rintro e w5 ⟨he,hb⟩
       have H5:=Lib.hid (HB1.out.chain (H10.out.chain hb))
       clear hb
       cases q with
       | some t =>
         obtain rfl : e = _:=he
         refine ⟨rfl,?_,H5.out⟩
         rw [HQ.out]
         exact rfl
       | none =>
         obtain rfl : e = _:=he
         go_wp2
         refine bodyPost_end (results_none rfl _ _ _) rfl ⟨?_,H5.out⟩
         rw [HQ.out]
         rfl
end Go.Proofs.YthenbbpagbdbeaaGreatDoor
namespace Go.Proofs.YthenbbpagbdbeaaGreatDoor
set_option maxRecDepth 100000
set_option maxHeartbeats 8000000
open Go.RowKit Go.Lib
theorem caught_cap (G : Nat) (p1 p2 p3 : Value) (hG : ∀ args w,(callFunc G args).run Tryz.prog w = .ok (.enter G args) w) (C : Ck) (cb : Nat) (Pl : World → Prop) (w : World) (hcb : cb < w.heap.size)
 (hC : ∀ W,Below w.heap.size w W → Calls Tryz.prog G #[p1,p2,p3] W fun e w' => CkEnd C e ∧ Near cb W w' ∧ Pl w') :
 Calls Tryz.prog 43 #[.func (.func G) #[] #[p1,p2,p3]] w fun e w' => e = .returned (.agg #[.string ⟨(thrOf C).1.toArray⟩,.int .i64 (thrOf C).2]) ∧ Near cb w w' ∧ ∃ w1,Pl w1 ∧ w'.heap[cb]? = w1.heap[cb]?:=by
 have hmf : ∀ (fn : Fn) (first cap : Array Value) (w : World),(Instr.makeFunc fn first cap).run Tryz.prog w = .ok (.func fn first cap) w:=fun _ _ _ _ => rfl
 obtain ⟨W1,hW1⟩ : ∃ W1,W1 = w.alloc (.cells #[.string ⟨#[]⟩,.int .i64 1] 109):=⟨_,rfl⟩
 have hb1 : Below w.heap.size w W1:=by rw [hW1];exact below_alloc w _
 have hp1 : W1.heap[w.heap.size]? = some (.cells #[.string ⟨#[]⟩,.int .i64 1] 109 (0,0)):=by rw [hW1];exact heap_of_alloc w _
 have HC:=Lib.hid (hC W1 hb1)
 have HB:=Lib.hid (And.intro hb1 (And.intro hp1 hcb))
 clear hC hb1 hp1 hcb
 go_enter_defers Tryz.func43,Tryz.ntmps43
 go_wp2_with fail
 rw [← hW1]
 clear hW1
 refine HC.out.mono ?_
 rintro e w2 ⟨he,hn,hpl⟩
 have hR:=(hn.block w.heap.size (by have := (Array.getElem?_eq_some_iff.1 HB.out.2.1).1;exact this) (by have := HB.out.2.2;omega)).trans HB.out.2.1
 have H2:=Lib.hid (And.intro hn (And.intro hpl hR))
 clear hn hpl
 cases C with
 | none =>
   obtain rfl : e = _:=he
   have z0:=cell_of_block hR 0 (v:=.string ⟨#[]⟩) rfl
   have z1:=cell_of_block hR 1 (v:=.int .i64 1) rfl
   have f0:=frozen_at hR 0
   have f1:=frozen_at hR 1
   clear hR
   go_wp2
   refine leaves_cons (f:=61) (args:=#[.pointer (some ⟨w.heap.size,0,none⟩)]) (by simp) (by simp [go_sem]) ?_
   refine (caught1_idle w.heap.size _).mono ?_
   rintro e u' w3 ⟨rfl,rfl,rfl⟩
   have hR:=H2.out.2.2
   have h3:=heap_keep (o:=.cells #[.string ⟨#[]⟩,.int .i64 0] 109) (heap_setCell_at (heap_setCell_at hR 0 (.string ⟨#[]⟩)) 1 (.int .i64 0))
   have hbb : Below w.heap.size w2 (((w2.setCell ⟨w.heap.size,0,none⟩ (.string ⟨#[]⟩)).setCell ⟨w.heap.size,1,none⟩ (.int .i64 0)).alloc (.cells #[.string ⟨#[]⟩,.int .i64 0] 109)) :=
    (((Below.refl w.heap.size w2).setCell (p:=⟨w.heap.size,0,none⟩) (Nat.le_refl _) _).setCell (p:=⟨w.heap.size,1,none⟩) (Nat.le_refl _) _).alloc (by have := H2.out.1.size;have := HB.out.1.size;simp [World.setCell];omega) _
   refine ⟨_,results_cell_row rfl _ _ w.heap.size 109 #[.string ⟨#[]⟩,.int .i64 0] (0,0) _ rfl h3 Tryz.underlying109 rfl (by kernel_rfl),rfl,near_end ((near_of HB.out.1).trans H2.out.1) hbb,w2,H2.out.2.1,hbb.block cb HB.out.2.2⟩
 | some t =>
   obtain rfl : e = _:=he
   refine leaves_cons (f:=61) (args:=#[.pointer (some ⟨w.heap.size,0,none⟩)]) (by simp) (by simp [go_sem]) ?_
   refine (caught1_panicking w.heap.size ⟨t.1.toArray⟩ t.2 [] _ _ _ hR).mono ?_
   rintro e u' w3 ⟨rfl,rfl,rfl⟩
   have h3:=heap_setCell_at (heap_setCell_at (heap_keep (o:=.cells #[.string ⟨t.1.toArray⟩,.int .i64 t.2] 109) hR) 0 (.string ⟨t.1.toArray⟩)) 1 (.int .i64 t.2)
   have hbb : Below w.heap.size w2 (((w2.alloc (.cells #[.string ⟨t.1.toArray⟩,.int .i64 t.2] 109)).setCell ⟨w.heap.size,0,none⟩ (.string ⟨t.1.toArray⟩)).setCell ⟨w.heap.size,1,none⟩ (.int .i64 t.2)) :=
    (((Below.refl w.heap.size w2).alloc (by have := H2.out.1.size;have := HB.out.1.size;omega) _).setCell (p:=⟨w.heap.size,0,none⟩) (Nat.le_refl _) _).setCell (p:=⟨w.heap.size,1,none⟩) (Nat.le_refl _) _
   refine ⟨_,results_cell_row rfl _ _ w.heap.size 109 #[.string ⟨t.1.toArray⟩,.int .i64 t.2] (0,0) _ rfl h3 Tryz.underlying109 rfl (by kernel_rfl),rfl,near_end ((near_of HB.out.1).trans H2.out.1) hbb,w2,H2.out.2.1,hbb.block cb HB.out.2.2⟩
theorem fld_Thrown1 (u : ByteArray) (v : Int) (w : World) : (Instr.field 109 (.agg #[.string u,.int .i64 v]) 1).run Tryz.prog w = .ok (.int .i64 v) w:=by kernel_rfl
def fmE (p : Pg) (sc : List Pm) (f : Fm) : Int:=if vF varB 1125899906842624 100 f = true then (thrOf (fmC p sc f)).2 else 1
theorem fclo_any (p : Pg) (d : GAd) (B0 cb : Nat) (f : Fm) (hok : FmOk p d B0 cb f) (sc : List Pm) (G : Option Addr) (n c B1 : Nat) (Fp Fa Fc : Option Addr) (np kp na ka nc kc b4 b5 : Nat) (hnp : np = f.ps.length) (hna : na = f.ats.length) (hnc : nc = f.cls.length) (w : World) (hn : n = sc.length) (hm : n ≤ 3999999000000) (hB1 : B1 ≤ w.heap.size) (hG : RowV VPm 2 w B1 sc G) (hC : ChkAt w B0 cb d p) (hF : FmOwn w B0 ⟨Fp,Fa,Fc,kp,ka,kc⟩ f)
 (k4 : w.cell? ⟨b4,0,none⟩ = some (.slice G n c)) (k5 : w.cell? ⟨b5,0,none⟩ = some (.slice Fp np kp)) (k6 : w.cell? ⟨b5,1,none⟩ = some (.slice Fa na ka)) (k7 : w.cell? ⟨b5,2,none⟩ = some (.slice Fc nc kc)) :
 Calls Tryz.prog 44 #[.pointer (some ⟨cb,0,none⟩),.pointer (some ⟨b4,0,none⟩),.pointer (some ⟨b5,0,none⟩)] w (CkPost (fmC p sc f) w):=by
 have h:=hok sc G n c B1 ⟨Fp,Fa,Fc,kp,ka,kc⟩ w hn hm hB1 hG hC hF
 dsimp only at h
 rw [← hnp,← hna,← hnc] at h
 have HX:=Lib.hid h
 obtain ⟨q,hq⟩ : ∃ q,q = fmC p sc f:=⟨_,rfl⟩
 rw [← hq] at HX ⊢
 clear h hok hn hm hB1 hG hC hF hnp hna hnc hq
 go_enter Tryz.func44,Tryz.ntmps44
 go_wp2_with fail
 (with_reducible refine HX.out.mono ?_)
 rintro e w2 ⟨he,hb⟩
 have H2:=Lib.hid hb
 clear hb
 cases q with
 | some t =>
   obtain rfl : e = _:=he
   exact ⟨rfl,rfl,H2.out⟩
 | none =>
   obtain rfl : e = _:=he
   go_wp2
   exact bodyPost_end (results_none rfl _ _ _) rfl ⟨rfl,H2.out⟩
theorem Formula_any (p : Pg) (d : GAd) (f : Fm) (hok : ∀ B0 cb,vF varB 1125899906842624 100 f = true → FmOk p d B0 cb f) (sc : List Pm) (G : Option Addr) (n c : Nat) (Fp Fa Fc : Option Addr) (np kp na ka nc kc : Nat) (hnp : np = f.ps.length) (hna : na = f.ats.length) (hnc : nc = f.cls.length) (w : World) (own : PgOwn w w.heap.size d p) (hn : n = sc.length) (hm : n ≤ 3999999000000) (hG : RowV VPm 2 w w.heap.size sc G) (hF : FmOwn w w.heap.size ⟨Fp,Fa,Fc,kp,ka,kc⟩ f)
 (nr ng nk nd nm nx : Nat) (hnr : nr = p.rs.length) (hng : ng = p.gs.length) (hnk : nk = p.ks.length) (hnd : nd = p.ds.length) (hnm : nm = p.ms.length) (hnx : nx = p.xs.length) :
 Calls Tryz.prog 9 #[.agg #[.slice d.r nr d.nr,.slice d.g ng d.ng,.slice d.k nk d.nk,.slice d.d nd d.nd,.slice d.m nm d.nm,.slice d.x nx d.nx],.slice G n c,formulaV (.slice Fp np kp) (.slice Fa na ka) (.slice Fc nc kc)] w fun e w' => e = .returned (.int .i64 (fmE p sc f)) ∧ Below w.heap.size w w':=by
 obtain ⟨W1,hW1⟩ : ∃ W1,W1 = ((w.alloc (.cells #[.slice d.r nr d.nr,.slice d.g ng d.ng,.slice d.k nk d.nk,.slice d.d nd d.nd,.slice d.m nm d.nm,.slice d.x nx d.nx] 29)).alloc (.cells #[.slice G n c] 23)).alloc (formulaC (.slice Fp np kp) (.slice Fa na ka) (.slice Fc nc kc)):=⟨_,rfl⟩
 have hb1 : Below w.heap.size w W1:=by rw [hW1];exact ((below_alloc w _).chain (below_alloc _ _)).chain (below_alloc _ _)
 have hz1 : W1.heap.size = w.heap.size + 1 + 1 + 1:=by rw [hW1];simp only [size_of_alloc]
 have q0 : W1.heap[w.heap.size]? = some (.cells #[.slice d.r nr d.nr,.slice d.g ng d.ng,.slice d.k nk d.nk,.slice d.d nd d.nd,.slice d.m nm d.nm,.slice d.x nx d.nx] 29 (0,0)):=by rw [hW1];exact heap_keep (heap_keep (heap_of_alloc w _))
 have q1 : W1.heap[w.heap.size + 1]? = some (.cells #[.slice G n c] 23 (0,0)):=by
  have h:=heap_of_alloc (w.alloc (.cells #[.slice d.r nr d.nr,.slice d.g ng d.ng,.slice d.k nk d.nk,.slice d.d nd d.nd,.slice d.m nm d.nm,.slice d.x nx d.nx] 29)) (.cells #[.slice G n c] 23)
  rw [size_of_alloc] at h
  rw [hW1]
  exact heap_keep h
 have q2 : W1.heap[w.heap.size + 1 + 1]? = some (formulaC (.slice Fp np kp) (.slice Fa na ka) (.slice Fc nc kc)):=by
  have h:=heap_of_alloc ((w.alloc (.cells #[.slice d.r nr d.nr,.slice d.g ng d.ng,.slice d.k nk d.nk,.slice d.d nd d.nd,.slice d.m nm d.nm,.slice d.x nx d.nx] 29)).alloc (.cells #[.slice G n c] 23)) (formulaC (.slice Fp np kp) (.slice Fa na ka) (.slice Fc nc kc))
  simp only [size_of_alloc] at h
  rw [hW1]
  exact h
 obtain ⟨hls,rp,ra,rc⟩:=hF
 dsimp only at rp ra rc
 have HT : Hid (Calls Tryz.prog 42 #[formulaV (.slice Fp np kp) (.slice Fa na ka) (.slice Fc nc kc)] W1 fun e w' => e = .returned (.bool (vF varB 1125899906842624 100 f)) ∧ Below W1.heap.size W1 w'):=Lib.hid (by
  rw [hnp,hna,hnc]
  exact tformula_any f Fp kp Fa ka Fc kc W1 hls.1 hls.2.1 hls.2.2 (rp.on pm_keeps hb1) (ra.on at_keeps hb1) (rc.on cl_keeps hb1))
 have HK : Hid (∀ W,Below W1.heap.size W1 W → (W.cell? ⟨w.heap.size,0,none⟩ = some (.slice d.r nr d.nr) ∧ W.cell? ⟨w.heap.size,1,none⟩ = some (.slice d.g ng d.ng) ∧ W.cell? ⟨w.heap.size,2,none⟩ = some (.slice d.k nk d.nk) ∧ W.cell? ⟨w.heap.size,3,none⟩ = some (.slice d.d nd d.nd) ∧ W.cell? ⟨w.heap.size,4,none⟩ = some (.slice d.m nm d.nm) ∧ W.cell? ⟨w.heap.size,5,none⟩ = some (.slice d.x nx d.nx)) ∧ W.cell? ⟨w.heap.size + 1,0,none⟩ = some (.slice G n c) ∧ W.cell? ⟨w.heap.size + 1 + 1,0,none⟩ = some (.slice Fp np kp) ∧ W.cell? ⟨w.heap.size + 1 + 1,1,none⟩ = some (.slice Fa na ka) ∧ W.cell? ⟨w.heap.size + 1 + 1,2,none⟩ = some (.slice Fc nc kc)):=Lib.hid (fun W hb => by
  have p0:=kept_box hb q0
  have p1:=kept_box hb q1
  have p2:=kept_box hb q2
  exact ⟨⟨cell_of_block p0 0 rfl,cell_of_block p0 1 rfl,cell_of_block p0 2 rfl,cell_of_block p0 3 rfl,cell_of_block p0 4 rfl,cell_of_block p0 5 rfl⟩,cell_of_block p1 0 rfl,cell_of_block p2 0 rfl,cell_of_block p2 1 rfl,cell_of_block p2 2 rfl⟩)
 -- behind the checker's box
 have HC : vF varB 1125899906842624 100 f = true → Hid (∀ W2,Below W1.heap.size W1 W2 → Calls Tryz.prog 43 #[.func (.func 44) #[] #[.pointer (some ⟨W2.heap.size,0,none⟩),.pointer (some ⟨w.heap.size + 1,0,none⟩),.pointer (some ⟨w.heap.size + 1 + 1,0,none⟩)]] (W2.alloc (.cells #[.slice d.r nr d.nr,.slice d.g ng d.ng,.slice d.k nk d.nk,.slice d.d nd d.nd,.slice d.m nm d.nm,.slice d.x nx d.nx,.int .i64 0,.int .i64 0] 107)) fun e w' => e = .returned (.agg #[.string ⟨(thrOf (fmC p sc f)).1.toArray⟩,.int .i64 (thrOf (fmC p sc f)).2]) ∧ Below w.heap.size w w'):=fun hv => Lib.hid (fun W2 hb2 => by
  obtain ⟨cb,hcb⟩ : ∃ cb,cb = W2.heap.size:=⟨_,rfl⟩
  rw [← hcb]
  obtain ⟨W3,hW3⟩ : ∃ W3,W3 = W2.alloc (.cells #[.slice d.r nr d.nr,.slice d.g ng d.ng,.slice d.k nk d.nk,.slice d.d nd d.nd,.slice d.m nm d.nm,.slice d.x nx d.nx,.int .i64 0,.int .i64 0] 107):=⟨_,rfl⟩
  rw [← hW3]
  have hb3 : Below W1.heap.size W1 W3:=by rw [hW3];exact hb2.chain (below_alloc _ _)
  have hp3 : W3.heap[cb]? = some (.cells #[.slice d.r nr d.nr,.slice d.g ng d.ng,.slice d.k nk d.nk,.slice d.d nd d.nd,.slice d.m nm d.nm,.slice d.x nx d.nx,.int .i64 0,.int .i64 0] 107 (0,0)):=by rw [hW3,hcb];exact heap_of_alloc W2 _
  refine (caught_cap 44 _ _ _ (enters_of Tryz.func44 (by kernel_rfl) rfl) (fmC p sc f) cb (fun w1 => w1.heap[cb]? = W3.heap[cb]?) W3 (Array.getElem?_eq_some_iff.1 hp3).1 (fun W hb => ?_)).mono ?_
  ·have hbw:=hb1.chain (hb3.chain hb)
   have hk:=kept_box hb hp3
   obtain ⟨-,k4,k5,k6,k7⟩:=HK.out W (hb3.chain hb)
   refine (fclo_any p d w.heap.size cb f (hok _ _ hv) sc G n c w.heap.size Fp Fa Fc np kp na ka nc kc _ _ hnp hna hnc W hn hm hbw.size (rowB vpm_keeps (Nat.le_refl _) hbw hG) ⟨(Array.getElem?_eq_some_iff.1 hk).1,by have := hb2.size;omega,by rw [← hnr];exact cell_of_block hk 0 rfl,by rw [← hng];exact cell_of_block hk 1 rfl,by rw [← hnk];exact cell_of_block hk 2 rfl,by rw [← hnd];exact cell_of_block hk 3 rfl,by rw [← hnm];exact cell_of_block hk 4 rfl,by rw [← hnx];exact cell_of_block hk 5 rfl,own.keep (fun q hq => hbw.cell hq) (Nat.le_refl _)⟩ ⟨hls,rp.stay pm_keeps hbw (Nat.le_refl _),ra.stay at_keeps hbw (Nat.le_refl _),rc.stay cl_keeps hbw (Nat.le_refl _)⟩ k4 k5 k6 k7).mono ?_
   rintro e w' ⟨h1,h2⟩
   exact ⟨h1,near_of h2,(kept_box h2 hk).trans hp3.symm⟩
  ·rintro e w' ⟨h1,h2,w1,h3,h4⟩
   refine ⟨h1,?_⟩
   have hb4:=hb1.chain hb3
   exact ⟨h2.os.trans hb4.os,h2.tape.trans hb4.tape,h2.output.trans hb4.output,Nat.le_trans hb4.size h2.size,fun b hlt => (h2.block b (Nat.lt_of_lt_of_le hlt hb4.size) (by have := hb2.size;omega)).trans (hb4.block b hlt)⟩)
 obtain ⟨v,hv⟩ : ∃ v,v = vF varB 1125899906842624 100 f:=⟨_,rfl⟩
 obtain ⟨x,hx⟩ : ∃ x,x = fmE p sc f:=⟨_,rfl⟩
 have HX : Hid ((v = true → x = (thrOf (fmC p sc f)).2) ∧ (v = false → x = 1)):=Lib.hid ⟨fun h => by rw [hx];unfold fmE;rw [← hv,if_pos h],fun h => by rw [hx];unfold fmE;rw [← hv,h];rfl⟩
 rw [← hv] at HT HC
 rw [← hx]
 have HB1:=Lib.hid hb1
 obtain ⟨-,-,f0,f1,f2⟩:=HK.out _ (Below.refl _ _)
 have hmf : ∀ (fn : Fn) (first cap : Array Value) (w : World),(Instr.makeFunc fn first cap).run Tryz.prog w = .ok (.func fn first cap) w:=fun _ _ _ _ => rfl
 clear hok hnp hna hnc own hn hm hG hls rp ra rc hnr hng hnk hnd hnm hnx hb1 hz1 q0 q1 q2 hv hx
 rw [hW1] at f0 f1 f2
 go_enter Tryz.func9,Tryz.ntmps9
 go_wp2_with fail
 rw [← hW1]
 clear hW1 f0 f1 f2
 (with_reducible refine HT.out.mono ?_)
 rintro e w2 ⟨rfl,hb⟩
 have H2:=Lib.hid hb
 clear hb
 cases v with
 | false =>
   go_wp2
   go_ret
   exact ⟨by have h:=HX.out.2 (by simp);subst h;rfl,HB1.out.chain H2.out⟩
 | true =>
   have HC2:=HC (by simp)
   obtain ⟨⟨a0,a1,a2,a3,a4,a5⟩,-⟩:=HK.out _ H2.out
   go_wp2_with fail
   (with_reducible refine (HC2.out _ H2.out).mono ?_)
   rintro e w3 ⟨rfl,hb⟩
   have H3:=Lib.hid hb
   clear hb a0 a1 a2 a3 a4 a5
   have hfl:=fun (u : ByteArray) (v : Int) (w : World) => fld_Thrown1 u v w
   go_wp2
   go_ret
   exact ⟨by have h:=HX.out.1 (by simp);subst h;rfl,H3.out⟩
end Go.Proofs.YthenbbpagbdbeaaGreatDoor
