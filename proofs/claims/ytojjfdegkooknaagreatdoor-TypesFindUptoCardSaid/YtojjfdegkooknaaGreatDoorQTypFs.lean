import Derived.Test.YtojjfdegkooknaaGreatDoorQTypTg
import Derived.Test.YtojjfdegkooknaaGreatDoorQTypFDef
set_option linter.unusedVariables false
set_option linter.unusedSimpArgs false
namespace Go.Proofs.YtojjfdegkooknaaGreatDoor
set_option maxRecDepth 100000
set_option maxHeartbeats 8000000
open Go.RowKit Go.Lib
def FmOk (p : Pg) (d : GAd) (B0 cb : Nat) (f : Fm) : Prop :=
 ∀ (sc : List Pm) (G : Option Addr) (n c B1 : Nat) (fd : FAd) (w : World),n = sc.length → n ≤ 3999999000000 → B1 ≤ w.heap.size → RowV VPm 2 w B1 sc G → ChkAt w B0 cb d p → FmOwn w B0 fd f →
  Calls Tryz.prog 56 #[.pointer (some ⟨cb,0,none⟩),.slice G n c,formulaV (.slice fd.p f.ps.length fd.np) (.slice fd.a f.ats.length fd.na) (.slice fd.c f.cls.length fd.nc)] w (CkPost (fmC p sc f) w)
theorem formulas_any (p : Pg) (d : GAd) (B0 cb : Nat) (l : List Fm) (hok : ∀ f ∈ l,FmOk p d B0 cb f) (sc : List Pm) (G : Option Addr) (n c B1 : Nat) (F : Option Addr) (nf cf : Nat) (hnf : nf = l.length) (hmf : nf ≤ maxLen) (w : World) (hn : n = sc.length) (hm : n ≤ 3999999000000) (hB1 : B1 ≤ w.heap.size) (hG : RowV VPm 2 w B1 sc G) (hC : ChkAt w B0 cb d p) (hF : FmRow w B0 l F) :
 Calls Tryz.prog 74 #[.pointer (some ⟨cb,0,none⟩),.slice G n c,.slice F nf cf] w (CkPost (fmsC p sc l) w):=by
 have HH:=Lib.hid (And.intro hF (And.intro hnf (And.intro hC (And.intro hG (And.intro hB1 (And.intro hok (And.intro hn hm)))))))
 obtain ⟨R,hR⟩ : ∃ R : Ck,R = fmsC p sc l:=⟨_,rfl⟩
 have HR:=Lib.hid hR
 rw [← hR]
 clear hF hnf hC hG hB1 hok hn hm hR
 unfold maxLen at hmf
 go_enter Tryz.func74,Tryz.ntmps74
 go_wp2
 go_loopg [10] nf (fun mm j wr => ∃ i : Nat,mm = nf - i ∧ i ≤ nf ∧ j = .int .i64 i ∧ Hid (Below w.heap.size w wr ∧ fmsC p sc (l.take i) = none))
 case atStart => exact ⟨0,rfl,Nat.zero_le _,rfl,Lib.hid ⟨Below.refl _ _,rfl⟩⟩
 case round =>
  obtain ⟨i,rfl,hi,rfl,HI⟩:=hrel
  have hi0 : (0 : Int) ≤ i:=by omega
  by_cases hlt : i < nf
  ·have hii : (i : Int) < nf:=by omega
   obtain ⟨f,hg⟩ : ∃ x,l[i]? = some x:=⟨l[i]'(by rw [← HH.out.2.1];exact hlt),List.getElem?_eq_getElem _⟩
   have hB0 : B0 ≤ w.heap.size:=Nat.le_trans HH.out.2.2.1.le (Nat.le_of_lt HH.out.2.2.1.lt)
   obtain ⟨a,rfl,hab,Ap,cp,Aa,ca,Ac,cc,d0,d1,d2,hls,rp,ra,rc⟩:=(HH.out.1.stay fm_keeps HI.out.1 hB0).at_ hg
   obtain ⟨n1,h1⟩ : ∃ n,n = f.ps.length:=⟨_,rfl⟩
   obtain ⟨n2,h2⟩ : ∃ n,n = f.ats.length:=⟨_,rfl⟩
   obtain ⟨n3,h3⟩ : ∃ n,n = f.cls.length:=⟨_,rfl⟩
   rw [← h1] at d0
   rw [← h2] at d1
   rw [← h3] at d2
   have e0 : wr.cell? (a.add (i * 3)) = some (.slice Ap n1 cp):=d0
   have e1 : wr.cell? ⟨(a.add (i * 3)).block,(a.add (i * 3)).off + 1,none⟩ = some (.slice Aa n2 ca):=d1
   have e2 : wr.cell? ⟨(a.add (i * 3)).block,(a.add (i * 3)).off + 2,none⟩ = some (.slice Ac n3 cc):=d2
   obtain ⟨W6,hW6⟩ : ∃ W6,W6 = wr.alloc (formulaC (.slice Ap n1 cp) (.slice Aa n2 ca) (.slice Ac n3 cc)):=⟨_,rfl⟩
   have hb6 : Below wr.heap.size wr W6:=by rw [hW6];exact below_alloc wr _
   have hbb:=HI.out.1.chain hb6
   have HC:=Lib.hid (HH.out.2.2.2.2.2.1 f (List.mem_of_getElem? hg) sc G n c B1 ⟨Ap,Aa,Ac,cp,ca,cc⟩ W6 HH.out.2.2.2.2.2.2.1 HH.out.2.2.2.2.2.2.2 (Nat.le_trans HH.out.2.2.2.2.1 hbb.size) (rowB vpm_keeps HH.out.2.2.2.2.1 hbb HH.out.2.2.2.1) (HH.out.2.2.1.on hbb) (FmOwn.keep (fun q hq => hb6.cell (Nat.lt_of_lt_of_le hq (Nat.le_trans hB0 HI.out.1.size))) (Nat.le_refl _) ⟨hls,rp,ra,rc⟩))
   dsimp only at HC
   rw [← h1,← h2,← h3] at HC
   obtain ⟨q,hq⟩ : ∃ q,q = fmC p sc f:=⟨_,rfl⟩
   rw [← hq] at HC
   have H6:=Lib.hid hbb
   have HX:=Lib.hid (And.intro hg hq)
   clear hg hq hab d0 d1 d2 hls rp ra rc hb6 hbb hB0 h1 h2 h3
   go_wp2_with fail
   rw [← hW6]
   clear hW6 e0 e1 e2
   (with_reducible refine HC.out.mono ?_)
   rintro e w3 ⟨he,hb⟩
   have H3:=Lib.hid (H6.out.chain hb)
   clear hb
   cases q with
   | some t =>
     obtain rfl : e = _:=he
     refine ⟨rfl,?_,H3.out⟩
     rw [HR.out,show fmsC p sc l = some t from allC_some _ l i f t HX.out.1 HI.out.2 HX.out.2.symm]
     exact rfl
   | none =>
     obtain rfl : e = _:=he
     have HN : Hid (fmsC p sc (l.take (i + 1)) = none):=Lib.hid (by
      unfold fmsC
      rw [allC_take_succ _ l i f HX.out.1,show allC _ (l.take i) = none from HI.out.2,← HX.out.2]
      rfl)
     go_wp2
     go_roundg (nf - (i + 1))
     case measure => omega
     case rel => exact ⟨i + 1,rfl,by omega,by go_num,Lib.hid ⟨H3.out,HN.out⟩⟩
  ·have hlt' : ¬ (i : Int) < nf:=by omega
   obtain rfl : i = nf:=by omega
   have h:=HI.out.2
   rw [List.take_of_length_le (by rw [HH.out.2.1];exact Nat.le_refl _)] at h
   have HE:=Lib.hid h
   clear h
   go_wp2
   refine bodyPost_end (results_none rfl _ _ _) rfl ⟨?_,HI.out.1⟩
   rw [HR.out,HE.out]
   exact rfl
theorem nm_lens {α : Type} {V : World → Nat → Array Value → α → Prop} (nm : α → List UInt8) (hV : ∀ w B cs x,V w B cs x → (nm x).length ≤ maxLen) {k : Nat} {w : World} {B : Nat} {l : List α} {A : Option Addr} (h : RowV V k w B l A) : ∀ x ∈ l,(nm x).length ≤ maxLen:=by
 intro x hx
 obtain ⟨i,hi,he⟩:=List.getElem_of_mem hx
 obtain ⟨_,cs,_,_,_,_,hv⟩:=h i x (by rw [List.getElem?_eq_getElem hi,he])
 exact hV _ _ _ _ hv
theorem tnames_any (p : Pg) (d : GAd) (B0 cb : Nat) (w : World) (hC : ChkAt w B0 cb d p) :
 Calls Tryz.prog 71 #[.pointer (some ⟨cb,0,none⟩)] w (CkPost (namesC p) w):=by
 have hB : ∀ W,Below w.heap.size w W → B0 ≤ W.heap.size:=fun W hb => Nat.le_trans (Nat.le_trans hC.le (Nat.le_of_lt hC.lt)) hb.size
 have HD0 : Hid (∀ W,Below w.heap.size w W → Calls Tryz.prog 93 #[.slice d.r p.rs.length d.nr,.func (.func 46) #[] #[]] W (CkPost (diffC [] (p.rs.map (·.nm))) W)):=Lib.hid (fun W hb => by
  have hk:=(hC.on hb).own
  exact dif_Record 46 (enters_of Tryz.func46 (by kernel_rfl) rfl) (·.nm) nm_Record p.rs (nm_lens (V:=VRc) _ (fun _ _ _ _ ⟨_,_,_,h,_⟩ => h) (rc_rowV hk.2.1)) d.r d.nr _ rfl hk.1.1 B0 W (hB W hb) (rc_rowV hk.2.1))
 have HD1 : Hid (∀ W,Below w.heap.size w W → Calls Tryz.prog 94 #[.slice d.g p.gs.length d.ng,.func (.func 95) #[] #[]] W (CkPost (diffC [] (p.gs.map (·.nm))) W)):=Lib.hid (fun W hb => by
  have hk:=(hC.on hb).own
  exact dif_Param 95 (enters_of Tryz.func95 (by kernel_rfl) rfl) (·.nm) nm_Param p.gs (pm_names (pm_rowV hk.2.2.1)) d.g d.ng _ rfl hk.1.2.1 B0 W (hB W hb) (pm_rowV hk.2.2.1))
 have HD2 : Hid (∀ W,Below w.heap.size w W → Calls Tryz.prog 96 #[.slice d.k p.ks.length d.nk,.func (.func 97) #[] #[]] W (CkPost (diffC [] (p.ks.map (·.nm))) W)):=Lib.hid (fun W hb => by
  have hk:=(hC.on hb).own
  exact dif_Lock 97 (enters_of Tryz.func97 (by kernel_rfl) rfl) (·.nm) nm_Lock p.ks (nm_lens (V:=VLk) _ (fun _ _ _ _ ⟨_,_,_,h,_⟩ => h) (lk_rowV hk.2.2.2.1)) d.k d.nk _ rfl hk.1.2.2.1 B0 W (hB W hb) (lk_rowV hk.2.2.2.1))
 have HD3 : Hid (∀ W,Below w.heap.size w W → Calls Tryz.prog 98 #[.slice d.d p.ds.length d.nd,.func (.func 99) #[] #[]] W (CkPost (diffC [] (p.ds.map (·.nm))) W)):=Lib.hid (fun W hb => by
  have hk:=(hC.on hb).own
  exact dif_Def 99 (enters_of Tryz.func99 (by kernel_rfl) rfl) (·.nm) nm_Def p.ds (nm_lens (V:=VDf) _ (fun _ _ _ _ ⟨_,_,_,_,_,h,_⟩ => h) (df_rowV hk.2.2.2.2.1)) d.d d.nd _ rfl hk.1.2.2.2.1 B0 W (hB W hb) (df_rowV hk.2.2.2.2.1))
 have HD4 : Hid (∀ W,Below w.heap.size w W → Calls Tryz.prog 100 #[.slice d.m p.ms.length d.nm,.func (.func 101) #[] #[]] W (CkPost (diffC [] (p.ms.map (·.nm))) W)):=Lib.hid (fun W hb => by
  have hk:=(hC.on hb).own
  exact dif_Lemma 101 (enters_of Tryz.func101 (by kernel_rfl) rfl) (·.nm) nm_Lemma p.ms (nm_lens (V:=VLm) _ (fun _ _ _ _ ⟨_,_,_,_,_,h,_⟩ => h) (lm_rowV hk.2.2.2.2.2.1)) d.m d.nm _ rfl hk.1.2.2.2.2.1 B0 W (hB W hb) (lm_rowV hk.2.2.2.2.2.1))
 have HD5 : Hid (∀ W,Below w.heap.size w W → Calls Tryz.prog 102 #[.slice d.x p.xs.length d.nx,.func (.func 43) #[] #[]] W (CkPost (diffC [] (p.xs.map (·.nm))) W)):=Lib.hid (fun W hb => by
  have hk:=(hC.on hb).own
  exact dif_Proc 43 (enters_of Tryz.func43 (by kernel_rfl) rfl) (·.nm) nm_Proc p.xs (nm_lens (V:=VPr) _ (fun _ _ _ _ ⟨_,_,h⟩ => h.1.1) (pr_rowV hk.2.2.2.2.2.2)) d.x d.nx _ rfl hk.1.2.2.2.2.2 B0 W (hB W hb) (pr_rowV hk.2.2.2.2.2.2))
 have HCL : Hid (∀ W,Below w.heap.size w W → W.cell? ⟨cb,0,none⟩ = some (.slice d.r p.rs.length d.nr) ∧ W.cell? ⟨cb,1,none⟩ = some (.slice d.g p.gs.length d.ng) ∧ W.cell? ⟨cb,2,none⟩ = some (.slice d.k p.ks.length d.nk) ∧ W.cell? ⟨cb,3,none⟩ = some (.slice d.d p.ds.length d.nd) ∧ W.cell? ⟨cb,4,none⟩ = some (.slice d.m p.ms.length d.nm) ∧ W.cell? ⟨cb,5,none⟩ = some (.slice d.x p.xs.length d.nx)):=Lib.hid (fun W hb => ⟨(hC.on hb).c0,(hC.on hb).c1,(hC.on hb).c2,(hC.on hb).c3,(hC.on hb).c4,(hC.on hb).c5⟩)
 obtain ⟨R,hR⟩ : ∃ R : Ck,R = namesC p:=⟨_,rfl⟩
 rw [← hR]
 obtain ⟨r0,h0⟩ : ∃ R : Ck,R = diffC [] (p.rs.map (·.nm)):=⟨_,rfl⟩
 obtain ⟨r1,h1⟩ : ∃ R : Ck,R = diffC [] (p.gs.map (·.nm)):=⟨_,rfl⟩
 obtain ⟨r2,h2⟩ : ∃ R : Ck,R = diffC [] (p.ks.map (·.nm)):=⟨_,rfl⟩
 obtain ⟨r3,h3⟩ : ∃ R : Ck,R = diffC [] (p.ds.map (·.nm)):=⟨_,rfl⟩
 obtain ⟨r4,h4⟩ : ∃ R : Ck,R = diffC [] (p.ms.map (·.nm)):=⟨_,rfl⟩
 obtain ⟨r5,h5⟩ : ∃ R : Ck,R = diffC [] (p.xs.map (·.nm)):=⟨_,rfl⟩
 have HR : Hid (R = seqC r0 (seqC r1 (seqC r2 (seqC r3 (seqC r4 r5))))):=Lib.hid (by rw [hR,h0,h1,h2,h3,h4,h5];rfl)
 rw [← h0] at HD0
 rw [← h1] at HD1
 rw [← h2] at HD2
 rw [← h3] at HD3
 rw [← h4] at HD4
 rw [← h5] at HD5
 obtain ⟨n0,g0⟩ : ∃ n,n = p.rs.length:=⟨_,rfl⟩
 obtain ⟨n1,g1⟩ : ∃ n,n = p.gs.length:=⟨_,rfl⟩
 obtain ⟨n2,g2⟩ : ∃ n,n = p.ks.length:=⟨_,rfl⟩
 obtain ⟨n3,g3⟩ : ∃ n,n = p.ds.length:=⟨_,rfl⟩
 obtain ⟨n4,g4⟩ : ∃ n,n = p.ms.length:=⟨_,rfl⟩
 obtain ⟨n5,g5⟩ : ∃ n,n = p.xs.length:=⟨_,rfl⟩
 rw [← g0] at HD0 HCL
 rw [← g1] at HD1 HCL
 rw [← g2] at HD2 HCL
 rw [← g3] at HD3 HCL
 rw [← g4] at HD4 HCL
 rw [← g5] at HD5 HCL
 clear hC hB hR h0 h1 h2 h3 h4 h5 g0 g1 g2 g3 g4 g5
 have K0:=Lib.hid (Below.refl w.heap.size w)
 obtain ⟨c0,-,-,-,-,-⟩:=HCL.out _ K0.out
 go_enter Tryz.func71,Tryz.ntmps71
 go_wp2_with fail
 clear c0
 (with_reducible refine (HD0.out _ K0.out).mono ?_)
 rintro e x1 ⟨he,hb⟩
 have K1:=Lib.hid (K0.out.chain hb)
 clear hb
 cases r0 with
 | some t =>
   obtain rfl : e = _:=he
   refine ⟨rfl,?_,K1.out⟩
   rw [HR.out]
   exact rfl
 | none =>
 obtain rfl : e = _:=he
 obtain ⟨-,c0,-,-,-,-⟩:=HCL.out _ K1.out
 go_wp2_with fail
 clear c0
 (with_reducible refine (HD1.out _ K1.out).mono ?_)
 rintro e x2 ⟨he,hb⟩
 have K2:=Lib.hid (K1.out.chain hb)
 clear hb
 cases r1 with
 | some t =>
   obtain rfl : e = _:=he
   refine ⟨rfl,?_,K2.out⟩
   rw [HR.out]
   exact rfl
 | none =>
 obtain rfl : e = _:=he
 obtain ⟨-,-,c0,-,-,-⟩:=HCL.out _ K2.out
 go_wp2_with fail
 clear c0
 (with_reducible refine (HD2.out _ K2.out).mono ?_)
 rintro e x3 ⟨he,hb⟩
 have K3:=Lib.hid (K2.out.chain hb)
 clear hb
 cases r2 with
 | some t =>
   obtain rfl : e = _:=he
   refine ⟨rfl,?_,K3.out⟩
   rw [HR.out]
   exact rfl
 | none =>
 obtain rfl : e = _:=he
 obtain ⟨-,-,-,c0,-,-⟩:=HCL.out _ K3.out
 go_wp2_with fail
 clear c0
 (with_reducible refine (HD3.out _ K3.out).mono ?_)
 rintro e x4 ⟨he,hb⟩
 have K4:=Lib.hid (K3.out.chain hb)
 clear hb
 cases r3 with
 | some t =>
   obtain rfl : e = _:=he
   refine ⟨rfl,?_,K4.out⟩
   rw [HR.out]
   exact rfl
 | none =>
 obtain rfl : e = _:=he
 obtain ⟨-,-,-,-,c0,-⟩:=HCL.out _ K4.out
 go_wp2_with fail
 clear c0
 (with_reducible refine (HD4.out _ K4.out).mono ?_)
 rintro e x5 ⟨he,hb⟩
 have K5:=Lib.hid (K4.out.chain hb)
 clear hb
 cases r4 with
 | some t =>
   obtain rfl : e = _:=he
   refine ⟨rfl,?_,K5.out⟩
   rw [HR.out]
   exact rfl
 | none =>
 obtain rfl : e = _:=he
 obtain ⟨-,-,-,-,-,c0⟩:=HCL.out _ K5.out
 go_wp2_with fail
 clear c0
 (with_reducible refine (HD5.out _ K5.out).mono ?_)
 rintro e x6 ⟨he,hb⟩
 have K6:=Lib.hid (K5.out.chain hb)
 clear hb
 cases r5 with
 | some t =>
   obtain rfl : e = _:=he
   refine ⟨rfl,?_,K6.out⟩
   rw [HR.out]
   exact rfl
 | none =>
 obtain rfl : e = _:=he
 go_wp2
 refine bodyPost_end (results_none rfl _ _ _) rfl ⟨?_,K6.out⟩
 rw [HR.out]
 exact rfl
end Go.Proofs.YtojjfdegkooknaaGreatDoor
