import Derived.Test.YtojjfdegkooknaaGreatDoorQTypPr
import Derived.Test.YtojjfdegkooknaaGreatDoorQTreePd
set_option linter.unusedVariables false
set_option linter.unusedSimpArgs false
namespace Go.Proofs.YtojjfdegkooknaaGreatDoor
set_option maxRecDepth 100000
set_option maxHeartbeats 32000000
open Go.RowKit Go.Lib
def DfOk (p : Pg) (d : GAd) (B0 cb : Nat) (y : Df) : Prop:=∀ (cs : Array Value) (w : World),VDf w B0 cs y → ChkAt w B0 cb d p → Calls Tryz.prog 75 #[.pointer (some ⟨cb,0,none⟩),.agg cs] w (CkPost (dfC p y) w)
def LmOk (p : Pg) (d : GAd) (B0 cb : Nat) (y : Lm) : Prop:=∀ (cs : Array Value) (w : World),VLm w B0 cs y → ChkAt w B0 cb d p → Calls Tryz.prog 76 #[.pointer (some ⟨cb,0,none⟩),.agg cs] w (CkPost (lmC p y) w)
def PrOk (p : Pg) (d : GAd) (B0 cb : Nat) (y : Pr) : Prop:=∀ (cs : Array Value) (w : World) (q : Int × Int),VPr w B0 cs y → ChkW w B0 cb d p q → Calls Tryz.prog 77 #[.pointer (some ⟨cb,0,none⟩),.agg cs] w (StsPost (prC p y) cb d p w)
def chkC (p : Pg) : PCk:=if vPg p then pgC p else (some ([],1),(0,0))
theorem prsC_append (p : Pg) : ∀ (l m : List Pr) (q : Int × Int),prsC p q (l ++ m) = seqP (prsC p q l) fun q => prsC p q m
 | [],m,q => rfl
 | x :: l,m,q => by
   show seqP (prC p x) (fun q => prsC p q (l ++ m)) = seqP (seqP (prC p x) fun q => prsC p q l) fun q => prsC p q m
   obtain ⟨c,q1⟩:=prC p x
   cases c with
   | some t => rfl
   | none => exact prsC_append p l m q1
theorem prsC_one (p : Pg) (q : Int × Int) (x : Pr) : prsC p q [x] = prC p x:=by
 show seqP (prC p x) (fun q => prsC p q []) = prC p x
 obtain ⟨c,q1⟩:=prC p x
 cases c <;> rfl
theorem prsC_take (p : Pg) (q q1 : Int × Int) (l : List Pr) (i : Nat) (x : Pr) (h : l[i]? = some x) (h0 : prsC p q (l.take i) = (none,q1)) : prsC p q (l.take (i + 1)) = prC p x:=by
 rw [List.take_add_one,h,prsC_append,h0,seqP_none]
 exact prsC_one p q1 x
theorem prsC_stop (p : Pg) (q q1 : Int × Int) (l : List Pr) (i : Nat) (x : Pr) (t : Thr) (q2 : Int × Int) (h : l[i]? = some x) (h0 : prsC p q (l.take i) = (none,q1)) (h1 : prC p x = (some t,q2)) : prsC p q l = (some t,q2):=by
 have e : l = l.take (i + 1) ++ l.drop (i + 1):=(List.take_append_drop ..).symm
 rw [e,prsC_append,prsC_take p q q1 l i x h h0,h1,seqP_some]
theorem hid_DefC : ∃ (T N : Nat) (zc : Array Value),64 = T ∧ N = 3 ∧ zc.size = N ∧ (∀ w : World,(isAgg T).run Tryz.prog w = .ok true w) ∧ (∀ w : World,(sizeOf T).run Tryz.prog w = .ok N w) ∧ (∀ w : World,(zeroValue T).run Tryz.prog w = .ok (.agg zc) w) :=
 ⟨_,3,#[.string ⟨#[]⟩,.slice none 0 0,.slice none 0 0],rfl,rfl,rfl,fun w => by kernel_rfl,fun w => by kernel_rfl,fun w => by kernel_rfl⟩
theorem hid_LemmaC : ∃ (T N : Nat) (zc : Array Value),71 = T ∧ N = 8 ∧ zc.size = N ∧ (∀ w : World,(isAgg T).run Tryz.prog w = .ok true w) ∧ (∀ w : World,(sizeOf T).run Tryz.prog w = .ok N w) ∧ (∀ w : World,(zeroValue T).run Tryz.prog w = .ok (.agg zc) w) :=
 ⟨_,8,#[.string ⟨#[]⟩,.slice none 0 0,.slice none 0 0,.slice none 0 0,.slice none 0 0,.slice none 0 0,.slice none 0 0,.slice none 0 0],rfl,rfl,rfl,fun w => by kernel_rfl,fun w => by kernel_rfl,fun w => by kernel_rfl⟩
theorem hid_ProcC : ∃ (T N : Nat) (zc : Array Value),46 = T ∧ N = 12 ∧ zc.size = N ∧ (∀ w : World,(isAgg T).run Tryz.prog w = .ok true w) ∧ (∀ w : World,(sizeOf T).run Tryz.prog w = .ok N w) ∧ (∀ w : World,(zeroValue T).run Tryz.prog w = .ok (.agg zc) w) :=
 ⟨_,12,#[.string ⟨#[]⟩,.int .i64 0,.int .i64 0,.slice none 0 0,.slice none 0 0,.string ⟨#[]⟩,.string ⟨#[]⟩,.bool false,.slice none 0 0,.slice none 0 0,.slice none 0 0,.slice none 0 0],rfl,rfl,rfl,fun w => by kernel_rfl,fun w => by kernel_rfl,fun w => by kernel_rfl⟩
theorem check_any (p : Pg) (d : GAd) (B0 cb : Nat) (w : World) (hp : PartsAt w) (hC : ChkW w B0 cb d p (0,0)) (hgs : vPg p = true → p.gs.length ≤ 3999999000000) (hfm : vPg p = true → ∀ k ∈ p.ks,∀ f ∈ k.iv,FmOk p d B0 cb f) (hdf : vPg p = true → ∀ y ∈ p.ds,DfOk p d B0 cb y) (hlm : vPg p = true → ∀ y ∈ p.ms,LmOk p d B0 cb y) (hpr : vPg p = true → ∀ y ∈ p.xs,PrOk p d B0 cb y) :
 Calls Tryz.prog 52 #[.pointer (some ⟨cb,0,none⟩)] w (StsPost (chkC p) cb d p w):=by
 have hB0 : B0 ≤ w.heap.size:=Nat.le_trans hC.le (Nat.le_of_lt hC.lt)
 have HCk : Hid (∀ W,Below w.heap.size w W → ChkW W B0 cb d p (0,0) ∧ B0 ≤ W.heap.size):=Lib.hid (fun W hb => ⟨hC.on hb,Nat.le_trans hB0 hb.size⟩)
 have HP : Hid (Calls Tryz.prog 70 #[.agg #[.slice d.r p.rs.length d.nr,.slice d.g p.gs.length d.ng,.slice d.k p.ks.length d.nk,.slice d.d p.ds.length d.nd,.slice d.m p.ms.length d.nm,.slice d.x p.xs.length d.nx]] w fun e w' => e = .returned (.bool (vPg p)) ∧ Below w.heap.size w w'):=Lib.hid (tprogram_any d p w hp (hC.own.keep (fun _ _ => rfl) hB0))
 have HNa : Hid (∀ W,Below w.heap.size w W → Calls Tryz.prog 71 #[.pointer (some ⟨cb,0,none⟩)] W (CkPost (namesC p) W)):=Lib.hid (fun W hb => tnames_any p d B0 cb W (hC.on hb).at_)
 have HTy : Hid (∀ W,Below w.heap.size w W → Calls Tryz.prog 73 #[.pointer (some ⟨cb,0,none⟩),.slice d.g p.gs.length d.ng] W (CkPost (tysC p.rs p.gs) W)):=Lib.hid (fun W hb =>
  types_any p d B0 cb p.gs d.g d.ng p.gs.length rfl (hC.own.1.2.1) B0 W (Nat.le_trans hB0 hb.size) (pm_rowV (hC.on hb).own.2.2.1) (hC.on hb).at_)
 obtain ⟨nr,hnr⟩ : ∃ n,n = p.rs.length:=⟨_,rfl⟩
 obtain ⟨Ar,hAr⟩ : ∃ a,a = d.r:=⟨_,rfl⟩
 obtain ⟨Ak,hAk⟩ : ∃ a,a = d.k:=⟨_,rfl⟩
 obtain ⟨Ad,hAd⟩ : ∃ a,a = d.d:=⟨_,rfl⟩
 obtain ⟨Am,hAm⟩ : ∃ a,a = d.m:=⟨_,rfl⟩
 obtain ⟨Ax,hAx⟩ : ∃ a,a = d.x:=⟨_,rfl⟩
 have HAD:=Lib.hid (And.intro hAr (And.intro hAk (And.intro hAd (And.intro hAm hAx))))
 obtain ⟨ng,hng⟩ : ∃ n,n = p.gs.length:=⟨_,rfl⟩
 obtain ⟨nk,hnk⟩ : ∃ n,n = p.ks.length:=⟨_,rfl⟩
 obtain ⟨nd,hnd⟩ : ∃ n,n = p.ds.length:=⟨_,rfl⟩
 obtain ⟨nm,hnm⟩ : ∃ n,n = p.ms.length:=⟨_,rfl⟩
 obtain ⟨nx,hnx⟩ : ∃ n,n = p.xs.length:=⟨_,rfl⟩
 have HCL : Hid (∀ W,Below w.heap.size w W → W.cell? ⟨cb,0,none⟩ = some (.slice Ar nr d.nr) ∧ W.cell? ⟨cb,1,none⟩ = some (.slice d.g ng d.ng) ∧ W.cell? ⟨cb,2,none⟩ = some (.slice Ak nk d.nk) ∧ W.cell? ⟨cb,3,none⟩ = some (.slice Ad nd d.nd) ∧ W.cell? ⟨cb,4,none⟩ = some (.slice Am nm d.nm) ∧ W.cell? ⟨cb,5,none⟩ = some (.slice Ax nx d.nx)):=Lib.hid (fun W hb => by
  rw [hnr,hng,hnk,hnd,hnm,hnx,hAr,hAk,hAd,hAm,hAx]
  have h:=(hC.on hb).at_
  exact ⟨h.c0,h.c1,h.c2,h.c3,h.c4,h.c5⟩)
 have hmr : nr ≤ maxLen:=by rw [hnr];exact hC.own.1.1
 have hmk : nk ≤ maxLen:=by rw [hnk];exact hC.own.1.2.2.1
 have hmd : nd ≤ maxLen:=by rw [hnd];exact hC.own.1.2.2.2.1
 have hmm : nm ≤ maxLen:=by rw [hnm];exact hC.own.1.2.2.2.2.1
 have hmx2 : nx ≤ maxLen:=by rw [hnx];exact hC.own.1.2.2.2.2.2
 have HNN:=Lib.hid (And.intro hnr (And.intro hng (And.intro hnk (And.intro hnd (And.intro hnm hnx)))))
 have HGs:=Lib.hid hgs
 have HOK:=Lib.hid (And.intro hfm (And.intro hdf (And.intro hlm hpr)))
 rw [← hnr,← hng,← hnk,← hnd,← hnm,← hnx,← hAr,← hAk,← hAd,← hAm,← hAx] at HP
 rw [← hng] at HTy
 obtain ⟨R,hR⟩ : ∃ R,R = chkC p:=⟨_,rfl⟩
 have HR:=Lib.hid hR
 obtain ⟨v,hv⟩ : ∃ v,v = vPg p:=⟨_,rfl⟩
 have HV:=Lib.hid hv
 rw [← hv] at HP
 rw [← hR]
 have HStop : Hid (∀ (t : Thr) (W : World),Below w.heap.size w W → R = (some t,(0,0)) → StsPost R cb d p w (.panicked [{ v:=thrV t,recovered:=false }]) W):=Lib.hid (fun t W hb hr => by
  rw [hr]
  exact ⟨rfl,near_of hb,(hC.on hb).box⟩)
 obtain ⟨c0,c1,c2,c3,c4,c5⟩:=HCL.out _ (Below.refl w.heap.size w)
 have hmx : Tryz.prog.follows .mixedOrders = true:=by kernel_rfl
 have K0:=Lib.hid (Below.refl w.heap.size w)
 clear hp hC hgs hfm hdf hlm hpr hB0 hnr hng hnk hnd hnm hnx hAr hAk hAd hAm hAx hR hv
 unfold maxLen at hmr hmk hmd hmm hmx2
 go_enter Tryz.func52,Tryz.ntmps52
 go_wp2_with fail
 clear c0 c1 c2 c3 c4 c5
 (with_reducible refine HP.out.mono ?_)
 rintro e w1 ⟨rfl,hb⟩
 have K1:=Lib.hid (K0.out.chain hb)
 clear hb HP
 go_wp2_with fail
 (with_reducible refine (demand_any v 1 [] w1).mono ?_)
 rintro e w2 ⟨he,hw⟩
 subst hw
 cases v
 ·obtain rfl : e = _:=he
  exact ⟨rfl,HStop.out _ w2 K1.out (by rw [HR.out];unfold chkC;rw [← HV.out];rfl)⟩
 obtain rfl : e = _:=he
 have HRP : Hid (R = pgC p):=Lib.hid (by rw [HR.out];unfold chkC;rw [← HV.out];rfl)
 go_wp2_with fail
 (with_reducible refine (HNa.out _ K1.out).mono ?_)
 rintro e w3 ⟨he,hb⟩
 have K3:=Lib.hid (K1.out.chain hb)
 clear hb
 rcases ck_then (c2:=none) he with ⟨h0,rfl⟩ | ⟨t,h0,rfl⟩
 rotate_left
 ·exact ⟨rfl,HStop.out t w3 K3.out (by rw [HRP.out];unfold pgC;rw [h0];rfl)⟩
 have H0:=Lib.hid h0
 clear h0 he
 obtain ⟨c0,-,-,-,-,-⟩:=HCL.out _ K3.out
 go_wp2
 go_loopg [26] nr (fun mm j wr => ∃ i : Nat,mm = nr - i ∧ i ≤ nr ∧ j = .int .i64 i ∧ Hid (Below w.heap.size w wr ∧ allC (fun r : Rc => paramsC p.rs r.fs) (p.rs.take i) = none))
 case atStart => exact ⟨0,rfl,Nat.zero_le _,rfl,Lib.hid ⟨K3.out,rfl⟩⟩
 case round =>
  obtain ⟨i,rfl,hi,rfl,HI⟩:=hrel
  have hi0 : (0 : Int) ≤ i:=by omega
  by_cases hlt : i < nr
  ·have hii : (i : Int) < nr:=by omega
   obtain ⟨y,hg⟩ : ∃ y,p.rs[i]? = some y:=⟨p.rs[i]'(by rw [← HNN.out.1];exact hlt),List.getElem?_eq_getElem _⟩
   obtain ⟨hck,hB0⟩:=HCk.out _ HI.out.1
   obtain ⟨a,cs,hA,hab,hcs,hca,hv⟩:=rc_rowV (hck.own.2.1) i y hg
   obtain rfl : Ar = some a:=HAD.out.1.trans hA
   obtain ⟨A,c,hcs2,hnl,hfl,hrw⟩:=hv
   subst hcs2
   obtain ⟨nf,hnf⟩ : ∃ n,n = y.fs.length:=⟨_,rfl⟩
   rw [← hnf] at hca
   have e0 : wr.cell? (a.add (i * 2)) = some (.string ⟨y.nm.toArray⟩):=by
    have h:=hca 0 _ rfl
    rwa [add_add_plain,Nat.add_zero] at h
   have e1 : wr.cell? ⟨(a.add (i * 2)).block,(a.add (i * 2)).off + 1,none⟩ = some (.slice A nf c):=hca 1 _ rfl
   obtain ⟨W6,hW6⟩ : ∃ W6,W6 = wr.alloc (.cells #[.string ⟨y.nm.toArray⟩,.slice A nf c] 36):=⟨_,rfl⟩
   have hb6 : Below w.heap.size w W6:=by rw [hW6];exact HI.out.1.alloc HI.out.1.size _
   have hb66 : Below wr.heap.size wr W6:=by rw [hW6];exact below_alloc wr _
   have HQ:=Lib.hid (tparams_any p d B0 cb y.fs A c nf hnf (by rw [hnf];exact hfl) B0 W6 (HCk.out _ hb6).2 (pm_rowV (hrw.stay pm_keeps hb66 hB0)) (HCk.out _ hb6).1.at_)
   have K6:=Lib.hid hb6
   have HG:=Lib.hid hg
   clear hg hck hB0 hab hcs hca hnl hfl hrw hnf hb6 hb66
   go_wp2_with fail
   rw [← hW6]
   clear hW6 e0 e1
   (with_reducible refine HQ.out.mono ?_)
   rintro e w5 ⟨he,hb⟩
   have K7:=Lib.hid (K6.out.chain hb)
   clear hb
   rcases ck_then (c2:=none) he with ⟨h1,rfl⟩ | ⟨t,h1,rfl⟩
   ·have HN : Hid (allC (fun r : Rc => paramsC p.rs r.fs) (p.rs.take (i + 1)) = none):=Lib.hid (by rw [allC_take_succ _ p.rs i y HG.out,HI.out.2,h1];rfl)
    clear he h1
    go_wp2
    go_roundg (nr - (i + 1))
    case measure => omega
    case rel => exact ⟨i + 1,rfl,by omega,by go_num,Lib.hid ⟨K7.out,HN.out⟩⟩
   ·exact ⟨rfl,HStop.out t w5 K7.out (by rw [HRP.out];unfold pgC;rw [H0.out,show allC (fun r : Rc => paramsC p.rs r.fs) p.rs = some t from allC_some _ p.rs i y t HG.out HI.out.2 h1];rfl)⟩
  ·have hlt' : ¬ (i : Int) < nr:=by omega
   obtain rfl : i = nr:=by omega
   obtain ⟨w6,hw6⟩ : ∃ X,X = wr:=⟨_,rfl⟩
   subst hw6
   have h1:=HI.out.2
   rw [List.take_of_length_le (by rw [HNN.out.1];exact Nat.le_refl _)] at h1
   have H1:=Lib.hid h1
   have K8:=Lib.hid HI.out.1
   clear h1 HI
   obtain ⟨-,c1,-,-,-,-⟩:=HCL.out _ K8.out
   clear c0
   go_wp2_with fail
   clear c1
   (with_reducible refine (HTy.out _ K8.out).mono ?_)
   rintro e w7 ⟨he,hb⟩
   have K9:=Lib.hid (K8.out.chain hb)
   clear hb
   rcases ck_then (c2:=none) he with ⟨h2,rfl⟩ | ⟨t,h2,rfl⟩
   rotate_left
   ·exact ⟨rfl,HStop.out t w7 K9.out (by rw [HRP.out];unfold pgC;rw [H0.out,H1.out,h2];rfl)⟩
   have H2:=Lib.hid h2
   clear h2 he
   obtain ⟨-,-,c2,-,-,-⟩:=HCL.out _ K9.out
   go_wp2
   go_loopg [48] nk (fun mm j wr => ∃ i : Nat,mm = nk - i ∧ i ≤ nk ∧ j = .int .i64 i ∧ Hid (Below w.heap.size w wr ∧ allC (fun k : Lk => fmsC p p.gs k.iv) (p.ks.take i) = none))
   case atStart => exact ⟨0,rfl,Nat.zero_le _,rfl,Lib.hid ⟨K9.out,rfl⟩⟩
   case round =>
    obtain ⟨i,rfl,hi,rfl,HI⟩:=hrel
    have hi0 : (0 : Int) ≤ i:=by omega
    by_cases hlt : i < nk
    ·have hii : (i : Int) < nk:=by omega
     obtain ⟨y,hg⟩ : ∃ y,p.ks[i]? = some y:=⟨p.ks[i]'(by rw [← HNN.out.2.2.1];exact hlt),List.getElem?_eq_getElem _⟩
     obtain ⟨hck,hB0⟩:=HCk.out _ HI.out.1
     obtain ⟨a,cs,hA,hab,hcs,hca,hv⟩:=lk_rowV (hck.own.2.2.2.1) i y hg
     obtain rfl : Ak = some a:=HAD.out.2.1.trans hA
     obtain ⟨A,c,hcs2,hnl,hfl,hrw⟩:=hv
     subst hcs2
     obtain ⟨nf,hnf⟩ : ∃ n,n = y.iv.length:=⟨_,rfl⟩
     rw [← hnf] at hca
     have e0 : wr.cell? (a.add (i * 2)) = some (.string ⟨y.nm.toArray⟩):=by
      have h:=hca 0 _ rfl
      rwa [add_add_plain,Nat.add_zero] at h
     have e1 : wr.cell? ⟨(a.add (i * 2)).block,(a.add (i * 2)).off + 1,none⟩ = some (.slice A nf c):=hca 1 _ rfl
     obtain ⟨W6,hW6⟩ : ∃ W6,W6 = wr.alloc (.cells #[.string ⟨y.nm.toArray⟩,.slice A nf c] 61):=⟨_,rfl⟩
     have hb6 : Below w.heap.size w W6:=by rw [hW6];exact HI.out.1.alloc HI.out.1.size _
     have hb66 : Below wr.heap.size wr W6:=by rw [hW6];exact below_alloc wr _
     have hp6 : W6.heap[wr.heap.size]? = some (.cells #[.string ⟨y.nm.toArray⟩,.slice A nf c] 61):=by rw [hW6];exact heap_of_alloc wr _
     obtain ⟨S,hS⟩ : ∃ S : World → Prop,S = fun W => Below W6.heap.size W6 W:=⟨_,rfl⟩
     have HS2 : Hid (∀ W,Below W6.heap.size W6 W → S W):=Lib.hid (fun W hb => by rw [hS];exact hb)
     have HLD : Hid (∀ W,S W → W.cell? ⟨cb,1,none⟩ = some (.slice d.g ng d.ng) ∧ W.cell? ⟨wr.heap.size,1,none⟩ = some (.slice A nf c)):=Lib.hid (fun W hs => by
      rw [hS] at hs
      exact ⟨(HCL.out _ (hb6.chain hs)).2.1,cell_of_block (kept_box hs hp6) 1 rfl⟩)
     have HX0:=Lib.hid (Below.refl W6.heap.size W6).drew
     have g0:=HS2.out _ HX0.out
     have HQ : Hid (∀ W,Below W6.heap.size W6 W → Calls Tryz.prog 74 #[.pointer (some ⟨cb,0,none⟩),.slice d.g ng d.ng,.slice A nf c] W (CkPost (fmsC p p.gs y.iv) W)):=Lib.hid (fun W hb => by
      obtain ⟨h1,h2⟩:=HCk.out _ (hb6.chain hb)
      exact formulas_any p d B0 cb y.iv (HOK.out.1 HV.out.symm y (List.mem_of_getElem? hg)) p.gs d.g ng d.ng B0 A nf c hnf (by rw [hnf];exact hfl) W HNN.out.2.1 (by rw [HNN.out.2.1];exact HGs.out HV.out.symm) h2 (pm_rowV h1.own.2.2.1) h1.at_ (hrw.stay fm_keeps (hb66.chain hb) hB0))
     have K6:=Lib.hid hb6
     have HG:=Lib.hid hg
     clear hg hck hB0 hab hcs hca hnl hfl hrw hnf hb6 hb66 hp6 hS
     go_wp2
     rw [← hW6]
     clear hW6 e0 e1
     refine wp_region_held (S:=S) hmx ?_
     change wpAnyH _ _ _ _ _ 9 #[false,false,false,false,false,false,false,false,false] _ W6.drew
     refine tk 0 52 (.pointer (some ⟨cb,0,none⟩)) g0 ?v ?_
     case v => intro Wx hSx;go_simp
     refine tk 1 53 (.pointer (some ⟨cb,0,none⟩)) g0 ?v ?_
     case v => intro Wx hSx;go_simp
     refine tk 2 54 (.pointer (some ⟨cb,0,none⟩)) g0 ?v ?_
     case v => intro Wx hSx;go_simp
     refine tk 3 55 (.pointer (some ⟨cb,0,none⟩)) g0 ?v ?_
     case v => intro Wx hSx;go_simp
     try simp only [Act.put,List.setIfInBounds_toArray,List.set_cons_zero,List.set_cons_succ]
     refine tk 4 56 (.pointer (some ⟨cb,1,none⟩)) g0 ?v ?_
     case v => intro Wx hSx;go_simp
     refine tk 5 57 (.slice d.g ng d.ng) g0 ?v ?_
     case v => intro Wx hSx;obtain ⟨z1,z2⟩:=HLD.out Wx hSx;go_simp
     refine tk 6 58 (.pointer (some ⟨wr.heap.size,1,none⟩)) g0 ?v ?_
     case v => intro Wx hSx;go_simp
     refine tk 7 59 (.slice A nf c) g0 ?v ?_
     case v => intro Wx hSx;obtain ⟨z1,z2⟩:=HLD.out Wx hSx;go_simp
     try simp only [Act.put,List.setIfInBounds_toArray,List.set_cons_zero,List.set_cons_succ]
     try simp only [Act.put,List.setIfInBounds_toArray,List.set_cons_zero,List.set_cons_succ]
     refine o1 8 (fun K hK => ?_)
     go_simp
     (with_reducible refine (HQ.out _ HX0.out).mono ?_)
     rintro e w5 ⟨he,hb⟩
     have K7:=Lib.hid (K6.out.chain (HX0.out.chain hb))
     have gS:=HS2.out _ (HX0.out.chain hb)
     clear hb
     rcases ck_then (c2:=none) he with ⟨h1,rfl⟩ | ⟨t,h1,rfl⟩
     ·have HN : Hid (allC (fun k : Lk => fmsC p p.gs k.iv) (p.ks.take (i + 1)) = none):=Lib.hid (by rw [allC_take_succ _ p.ks i y HG.out,HI.out.2,h1];rfl)
      refine hK _ _ gS ?_
      clear hK K he h1
      refine wpAnyH_done (by kernel_rfl) ?_ _
      go_wp2
      go_roundg (nk - (i + 1))
      case measure => omega
      case rel => exact ⟨i + 1,rfl,by omega,by go_num,Lib.hid ⟨K7.out,HN.out⟩⟩
     ·exact ⟨rfl,HStop.out t w5 K7.out (by rw [HRP.out];unfold pgC;rw [H0.out,H1.out,H2.out,show allC (fun k : Lk => fmsC p p.gs k.iv) p.ks = some t from allC_some _ p.ks i y t HG.out HI.out.2 h1];rfl)⟩
    ·have hlt' : ¬ (i : Int) < nk:=by omega
     obtain rfl : i = nk:=by omega
     obtain ⟨w8,hw8⟩ : ∃ X,X = wr:=⟨_,rfl⟩
     subst hw8
     have h1:=HI.out.2
     rw [List.take_of_length_le (by rw [HNN.out.2.2.1];exact Nat.le_refl _)] at h1
     have H3:=Lib.hid h1
     have K10:=Lib.hid HI.out.1
     clear h1 HI c2
     obtain ⟨-,-,-,c3,-,-⟩:=HCL.out _ K10.out
     go_wp2
     obtain ⟨T4,N4,zc4,hT4,hN4,hzc4,hag4,hsz4,hzv4⟩:=hid_DefC
     have e14 : ∀ y : Operand,Op.load 64 y = Op.load T4 y:=fun y => by rw [hT4]
     have e24 : ∀ y z : Operand,Op.store 64 y z = Op.store T4 y z:=fun y z => by rw [hT4]
     have e34 : Op.alloc 64 = Op.alloc T4:=by rw [hT4]
     simp only [e14,e24,e34]
     have HN4:=Lib.hid (And.intro hN4 hzc4)
     clear e14 e24 e34 hT4 hN4 hzc4
     go_loopg [68] nd (fun mm j wr => ∃ i : Nat,mm = nd - i ∧ i ≤ nd ∧ j = .int .i64 i ∧ Hid (Below w.heap.size w wr ∧ allC (dfC p) (p.ds.take i) = none))
     case atStart => exact ⟨0,rfl,Nat.zero_le _,rfl,Lib.hid ⟨K10.out,rfl⟩⟩
     case round =>
      obtain ⟨i,rfl,hi,rfl,HI⟩:=hrel
      have hi0 : (0 : Int) ≤ i:=by omega
      by_cases hlt : i < nd
      ·have hii : (i : Int) < nd:=by omega
       obtain ⟨y,hg⟩ : ∃ y,p.ds[i]? = some y:=⟨p.ds[i]'(by rw [← HNN.out.2.2.2.1];exact hlt),List.getElem?_eq_getElem _⟩
       obtain ⟨hck,hB0⟩:=HCk.out _ HI.out.1
       obtain ⟨a,cs,hA,hab,hcs,hca,hv⟩:=df_rowV (hck.own.2.2.2.2.1) i y hg
       obtain rfl : Ad = some a:=HAD.out.2.2.1.trans hA
       have hszc : cs.size = N4:=hcs.trans HN4.out.1.symm
       have hone : cs.all (·.oneCell') = true:=vDef_one hv
       have hl1 : (loadCellsFrom (a.add (i * 3)) 0 N4 #[]).run Tryz.prog wr = .ok cs wr:=load_list (fun j v hv => hca j v hv) hszc
       have hst:=st_new (w:=wr) (t:=T4) (HN4.out.2.trans hszc.symm) hone
       have hld:=ld_new (heap_of_alloc wr (.cells cs T4)) hszc
       obtain ⟨W6,hW6⟩ : ∃ W6,W6 = wr.alloc (.cells cs T4):=⟨_,rfl⟩
       have hb6 : Below w.heap.size w W6:=by rw [hW6];exact HI.out.1.alloc HI.out.1.size _
       have hb66 : Below wr.heap.size wr W6:=by rw [hW6];exact below_alloc wr _
       have HQ:=Lib.hid (HOK.out.2.1 HV.out.symm y (List.mem_of_getElem? hg) cs W6 (keptB vdf_keeps hB0 (Nat.le_refl _) hb66 hv) (HCk.out _ hb6).1.at_)
       have K6:=Lib.hid hb6
       have HG:=Lib.hid hg
       clear hg hck hB0 hab hcs hca hv hone hb6 hb66
       go_wp2_with fail
       rw [← hW6]
       clear hW6 hl1 hst hld
       (with_reducible refine HQ.out.mono ?_)
       rintro e w5 ⟨he,hb⟩
       have K7:=Lib.hid (K6.out.chain hb)
       clear hb
       rcases ck_then (c2:=none) he with ⟨h1,rfl⟩ | ⟨t,h1,rfl⟩
       ·have HN : Hid (allC (dfC p) (p.ds.take (i + 1)) = none):=Lib.hid (by rw [allC_take_succ _ p.ds i y HG.out,HI.out.2,h1];rfl)
        clear he h1
        go_wp2
        go_roundg (nd - (i + 1))
        case measure => omega
        case rel => exact ⟨i + 1,rfl,by omega,by go_num,Lib.hid ⟨K7.out,HN.out⟩⟩
       ·exact ⟨rfl,HStop.out t w5 K7.out (by rw [HRP.out];unfold pgC;rw [H0.out,H1.out,H2.out,H3.out,show allC (dfC p) p.ds = some t from allC_some _ p.ds i y t HG.out HI.out.2 h1];rfl)⟩
      ·have hlt' : ¬ (i : Int) < nd:=by omega
       obtain rfl : i = nd:=by omega
       obtain ⟨w9,hwn⟩ : ∃ X,X = wr:=⟨_,rfl⟩
       subst hwn
       have h1:=HI.out.2
       rw [List.take_of_length_le (by rw [HNN.out.2.2.2.1];exact Nat.le_refl _)] at h1
       have H4:=Lib.hid h1
       have K11:=Lib.hid HI.out.1
       clear h1 HI c3
       obtain ⟨-,-,-,-,c4,-⟩:=HCL.out _ K11.out
       go_wp2
       obtain ⟨T5,N5,zc5,hT5,hN5,hzc5,hag5,hsz5,hzv5⟩:=hid_LemmaC
       have e15 : ∀ y : Operand,Op.load 71 y = Op.load T5 y:=fun y => by rw [hT5]
       have e25 : ∀ y z : Operand,Op.store 71 y z = Op.store T5 y z:=fun y z => by rw [hT5]
       have e35 : Op.alloc 71 = Op.alloc T5:=by rw [hT5]
       simp only [e15,e25,e35]
       have HN5:=Lib.hid (And.intro hN5 hzc5)
       clear e15 e25 e35 hT5 hN5 hzc5
       go_loopg [82] nm (fun mm j wr => ∃ i : Nat,mm = nm - i ∧ i ≤ nm ∧ j = .int .i64 i ∧ Hid (Below w.heap.size w wr ∧ allC (lmC p) (p.ms.take i) = none))
       case atStart => exact ⟨0,rfl,Nat.zero_le _,rfl,Lib.hid ⟨K11.out,rfl⟩⟩
       case round =>
        obtain ⟨i,rfl,hi,rfl,HI⟩:=hrel
        have hi0 : (0 : Int) ≤ i:=by omega
        by_cases hlt : i < nm
        ·have hii : (i : Int) < nm:=by omega
         obtain ⟨y,hg⟩ : ∃ y,p.ms[i]? = some y:=⟨p.ms[i]'(by rw [← HNN.out.2.2.2.2.1];exact hlt),List.getElem?_eq_getElem _⟩
         obtain ⟨hck,hB0⟩:=HCk.out _ HI.out.1
         obtain ⟨a,cs,hA,hab,hcs,hca,hv⟩:=lm_rowV (hck.own.2.2.2.2.2.1) i y hg
         obtain rfl : Am = some a:=HAD.out.2.2.2.1.trans hA
         have hszc : cs.size = N5:=hcs.trans HN5.out.1.symm
         have hone : cs.all (·.oneCell') = true:=vLemma_one hv
         have hl1 : (loadCellsFrom (a.add (i * 8)) 0 N5 #[]).run Tryz.prog wr = .ok cs wr:=load_list (fun j v hv => hca j v hv) hszc
         have hst:=st_new (w:=wr) (t:=T5) (HN5.out.2.trans hszc.symm) hone
         have hld:=ld_new (heap_of_alloc wr (.cells cs T5)) hszc
         obtain ⟨W6,hW6⟩ : ∃ W6,W6 = wr.alloc (.cells cs T5):=⟨_,rfl⟩
         have hb6 : Below w.heap.size w W6:=by rw [hW6];exact HI.out.1.alloc HI.out.1.size _
         have hb66 : Below wr.heap.size wr W6:=by rw [hW6];exact below_alloc wr _
         have HQ:=Lib.hid (HOK.out.2.2.1 HV.out.symm y (List.mem_of_getElem? hg) cs W6 (keptB vlm_keeps hB0 (Nat.le_refl _) hb66 hv) (HCk.out _ hb6).1.at_)
         have K6:=Lib.hid hb6
         have HG:=Lib.hid hg
         clear hg hck hB0 hab hcs hca hv hone hb6 hb66
         go_wp2_with fail
         rw [← hW6]
         clear hW6 hl1 hst hld
         (with_reducible refine HQ.out.mono ?_)
         rintro e w5 ⟨he,hb⟩
         have K7:=Lib.hid (K6.out.chain hb)
         clear hb
         rcases ck_then (c2:=none) he with ⟨h1,rfl⟩ | ⟨t,h1,rfl⟩
         ·have HN : Hid (allC (lmC p) (p.ms.take (i + 1)) = none):=Lib.hid (by rw [allC_take_succ _ p.ms i y HG.out,HI.out.2,h1];rfl)
          clear he h1
          go_wp2
          go_roundg (nm - (i + 1))
          case measure => omega
          case rel => exact ⟨i + 1,rfl,by omega,by go_num,Lib.hid ⟨K7.out,HN.out⟩⟩
         ·exact ⟨rfl,HStop.out t w5 K7.out (by rw [HRP.out];unfold pgC;rw [H0.out,H1.out,H2.out,H3.out,H4.out,show allC (lmC p) p.ms = some t from allC_some _ p.ms i y t HG.out HI.out.2 h1];rfl)⟩
        ·have hlt' : ¬ (i : Int) < nm:=by omega
         obtain rfl : i = nm:=by omega
         obtain ⟨w10,hwn⟩ : ∃ X,X = wr:=⟨_,rfl⟩
         subst hwn
         have h1:=HI.out.2
         rw [List.take_of_length_le (by rw [HNN.out.2.2.2.2.1];exact Nat.le_refl _)] at h1
         have H5:=Lib.hid h1
         have K12:=Lib.hid HI.out.1
         clear h1 HI c4
         obtain ⟨-,-,-,-,-,c5⟩:=HCL.out _ K12.out
         go_wp2
         obtain ⟨T6,N6,zc6,hT6,hN6,hzc6,hag6,hsz6,hzv6⟩:=hid_ProcC
         have e16 : ∀ y : Operand,Op.load 46 y = Op.load T6 y:=fun y => by rw [hT6]
         have e26 : ∀ y z : Operand,Op.store 46 y z = Op.store T6 y z:=fun y z => by rw [hT6]
         have e36 : Op.alloc 46 = Op.alloc T6:=by rw [hT6]
         simp only [e16,e26,e36]
         have HN6:=Lib.hid (And.intro hN6 hzc6)
         clear e16 e26 e36 hT6 hN6 hzc6
         have HRX : Hid (R = prsC p (0,0) p.xs):=Lib.hid (by rw [HRP.out];unfold pgC;rw [H0.out,H1.out,H2.out,H3.out,H4.out,H5.out];rfl)
         go_loopg [96] nx (fun mm j wr => ∃ (i : Nat) (q : Int × Int),mm = nx - i ∧ i ≤ nx ∧ j = .int .i64 i ∧ Hid (Near cb w10 wr ∧ wr.heap[cb]? = some (chkO d p q) ∧ prsC p (0,0) (p.xs.take i) = (none,q)))
         case atStart => exact ⟨0,(0,0),rfl,Nat.zero_le _,rfl,Lib.hid ⟨near_of (Below.refl _ _),(HCk.out _ K12.out).1.box,rfl⟩⟩
         case round =>
          obtain ⟨i,q,rfl,hi,rfl,HI⟩:=hrel
          have hi0 : (0 : Int) ≤ i:=by omega
          by_cases hlt : i < nx
          ·have hii : (i : Int) < nx:=by omega
           obtain ⟨y,hg⟩ : ∃ y,p.xs[i]? = some y:=⟨p.xs[i]'(by rw [← HNN.out.2.2.2.2.2];exact hlt),List.getElem?_eq_getElem _⟩
           have hck:=(HCk.out _ K12.out).1.near HI.out.1 HI.out.2.1
           have hB0 : B0 ≤ wr.heap.size:=Nat.le_trans (HCk.out _ K12.out).2 HI.out.1.size
           obtain ⟨a,cs,hA,hab,hcs,hca,hv⟩:=pr_rowV hck.own.2.2.2.2.2.2 i y hg
           obtain rfl : Ax = some a:=HAD.out.2.2.2.2.trans hA
           have hszc : cs.size = N6:=hcs.trans HN6.out.1.symm
           have hone : cs.all (·.oneCell') = true:=vProc_one hv
           have hl1 : (loadCellsFrom (a.add (i * 12)) 0 N6 #[]).run Tryz.prog wr = .ok cs wr:=load_list (fun j v hv => hca j v hv) hszc
           have hst:=st_new (w:=wr) (t:=T6) (HN6.out.2.trans hszc.symm) hone
           have hld:=ld_new (heap_of_alloc wr (.cells cs T6)) hszc
           obtain ⟨W6,hW6⟩ : ∃ W6,W6 = wr.alloc (.cells cs T6):=⟨_,rfl⟩
           have hb66 : Below wr.heap.size wr W6:=by rw [hW6];exact below_alloc wr _
           have HQ:=Lib.hid (HOK.out.2.2.2 HV.out.symm y (List.mem_of_getElem? hg) cs W6 q (keptB vpr_keeps hB0 (Nat.le_refl _) hb66 hv) (hck.on hb66))
           have K6:=Lib.hid (HI.out.1.trans (near_of hb66))
           have HG:=Lib.hid hg
           clear hg hck hB0 hab hcs hca hv hone hb66
           go_wp2_with fail
           rw [← hW6]
           clear hW6 hl1 hst hld
           (with_reducible refine HQ.out.mono ?_)
           rintro e w11 ⟨he,hn,hbx⟩
           have K7:=Lib.hid (And.intro (K6.out.trans hn) hbx)
           clear hn hbx
           obtain ⟨r,hr⟩ : ∃ r,r = prC p y:=⟨_,rfl⟩
           rw [← hr] at he K7
           have HRY:=Lib.hid hr.symm
           clear hr
           obtain ⟨ck,q2⟩:=r
           rcases ck_then (c1:=ck) (c2:=none) he with ⟨h1,rfl⟩ | ⟨t,h1,rfl⟩
           ·subst h1
            have HN : Hid (prsC p (0,0) (p.xs.take (i + 1)) = (none,q2)):=Lib.hid ((prsC_take p (0,0) q p.xs i y HG.out HI.out.2.2).trans HRY.out)
            clear he
            go_wp2
            go_roundg (nx - (i + 1))
            case measure => omega
            case rel => exact ⟨i + 1,q2,rfl,by omega,by go_num,Lib.hid ⟨K7.out.1,K7.out.2,HN.out⟩⟩
           ·subst h1
            refine ⟨rfl,?_⟩
            rw [HRX.out,prsC_stop p (0,0) q p.xs i y t q2 HG.out HI.out.2.2 HRY.out]
            exact ⟨rfl,(near_of K12.out).trans K7.out.1,K7.out.2⟩
          ·have hlt' : ¬ (i : Int) < nx:=by omega
           obtain rfl : i = nx:=by omega
           have h1:=HI.out.2.2
           rw [List.take_of_length_le (by rw [HNN.out.2.2.2.2.2];exact Nat.le_refl _)] at h1
           have HE:=Lib.hid h1
           clear h1
           go_wp2
           refine bodyPost_end (results_none rfl _ _ _) rfl ?_
           rw [HRX.out,HE.out]
           exact ⟨rfl,(near_of K12.out).trans HI.out.1,HI.out.2.1⟩
end Go.Proofs.YtojjfdegkooknaaGreatDoor
namespace Go.Proofs.YtojjfdegkooknaaGreatDoor
set_option maxRecDepth 100000
set_option maxHeartbeats 8000000
open Go.RowKit Go.Lib
structure AllOk (p : Pg) (d : GAd) (B0 cb : Nat) : Prop where
 gs : vPg p = true → p.gs.length ≤ 3999999000000
 fm : vPg p = true → ∀ k ∈ p.ks,∀ f ∈ k.iv,FmOk p d B0 cb f
 df : vPg p = true → ∀ y ∈ p.ds,DfOk p d B0 cb y
 lm : vPg p = true → ∀ y ∈ p.ms,LmOk p d B0 cb y
 pr : vPg p = true → ∀ y ∈ p.xs,PrOk p d B0 cb y
def FaultPost (r : PCk) (w : World) (e : Ending) (w' : World) : Prop :=
 (((thrOf r.1).2 = 0 ∧ e = .returned (.slice none 0 0)) ∨ ((thrOf r.1).2 ≠ 0 ∧ ∃ g : Nat,e = .returned (.slice (some ⟨g,0,none⟩) 1 1) ∧ w.heap.size ≤ g ∧ w'.heap[g]? = some (.cells #[.int .i64 r.2.1,.int .i64 r.2.2,.string ⟨(thrOf r.1).1.toArray⟩,.int .i64 (thrOf r.1).2] 80))) ∧ Below w.heap.size w w'
theorem near_below {cb : Nat} {a w w' : World} (hb : Below a.heap.size a w) (h : Near cb w w') (hc : a.heap.size ≤ cb) : Below a.heap.size a w' :=
 ⟨h.os.trans hb.os,h.tape.trans hb.tape,h.output.trans hb.output,Nat.le_trans hb.size h.size,fun b hlt => (h.block b (Nat.lt_of_lt_of_le hlt hb.size) (by omega)).trans (hb.block b hlt)⟩
theorem Check_any (p : Pg) (d : GAd) (w : World) (hp : PartsAt w) (own : PgOwn w w.heap.size d p) (hok : AllOk p d w.heap.size (w.heap.size + 1)) :
 Calls Tryz.prog 29 #[.agg #[.slice d.r p.rs.length d.nr,.slice d.g p.gs.length d.ng,.slice d.k p.ks.length d.nk,.slice d.d p.ds.length d.nd,.slice d.m p.ms.length d.nm,.slice d.x p.xs.length d.nx]] w (FaultPost (chkC p) w):=by
 obtain ⟨W2,hW2⟩ : ∃ W2,W2 = (w.alloc (.cells #[.slice d.r p.rs.length d.nr,.slice d.g p.gs.length d.ng,.slice d.k p.ks.length d.nk,.slice d.d p.ds.length d.nd,.slice d.m p.ms.length d.nm,.slice d.x p.xs.length d.nx] 29)).alloc (chkO d p (0,0)):=⟨_,rfl⟩
 have hb2 : Below w.heap.size w W2:=by rw [hW2];exact (below_alloc w _).chain (below_alloc _ _)
 obtain ⟨cb,hcb⟩ : ∃ cb,cb = w.heap.size + 1:=⟨_,rfl⟩
 have hp2 : W2.heap[cb]? = some (chkO d p (0,0)):=by
  rw [hW2,hcb]
  have h:=heap_of_alloc (w.alloc (.cells #[.slice d.r p.rs.length d.nr,.slice d.g p.gs.length d.ng,.slice d.k p.ks.length d.nk,.slice d.d p.ds.length d.nd,.slice d.m p.ms.length d.nm,.slice d.x p.xs.length d.nx] 29)) (chkO d p (0,0))
  rw [size_of_alloc] at h
  exact h
 rw [← hcb] at hok
 obtain ⟨r,hr⟩ : ∃ r,r = chkC p:=⟨_,rfl⟩
 have hmf : ∀ (fn : Fn) (first cap : Array Value) (w : World),(Instr.makeFunc fn first cap).run Tryz.prog w = .ok (.func fn first cap) w:=fun _ _ _ _ => rfl
 have HC:=Lib.hid (caught_any 52 (.pointer (some ⟨cb,0,none⟩)) (enters_of Tryz.func52 (by kernel_rfl) rfl) r.1 cb (fun w' => w'.heap[cb]? = some (chkO d p r.2)) W2 (Array.getElem?_eq_some_iff.1 hp2).1 (fun W hb => by
  have hC : ChkW W w.heap.size cb d p (0,0):=⟨by omega,kept_box hb hp2,own.keep (fun q hq => (hb2.chain hb).cell hq) (Nat.le_refl _)⟩
  refine (check_any p d w.heap.size cb W (hp.on (hb2.chain hb)) hC hok.gs hok.fm hok.df hok.lm hok.pr).mono ?_
  rintro e w' ⟨h1,h2,h3⟩
  rw [hr]
  exact ⟨h1,h2,h3⟩))
 rw [← hr]
 obtain ⟨c,q⟩:=r
 obtain ⟨⟨n0,e0⟩,hn0⟩ : ∃ t,t = thrOf c:=⟨_,rfl⟩
 show Calls Tryz.prog _ _ w (FaultPost (c,q) w)
 unfold FaultPost
 dsimp only at HC
 dsimp only
 rw [← hn0] at HC
 rw [← hn0]
 dsimp only at HC
 dsimp only
 have HB2:=Lib.hid (And.intro hb2 hcb)
 obtain ⟨nr,hnr⟩ : ∃ n,n = p.rs.length:=⟨_,rfl⟩
 obtain ⟨ng,hng⟩ : ∃ n,n = p.gs.length:=⟨_,rfl⟩
 obtain ⟨nk,hnk⟩ : ∃ n,n = p.ks.length:=⟨_,rfl⟩
 obtain ⟨nd,hnd⟩ : ∃ n,n = p.ds.length:=⟨_,rfl⟩
 obtain ⟨nm,hnm⟩ : ∃ n,n = p.ms.length:=⟨_,rfl⟩
 obtain ⟨nx,hnx⟩ : ∃ n,n = p.xs.length:=⟨_,rfl⟩
 have HBX : Hid (∀ (w' : World),w'.heap[cb]? = some (chkO d p q) → w'.heap[cb]? = some (.cells #[.slice d.r nr d.nr,.slice d.g ng d.ng,.slice d.k nk d.nk,.slice d.d nd d.nd,.slice d.m nm d.nm,.slice d.x nx d.nx,.int .i64 q.1,.int .i64 q.2] 114 (0,0))):=Lib.hid (fun w' h => by rw [hnr,hng,hnk,hnd,hnm,hnx];exact h)
 unfold chkO at hW2
 rw [← hnr,← hng,← hnk,← hnd,← hnm,← hnx] at hW2
 rw [← hnr,← hng,← hnk,← hnd,← hnm,← hnx]
 clear hp own hok hb2 hp2 hr hn0 hnr hng hnk hnd hnm hnx
 go_enter Tryz.func29,Tryz.ntmps29
 go_wp2_with fail
 rw [← hW2,← hcb]
 clear hW2 hcb
 (with_reducible refine HC.out.mono ?_)
 rintro e w3 ⟨rfl,hn,w1,hpl,hbx⟩
 have H3:=Lib.hid (And.intro (near_below HB2.out.1 hn (by rw [HB2.out.2];exact Nat.le_succ _)) (HBX.out w3 (hbx.trans hpl)))
 clear hn hpl hbx
 have y6:=cell_of_block (heap_keep (o:=.cells #[.string ⟨n0.toArray⟩,.int .i64 e0] 116) H3.out.2) 6 (v:=.int .i64 q.1) rfl
 have y7:=cell_of_block (heap_keep (o:=.cells #[.string ⟨n0.toArray⟩,.int .i64 e0] 116) H3.out.2) 7 (v:=.int .i64 q.2) rfl
 have H4:=Lib.hid (H3.out.1.alloc H3.out.1.size (.cells #[.string ⟨n0.toArray⟩,.int .i64 e0] 116))
 by_cases h0 : e0 = 0
 ·subst h0
  clear y6 y7
  go_wp2
  go_ret
  exact ⟨rfl,H4.out⟩
 ·have h0' : (e0 == 0) = false:=beq_eq_false_iff_ne.2 h0
  have HNE:=Lib.hid h0
  have H5:=Lib.hid (H4.out.alloc H4.out.size (.cells #[.int .i64 q.1,.int .i64 q.2,.string ⟨n0.toArray⟩,.int .i64 e0] 80))
  have HP5:=Lib.hid (heap_of_alloc (w3.alloc (.cells #[.string ⟨n0.toArray⟩,.int .i64 e0] 116)) (.cells #[.int .i64 q.1,.int .i64 q.2,.string ⟨n0.toArray⟩,.int .i64 e0] 80))
  clear h0
  go_wp2
  go_ret
  have h5:=HP5.out
  rw [size_of_alloc] at h5
  exact ⟨.inr ⟨HNE.out,_,rfl,by have := H3.out.1.size;omega,h5⟩,H5.out⟩
def validB (p : Pg) : Bool:=(thrOf (chkC p).1).2 == 0
theorem Valid_any (p : Pg) (d : GAd) (w : World) (hp : PartsAt w) (own : PgOwn w w.heap.size d p) (hok : AllOk p d (w.heap.size + 1) (w.heap.size + 2)) :
 Calls Tryz.prog 18 #[.agg #[.slice d.r p.rs.length d.nr,.slice d.g p.gs.length d.ng,.slice d.k p.ks.length d.nk,.slice d.d p.ds.length d.nd,.slice d.m p.ms.length d.nm,.slice d.x p.xs.length d.nx]] w fun e w' => e = .returned (.bool (validB p)) ∧ Below w.heap.size w w':=by
 obtain ⟨W1,hW1⟩ : ∃ W1,W1 = w.alloc (.cells #[.slice d.r p.rs.length d.nr,.slice d.g p.gs.length d.ng,.slice d.k p.ks.length d.nk,.slice d.d p.ds.length d.nd,.slice d.m p.ms.length d.nm,.slice d.x p.xs.length d.nx] 29):=⟨_,rfl⟩
 have hb1 : Below w.heap.size w W1:=by rw [hW1];exact below_alloc w _
 have hs1 : W1.heap.size = w.heap.size + 1:=by rw [hW1,World.size_alloc]
 have HC:=Lib.hid (Check_any p d W1 (hp.on hb1) (own.on hb1) (by rw [hs1];exact hok))
 obtain ⟨v,hv⟩ : ∃ v,v = validB p:=⟨_,rfl⟩
 have HV:=Lib.hid hv
 have HB1:=Lib.hid hb1
 rw [← hv]
 obtain ⟨nr,hnr⟩ : ∃ n,n = p.rs.length:=⟨_,rfl⟩
 obtain ⟨ng,hng⟩ : ∃ n,n = p.gs.length:=⟨_,rfl⟩
 obtain ⟨nk,hnk⟩ : ∃ n,n = p.ks.length:=⟨_,rfl⟩
 obtain ⟨nd,hnd⟩ : ∃ n,n = p.ds.length:=⟨_,rfl⟩
 obtain ⟨nm,hnm⟩ : ∃ n,n = p.ms.length:=⟨_,rfl⟩
 obtain ⟨nx,hnx⟩ : ∃ n,n = p.xs.length:=⟨_,rfl⟩
 rw [← hnr,← hng,← hnk,← hnd,← hnm,← hnx] at hW1 HC
 rw [← hnr,← hng,← hnk,← hnd,← hnm,← hnx]
 clear hp own hok hb1 hs1 hv hnr hng hnk hnd hnm hnx
 go_enter Tryz.func18,Tryz.ntmps18
 go_wp2_with fail
 rw [← hW1]
 clear hW1
 (with_reducible refine HC.out.mono ?_)
 rintro e w3 ⟨hr,hb⟩
 have H3:=Lib.hid (HB1.out.chain hb)
 clear hb
 rcases hr with ⟨h0,rfl⟩ | ⟨h0,g,rfl,-,-⟩
 ·have h : v = true:=by rw [HV.out];unfold validB;rw [h0];rfl
  subst h
  go_wp2
  go_ret
  exact ⟨rfl,H3.out⟩
 ·have h : v = false:=by rw [HV.out];unfold validB;exact beq_eq_false_iff_ne.2 h0
  subst h
  go_wp2
  go_ret
  exact ⟨rfl,H3.out⟩
end Go.Proofs.YtojjfdegkooknaaGreatDoor
