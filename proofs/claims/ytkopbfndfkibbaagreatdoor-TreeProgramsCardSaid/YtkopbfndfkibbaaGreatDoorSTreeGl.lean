/-
  The reference's Formula.
-/
import Derived.Test.YtkopbfndfkibbaaGreatDoorSTreeLf
import Derived.Test.YtkopbfndfkibbaaGreatDoorSTreeF
import Derived.Test.YtkopbfndfkibbaaGreatDoorSTreeGf
set_option linter.unusedVariables false
set_option linter.unusedSimpArgs false
namespace Go.Proofs.YtkopbfndfkibbaaGreatDoor
set_option maxRecDepth 100000
set_option maxHeartbeats 8000000
open Go.RowKit
section
variable {var : List UInt8 → Bool} {nu ex : Int} {f : Fm}
theorem vF_ps (h : f.ps.all (vP var) = false) : vF var nu ex f = false:=by unfold vF;rw [h];simp
theorem vF_nd (h : ¬ (f.ps.map (·.nm)).Nodup) : vF var nu ex f = false:=by unfold vF;rw [decide_eq_false h];simp
theorem vF_ats (h : f.ats.all (vAt var nu) = false) : vF var nu ex f = false:=by unfold vF;rw [h];simp
theorem vF_cls (h : f.cls.all (vCl var nu) = false) : vF var nu ex f = false:=by unfold vF;rw [h];simp
theorem vF_n0 (h : ex < (f.ps.length : Int)) : vF var nu ex f = false:=by unfold vF;rw [decide_eq_false (show ¬ (f.ps.length : Int) ≤ ex by omega)];simp
theorem vF_n1 (h : (100 : Int) < f.ats.length) : vF var nu ex f = false:=by unfold vF;rw [decide_eq_false (show ¬ (f.ats.length : Int) ≤ 100 by omega)];simp
theorem vF_n2 (h : (100 : Int) < f.cls.length) : vF var nu ex f = false:=by unfold vF;rw [decide_eq_false (show ¬ (f.cls.length : Int) ≤ 100 by omega)];simp
theorem vF_true (h0 : (f.ps.length : Int) ≤ ex) (h1 : f.ps.all (vP var) = true) (h2 : (f.ps.map (·.nm)).Nodup) (h3 : (f.ats.length : Int) ≤ 100) (h4 : f.ats.all (vAt var nu) = true) (h5 : (f.cls.length : Int) ≤ 100) (h6 : f.cls.all (vCl var nu) = true) : vF var nu ex f = true:=by
 unfold vF
 rw [decide_eq_true h0,h1,decide_eq_true h2,decide_eq_true h3,h4,decide_eq_true h5,h6]
 rfl
end
theorem nodup_two {ps : List Pm} {q k : Nat} {t t' nm : List UInt8} (hq : ps[q]? = some ⟨t',nm⟩) (hk : ps[k]? = some ⟨t,nm⟩) (h : q < k) : ¬ (ps.map (·.nm)).Nodup:=by
 intro hn
 unfold List.Nodup at hn
 rw [List.pairwise_map] at hn
 obtain ⟨h1,e1⟩:=List.getElem?_eq_some_iff.1 hq
 obtain ⟨h2,e2⟩:=List.getElem?_eq_some_iff.1 hk
 have := List.pairwise_iff_getElem.1 hn q k h1 h2 h
 rw [e1,e2] at this
 exact this rfl
theorem nms_succ {ps : List Pm} {k : Nat} {t nm : List UInt8} (hi : ps[k]? = some ⟨t,nm⟩) : (ps.take (k + 1)).map (·.nm) = (ps.take k).map (·.nm) ++ [nm]:=by
 rw [List.take_add_one,hi,List.map_append]
 rfl
theorem sformula_any (f : Fm) (Ap : Option Addr) (cp : Nat) (Aa : Option Addr) (ca : Nat) (Ac : Option Addr) (cc : Nat) (w : World)
 (b0 : f.ps.length ≤ maxLen) (b1 : f.ats.length ≤ maxLen) (b2 : f.cls.length ≤ maxLen) (rp : PmRow w w.heap.size f.ps Ap) (ra : AtRow w w.heap.size f.ats Aa) (rc : ClRow w w.heap.size f.cls Ac) :
 Calls Tryz.prog 48 #[formulaV (.slice Ap f.ps.length cp) (.slice Aa f.ats.length ca) (.slice Ac f.cls.length cc)] w fun e w' => e = .returned (.bool (vF varR nuP 100 f)) ∧ Below w.heap.size w w':=by
 obtain ⟨res,hres⟩ : ∃ res,res = vF varR nuP 100 f:=⟨_,rfl⟩
 rw [← hres]
 obtain ⟨n0,hn0⟩ : ∃ n0,n0 = f.ps.length:=⟨_,rfl⟩
 obtain ⟨n1,hn1⟩ : ∃ n1,n1 = f.ats.length:=⟨_,rfl⟩
 obtain ⟨n2,hn2⟩ : ∃ n2,n2 = f.cls.length:=⟨_,rfl⟩
 rw [← hn0] at b0 ⊢
 rw [← hn1] at b1 ⊢
 rw [← hn2] at b2 ⊢
 obtain ⟨W1,hW1⟩ : ∃ W1,W1 = w.alloc (formulaC (.slice Ap n0 cp) (.slice Aa n1 ca) (.slice Ac n2 cc)):=⟨_,rfl⟩
 have HB : Hid (Below w.heap.size w W1):=Lib.hid (by rw [hW1];exact below_alloc w _)
 have HB0:=Lib.hid (Below.refl W1.heap.size W1)
 have q2:=heap_of_alloc w (formulaC (.slice Ap n0 cp) (.slice Aa n1 ca) (.slice Ac n2 cc))
 rw [← hW1] at q2
 have HF : Hid (∀ W,Below W1.heap.size W1 W → W.cell? ⟨w.heap.size,0,none⟩ = some (.slice Ap n0 cp) ∧ W.cell? ⟨w.heap.size,1,none⟩ = some (.slice Aa n1 ca) ∧ W.cell? ⟨w.heap.size,2,none⟩ = some (.slice Ac n2 cc)):=Lib.hid (fun W hb => box3f (kept_box hb q2))
 have HR:=Lib.hid (And.intro rp (And.intro ra rc))
 have HN:=Lib.hid (And.intro hn0 (And.intro hn1 (And.intro hn2 hres)))
 unfold maxLen at b0 b1 b2
 obtain ⟨d0,d1,d2⟩:=box3f q2
 clear rp ra rc q2 hn0 hn1 hn2 hres
 by_cases h0 : (100 : Int) < n0
 ·have E:=Lib.hid (And.intro trivial h0)
  go_enter Tryz.func48,Tryz.ntmps48
  go_wp2
  go_ret
  rw [← hW1]
  exact ⟨by rw [HN.out.2.2.2,vF_n0 (by have := E.out.2;have := HN.out.1;omega)];rfl,HB.out⟩
 by_cases h1 : (100 : Int) < n1
 ·have E:=Lib.hid (And.intro trivial h1)
  go_enter Tryz.func48,Tryz.ntmps48
  go_wp2
  go_ret
  rw [← hW1]
  exact ⟨by rw [HN.out.2.2.2,vF_n1 (by have := E.out.2;have := HN.out.2.1;omega)];rfl,HB.out⟩
 by_cases h2 : (100 : Int) < n2
 ·have E:=Lib.hid (And.intro trivial h2)
  go_enter Tryz.func48,Tryz.ntmps48
  go_wp2
  go_ret
  rw [← hW1]
  exact ⟨by rw [HN.out.2.2.2,vF_n2 (by have := E.out.2;have := HN.out.2.2.1;omega)];rfl,HB.out⟩
 have E:=Lib.hid (And.intro trivial (And.intro h0 (And.intro h1 h2)))
 go_enter Tryz.func48,Tryz.ntmps48
 go_wp2
 rw [← hW1]
 clear hW1
 go_loopg [3] n0 (fun m j wr => ∃ k : Nat,m = n0 - k ∧ k ≤ n0 ∧ j = .int .i64 k ∧ Hid (Below W1.heap.size W1 wr ∧ (f.ps.take k).all (vP varR) = true ∧ ((f.ps.take k).map (·.nm)).Nodup))
 case atStart => exact ⟨0,rfl,Nat.zero_le _,rfl,Lib.hid ⟨HB0.out,rfl,by simp⟩⟩
 case round =>
  obtain ⟨k,rfl,hk,rfl,HI⟩:=hrel
  clear d0 d1 d2
  obtain ⟨d0,d1,d2⟩:=HF.out _ HI.out.1
  by_cases hlt : k < n0
  ·have hki : (k : Int) < n0:=by omega
   obtain ⟨⟨t,nm⟩,hi⟩ : ∃ x,f.ps[k]? = some x:=⟨f.ps[k]'(by rw [← HN.out.1];exact hlt),List.getElem?_eq_getElem _⟩
   have HBW:=Lib.hid (HB.out.chain HI.out.1)
   obtain ⟨a,rfl,hab,e0,e1,ht,hnm⟩:=HR.out.1.at_ hi
   have hab' : (a.add (k * 2)).block < w.heap.size:=by rw [block_adds];exact hab
   have c0 : wr.cell? (a.add (k * 2)) = some (.string ⟨t.toArray⟩):=(HBW.out.cell hab').trans e0
   have c1 : wr.cell? ⟨(a.add (k * 2)).block,(a.add (k * 2)).off + 1,none⟩ = some (.string ⟨nm.toArray⟩):=(HBW.out.cell (p:=(a.add (k * 2)).add 1) (by rw [block_adds];exact hab')).trans e1
   have HC:=Lib.hid (sparam_any t nm wr ht hnm)
   have HX:=Lib.hid (And.intro hi (And.intro (all_take_succ (vP varR) f.ps k _ hi) (And.intro hlt (And.intro hab (And.intro hnm e1)))))
   obtain ⟨okx,hokx⟩ : ∃ b,b = (tyB t && varR nm):=⟨_,rfl⟩
   rw [← hokx] at HC
   have HO:=Lib.hid hokx
   clear e0 e1 ht hnm hi hab hab' hokx
   go_wp2_with (go_at_call 46;refine HC.out.mono ?_;rintro e w3 ⟨rfl,hb⟩;have HB3:=Lib.hid (HI.out.1.chain hb);clear hb)
   ·rename_i hf
    have hf' : vP varR ⟨t,nm⟩ = false:=by show (tyB t && varR nm) = false;rw [← HO.out];simpa using hf
    go_ret
    exact ⟨by rw [HN.out.2.2.2,vF_ps (all_of_false (vP varR) f.ps k _ HX.out.1 hf')];rfl,HB.out.chain HB3.out⟩
   ·rename_i hf
    have HOK : Hid (vP varR ⟨t,nm⟩ = true):=Lib.hid (by show (tyB t && varR nm) = true;rw [← HO.out];simpa using hf)
    clear hf
    obtain ⟨f0,f1,f2⟩:=HF.out _ HB3.out
    go_loopg [4] k (fun m j wr => ∃ q : Nat,m = k - q ∧ q ≤ k ∧ j = .int .i64 q ∧ Hid (Below W1.heap.size W1 wr ∧ nm ∉ (f.ps.take q).map (·.nm)))
    case atStart => exact ⟨0,rfl,Nat.zero_le _,rfl,Lib.hid ⟨HB3.out,by simp⟩⟩
    case round =>
     obtain ⟨q,rfl,hq,rfl,HJ⟩:=hrel
     clear f0 f1 f2 c0 c1 d0 d1 d2
     obtain ⟨f0,f1,f2⟩:=HF.out _ HJ.out.1
     by_cases hqt : q < k
     ·have hqi : (q : Int) < k:=by omega
      have hqn : (q : Int) < n0:=by omega
      obtain ⟨⟨t2,nm2⟩,hx⟩ : ∃ x,f.ps[q]? = some x:=⟨f.ps[q]'(by have := HN.out.1;omega),List.getElem?_eq_getElem _⟩
      obtain ⟨a',ha',hab2,e0,e1,ht2,hnm2⟩:=HR.out.1.at_ hx
      obtain rfl:=Option.some.inj ha'
      have HBJ:=Lib.hid (HB.out.chain HJ.out.1)
      have c1 : wr.cell? ⟨(a.add (k * 2)).block,(a.add (k * 2)).off + 1,none⟩ = some (.string ⟨nm.toArray⟩):=(HBJ.out.cell (p:=(a.add (k * 2)).add 1) (by rw [block_adds,block_adds];exact hab2)).trans HX.out.2.2.2.2.2
      have c2 : wr.cell? ⟨(a.add (q * 2)).block,(a.add (q * 2)).off + 1,none⟩ = some (.string ⟨nm2.toArray⟩):=(HBJ.out.cell (p:=(a.add (q * 2)).add 1) (by rw [block_adds,block_adds];exact hab2)).trans e1
      have HXQ:=Lib.hid (And.intro hx hqt)
      clear e0 e1 ht2 hnm2 hx ha' f1 f2
      by_cases hne : nm2 = nm
      ·subst hne
       go_wp2
       go_region_held3 (fun W => W.cell? ⟨w.heap.size,0,none⟩ = some (.slice (some a) n0 cp) ∧ W.cell? ⟨(a.add (k * 2)).block,(a.add (k * 2)).off + 1,none⟩ = some (.string ⟨nm2.toArray⟩) ∧ W.cell? ⟨(a.add (q * 2)).block,(a.add (q * 2)).off + 1,none⟩ = some (.string ⟨nm2.toArray⟩))
        (first | go_keep | (trace_state;fail))
        (fail)
       all_goals go_wp2
       all_goals go_ret
       all_goals exact ⟨by rw [HN.out.2.2.2,vF_nd (nodup_two HXQ.out.1 HX.out.1 HXQ.out.2)];rfl,HB.out.chain (by first | exact HJ.out.1 | exact HJ.out.1.drew)⟩
      ·have hne1 : (nm2 == nm) = false:=by simpa using hne
       have hne2 : ¬ ((⟨nm2.toArray⟩ : ByteArray) = ⟨nm.toArray⟩):=fun h => by injection h with h;exact hne (Array.toList_inj.2 h)
       have HNE:=Lib.hid hne
       go_wp2
       go_region_held3 (fun W => W.cell? ⟨w.heap.size,0,none⟩ = some (.slice (some a) n0 cp) ∧ W.cell? ⟨(a.add (k * 2)).block,(a.add (k * 2)).off + 1,none⟩ = some (.string ⟨nm.toArray⟩) ∧ W.cell? ⟨(a.add (q * 2)).block,(a.add (q * 2)).off + 1,none⟩ = some (.string ⟨nm2.toArray⟩))
        (first | go_keep | (trace_state;fail))
        (fail)
       all_goals go_wp2
       all_goals
        (go_roundg (k - (q + 1))
         case measure => have := HXQ.out.2;omega
         case rel => exact ⟨q + 1,rfl,(by have := HXQ.out.2;omega),by go_num,Lib.hid ⟨(by first | exact HJ.out.1 | exact HJ.out.1.drew),by
          rw [nms_succ HXQ.out.1]
          intro h
          rcases List.mem_append.1 h with h | h
          ·exact HJ.out.2 h
          ·exact HNE.out (List.mem_singleton.1 h).symm⟩⟩)
     ·obtain rfl : q = k:=by omega
      go_wp2
      go_roundg (n0 - (q + 1))
      case measure => have := HX.out.2.2.1;omega
      case rel => exact ⟨q + 1,rfl,(by have := HX.out.2.2.1;omega),by go_num,Lib.hid ⟨HJ.out.1,by rw [HX.out.2.1,HI.out.2.1,HOK.out];rfl,by rw [nms_succ HX.out.1];exact (nodup_snoc _ _).2 ⟨HI.out.2.2,HJ.out.2⟩⟩⟩
  ·obtain rfl : k = n0:=by omega
   have HPS : Hid (f.ps.all (vP varR) = true ∧ (f.ps.map (·.nm)).Nodup):=Lib.hid (by
    have h:=HI.out.2
    rwa [List.take_of_length_le (by rw [HN.out.1];exact Nat.le_refl _)] at h)
   go_wp2
   go_loopg [5] n1 (fun m j wr => ∃ q : Nat,m = n1 - q ∧ q ≤ n1 ∧ j = .int .i64 q ∧ Hid (Below W1.heap.size W1 wr ∧ (f.ats.take q).all (vAt varR nuP) = true))
   case atStart => exact ⟨0,rfl,Nat.zero_le _,rfl,Lib.hid ⟨HI.out.1,rfl⟩⟩
   case round =>
    obtain ⟨q,rfl,hq,rfl,HJ⟩:=hrel
    clear d0 d1 d2
    obtain ⟨d0,d1,d2⟩:=HF.out _ HJ.out.1
    by_cases hqt : q < n1
    ·have hqi : (q : Int) < n1:=by omega
     obtain ⟨⟨k0,xa,xb⟩,hx⟩ : ∃ x,f.ats[q]? = some x:=⟨f.ats[q]'(by rw [← HN.out.2.1];exact hqt),List.getElem?_eq_getElem _⟩
     have HBJ:=Lib.hid (HB.out.chain HJ.out.1)
     obtain ⟨a,rfl,hab,ak,an,sa,al,bk,bn,sb,bl,Ba,ca2,Bb,cb2,rfl,rfl,hc,⟨p1,p2,p3,p4⟩,ra,rb⟩:=HR.out.2.1.at_ hx
     simp only at hc
     have hcw:=hc.stay HBJ.out (by rw [block_adds];exact hab)
     obtain ⟨e0,e1,e2,e3,e4,e5,e6,e7,e8⟩:=hcw.flat
     have HC:=Lib.hid (satom_any k0 ak an sa al bk bn sb bl Ba ca2 Bb cb2 wr (ra.on HBJ.out) (rb.on HBJ.out) p1 p2 p3 p4)
     have HX:=Lib.hid (And.intro hx (And.intro (all_take_succ (vAt varR nuP) f.ats q _ hx) hqt))
     obtain ⟨okx,hokx⟩ : ∃ b,b = ((decide (1 ≤ k0) && decide (k0 ≤ 4)) && vE varR nuP 30 (.mk ak an sa al) && vE varR nuP 30 (.mk bk bn sb bl)):=⟨_,rfl⟩
     rw [← hokx] at HC
     have HO:=Lib.hid hokx
     clear hc hcw p1 p2 p3 p4 ra rb hx hab hokx
     go_wp2_with (go_at_call 83;refine HC.out.mono ?_;rintro e w3 ⟨rfl,hb⟩;have HB3:=Lib.hid (HJ.out.1.chain hb);clear hb)
     ·rename_i hf
      have hf' : vAt varR nuP ⟨k0,.mk ak an sa al,.mk bk bn sb bl⟩ = false:=by show ((decide (1 ≤ k0) && decide (k0 ≤ 4)) && vE varR nuP 30 (.mk ak an sa al) && vE varR nuP 30 (.mk bk bn sb bl)) = false;rw [← HO.out];simpa using hf
      go_ret
      exact ⟨by rw [HN.out.2.2.2,vF_ats (all_of_false (vAt varR nuP) f.ats q _ HX.out.1 hf')];rfl,HB.out.chain HB3.out⟩
     ·rename_i hf
      have hf' : vAt varR nuP ⟨k0,.mk ak an sa al,.mk bk bn sb bl⟩ = true:=by show ((decide (1 ≤ k0) && decide (k0 ≤ 4)) && vE varR nuP 30 (.mk ak an sa al) && vE varR nuP 30 (.mk bk bn sb bl)) = true;rw [← HO.out];simpa using hf
      go_roundg (n1 - (q + 1))
      case measure => have := HX.out.2.2;omega
      case rel => exact ⟨q + 1,rfl,(by have := HX.out.2.2;omega),by go_num,Lib.hid ⟨HB3.out,by rw [HX.out.2.1,HJ.out.2,hf'];rfl⟩⟩
    ·obtain rfl : q = n1:=by omega
     have HAS : Hid (f.ats.all (vAt varR nuP) = true):=Lib.hid (by
      have h:=HJ.out.2
      rwa [List.take_of_length_le (by rw [HN.out.2.1];exact Nat.le_refl _)] at h)
     go_wp2
     go_loopg [6] n2 (fun m j wr => ∃ t : Nat,m = n2 - t ∧ t ≤ n2 ∧ j = .int .i64 t ∧ Hid (Below W1.heap.size W1 wr ∧ (f.cls.take t).all (vCl varR nuP) = true))
     case atStart => exact ⟨0,rfl,Nat.zero_le _,rfl,Lib.hid ⟨HJ.out.1,rfl⟩⟩
     case round =>
      obtain ⟨t,rfl,ht,rfl,HK⟩:=hrel
      clear d0 d1 d2
      obtain ⟨d0,d1,d2⟩:=HF.out _ HK.out.1
      by_cases htt : t < n2
      ·have hti : (t : Int) < n2:=by omega
       obtain ⟨⟨k0,nm,l⟩,hx⟩ : ∃ x,f.cls[t]? = some x:=⟨f.cls[t]'(by rw [← HN.out.2.2.1];exact htt),List.getElem?_eq_getElem _⟩
       have HBK:=Lib.hid (HB.out.chain HK.out.1)
       obtain ⟨a,rfl,hab,Al,cl,e0,e1,e2,hnm,hll,rl⟩:=HR.out.2.2.at_ hx
       simp only at e0 e1 e2 hnm hll rl
       have hab' : (a.add (t * 3)).block < w.heap.size:=by rw [block_adds];exact hab
       have c0 : wr.cell? (a.add (t * 3)) = some (.int .i64 k0):=(HBK.out.cell hab').trans e0
       have c1 : wr.cell? ⟨(a.add (t * 3)).block,(a.add (t * 3)).off + 1,none⟩ = some (.string ⟨nm.toArray⟩):=(HBK.out.cell (p:=(a.add (t * 3)).add 1) (by rw [block_adds];exact hab')).trans e1
       have c2 : wr.cell? ⟨(a.add (t * 3)).block,(a.add (t * 3)).off + 2,none⟩ = some (.slice Al l.length cl):=(HBK.out.cell (p:=(a.add (t * 3)).add 2) (by rw [block_adds];exact hab')).trans e2
       have HC:=Lib.hid (scell_any k0 nm l Al cl wr (rl.on HBK.out) hnm hll)
       have HX:=Lib.hid (And.intro hx (And.intro (all_take_succ (vCl varR nuP) f.cls t _ hx) htt))
       obtain ⟨okx,hokx⟩ : ∃ b,b = vCl varR nuP ⟨k0,nm,l⟩:=⟨_,rfl⟩
       rw [← hokx] at HC
       have HO:=Lib.hid hokx
       clear e0 e1 e2 hnm hll rl hx hab hab' hokx
       go_wp2_with (go_at_call 84;refine HC.out.mono ?_;rintro e w3 ⟨rfl,hb⟩;have HB3:=Lib.hid (HK.out.1.chain hb);clear hb)
       ·rename_i hf
        have hf' : vCl varR nuP ⟨k0,nm,l⟩ = false:=by rw [← HO.out];simpa using hf
        go_ret
        exact ⟨by rw [HN.out.2.2.2,vF_cls (all_of_false (vCl varR nuP) f.cls t _ HX.out.1 hf')];rfl,HB.out.chain HB3.out⟩
       ·rename_i hf
        have hf' : vCl varR nuP ⟨k0,nm,l⟩ = true:=by rw [← HO.out];simpa using hf
        go_roundg (n2 - (t + 1))
        case measure => have := HX.out.2.2;omega
        case rel => exact ⟨t + 1,rfl,(by have := HX.out.2.2;omega),by go_num,Lib.hid ⟨HB3.out,by rw [HX.out.2.1,HK.out.2,hf'];rfl⟩⟩
      ·obtain rfl : t = n2:=by omega
       go_wp2
       go_ret
       refine ⟨?_,HB.out.chain HK.out.1⟩
       have h:=HK.out.2
       rw [List.take_of_length_le (by rw [HN.out.2.2.1];exact Nat.le_refl _)] at h
       rw [HN.out.2.2.2,vF_true (by have := E.out.2.1;have := HN.out.1;omega) HPS.out.1 HPS.out.2 (by have := E.out.2.2.1;have := HN.out.2.1;omega) HAS.out (by have := E.out.2.2.2;have := HN.out.2.2.1;omega) h]
       rfl
end Go.Proofs.YtkopbfndfkibbaaGreatDoor
