import Derived.Test.YtbalioicgpgehaaGreatDoorSTreeL
import Derived.Test.YtbalioicgpgehaaGreatDoorSTreeGp
import Derived.Test.YtbalioicgpgehaaGreatDoorSTreeGf
import Derived.Test.YtbalioicgpgehaaGreatDoorSTreeKw
set_option linter.unusedVariables false
set_option linter.unusedSimpArgs false
namespace Go.Proofs.YtbalioicgpgehaaGreatDoor
set_option maxRecDepth 100000
set_option maxHeartbeats 8000000
open Go.RowKit
section
variable {var : List UInt8 → Bool} {nu ex : Int} {f : Fm}
theorem vF_ps (h : f.ps.all (vP var) = false) : vF var nu ex f = false:=by unfold vF;rw [h];simp
theorem vF_nd (h : ¬ (f.ps.map (·.nm)).Nodup) : vF var nu ex f = false:=by unfold vF;rw [decide_eq_false h];simp
theorem vF_ats (h : f.ats.all (vAt var nu) = false) : vF var nu ex f = false:=by unfold vF;rw [h];simp
theorem vF_cls (h : f.cls.all (vCl var nu) = false) : vF var nu ex f = false:=by unfold vF;rw [h];simp
theorem vF_n0 (h : ex < (f.ps.length : Int)) : vF var nu ex f = false:=by unfold vF;rw [decide_eq_false (show ¬ (f.ps.length : Int) ≤ ex by omega)];simp
theorem vF_n1 (h : (100 : Int) < f.ats.length) : vF var nu ex f = false:=by unfold vF;rw [decide_eq_false (show ¬ (f.ats.length : Int) ≤ 100 by omega)];simp
theorem vF_n2 (h : (100 : Int) < f.cls.length) : vF var nu ex f = false:=by unfold vF;rw [decide_eq_false (show ¬ (f.cls.length : Int) ≤ 100 by omega)];simp
theorem vF_true (h0 : (f.ps.length : Int) ≤ ex) (h1 : f.ps.all (vP var) = true) (h2 : (f.ps.map (·.nm)).Nodup) (h3 : (f.ats.length : Int) ≤ 100) (h4 : f.ats.all (vAt var nu) = true) (h5 : (f.cls.length : Int) ≤ 100) (h6 : f.cls.all (vCl var nu) = true) : vF var nu ex f = true:=by
 unfold vF
 rw [decide_eq_true h0,h1,decide_eq_true h2,decide_eq_true h3,h4,decide_eq_true h5,h6]
 rfl
end
theorem nodup_two {ps : List Pm} {q k : Nat} {t t' nm : List UInt8} (hq : ps[q]? = some ⟨t',nm⟩) (hk : ps[k]? = some ⟨t,nm⟩) (h : q < k) : ¬ (ps.map (·.nm)).Nodup:=by
 intro hn
 unfold List.Nodup at hn
 rw [List.pairwise_map] at hn
 obtain ⟨h1,e1⟩:=List.getElem?_eq_some_iff.1 hq
 obtain ⟨h2,e2⟩:=List.getElem?_eq_some_iff.1 hk
 have := List.pairwise_iff_getElem.1 hn q k h1 h2 h
 rw [e1,e2] at this
 exact this rfl
theorem nms_succ {ps : List Pm} {k : Nat} {t nm : List UInt8} (hi : ps[k]? = some ⟨t,nm⟩) : (ps.take (k + 1)).map (·.nm) = (ps.take k).map (·.nm) ++ [nm]:=by
 rw [List.take_add_one,hi,List.map_append]
 rfl
theorem sformula_any (f : Fm) (Ap : Option Addr) (cp : Nat) (Aa : Option Addr) (ca : Nat) (Ac : Option Addr) (cc : Nat) (w : World)
 (b0 : f.ps.length ≤ maxLen) (b1 : f.ats.length ≤ maxLen) (b2 : f.cls.length ≤ maxLen) (rp : PmRow w w.heap.size f.ps Ap) (ra : AtRow w w.heap.size f.ats Aa) (rc : ClRow w w.heap.size f.cls Ac) :
 Calls Tryz.prog 135 #[formulaV (.slice Ap f.ps.length cp) (.slice Aa f.ats.length ca) (.slice Ac f.cls.length cc)] w fun e w' => e = .returned (.bool (vF varR nuP 100 f)) ∧ Below w.heap.size w w':=by
 obtain ⟨res,hres⟩ : ∃ res,res = vF varR nuP 100 f:=⟨_,rfl⟩
 rw [← hres]
 obtain ⟨n0,hn0⟩ : ∃ n0,n0 = f.ps.length:=⟨_,rfl⟩
 obtain ⟨n1,hn1⟩ : ∃ n1,n1 = f.ats.length:=⟨_,rfl⟩
 obtain ⟨n2,hn2⟩ : ∃ n2,n2 = f.cls.length:=⟨_,rfl⟩
 rw [← hn0] at b0 ⊢
 rw [← hn1] at b1 ⊢
 rw [← hn2] at b2 ⊢
 obtain ⟨W1,hW1⟩ : ∃ W1,W1 = w.alloc (formulaC (.slice Ap n0 cp) (.slice Aa n1 ca) (.slice Ac n2 cc)):=⟨_,rfl⟩
 have HB : Hid (Below w.heap.size w W1):=Lib.hid (by rw [hW1];exact below_alloc w _)
 have HB0:=Lib.hid (Below.refl W1.heap.size W1)
 have q2:=heap_of_alloc w (formulaC (.slice Ap n0 cp) (.slice Aa n1 ca) (.slice Ac n2 cc))
 rw [← hW1] at q2
 have HF : Hid (∀ W,Below W1.heap.size W1 W → W.cell? ⟨w.heap.size,0,none⟩ = some (.slice Ap n0 cp) ∧ W.cell? ⟨w.heap.size,1,none⟩ = some (.slice Aa n1 ca) ∧ W.cell? ⟨w.heap.size,2,none⟩ = some (.slice Ac n2 cc)):=Lib.hid (fun W hb => box3f (kept_box hb q2))
 have HR:=Lib.hid (And.intro rp (And.intro ra rc))
 have HN:=Lib.hid (And.intro hn0 (And.intro hn1 (And.intro hn2 hres)))
 unfold maxLen at b0 b1 b2
 obtain ⟨d0,d1,d2⟩:=box3f q2
 clear rp ra rc q2 hn0 hn1 hn2 hres
 by_cases h0 : (100 : Int) < n0
 ·have E:=Lib.hid (And.intro trivial h0)
  go_enter Tryz.func135,Tryz.ntmps135
  go_wp2
  go_ret
  rw [← hW1]
  exact ⟨by rw [HN.out.2.2.2,vF_n0 (by have := E.out.2;have := HN.out.1;omega)];rfl,HB.out⟩
 by_cases h1 : (100 : Int) < n1
 ·have E:=Lib.hid (And.intro trivial h1)
  go_enter Tryz.func135,Tryz.ntmps135
  go_wp2
  go_ret
  rw [← hW1]
  exact ⟨by rw [HN.out.2.2.2,vF_n1 (by have := E.out.2;have := HN.out.2.1;omega)];rfl,HB.out⟩
 by_cases h2 : (100 : Int) < n2
 ·have E:=Lib.hid (And.intro trivial h2)
  go_enter Tryz.func135,Tryz.ntmps135
  go_wp2
  go_ret
  rw [← hW1]
  exact ⟨by rw [HN.out.2.2.2,vF_n2 (by have := E.out.2;have := HN.out.2.2.1;omega)];rfl,HB.out⟩
 have E:=Lib.hid (And.intro trivial (And.intro h0 (And.intro h1 h2)))
 go_enter Tryz.func135,Tryz.ntmps135
 go_wp2
 rw [← hW1]
 clear hW1
 go_loopg [3] n0 (fun m j wr => ∃ k : Nat,m = n0 - k ∧ k ≤ n0 ∧ j = .int .i64 k ∧ Hid (Below W1.heap.size W1 wr ∧ (f.ps.take k).all (vP varR) = true ∧ ((f.ps.take k).map (·.nm)).Nodup))
 case atStart => exact ⟨0,rfl,Nat.zero_le _,rfl,Lib.hid ⟨HB0.out,rfl,by simp⟩⟩
 case round =>
  obtain ⟨k,rfl,hk,rfl,HI⟩:=hrel
  clear d0 d1 d2
  obtain ⟨d0,d1,d2⟩:=HF.out _ HI.out.1
  by_cases hlt : k < n0
  ·have hki : (k : Int) < n0:=by omega
   obtain ⟨⟨t,nm⟩,hi⟩ : ∃ x,f.ps[k]? = some x:=⟨f.ps[k]'(by rw [← HN.out.1];exact hlt),List.getElem?_eq_getElem _⟩
   have HBW:=Lib.hid (HB.out.chain HI.out.1)
   obtain ⟨a,rfl,hab,e0,e1,ht,hnm⟩:=HR.out.1.at_ hi
   have hab' : (a.add (k * 2)).block < w.heap.size:=by rw [block_adds];exact hab
   have c0 : wr.cell? (a.add (k * 2)) = some (.string ⟨t.toArray⟩):=(HBW.out.cell hab').trans e0
   have c1 : wr.cell? ⟨(a.add (k * 2)).block,(a.add (k * 2)).off + 1,none⟩ = some (.string ⟨nm.toArray⟩):=(HBW.out.cell (p:=(a.add (k * 2)).add 1) (by rw [block_adds];exact hab')).trans e1
   have HC:=Lib.hid (sparam_any t nm wr ht hnm)
   have HX:=Lib.hid (And.intro hi (And.intro (all_take_succ (vP varR) f.ps k _ hi) (And.intro hlt (And.intro hab (And.intro hnm e1)))))
   obtain ⟨okx,hokx⟩ : ∃ b,b = (tyB t && varR nm):=⟨_,rfl⟩
   rw [← hokx] at HC
   have HO:=Lib.hid hokx
   clear e0 e1 ht hnm hi hab hab' hokx
   go_wp2_with (go_at_call 174;refine HC.out.mono ?_;rintro e w3 ⟨rfl,hb⟩;have HB3:=Lib.hid (HI.out.1.chain hb);clear hb)
   ·rename_i hf
    have hf' : vP varR ⟨t,nm⟩ = false:=by show (tyB t && varR nm) = false;rw [← HO.out];simpa using hf
    go_ret
    exact ⟨by rw [HN.out.2.2.2,vF_ps (all_of_false (vP varR) f.ps k _ HX.out.1 hf')];rfl,HB.out.chain HB3.out⟩
   ·rename_i hf
    have HOK : Hid (vP varR ⟨t,nm⟩ = true):=Lib.hid (by show (tyB t && varR nm) = true;rw [← HO.out];simpa using hf)
    clear hf
    obtain ⟨f0,f1,f2⟩:=HF.out _ HB3.out
    go_loopg [4] k (fun m j wr => ∃ q : Nat,m = k - q ∧ q ≤ k ∧ j = .int .i64 q ∧ Hid (Below W1.heap.size W1 wr ∧ nm ∉ (f.ps.take q).map (·.nm)))
    case atStart => exact ⟨0,rfl,Nat.zero_le _,rfl,Lib.hid ⟨HB3.out,by simp⟩⟩
    case round =>
     obtain ⟨q,rfl,hq,rfl,HJ⟩:=hrel
     clear f0 f1 f2 c0 c1 d0 d1 d2
     obtain ⟨f0,f1,f2⟩:=HF.out _ HJ.out.1
     by_cases hqt : q < k
     ·have hqi : (q : Int) < k:=by omega
      have hqn : (q : Int) < n0:=by omega
      obtain ⟨⟨t2,nm2⟩,hx⟩ : ∃ x,f.ps[q]? = some x:=⟨f.ps[q]'(by have := HN.out.1;omega),List.getElem?_eq_getElem _⟩
      obtain ⟨a',ha',hab2,e0,e1,ht2,hnm2⟩:=HR.out.1.at_ hx
      obtain rfl:=Option.some.inj ha'
      have HBJ:=Lib.hid (HB.out.chain HJ.out.1)
      have c1 : wr.cell? ⟨(a.add (k * 2)).block,(a.add (k * 2)).off + 1,none⟩ = some (.string ⟨nm.toArray⟩):=(HBJ.out.cell (p:=(a.add (k * 2)).add 1) (by rw [block_adds,block_adds];exact hab2)).trans HX.out.2.2.2.2.2
      have c2 : wr.cell? ⟨(a.add (q * 2)).block,(a.add (q * 2)).off + 1,none⟩ = some (.string ⟨nm2.toArray⟩):=(HBJ.out.cell (p:=(a.add (q * 2)).add 1) (by rw [block_adds,block_adds];exact hab2)).trans e1
      have HXQ:=Lib.hid (And.intro hx hqt)
      clear e0 e1 ht2 hnm2 hx ha' f1 f2
      by_cases hne : nm2 = nm
      ·subst hne
       go_wp2
       go_region_held3 (fun W => W.cell? ⟨w.heap.size,0,none⟩ = some (.slice (some a) n0 cp) ∧ W.cell? ⟨(a.add (k * 2)).block,(a.add (k * 2)).off + 1,none⟩ = some (.string ⟨nm2.toArray⟩) ∧ W.cell? ⟨(a.add (q * 2)).block,(a.add (q * 2)).off + 1,none⟩ = some (.string ⟨nm2.toArray⟩))
        (first | go_keep | (trace_state;fail))
        (fail)
       all_goals go_wp2
       all_goals go_ret
       all_goals exact ⟨by rw [HN.out.2.2.2,vF_nd (nodup_two HXQ.out.1 HX.out.1 HXQ.out.2)];rfl,HB.out.chain (by first | exact HJ.out.1 | exact HJ.out.1.drew)⟩
      ·have hne1 : (nm2 == nm) = false:=by simpa using hne
       have hne2 : ¬ ((⟨nm2.toArray⟩ : ByteArray) = ⟨nm.toArray⟩):=fun h => by injection h with h;exact hne (Array.toList_inj.2 h)
       have HNE:=Lib.hid hne
       go_wp2
       go_region_held3 (fun W => W.cell? ⟨w.heap.size,0,none⟩ = some (.slice (some a) n0 cp) ∧ W.cell? ⟨(a.add (k * 2)).block,(a.add (k * 2)).off + 1,none⟩ = some (.string ⟨nm.toArray⟩) ∧ W.cell? ⟨(a.add (q * 2)).block,(a.add (q * 2)).off + 1,none⟩ = some (.string ⟨nm2.toArray⟩))
        (first | go_keep | (trace_state;fail))
        (fail)
       all_goals go_wp2
       all_goals
        (go_roundg (k - (q + 1))
         case measure => have := HXQ.out.2;omega
         case rel => exact ⟨q + 1,rfl,(by have := HXQ.out.2;omega),by go_num,Lib.hid ⟨(by first | exact HJ.out.1 | exact HJ.out.1.drew),by
          rw [nms_succ HXQ.out.1]
          intro h
          rcases List.mem_append.1 h with h | h
          ·exact HJ.out.2 h
          ·exact HNE.out (List.mem_singleton.1 h).symm⟩⟩)
     ·obtain rfl : q = k:=by omega
      go_wp2
      go_roundg (n0 - (q + 1))
      case measure => have := HX.out.2.2.1;omega
      case rel => exact ⟨q + 1,rfl,(by have := HX.out.2.2.1;omega),by go_num,Lib.hid ⟨HJ.out.1,by rw [HX.out.2.1,HI.out.2.1,HOK.out];rfl,by rw [nms_succ HX.out.1];exact (nodup_snoc _ _).2 ⟨HI.out.2.2,HJ.out.2⟩⟩⟩
  ·obtain rfl : k = n0:=by omega
   have HPS : Hid (f.ps.all (vP varR) = true ∧ (f.ps.map (·.nm)).Nodup):=Lib.hid (by
    have h:=HI.out.2
    rwa [List.take_of_length_le (by rw [HN.out.1];exact Nat.le_refl _)] at h)
   go_wp2
   go_loopg [5] n1 (fun m j wr => ∃ q : Nat,m = n1 - q ∧ q ≤ n1 ∧ j = .int .i64 q ∧ Hid (Below W1.heap.size W1 wr ∧ (f.ats.take q).all (vAt varR nuP) = true))
   case atStart => exact ⟨0,rfl,Nat.zero_le _,rfl,Lib.hid ⟨HI.out.1,rfl⟩⟩
   case round =>
    obtain ⟨q,rfl,hq,rfl,HJ⟩:=hrel
    clear d0 d1 d2
    obtain ⟨d0,d1,d2⟩:=HF.out _ HJ.out.1
    by_cases hqt : q < n1
    ·have hqi : (q : Int) < n1:=by omega
     obtain ⟨⟨k0,xa,xb⟩,hx⟩ : ∃ x,f.ats[q]? = some x:=⟨f.ats[q]'(by rw [← HN.out.2.1];exact hqt),List.getElem?_eq_getElem _⟩
     have HBJ:=Lib.hid (HB.out.chain HJ.out.1)
     obtain ⟨a,rfl,hab,ak,an,sa,al,bk,bn,sb,bl,Ba,ca2,Bb,cb2,rfl,rfl,hc,⟨p1,p2,p3,p4⟩,ra,rb⟩:=HR.out.2.1.at_ hx
     simp only at hc
     have hcw:=hc.stay HBJ.out (by rw [block_adds];exact hab)
     obtain ⟨e0,e1,e2,e3,e4,e5,e6,e7,e8⟩:=hcw.flat
     have HC:=Lib.hid (satom_any k0 ak an sa al bk bn sb bl Ba ca2 Bb cb2 wr (ra.on HBJ.out) (rb.on HBJ.out) p1 p2 p3 p4)
     have HX:=Lib.hid (And.intro hx (And.intro (all_take_succ (vAt varR nuP) f.ats q _ hx) hqt))
     obtain ⟨okx,hokx⟩ : ∃ b,b = ((decide (1 ≤ k0) && decide (k0 ≤ 4)) && vE varR nuP 30 (.mk ak an sa al) && vE varR nuP 30 (.mk bk bn sb bl)):=⟨_,rfl⟩
     rw [← hokx] at HC
     have HO:=Lib.hid hokx
     clear hc hcw p1 p2 p3 p4 ra rb hx hab hokx
     go_wp2_with (go_at_call 175;refine HC.out.mono ?_;rintro e w3 ⟨rfl,hb⟩;have HB3:=Lib.hid (HJ.out.1.chain hb);clear hb)
     ·rename_i hf
      have hf' : vAt varR nuP ⟨k0,.mk ak an sa al,.mk bk bn sb bl⟩ = false:=by show ((decide (1 ≤ k0) && decide (k0 ≤ 4)) && vE varR nuP 30 (.mk ak an sa al) && vE varR nuP 30 (.mk bk bn sb bl)) = false;rw [← HO.out];simpa using hf
      go_ret
      exact ⟨by rw [HN.out.2.2.2,vF_ats (all_of_false (vAt varR nuP) f.ats q _ HX.out.1 hf')];rfl,HB.out.chain HB3.out⟩
     ·rename_i hf
      have hf' : vAt varR nuP ⟨k0,.mk ak an sa al,.mk bk bn sb bl⟩ = true:=by show ((decide (1 ≤ k0) && decide (k0 ≤ 4)) && vE varR nuP 30 (.mk ak an sa al) && vE varR nuP 30 (.mk bk bn sb bl)) = true;rw [← HO.out];simpa using hf
      go_roundg (n1 - (q + 1))
      case measure => have := HX.out.2.2;omega
      case rel => exact ⟨q + 1,rfl,(by have := HX.out.2.2;omega),by go_num,Lib.hid ⟨HB3.out,by rw [HX.out.2.1,HJ.out.2,hf'];rfl⟩⟩
    ·obtain rfl : q = n1:=by omega
     have HAS : Hid (f.ats.all (vAt varR nuP) = true):=Lib.hid (by
      have h:=HJ.out.2
      rwa [List.take_of_length_le (by rw [HN.out.2.1];exact Nat.le_refl _)] at h)
     go_wp2
     go_loopg [6] n2 (fun m j wr => ∃ t : Nat,m = n2 - t ∧ t ≤ n2 ∧ j = .int .i64 t ∧ Hid (Below W1.heap.size W1 wr ∧ (f.cls.take t).all (vCl varR nuP) = true))
     case atStart => exact ⟨0,rfl,Nat.zero_le _,rfl,Lib.hid ⟨HJ.out.1,rfl⟩⟩
     case round =>
      obtain ⟨t,rfl,ht,rfl,HK⟩:=hrel
      clear d0 d1 d2
      obtain ⟨d0,d1,d2⟩:=HF.out _ HK.out.1
      by_cases htt : t < n2
      ·have hti : (t : Int) < n2:=by omega
       obtain ⟨⟨k0,nm,l⟩,hx⟩ : ∃ x,f.cls[t]? = some x:=⟨f.cls[t]'(by rw [← HN.out.2.2.1];exact htt),List.getElem?_eq_getElem _⟩
       have HBK:=Lib.hid (HB.out.chain HK.out.1)
       obtain ⟨a,rfl,hab,Al,cl,e0,e1,e2,hnm,hll,rl,hcap⟩:=HR.out.2.2.at_ hx
       simp only at e0 e1 e2 hnm hll rl
       have hab' : (a.add (t * 3)).block < w.heap.size:=by rw [block_adds];exact hab
       have c0 : wr.cell? (a.add (t * 3)) = some (.int .i64 k0):=(HBK.out.cell hab').trans e0
       have c1 : wr.cell? ⟨(a.add (t * 3)).block,(a.add (t * 3)).off + 1,none⟩ = some (.string ⟨nm.toArray⟩):=(HBK.out.cell (p:=(a.add (t * 3)).add 1) (by rw [block_adds];exact hab')).trans e1
       have c2 : wr.cell? ⟨(a.add (t * 3)).block,(a.add (t * 3)).off + 2,none⟩ = some (.slice Al l.length cl):=(HBK.out.cell (p:=(a.add (t * 3)).add 2) (by rw [block_adds];exact hab')).trans e2
       have HC:=Lib.hid (scell_any k0 nm l Al cl wr (rl.on HBK.out) hnm hll)
       have HX:=Lib.hid (And.intro hx (And.intro (all_take_succ (vCl varR nuP) f.cls t _ hx) htt))
       obtain ⟨okx,hokx⟩ : ∃ b,b = vCl varR nuP ⟨k0,nm,l⟩:=⟨_,rfl⟩
       rw [← hokx] at HC
       have HO:=Lib.hid hokx
       clear e0 e1 e2 hnm hll rl hx hab hab' hokx
       go_wp2_with (go_at_call 176;refine HC.out.mono ?_;rintro e w3 ⟨rfl,hb⟩;have HB3:=Lib.hid (HK.out.1.chain hb);clear hb)
       ·rename_i hf
        have hf' : vCl varR nuP ⟨k0,nm,l⟩ = false:=by rw [← HO.out];simpa using hf
        go_ret
        exact ⟨by rw [HN.out.2.2.2,vF_cls (all_of_false (vCl varR nuP) f.cls t _ HX.out.1 hf')];rfl,HB.out.chain HB3.out⟩
       ·rename_i hf
        have hf' : vCl varR nuP ⟨k0,nm,l⟩ = true:=by rw [← HO.out];simpa using hf
        go_roundg (n2 - (t + 1))
        case measure => have := HX.out.2.2;omega
        case rel => exact ⟨t + 1,rfl,(by have := HX.out.2.2;omega),by go_num,Lib.hid ⟨HB3.out,by rw [HX.out.2.1,HK.out.2,hf'];rfl⟩⟩
      ·obtain rfl : t = n2:=by omega
       go_wp2
       go_ret
       refine ⟨?_,HB.out.chain HK.out.1⟩
       have h:=HK.out.2
       rw [List.take_of_length_le (by rw [HN.out.2.2.1];exact Nat.le_refl _)] at h
       rw [HN.out.2.2.2,vF_true (by have := E.out.2.1;have := HN.out.1;omega) HPS.out.1 HPS.out.2 (by have := E.out.2.2.1;have := HN.out.2.1;omega) HAS.out (by have := E.out.2.2.2;have := HN.out.2.2.1;omega) h]
       rfl
end Go.Proofs.YtbalioicgpgehaaGreatDoor
namespace Go.Proofs.YtbalioicgpgehaaGreatDoor
set_option maxRecDepth 100000
set_option maxHeartbeats 20000000
open Go.RowKit
theorem opsC_eq {m : Int} {l : List Cn} (h : (l.length : Int) = m) (f : Cn → Bool) : opsC m l f = l.all f:=by
 unfold opsC
 rw [show decide (m ≤ (l.length : Int)) = true from decide_eq_true (by omega),show decide ((l.length : Int) ≤ m) = true from decide_eq_true (by omega)]
 rfl
theorem opsC_ne {m : Int} {l : List Cn} (h : ¬ (l.length : Int) = m) (f : Cn → Bool) : opsC m l f = false:=by
 unfold opsC
 by_cases h1 : m ≤ (l.length : Int)
 ·rw [show decide ((l.length : Int) ≤ m) = false from decide_eq_false (by omega)]
  simp
 ·rw [show decide (m ≤ (l.length : Int)) = false from decide_eq_false h1]
  rfl
def ScOk (d : Nat) (f : Cn → Bool) : Prop :=
 ∀ (k ak an : Int) (sa : List UInt8) (al : List Ex) (bk bn : Int) (sb : List UInt8) (bl : List Ex) (l : List Cn) (Aa : Option Addr) (ca : Nat) (Ab : Option Addr) (cb : Nat) (Al : Option Addr) (cl : Nat) (W : World),ExRow W W.heap.size al Aa → ExRow W W.heap.size bl Ab → CnRow W W.heap.size l Al → sa.length ≤ maxLen → al.length ≤ maxLen → sb.length ≤ maxLen → bl.length ≤ maxLen → l.length ≤ maxLen →
  Calls Tryz.prog 133 #[condV2 k ak an ⟨sa.toArray⟩ (.slice Aa al.length ca) bk bn ⟨sb.toArray⟩ (.slice Ab bl.length cb) (.slice Al l.length cl),.int .i64 d] W fun e w' => e = .returned (.bool (f (.mk k (.mk ak an sa al) (.mk bk bn sb bl) l))) ∧ Below W.heap.size W w'
theorem sc_1 (d : Nat) (hd : d + 1 ≤ 1000) (ih : ScOk d (vC varR nuP d)) (k ak an : Int) (sa : List UInt8) (al : List Ex) (bk bn : Int) (sb : List UInt8) (bl : List Ex) (l : List Cn) (Aa : Option Addr) (ca : Nat) (Ab : Option Addr) (cb : Nat) (Al : Option Addr) (cl : Nat) (W : World) (hk : k = 1) : ExRow W W.heap.size al Aa → ExRow W W.heap.size bl Ab → CnRow W W.heap.size l Al → sa.length ≤ maxLen → al.length ≤ maxLen → sb.length ≤ maxLen → bl.length ≤ maxLen → l.length ≤ maxLen →
 Calls Tryz.prog 133 #[condV2 k ak an ⟨sa.toArray⟩ (.slice Aa al.length ca) bk bn ⟨sb.toArray⟩ (.slice Ab bl.length cb) (.slice Al l.length cl),.int .i64 ((d + 1 : Nat) : Int)] W fun e w' => e = .returned (.bool (vC varR nuP (d + 1) (.mk k (.mk ak an sa al) (.mk bk bn sb bl) l))) ∧ Below W.heap.size W w':=by
 intro ra rb rl b1 b2 b3 b4 b5
 have HB:=Lib.hid (below_alloc W (condC2 k ak an ⟨sa.toArray⟩ (.slice Aa al.length ca) bk bn ⟨sb.toArray⟩ (.slice Ab bl.length cb) (.slice Al l.length cl)))
 have HX:=Lib.hid (heap_of_alloc W (condC2 k ak an ⟨sa.toArray⟩ (.slice Aa al.length ca) bk bn ⟨sb.toArray⟩ (.slice Ab bl.length cb) (.slice Al l.length cl)))
 have HA : Hid (∀ W3,Below W.heap.size W W3 → Calls Tryz.prog 85 #[exprV ak an ⟨sa.toArray⟩ (.slice Aa al.length ca)] W3 fun e w' => e = .returned (.bool (vE varR nuP 30 (.mk ak an sa al))) ∧ Below W3.heap.size W3 w'):=Lib.hid (fun W3 hb => sexpr_any ak an sa al Aa ca W3 ((ra.stay hb (Nat.le_refl _)).more hb.size) b1 b2)
 have HC : Hid (∀ W3,Below W.heap.size W W3 → Calls Tryz.prog 85 #[exprV bk bn ⟨sb.toArray⟩ (.slice Ab bl.length cb)] W3 fun e w' => e = .returned (.bool (vE varR nuP 30 (.mk bk bn sb bl))) ∧ Below W3.heap.size W3 w'):=Lib.hid (fun W3 hb => sexpr_any bk bn sb bl Ab cb W3 ((rb.stay hb (Nat.le_refl _)).more hb.size) b3 b4)
 have HZA : Hid (∀ W3,Calls Tryz.prog 86 #[exprV ak an ⟨sa.toArray⟩ (.slice Aa al.length ca)] W3 fun e w' => e = .returned (.bool (zX (.mk ak an sa al))) ∧ Below W3.heap.size W3 w'):=Lib.hid (fun W3 => szero_any ak an sa al Aa ca W3 b2)
 have HZB : Hid (∀ W3,Calls Tryz.prog 86 #[exprV bk bn ⟨sb.toArray⟩ (.slice Ab bl.length cb)] W3 fun e w' => e = .returned (.bool (zX (.mk bk bn sb bl))) ∧ Below W3.heap.size W3 w'):=Lib.hid (fun W3 => szero_any bk bn sb bl Ab cb W3 b4)
 have HR:=Lib.hid (And.intro rl ih)
 have hm : ((d + 1 : Nat) : Int) = (d : Int) + 1:=by omega
 rw [hm]
 have hne : ¬ ((d : Int) + 1 < 1):=by omega
 have hd' : (d : Int) ≤ 1000:=by omega
 unfold vC
 generalize hvd : vC varR nuP d = vd at *
 generalize vE varR nuP 30 (.mk ak an sa al) = ea at *
 generalize vE varR nuP 30 (.mk bk bn sb bl) = eb at *
 generalize zX (.mk ak an sa al) = za at *
 generalize zX (.mk bk bn sb bl) = zb at *
 clear ih hvd ra rb rl hm
 unfold maxLen at b1 b2 b3 b4 b5
 subst hk
 rw [if_pos (by decide)]
 cases ea with
 | false =>
   go_enter Tryz.func133,Tryz.ntmps133
   go_wp2_with (first
    | (go_at_call 85;refine (HA.out _ HB.out).mono ?_;rintro e w3 ⟨rfl,hb3⟩;have HB3:=Lib.hid (HB.out.chain hb3);have hc:=kept_box hb3 HX.out;obtain ⟨y1,y2,y3,y4,y5,y6,y7,y8,y9⟩:=box10 hc;clear hb3;have HX3:=Lib.hid hc;clear hc)
    )
   go_ret
   exact ⟨rfl,HB3.out⟩
 | true =>
   cases eb with
   | false =>
     go_enter Tryz.func133,Tryz.ntmps133
     go_wp2_with (first
      | (go_at_call 85;refine (HA.out _ HB.out).mono ?_;rintro e w3 ⟨rfl,hb3⟩;have HB3:=Lib.hid (HB.out.chain hb3);have hc:=kept_box hb3 HX.out;obtain ⟨y1,y2,y3,y4,y5,y6,y7,y8,y9⟩:=box10 hc;clear hb3;have HX3:=Lib.hid hc;clear hc)
      | (go_at_call 85;refine (HC.out w3 HB3.out).mono ?_;rintro e w4 ⟨rfl,hb4⟩;have HB4:=Lib.hid (HB3.out.chain hb4);have hc:=kept_box hb4 HX3.out;have y99:=cell_of_block hc 9 (v:=.slice Al l.length cl) rfl;clear hb4 hc)
      )
     go_ret
     exact ⟨rfl,HB4.out⟩
   | true =>
     go_enter Tryz.func133,Tryz.ntmps133
     go_wp2_with (first
      | (go_at_call 85;refine (HA.out _ HB.out).mono ?_;rintro e w3 ⟨rfl,hb3⟩;have HB3:=Lib.hid (HB.out.chain hb3);have hc:=kept_box hb3 HX.out;obtain ⟨y1,y2,y3,y4,y5,y6,y7,y8,y9⟩:=box10 hc;clear hb3;have HX3:=Lib.hid hc;clear hc)
      | (go_at_call 85;refine (HC.out w3 HB3.out).mono ?_;rintro e w4 ⟨rfl,hb4⟩;have HB4:=Lib.hid (HB3.out.chain hb4);have hc:=kept_box hb4 HX3.out;have y99:=cell_of_block hc 9 (v:=.slice Al l.length cl) rfl;clear hb4 hc)
      )
     go_ret
     exact ⟨rfl,HB4.out⟩
theorem sc_2 (d : Nat) (hd : d + 1 ≤ 1000) (ih : ScOk d (vC varR nuP d)) (k ak an : Int) (sa : List UInt8) (al : List Ex) (bk bn : Int) (sb : List UInt8) (bl : List Ex) (l : List Cn) (Aa : Option Addr) (ca : Nat) (Ab : Option Addr) (cb : Nat) (Al : Option Addr) (cl : Nat) (W : World) (hk : k = 2) : ExRow W W.heap.size al Aa → ExRow W W.heap.size bl Ab → CnRow W W.heap.size l Al → sa.length ≤ maxLen → al.length ≤ maxLen → sb.length ≤ maxLen → bl.length ≤ maxLen → l.length ≤ maxLen →
 Calls Tryz.prog 133 #[condV2 k ak an ⟨sa.toArray⟩ (.slice Aa al.length ca) bk bn ⟨sb.toArray⟩ (.slice Ab bl.length cb) (.slice Al l.length cl),.int .i64 ((d + 1 : Nat) : Int)] W fun e w' => e = .returned (.bool (vC varR nuP (d + 1) (.mk k (.mk ak an sa al) (.mk bk bn sb bl) l))) ∧ Below W.heap.size W w':=by
 intro ra rb rl b1 b2 b3 b4 b5
 have HB:=Lib.hid (below_alloc W (condC2 k ak an ⟨sa.toArray⟩ (.slice Aa al.length ca) bk bn ⟨sb.toArray⟩ (.slice Ab bl.length cb) (.slice Al l.length cl)))
 have HX:=Lib.hid (heap_of_alloc W (condC2 k ak an ⟨sa.toArray⟩ (.slice Aa al.length ca) bk bn ⟨sb.toArray⟩ (.slice Ab bl.length cb) (.slice Al l.length cl)))
 have HA : Hid (∀ W3,Below W.heap.size W W3 → Calls Tryz.prog 85 #[exprV ak an ⟨sa.toArray⟩ (.slice Aa al.length ca)] W3 fun e w' => e = .returned (.bool (vE varR nuP 30 (.mk ak an sa al))) ∧ Below W3.heap.size W3 w'):=Lib.hid (fun W3 hb => sexpr_any ak an sa al Aa ca W3 ((ra.stay hb (Nat.le_refl _)).more hb.size) b1 b2)
 have HC : Hid (∀ W3,Below W.heap.size W W3 → Calls Tryz.prog 85 #[exprV bk bn ⟨sb.toArray⟩ (.slice Ab bl.length cb)] W3 fun e w' => e = .returned (.bool (vE varR nuP 30 (.mk bk bn sb bl))) ∧ Below W3.heap.size W3 w'):=Lib.hid (fun W3 hb => sexpr_any bk bn sb bl Ab cb W3 ((rb.stay hb (Nat.le_refl _)).more hb.size) b3 b4)
 have HZA : Hid (∀ W3,Calls Tryz.prog 86 #[exprV ak an ⟨sa.toArray⟩ (.slice Aa al.length ca)] W3 fun e w' => e = .returned (.bool (zX (.mk ak an sa al))) ∧ Below W3.heap.size W3 w'):=Lib.hid (fun W3 => szero_any ak an sa al Aa ca W3 b2)
 have HZB : Hid (∀ W3,Calls Tryz.prog 86 #[exprV bk bn ⟨sb.toArray⟩ (.slice Ab bl.length cb)] W3 fun e w' => e = .returned (.bool (zX (.mk bk bn sb bl))) ∧ Below W3.heap.size W3 w'):=Lib.hid (fun W3 => szero_any bk bn sb bl Ab cb W3 b4)
 have HR:=Lib.hid (And.intro rl ih)
 have hm : ((d + 1 : Nat) : Int) = (d : Int) + 1:=by omega
 rw [hm]
 have hne : ¬ ((d : Int) + 1 < 1):=by omega
 have hd' : (d : Int) ≤ 1000:=by omega
 unfold vC
 generalize hvd : vC varR nuP d = vd at *
 generalize vE varR nuP 30 (.mk ak an sa al) = ea at *
 generalize vE varR nuP 30 (.mk bk bn sb bl) = eb at *
 generalize zX (.mk ak an sa al) = za at *
 generalize zX (.mk bk bn sb bl) = zb at *
 clear ih hvd ra rb rl hm
 unfold maxLen at b1 b2 b3 b4 b5
 subst hk
 rw [if_pos (by decide)]
 cases ea with
 | false =>
   go_enter Tryz.func133,Tryz.ntmps133
   go_wp2_with (first
    | (go_at_call 85;refine (HA.out _ HB.out).mono ?_;rintro e w3 ⟨rfl,hb3⟩;have HB3:=Lib.hid (HB.out.chain hb3);have hc:=kept_box hb3 HX.out;obtain ⟨y1,y2,y3,y4,y5,y6,y7,y8,y9⟩:=box10 hc;clear hb3;have HX3:=Lib.hid hc;clear hc)
    )
   go_ret
   exact ⟨rfl,HB3.out⟩
 | true =>
   cases eb with
   | false =>
     go_enter Tryz.func133,Tryz.ntmps133
     go_wp2_with (first
      | (go_at_call 85;refine (HA.out _ HB.out).mono ?_;rintro e w3 ⟨rfl,hb3⟩;have HB3:=Lib.hid (HB.out.chain hb3);have hc:=kept_box hb3 HX.out;obtain ⟨y1,y2,y3,y4,y5,y6,y7,y8,y9⟩:=box10 hc;clear hb3;have HX3:=Lib.hid hc;clear hc)
      | (go_at_call 85;refine (HC.out w3 HB3.out).mono ?_;rintro e w4 ⟨rfl,hb4⟩;have HB4:=Lib.hid (HB3.out.chain hb4);have hc:=kept_box hb4 HX3.out;have y99:=cell_of_block hc 9 (v:=.slice Al l.length cl) rfl;clear hb4 hc)
      )
     go_ret
     exact ⟨rfl,HB4.out⟩
   | true =>
     go_enter Tryz.func133,Tryz.ntmps133
     go_wp2_with (first
      | (go_at_call 85;refine (HA.out _ HB.out).mono ?_;rintro e w3 ⟨rfl,hb3⟩;have HB3:=Lib.hid (HB.out.chain hb3);have hc:=kept_box hb3 HX.out;obtain ⟨y1,y2,y3,y4,y5,y6,y7,y8,y9⟩:=box10 hc;clear hb3;have HX3:=Lib.hid hc;clear hc)
      | (go_at_call 85;refine (HC.out w3 HB3.out).mono ?_;rintro e w4 ⟨rfl,hb4⟩;have HB4:=Lib.hid (HB3.out.chain hb4);have hc:=kept_box hb4 HX3.out;have y99:=cell_of_block hc 9 (v:=.slice Al l.length cl) rfl;clear hb4 hc)
      )
     go_ret
     exact ⟨rfl,HB4.out⟩
theorem sc_3 (d : Nat) (hd : d + 1 ≤ 1000) (ih : ScOk d (vC varR nuP d)) (k ak an : Int) (sa : List UInt8) (al : List Ex) (bk bn : Int) (sb : List UInt8) (bl : List Ex) (l : List Cn) (Aa : Option Addr) (ca : Nat) (Ab : Option Addr) (cb : Nat) (Al : Option Addr) (cl : Nat) (W : World) (hk : k = 3) : ExRow W W.heap.size al Aa → ExRow W W.heap.size bl Ab → CnRow W W.heap.size l Al → sa.length ≤ maxLen → al.length ≤ maxLen → sb.length ≤ maxLen → bl.length ≤ maxLen → l.length ≤ maxLen →
 Calls Tryz.prog 133 #[condV2 k ak an ⟨sa.toArray⟩ (.slice Aa al.length ca) bk bn ⟨sb.toArray⟩ (.slice Ab bl.length cb) (.slice Al l.length cl),.int .i64 ((d + 1 : Nat) : Int)] W fun e w' => e = .returned (.bool (vC varR nuP (d + 1) (.mk k (.mk ak an sa al) (.mk bk bn sb bl) l))) ∧ Below W.heap.size W w':=by
 intro ra rb rl b1 b2 b3 b4 b5
 have HB:=Lib.hid (below_alloc W (condC2 k ak an ⟨sa.toArray⟩ (.slice Aa al.length ca) bk bn ⟨sb.toArray⟩ (.slice Ab bl.length cb) (.slice Al l.length cl)))
 have HX:=Lib.hid (heap_of_alloc W (condC2 k ak an ⟨sa.toArray⟩ (.slice Aa al.length ca) bk bn ⟨sb.toArray⟩ (.slice Ab bl.length cb) (.slice Al l.length cl)))
 have HA : Hid (∀ W3,Below W.heap.size W W3 → Calls Tryz.prog 85 #[exprV ak an ⟨sa.toArray⟩ (.slice Aa al.length ca)] W3 fun e w' => e = .returned (.bool (vE varR nuP 30 (.mk ak an sa al))) ∧ Below W3.heap.size W3 w'):=Lib.hid (fun W3 hb => sexpr_any ak an sa al Aa ca W3 ((ra.stay hb (Nat.le_refl _)).more hb.size) b1 b2)
 have HC : Hid (∀ W3,Below W.heap.size W W3 → Calls Tryz.prog 85 #[exprV bk bn ⟨sb.toArray⟩ (.slice Ab bl.length cb)] W3 fun e w' => e = .returned (.bool (vE varR nuP 30 (.mk bk bn sb bl))) ∧ Below W3.heap.size W3 w'):=Lib.hid (fun W3 hb => sexpr_any bk bn sb bl Ab cb W3 ((rb.stay hb (Nat.le_refl _)).more hb.size) b3 b4)
 have HZA : Hid (∀ W3,Calls Tryz.prog 86 #[exprV ak an ⟨sa.toArray⟩ (.slice Aa al.length ca)] W3 fun e w' => e = .returned (.bool (zX (.mk ak an sa al))) ∧ Below W3.heap.size W3 w'):=Lib.hid (fun W3 => szero_any ak an sa al Aa ca W3 b2)
 have HZB : Hid (∀ W3,Calls Tryz.prog 86 #[exprV bk bn ⟨sb.toArray⟩ (.slice Ab bl.length cb)] W3 fun e w' => e = .returned (.bool (zX (.mk bk bn sb bl))) ∧ Below W3.heap.size W3 w'):=Lib.hid (fun W3 => szero_any bk bn sb bl Ab cb W3 b4)
 have HR:=Lib.hid (And.intro rl ih)
 have hm : ((d + 1 : Nat) : Int) = (d : Int) + 1:=by omega
 rw [hm]
 have hne : ¬ ((d : Int) + 1 < 1):=by omega
 have hd' : (d : Int) ≤ 1000:=by omega
 unfold vC
 generalize hvd : vC varR nuP d = vd at *
 generalize vE varR nuP 30 (.mk ak an sa al) = ea at *
 generalize vE varR nuP 30 (.mk bk bn sb bl) = eb at *
 generalize zX (.mk ak an sa al) = za at *
 generalize zX (.mk bk bn sb bl) = zb at *
 clear ih hvd ra rb rl hm
 unfold maxLen at b1 b2 b3 b4 b5
 subst hk
 rw [if_pos (by decide)]
 cases ea with
 | false =>
   go_enter Tryz.func133,Tryz.ntmps133
   go_wp2_with (first
    | (go_at_call 85;refine (HA.out _ HB.out).mono ?_;rintro e w3 ⟨rfl,hb3⟩;have HB3:=Lib.hid (HB.out.chain hb3);have hc:=kept_box hb3 HX.out;obtain ⟨y1,y2,y3,y4,y5,y6,y7,y8,y9⟩:=box10 hc;clear hb3;have HX3:=Lib.hid hc;clear hc)
    )
   go_ret
   exact ⟨rfl,HB3.out⟩
 | true =>
   cases eb with
   | false =>
     go_enter Tryz.func133,Tryz.ntmps133
     go_wp2_with (first
      | (go_at_call 85;refine (HA.out _ HB.out).mono ?_;rintro e w3 ⟨rfl,hb3⟩;have HB3:=Lib.hid (HB.out.chain hb3);have hc:=kept_box hb3 HX.out;obtain ⟨y1,y2,y3,y4,y5,y6,y7,y8,y9⟩:=box10 hc;clear hb3;have HX3:=Lib.hid hc;clear hc)
      | (go_at_call 85;refine (HC.out w3 HB3.out).mono ?_;rintro e w4 ⟨rfl,hb4⟩;have HB4:=Lib.hid (HB3.out.chain hb4);have hc:=kept_box hb4 HX3.out;have y99:=cell_of_block hc 9 (v:=.slice Al l.length cl) rfl;clear hb4 hc)
      )
     go_ret
     exact ⟨rfl,HB4.out⟩
   | true =>
     go_enter Tryz.func133,Tryz.ntmps133
     go_wp2_with (first
      | (go_at_call 85;refine (HA.out _ HB.out).mono ?_;rintro e w3 ⟨rfl,hb3⟩;have HB3:=Lib.hid (HB.out.chain hb3);have hc:=kept_box hb3 HX.out;obtain ⟨y1,y2,y3,y4,y5,y6,y7,y8,y9⟩:=box10 hc;clear hb3;have HX3:=Lib.hid hc;clear hc)
      | (go_at_call 85;refine (HC.out w3 HB3.out).mono ?_;rintro e w4 ⟨rfl,hb4⟩;have HB4:=Lib.hid (HB3.out.chain hb4);have hc:=kept_box hb4 HX3.out;have y99:=cell_of_block hc 9 (v:=.slice Al l.length cl) rfl;clear hb4 hc)
      )
     go_ret
     exact ⟨rfl,HB4.out⟩
theorem sc_4 (d : Nat) (hd : d + 1 ≤ 1000) (ih : ScOk d (vC varR nuP d)) (k ak an : Int) (sa : List UInt8) (al : List Ex) (bk bn : Int) (sb : List UInt8) (bl : List Ex) (l : List Cn) (Aa : Option Addr) (ca : Nat) (Ab : Option Addr) (cb : Nat) (Al : Option Addr) (cl : Nat) (W : World) (hk : k = 4) : ExRow W W.heap.size al Aa → ExRow W W.heap.size bl Ab → CnRow W W.heap.size l Al → sa.length ≤ maxLen → al.length ≤ maxLen → sb.length ≤ maxLen → bl.length ≤ maxLen → l.length ≤ maxLen →
 Calls Tryz.prog 133 #[condV2 k ak an ⟨sa.toArray⟩ (.slice Aa al.length ca) bk bn ⟨sb.toArray⟩ (.slice Ab bl.length cb) (.slice Al l.length cl),.int .i64 ((d + 1 : Nat) : Int)] W fun e w' => e = .returned (.bool (vC varR nuP (d + 1) (.mk k (.mk ak an sa al) (.mk bk bn sb bl) l))) ∧ Below W.heap.size W w':=by
 intro ra rb rl b1 b2 b3 b4 b5
 have HB:=Lib.hid (below_alloc W (condC2 k ak an ⟨sa.toArray⟩ (.slice Aa al.length ca) bk bn ⟨sb.toArray⟩ (.slice Ab bl.length cb) (.slice Al l.length cl)))
 have HX:=Lib.hid (heap_of_alloc W (condC2 k ak an ⟨sa.toArray⟩ (.slice Aa al.length ca) bk bn ⟨sb.toArray⟩ (.slice Ab bl.length cb) (.slice Al l.length cl)))
 have HA : Hid (∀ W3,Below W.heap.size W W3 → Calls Tryz.prog 85 #[exprV ak an ⟨sa.toArray⟩ (.slice Aa al.length ca)] W3 fun e w' => e = .returned (.bool (vE varR nuP 30 (.mk ak an sa al))) ∧ Below W3.heap.size W3 w'):=Lib.hid (fun W3 hb => sexpr_any ak an sa al Aa ca W3 ((ra.stay hb (Nat.le_refl _)).more hb.size) b1 b2)
 have HC : Hid (∀ W3,Below W.heap.size W W3 → Calls Tryz.prog 85 #[exprV bk bn ⟨sb.toArray⟩ (.slice Ab bl.length cb)] W3 fun e w' => e = .returned (.bool (vE varR nuP 30 (.mk bk bn sb bl))) ∧ Below W3.heap.size W3 w'):=Lib.hid (fun W3 hb => sexpr_any bk bn sb bl Ab cb W3 ((rb.stay hb (Nat.le_refl _)).more hb.size) b3 b4)
 have HZA : Hid (∀ W3,Calls Tryz.prog 86 #[exprV ak an ⟨sa.toArray⟩ (.slice Aa al.length ca)] W3 fun e w' => e = .returned (.bool (zX (.mk ak an sa al))) ∧ Below W3.heap.size W3 w'):=Lib.hid (fun W3 => szero_any ak an sa al Aa ca W3 b2)
 have HZB : Hid (∀ W3,Calls Tryz.prog 86 #[exprV bk bn ⟨sb.toArray⟩ (.slice Ab bl.length cb)] W3 fun e w' => e = .returned (.bool (zX (.mk bk bn sb bl))) ∧ Below W3.heap.size W3 w'):=Lib.hid (fun W3 => szero_any bk bn sb bl Ab cb W3 b4)
 have HR:=Lib.hid (And.intro rl ih)
 have hm : ((d + 1 : Nat) : Int) = (d : Int) + 1:=by omega
 rw [hm]
 have hne : ¬ ((d : Int) + 1 < 1):=by omega
 have hd' : (d : Int) ≤ 1000:=by omega
 unfold vC
 generalize hvd : vC varR nuP d = vd at *
 generalize vE varR nuP 30 (.mk ak an sa al) = ea at *
 generalize vE varR nuP 30 (.mk bk bn sb bl) = eb at *
 generalize zX (.mk ak an sa al) = za at *
 generalize zX (.mk bk bn sb bl) = zb at *
 clear ih hvd ra rb rl hm
 unfold maxLen at b1 b2 b3 b4 b5
 subst hk
 rw [if_pos (by decide)]
 cases ea with
 | false =>
   go_enter Tryz.func133,Tryz.ntmps133
   go_wp2_with (first
    | (go_at_call 85;refine (HA.out _ HB.out).mono ?_;rintro e w3 ⟨rfl,hb3⟩;have HB3:=Lib.hid (HB.out.chain hb3);have hc:=kept_box hb3 HX.out;obtain ⟨y1,y2,y3,y4,y5,y6,y7,y8,y9⟩:=box10 hc;clear hb3;have HX3:=Lib.hid hc;clear hc)
    )
   go_ret
   exact ⟨rfl,HB3.out⟩
 | true =>
   cases eb with
   | false =>
     go_enter Tryz.func133,Tryz.ntmps133
     go_wp2_with (first
      | (go_at_call 85;refine (HA.out _ HB.out).mono ?_;rintro e w3 ⟨rfl,hb3⟩;have HB3:=Lib.hid (HB.out.chain hb3);have hc:=kept_box hb3 HX.out;obtain ⟨y1,y2,y3,y4,y5,y6,y7,y8,y9⟩:=box10 hc;clear hb3;have HX3:=Lib.hid hc;clear hc)
      | (go_at_call 85;refine (HC.out w3 HB3.out).mono ?_;rintro e w4 ⟨rfl,hb4⟩;have HB4:=Lib.hid (HB3.out.chain hb4);have hc:=kept_box hb4 HX3.out;have y99:=cell_of_block hc 9 (v:=.slice Al l.length cl) rfl;clear hb4 hc)
      )
     go_ret
     exact ⟨rfl,HB4.out⟩
   | true =>
     go_enter Tryz.func133,Tryz.ntmps133
     go_wp2_with (first
      | (go_at_call 85;refine (HA.out _ HB.out).mono ?_;rintro e w3 ⟨rfl,hb3⟩;have HB3:=Lib.hid (HB.out.chain hb3);have hc:=kept_box hb3 HX.out;obtain ⟨y1,y2,y3,y4,y5,y6,y7,y8,y9⟩:=box10 hc;clear hb3;have HX3:=Lib.hid hc;clear hc)
      | (go_at_call 85;refine (HC.out w3 HB3.out).mono ?_;rintro e w4 ⟨rfl,hb4⟩;have HB4:=Lib.hid (HB3.out.chain hb4);have hc:=kept_box hb4 HX3.out;have y99:=cell_of_block hc 9 (v:=.slice Al l.length cl) rfl;clear hb4 hc)
      )
     go_ret
     exact ⟨rfl,HB4.out⟩
end Go.Proofs.YtbalioicgpgehaaGreatDoor
namespace Go.Proofs.YtbalioicgpgehaaGreatDoor
set_option maxRecDepth 100000
set_option maxHeartbeats 20000000
open Go.RowKit
theorem sc_5 (d : Nat) (hd : d + 1 ≤ 1000) (ih : ScOk d (vC varR nuP d)) (k ak an : Int) (sa : List UInt8) (al : List Ex) (bk bn : Int) (sb : List UInt8) (bl : List Ex) (l : List Cn) (Aa : Option Addr) (ca : Nat) (Ab : Option Addr) (cb : Nat) (Al : Option Addr) (cl : Nat) (W : World) (hk : k = 5) : ExRow W W.heap.size al Aa → ExRow W W.heap.size bl Ab → CnRow W W.heap.size l Al → sa.length ≤ maxLen → al.length ≤ maxLen → sb.length ≤ maxLen → bl.length ≤ maxLen → l.length ≤ maxLen →
 Calls Tryz.prog 133 #[condV2 k ak an ⟨sa.toArray⟩ (.slice Aa al.length ca) bk bn ⟨sb.toArray⟩ (.slice Ab bl.length cb) (.slice Al l.length cl),.int .i64 ((d + 1 : Nat) : Int)] W fun e w' => e = .returned (.bool (vC varR nuP (d + 1) (.mk k (.mk ak an sa al) (.mk bk bn sb bl) l))) ∧ Below W.heap.size W w':=by
 intro ra rb rl b1 b2 b3 b4 b5
 have HB:=Lib.hid (below_alloc W (condC2 k ak an ⟨sa.toArray⟩ (.slice Aa al.length ca) bk bn ⟨sb.toArray⟩ (.slice Ab bl.length cb) (.slice Al l.length cl)))
 have HX:=Lib.hid (heap_of_alloc W (condC2 k ak an ⟨sa.toArray⟩ (.slice Aa al.length ca) bk bn ⟨sb.toArray⟩ (.slice Ab bl.length cb) (.slice Al l.length cl)))
 have HA : Hid (∀ W3,Below W.heap.size W W3 → Calls Tryz.prog 85 #[exprV ak an ⟨sa.toArray⟩ (.slice Aa al.length ca)] W3 fun e w' => e = .returned (.bool (vE varR nuP 30 (.mk ak an sa al))) ∧ Below W3.heap.size W3 w'):=Lib.hid (fun W3 hb => sexpr_any ak an sa al Aa ca W3 ((ra.stay hb (Nat.le_refl _)).more hb.size) b1 b2)
 have HC : Hid (∀ W3,Below W.heap.size W W3 → Calls Tryz.prog 85 #[exprV bk bn ⟨sb.toArray⟩ (.slice Ab bl.length cb)] W3 fun e w' => e = .returned (.bool (vE varR nuP 30 (.mk bk bn sb bl))) ∧ Below W3.heap.size W3 w'):=Lib.hid (fun W3 hb => sexpr_any bk bn sb bl Ab cb W3 ((rb.stay hb (Nat.le_refl _)).more hb.size) b3 b4)
 have HZA : Hid (∀ W3,Calls Tryz.prog 86 #[exprV ak an ⟨sa.toArray⟩ (.slice Aa al.length ca)] W3 fun e w' => e = .returned (.bool (zX (.mk ak an sa al))) ∧ Below W3.heap.size W3 w'):=Lib.hid (fun W3 => szero_any ak an sa al Aa ca W3 b2)
 have HZB : Hid (∀ W3,Calls Tryz.prog 86 #[exprV bk bn ⟨sb.toArray⟩ (.slice Ab bl.length cb)] W3 fun e w' => e = .returned (.bool (zX (.mk bk bn sb bl))) ∧ Below W3.heap.size W3 w'):=Lib.hid (fun W3 => szero_any bk bn sb bl Ab cb W3 b4)
 have HR:=Lib.hid (And.intro rl ih)
 have hm : ((d + 1 : Nat) : Int) = (d : Int) + 1:=by omega
 rw [hm]
 have hne : ¬ ((d : Int) + 1 < 1):=by omega
 have hd' : (d : Int) ≤ 1000:=by omega
 unfold vC
 generalize hvd : vC varR nuP d = vd at *
 generalize vE varR nuP 30 (.mk ak an sa al) = ea at *
 generalize vE varR nuP 30 (.mk bk bn sb bl) = eb at *
 generalize zX (.mk ak an sa al) = za at *
 generalize zX (.mk bk bn sb bl) = zb at *
 clear ih hvd ra rb rl hm
 unfold maxLen at b1 b2 b3 b4 b5
 subst hk
 rw [if_neg (by intro h;rw [Bool.and_eq_true,decide_eq_true_eq,decide_eq_true_eq] at h;omega)]
 rw [if_pos rfl]
 by_cases hlen : (l.length : Int) = 1
 ·cases za with
  | false =>
    rw [Bool.false_and,Bool.false_and]
    go_enter Tryz.func133,Tryz.ntmps133
    go_wp2_with (first
     | (go_at_call 86;with_reducible refine (HZA.out _).mono ?_;rintro e w3 ⟨rfl,hb3⟩;have HB3:=Lib.hid (HB.out.chain hb3);have hc:=kept_box hb3 HX.out;obtain ⟨y1,y2,y3,y4,y5,y6,y7,y8,y9⟩:=box10 hc;clear hb3;have HX3:=Lib.hid hc;clear hc)
     )
    go_ret
    exact ⟨rfl,HB3.out⟩
  | true =>
    cases zb with
    | false =>
      rw [Bool.and_false,Bool.false_and]
      go_enter Tryz.func133,Tryz.ntmps133
      go_wp2_with (first
       | (go_at_call 86;with_reducible refine (HZA.out _).mono ?_;rintro e w3 ⟨rfl,hb3⟩;have HB3:=Lib.hid (HB.out.chain hb3);have hc:=kept_box hb3 HX.out;obtain ⟨y1,y2,y3,y4,y5,y6,y7,y8,y9⟩:=box10 hc;clear hb3;have HX3:=Lib.hid hc;clear hc)
       | (go_at_call 86;with_reducible refine (HZB.out _).mono ?_;rintro e w4 ⟨rfl,hb4⟩;have HB4:=Lib.hid (HB3.out.chain hb4);have HX4:=Lib.hid (kept_box hb4 HX3.out);clear hb4)
       )
      go_ret
      exact ⟨rfl,HB4.out⟩
    | true =>
      have HLM : Hid (True ∧ l.length = 1):=Lib.hid ⟨trivial,by omega⟩
      rw [opsC_eq hlen]
      go_enter Tryz.func133,Tryz.ntmps133
      go_wp2_with (first
       | (go_at_call 86;with_reducible refine (HZA.out _).mono ?_;rintro e w3 ⟨rfl,hb3⟩;have HB3:=Lib.hid (HB.out.chain hb3);have hc:=kept_box hb3 HX.out;obtain ⟨y1,y2,y3,y4,y5,y6,y7,y8,y9⟩:=box10 hc;clear hb3;have HX3:=Lib.hid hc;clear hc)
       | (go_at_call 86;with_reducible refine (HZB.out _).mono ?_;rintro e w4 ⟨rfl,hb4⟩;have HB4:=Lib.hid (HB3.out.chain hb4);have HX4:=Lib.hid (kept_box hb4 HX3.out);clear hb4)
       )
      go_loopg [6] 1 (fun m j wr => ∃ i : Nat,m = 1 - i ∧ i ≤ 1 ∧ j = .int .i64 i ∧ Hid (Below W.heap.size W wr ∧ wr.heap[W.heap.size]? = some (condC2 5 ak an ⟨sa.toArray⟩ (.slice Aa al.length ca) bk bn ⟨sb.toArray⟩ (.slice Ab bl.length cb) (.slice Al l.length cl)) ∧ (l.take i).all vd = true))
      case atStart => exact ⟨0,rfl,Nat.zero_le _,rfl,Lib.hid ⟨HB4.out,HX4.out,rfl⟩⟩
      case round =>
       obtain ⟨i,rfl,hi,rfl,HIv⟩:=hrel
       by_cases hlt : i < 1
       ·have hki : (i : Int) < 1:=by omega
        have hlm:=HLM.out.2
        have hkl : (i : Int) < l.length:=by omega
        obtain ⟨⟨k',⟨ak',an',sa',al'⟩,⟨bk',bn',sb',bl'⟩,l'⟩,hx⟩ : ∃ x,l[i]? = some x:=⟨l[i]'(by omega),List.getElem?_eq_getElem _⟩
        obtain ⟨a,Aa',ca',Ab',cb',Al',cl',rfl,hab,hcc,p1,p2,p3,p4,p5,ra,rb,rl⟩:=(HR.out.1.stay HIv.out.1 (Nat.le_refl _)).at_ hx
        obtain ⟨c0,c1,c2,c3,c4,c5,c6,c7,c8,c9⟩:=hcc.flat
        have t9:=cell_of_block HIv.out.2.1 9 (v:=.slice (some a) l.length cl) rfl
        have HC2:=Lib.hid (HR.out.2 k' ak' an' sa' al' bk' bn' sb' bl' l' Aa' ca' Ab' cb' Al' cl' wr (ra.more HIv.out.1.size) (rb.more HIv.out.1.size) (rl.more HIv.out.1.size) p1 p2 p3 p4 p5)
        have HT:=Lib.hid (And.intro hx (all_take_succ vd l i _ hx))
        have hw1 : IntKind.i64.wrap (d : Int) = d:=by rw [IntKind.wrap_i64];omega
        clear hcc p1 p2 p3 p4 p5 ra rb rl hx hlm
        obtain ⟨okx,hokx⟩ : ∃ b,b = vd (.mk k' (.mk ak' an' sa' al') (.mk bk' bn' sb' bl') l'):=⟨_,rfl⟩
        rw [← hokx] at HC2 HT
        have HO:=Lib.hid hokx
        clear hokx
        cases okx with
        | false =>
          go_wp2_with (go_at_call 133;refine HC2.out.mono ?_;rintro e w5 ⟨rfl,hb⟩;have HB5:=Lib.hid (HIv.out.1.chain hb);clear hb)
          go_ret
          exact ⟨by rw [all_of_false vd l i _ HT.out.1 HO.out.symm];rfl,HB5.out⟩
        | true =>
          go_wp2_with (go_at_call 133;refine HC2.out.mono ?_;rintro e w5 ⟨rfl,hb⟩;have HB5:=Lib.hid (And.intro (HIv.out.1.chain hb) (kept_box hb HIv.out.2.1));clear hb)
          go_roundg (1 - (i + 1))
          case measure => omega
          case rel => exact ⟨i + 1,rfl,by omega,by go_num,Lib.hid ⟨HB5.out.1,HB5.out.2,by rw [HT.out.2,HIv.out.2.2];rfl⟩⟩
       ·obtain rfl : i = 1:=by omega
        go_wp2
        go_ret
        refine ⟨?_,HIv.out.1⟩
        have := HIv.out.2.2
        rw [List.take_of_length_le (by have := HLM.out.2;omega)] at this
        rw [this]
        rfl
 ·rw [opsC_ne hlen,Bool.and_false]
  go_enter Tryz.func133,Tryz.ntmps133
  go_wp2
  go_ret
  exact ⟨rfl,HB.out⟩
theorem sc_6 (d : Nat) (hd : d + 1 ≤ 1000) (ih : ScOk d (vC varR nuP d)) (k ak an : Int) (sa : List UInt8) (al : List Ex) (bk bn : Int) (sb : List UInt8) (bl : List Ex) (l : List Cn) (Aa : Option Addr) (ca : Nat) (Ab : Option Addr) (cb : Nat) (Al : Option Addr) (cl : Nat) (W : World) (hk : k = 6) : ExRow W W.heap.size al Aa → ExRow W W.heap.size bl Ab → CnRow W W.heap.size l Al → sa.length ≤ maxLen → al.length ≤ maxLen → sb.length ≤ maxLen → bl.length ≤ maxLen → l.length ≤ maxLen →
 Calls Tryz.prog 133 #[condV2 k ak an ⟨sa.toArray⟩ (.slice Aa al.length ca) bk bn ⟨sb.toArray⟩ (.slice Ab bl.length cb) (.slice Al l.length cl),.int .i64 ((d + 1 : Nat) : Int)] W fun e w' => e = .returned (.bool (vC varR nuP (d + 1) (.mk k (.mk ak an sa al) (.mk bk bn sb bl) l))) ∧ Below W.heap.size W w':=by
 intro ra rb rl b1 b2 b3 b4 b5
 have HB:=Lib.hid (below_alloc W (condC2 k ak an ⟨sa.toArray⟩ (.slice Aa al.length ca) bk bn ⟨sb.toArray⟩ (.slice Ab bl.length cb) (.slice Al l.length cl)))
 have HX:=Lib.hid (heap_of_alloc W (condC2 k ak an ⟨sa.toArray⟩ (.slice Aa al.length ca) bk bn ⟨sb.toArray⟩ (.slice Ab bl.length cb) (.slice Al l.length cl)))
 have HA : Hid (∀ W3,Below W.heap.size W W3 → Calls Tryz.prog 85 #[exprV ak an ⟨sa.toArray⟩ (.slice Aa al.length ca)] W3 fun e w' => e = .returned (.bool (vE varR nuP 30 (.mk ak an sa al))) ∧ Below W3.heap.size W3 w'):=Lib.hid (fun W3 hb => sexpr_any ak an sa al Aa ca W3 ((ra.stay hb (Nat.le_refl _)).more hb.size) b1 b2)
 have HC : Hid (∀ W3,Below W.heap.size W W3 → Calls Tryz.prog 85 #[exprV bk bn ⟨sb.toArray⟩ (.slice Ab bl.length cb)] W3 fun e w' => e = .returned (.bool (vE varR nuP 30 (.mk bk bn sb bl))) ∧ Below W3.heap.size W3 w'):=Lib.hid (fun W3 hb => sexpr_any bk bn sb bl Ab cb W3 ((rb.stay hb (Nat.le_refl _)).more hb.size) b3 b4)
 have HZA : Hid (∀ W3,Calls Tryz.prog 86 #[exprV ak an ⟨sa.toArray⟩ (.slice Aa al.length ca)] W3 fun e w' => e = .returned (.bool (zX (.mk ak an sa al))) ∧ Below W3.heap.size W3 w'):=Lib.hid (fun W3 => szero_any ak an sa al Aa ca W3 b2)
 have HZB : Hid (∀ W3,Calls Tryz.prog 86 #[exprV bk bn ⟨sb.toArray⟩ (.slice Ab bl.length cb)] W3 fun e w' => e = .returned (.bool (zX (.mk bk bn sb bl))) ∧ Below W3.heap.size W3 w'):=Lib.hid (fun W3 => szero_any bk bn sb bl Ab cb W3 b4)
 have HR:=Lib.hid (And.intro rl ih)
 have hm : ((d + 1 : Nat) : Int) = (d : Int) + 1:=by omega
 rw [hm]
 have hne : ¬ ((d : Int) + 1 < 1):=by omega
 have hd' : (d : Int) ≤ 1000:=by omega
 unfold vC
 generalize hvd : vC varR nuP d = vd at *
 generalize vE varR nuP 30 (.mk ak an sa al) = ea at *
 generalize vE varR nuP 30 (.mk bk bn sb bl) = eb at *
 generalize zX (.mk ak an sa al) = za at *
 generalize zX (.mk bk bn sb bl) = zb at *
 clear ih hvd ra rb rl hm
 unfold maxLen at b1 b2 b3 b4 b5
 subst hk
 rw [if_neg (by intro h;rw [Bool.and_eq_true,decide_eq_true_eq,decide_eq_true_eq] at h;omega)]
 rw [if_neg (by decide)]
 rw [if_pos (Or.inl rfl)]
 by_cases hlen : (l.length : Int) = 2
 ·cases za with
  | false =>
    rw [Bool.false_and,Bool.false_and]
    go_enter Tryz.func133,Tryz.ntmps133
    go_wp2_with (first
     | (go_at_call 86;with_reducible refine (HZA.out _).mono ?_;rintro e w3 ⟨rfl,hb3⟩;have HB3:=Lib.hid (HB.out.chain hb3);have hc:=kept_box hb3 HX.out;obtain ⟨y1,y2,y3,y4,y5,y6,y7,y8,y9⟩:=box10 hc;clear hb3;have HX3:=Lib.hid hc;clear hc)
     )
    go_ret
    exact ⟨rfl,HB3.out⟩
  | true =>
    cases zb with
    | false =>
      rw [Bool.and_false,Bool.false_and]
      go_enter Tryz.func133,Tryz.ntmps133
      go_wp2_with (first
       | (go_at_call 86;with_reducible refine (HZA.out _).mono ?_;rintro e w3 ⟨rfl,hb3⟩;have HB3:=Lib.hid (HB.out.chain hb3);have hc:=kept_box hb3 HX.out;obtain ⟨y1,y2,y3,y4,y5,y6,y7,y8,y9⟩:=box10 hc;clear hb3;have HX3:=Lib.hid hc;clear hc)
       | (go_at_call 86;with_reducible refine (HZB.out _).mono ?_;rintro e w4 ⟨rfl,hb4⟩;have HB4:=Lib.hid (HB3.out.chain hb4);have HX4:=Lib.hid (kept_box hb4 HX3.out);clear hb4)
       )
      go_ret
      exact ⟨rfl,HB4.out⟩
    | true =>
      have HLM : Hid (True ∧ l.length = 2):=Lib.hid ⟨trivial,by omega⟩
      rw [opsC_eq hlen]
      go_enter Tryz.func133,Tryz.ntmps133
      go_wp2_with (first
       | (go_at_call 86;with_reducible refine (HZA.out _).mono ?_;rintro e w3 ⟨rfl,hb3⟩;have HB3:=Lib.hid (HB.out.chain hb3);have hc:=kept_box hb3 HX.out;obtain ⟨y1,y2,y3,y4,y5,y6,y7,y8,y9⟩:=box10 hc;clear hb3;have HX3:=Lib.hid hc;clear hc)
       | (go_at_call 86;with_reducible refine (HZB.out _).mono ?_;rintro e w4 ⟨rfl,hb4⟩;have HB4:=Lib.hid (HB3.out.chain hb4);have HX4:=Lib.hid (kept_box hb4 HX3.out);clear hb4)
       )
      go_loopg [6] 2 (fun m j wr => ∃ i : Nat,m = 2 - i ∧ i ≤ 2 ∧ j = .int .i64 i ∧ Hid (Below W.heap.size W wr ∧ wr.heap[W.heap.size]? = some (condC2 6 ak an ⟨sa.toArray⟩ (.slice Aa al.length ca) bk bn ⟨sb.toArray⟩ (.slice Ab bl.length cb) (.slice Al l.length cl)) ∧ (l.take i).all vd = true))
      case atStart => exact ⟨0,rfl,Nat.zero_le _,rfl,Lib.hid ⟨HB4.out,HX4.out,rfl⟩⟩
      case round =>
       obtain ⟨i,rfl,hi,rfl,HIv⟩:=hrel
       by_cases hlt : i < 2
       ·have hki : (i : Int) < 2:=by omega
        have hlm:=HLM.out.2
        have hkl : (i : Int) < l.length:=by omega
        obtain ⟨⟨k',⟨ak',an',sa',al'⟩,⟨bk',bn',sb',bl'⟩,l'⟩,hx⟩ : ∃ x,l[i]? = some x:=⟨l[i]'(by omega),List.getElem?_eq_getElem _⟩
        obtain ⟨a,Aa',ca',Ab',cb',Al',cl',rfl,hab,hcc,p1,p2,p3,p4,p5,ra,rb,rl⟩:=(HR.out.1.stay HIv.out.1 (Nat.le_refl _)).at_ hx
        obtain ⟨c0,c1,c2,c3,c4,c5,c6,c7,c8,c9⟩:=hcc.flat
        have t9:=cell_of_block HIv.out.2.1 9 (v:=.slice (some a) l.length cl) rfl
        have HC2:=Lib.hid (HR.out.2 k' ak' an' sa' al' bk' bn' sb' bl' l' Aa' ca' Ab' cb' Al' cl' wr (ra.more HIv.out.1.size) (rb.more HIv.out.1.size) (rl.more HIv.out.1.size) p1 p2 p3 p4 p5)
        have HT:=Lib.hid (And.intro hx (all_take_succ vd l i _ hx))
        have hw1 : IntKind.i64.wrap (d : Int) = d:=by rw [IntKind.wrap_i64];omega
        clear hcc p1 p2 p3 p4 p5 ra rb rl hx hlm
        obtain ⟨okx,hokx⟩ : ∃ b,b = vd (.mk k' (.mk ak' an' sa' al') (.mk bk' bn' sb' bl') l'):=⟨_,rfl⟩
        rw [← hokx] at HC2 HT
        have HO:=Lib.hid hokx
        clear hokx
        cases okx with
        | false =>
          go_wp2_with (go_at_call 133;refine HC2.out.mono ?_;rintro e w5 ⟨rfl,hb⟩;have HB5:=Lib.hid (HIv.out.1.chain hb);clear hb)
          go_ret
          exact ⟨by rw [all_of_false vd l i _ HT.out.1 HO.out.symm];rfl,HB5.out⟩
        | true =>
          go_wp2_with (go_at_call 133;refine HC2.out.mono ?_;rintro e w5 ⟨rfl,hb⟩;have HB5:=Lib.hid (And.intro (HIv.out.1.chain hb) (kept_box hb HIv.out.2.1));clear hb)
          go_roundg (2 - (i + 1))
          case measure => omega
          case rel => exact ⟨i + 1,rfl,by omega,by go_num,Lib.hid ⟨HB5.out.1,HB5.out.2,by rw [HT.out.2,HIv.out.2.2];rfl⟩⟩
       ·obtain rfl : i = 2:=by omega
        go_wp2
        go_ret
        refine ⟨?_,HIv.out.1⟩
        have := HIv.out.2.2
        rw [List.take_of_length_le (by have := HLM.out.2;omega)] at this
        rw [this]
        rfl
 ·rw [opsC_ne hlen,Bool.and_false]
  go_enter Tryz.func133,Tryz.ntmps133
  go_wp2
  go_ret
  exact ⟨rfl,HB.out⟩
theorem sc_7 (d : Nat) (hd : d + 1 ≤ 1000) (ih : ScOk d (vC varR nuP d)) (k ak an : Int) (sa : List UInt8) (al : List Ex) (bk bn : Int) (sb : List UInt8) (bl : List Ex) (l : List Cn) (Aa : Option Addr) (ca : Nat) (Ab : Option Addr) (cb : Nat) (Al : Option Addr) (cl : Nat) (W : World) (hk : k = 7) : ExRow W W.heap.size al Aa → ExRow W W.heap.size bl Ab → CnRow W W.heap.size l Al → sa.length ≤ maxLen → al.length ≤ maxLen → sb.length ≤ maxLen → bl.length ≤ maxLen → l.length ≤ maxLen →
 Calls Tryz.prog 133 #[condV2 k ak an ⟨sa.toArray⟩ (.slice Aa al.length ca) bk bn ⟨sb.toArray⟩ (.slice Ab bl.length cb) (.slice Al l.length cl),.int .i64 ((d + 1 : Nat) : Int)] W fun e w' => e = .returned (.bool (vC varR nuP (d + 1) (.mk k (.mk ak an sa al) (.mk bk bn sb bl) l))) ∧ Below W.heap.size W w':=by
 intro ra rb rl b1 b2 b3 b4 b5
 have HB:=Lib.hid (below_alloc W (condC2 k ak an ⟨sa.toArray⟩ (.slice Aa al.length ca) bk bn ⟨sb.toArray⟩ (.slice Ab bl.length cb) (.slice Al l.length cl)))
 have HX:=Lib.hid (heap_of_alloc W (condC2 k ak an ⟨sa.toArray⟩ (.slice Aa al.length ca) bk bn ⟨sb.toArray⟩ (.slice Ab bl.length cb) (.slice Al l.length cl)))
 have HA : Hid (∀ W3,Below W.heap.size W W3 → Calls Tryz.prog 85 #[exprV ak an ⟨sa.toArray⟩ (.slice Aa al.length ca)] W3 fun e w' => e = .returned (.bool (vE varR nuP 30 (.mk ak an sa al))) ∧ Below W3.heap.size W3 w'):=Lib.hid (fun W3 hb => sexpr_any ak an sa al Aa ca W3 ((ra.stay hb (Nat.le_refl _)).more hb.size) b1 b2)
 have HC : Hid (∀ W3,Below W.heap.size W W3 → Calls Tryz.prog 85 #[exprV bk bn ⟨sb.toArray⟩ (.slice Ab bl.length cb)] W3 fun e w' => e = .returned (.bool (vE varR nuP 30 (.mk bk bn sb bl))) ∧ Below W3.heap.size W3 w'):=Lib.hid (fun W3 hb => sexpr_any bk bn sb bl Ab cb W3 ((rb.stay hb (Nat.le_refl _)).more hb.size) b3 b4)
 have HZA : Hid (∀ W3,Calls Tryz.prog 86 #[exprV ak an ⟨sa.toArray⟩ (.slice Aa al.length ca)] W3 fun e w' => e = .returned (.bool (zX (.mk ak an sa al))) ∧ Below W3.heap.size W3 w'):=Lib.hid (fun W3 => szero_any ak an sa al Aa ca W3 b2)
 have HZB : Hid (∀ W3,Calls Tryz.prog 86 #[exprV bk bn ⟨sb.toArray⟩ (.slice Ab bl.length cb)] W3 fun e w' => e = .returned (.bool (zX (.mk bk bn sb bl))) ∧ Below W3.heap.size W3 w'):=Lib.hid (fun W3 => szero_any bk bn sb bl Ab cb W3 b4)
 have HR:=Lib.hid (And.intro rl ih)
 have hm : ((d + 1 : Nat) : Int) = (d : Int) + 1:=by omega
 rw [hm]
 have hne : ¬ ((d : Int) + 1 < 1):=by omega
 have hd' : (d : Int) ≤ 1000:=by omega
 unfold vC
 generalize hvd : vC varR nuP d = vd at *
 generalize vE varR nuP 30 (.mk ak an sa al) = ea at *
 generalize vE varR nuP 30 (.mk bk bn sb bl) = eb at *
 generalize zX (.mk ak an sa al) = za at *
 generalize zX (.mk bk bn sb bl) = zb at *
 clear ih hvd ra rb rl hm
 unfold maxLen at b1 b2 b3 b4 b5
 subst hk
 rw [if_neg (by intro h;rw [Bool.and_eq_true,decide_eq_true_eq,decide_eq_true_eq] at h;omega)]
 rw [if_neg (by decide)]
 rw [if_pos (Or.inr rfl)]
 by_cases hlen : (l.length : Int) = 2
 ·cases za with
  | false =>
    rw [Bool.false_and,Bool.false_and]
    go_enter Tryz.func133,Tryz.ntmps133
    go_wp2_with (first
     | (go_at_call 86;with_reducible refine (HZA.out _).mono ?_;rintro e w3 ⟨rfl,hb3⟩;have HB3:=Lib.hid (HB.out.chain hb3);have hc:=kept_box hb3 HX.out;obtain ⟨y1,y2,y3,y4,y5,y6,y7,y8,y9⟩:=box10 hc;clear hb3;have HX3:=Lib.hid hc;clear hc)
     )
    go_ret
    exact ⟨rfl,HB3.out⟩
  | true =>
    cases zb with
    | false =>
      rw [Bool.and_false,Bool.false_and]
      go_enter Tryz.func133,Tryz.ntmps133
      go_wp2_with (first
       | (go_at_call 86;with_reducible refine (HZA.out _).mono ?_;rintro e w3 ⟨rfl,hb3⟩;have HB3:=Lib.hid (HB.out.chain hb3);have hc:=kept_box hb3 HX.out;obtain ⟨y1,y2,y3,y4,y5,y6,y7,y8,y9⟩:=box10 hc;clear hb3;have HX3:=Lib.hid hc;clear hc)
       | (go_at_call 86;with_reducible refine (HZB.out _).mono ?_;rintro e w4 ⟨rfl,hb4⟩;have HB4:=Lib.hid (HB3.out.chain hb4);have HX4:=Lib.hid (kept_box hb4 HX3.out);clear hb4)
       )
      go_ret
      exact ⟨rfl,HB4.out⟩
    | true =>
      have HLM : Hid (True ∧ l.length = 2):=Lib.hid ⟨trivial,by omega⟩
      rw [opsC_eq hlen]
      go_enter Tryz.func133,Tryz.ntmps133
      go_wp2_with (first
       | (go_at_call 86;with_reducible refine (HZA.out _).mono ?_;rintro e w3 ⟨rfl,hb3⟩;have HB3:=Lib.hid (HB.out.chain hb3);have hc:=kept_box hb3 HX.out;obtain ⟨y1,y2,y3,y4,y5,y6,y7,y8,y9⟩:=box10 hc;clear hb3;have HX3:=Lib.hid hc;clear hc)
       | (go_at_call 86;with_reducible refine (HZB.out _).mono ?_;rintro e w4 ⟨rfl,hb4⟩;have HB4:=Lib.hid (HB3.out.chain hb4);have HX4:=Lib.hid (kept_box hb4 HX3.out);clear hb4)
       )
      go_loopg [6] 2 (fun m j wr => ∃ i : Nat,m = 2 - i ∧ i ≤ 2 ∧ j = .int .i64 i ∧ Hid (Below W.heap.size W wr ∧ wr.heap[W.heap.size]? = some (condC2 7 ak an ⟨sa.toArray⟩ (.slice Aa al.length ca) bk bn ⟨sb.toArray⟩ (.slice Ab bl.length cb) (.slice Al l.length cl)) ∧ (l.take i).all vd = true))
      case atStart => exact ⟨0,rfl,Nat.zero_le _,rfl,Lib.hid ⟨HB4.out,HX4.out,rfl⟩⟩
      case round =>
       obtain ⟨i,rfl,hi,rfl,HIv⟩:=hrel
       by_cases hlt : i < 2
       ·have hki : (i : Int) < 2:=by omega
        have hlm:=HLM.out.2
        have hkl : (i : Int) < l.length:=by omega
        obtain ⟨⟨k',⟨ak',an',sa',al'⟩,⟨bk',bn',sb',bl'⟩,l'⟩,hx⟩ : ∃ x,l[i]? = some x:=⟨l[i]'(by omega),List.getElem?_eq_getElem _⟩
        obtain ⟨a,Aa',ca',Ab',cb',Al',cl',rfl,hab,hcc,p1,p2,p3,p4,p5,ra,rb,rl⟩:=(HR.out.1.stay HIv.out.1 (Nat.le_refl _)).at_ hx
        obtain ⟨c0,c1,c2,c3,c4,c5,c6,c7,c8,c9⟩:=hcc.flat
        have t9:=cell_of_block HIv.out.2.1 9 (v:=.slice (some a) l.length cl) rfl
        have HC2:=Lib.hid (HR.out.2 k' ak' an' sa' al' bk' bn' sb' bl' l' Aa' ca' Ab' cb' Al' cl' wr (ra.more HIv.out.1.size) (rb.more HIv.out.1.size) (rl.more HIv.out.1.size) p1 p2 p3 p4 p5)
        have HT:=Lib.hid (And.intro hx (all_take_succ vd l i _ hx))
        have hw1 : IntKind.i64.wrap (d : Int) = d:=by rw [IntKind.wrap_i64];omega
        clear hcc p1 p2 p3 p4 p5 ra rb rl hx hlm
        obtain ⟨okx,hokx⟩ : ∃ b,b = vd (.mk k' (.mk ak' an' sa' al') (.mk bk' bn' sb' bl') l'):=⟨_,rfl⟩
        rw [← hokx] at HC2 HT
        have HO:=Lib.hid hokx
        clear hokx
        cases okx with
        | false =>
          go_wp2_with (go_at_call 133;refine HC2.out.mono ?_;rintro e w5 ⟨rfl,hb⟩;have HB5:=Lib.hid (HIv.out.1.chain hb);clear hb)
          go_ret
          exact ⟨by rw [all_of_false vd l i _ HT.out.1 HO.out.symm];rfl,HB5.out⟩
        | true =>
          go_wp2_with (go_at_call 133;refine HC2.out.mono ?_;rintro e w5 ⟨rfl,hb⟩;have HB5:=Lib.hid (And.intro (HIv.out.1.chain hb) (kept_box hb HIv.out.2.1));clear hb)
          go_roundg (2 - (i + 1))
          case measure => omega
          case rel => exact ⟨i + 1,rfl,by omega,by go_num,Lib.hid ⟨HB5.out.1,HB5.out.2,by rw [HT.out.2,HIv.out.2.2];rfl⟩⟩
       ·obtain rfl : i = 2:=by omega
        go_wp2
        go_ret
        refine ⟨?_,HIv.out.1⟩
        have := HIv.out.2.2
        rw [List.take_of_length_le (by have := HLM.out.2;omega)] at this
        rw [this]
        rfl
 ·rw [opsC_ne hlen,Bool.and_false]
  go_enter Tryz.func133,Tryz.ntmps133
  go_wp2
  go_ret
  exact ⟨rfl,HB.out⟩
theorem sc_8 (d : Nat) (hd : d + 1 ≤ 1000) (ih : ScOk d (vC varR nuP d)) (k ak an : Int) (sa : List UInt8) (al : List Ex) (bk bn : Int) (sb : List UInt8) (bl : List Ex) (l : List Cn) (Aa : Option Addr) (ca : Nat) (Ab : Option Addr) (cb : Nat) (Al : Option Addr) (cl : Nat) (W : World) (h1 : ¬ (1 ≤ k ∧ k ≤ 4)) (k5 : ¬ k = 5) (k6 : ¬ k = 6) (k7 : ¬ k = 7) : ExRow W W.heap.size al Aa → ExRow W W.heap.size bl Ab → CnRow W W.heap.size l Al → sa.length ≤ maxLen → al.length ≤ maxLen → sb.length ≤ maxLen → bl.length ≤ maxLen → l.length ≤ maxLen →
 Calls Tryz.prog 133 #[condV2 k ak an ⟨sa.toArray⟩ (.slice Aa al.length ca) bk bn ⟨sb.toArray⟩ (.slice Ab bl.length cb) (.slice Al l.length cl),.int .i64 ((d + 1 : Nat) : Int)] W fun e w' => e = .returned (.bool (vC varR nuP (d + 1) (.mk k (.mk ak an sa al) (.mk bk bn sb bl) l))) ∧ Below W.heap.size W w':=by
 intro ra rb rl b1 b2 b3 b4 b5
 have HB:=Lib.hid (below_alloc W (condC2 k ak an ⟨sa.toArray⟩ (.slice Aa al.length ca) bk bn ⟨sb.toArray⟩ (.slice Ab bl.length cb) (.slice Al l.length cl)))
 have HX:=Lib.hid (heap_of_alloc W (condC2 k ak an ⟨sa.toArray⟩ (.slice Aa al.length ca) bk bn ⟨sb.toArray⟩ (.slice Ab bl.length cb) (.slice Al l.length cl)))
 have HA : Hid (∀ W3,Below W.heap.size W W3 → Calls Tryz.prog 85 #[exprV ak an ⟨sa.toArray⟩ (.slice Aa al.length ca)] W3 fun e w' => e = .returned (.bool (vE varR nuP 30 (.mk ak an sa al))) ∧ Below W3.heap.size W3 w'):=Lib.hid (fun W3 hb => sexpr_any ak an sa al Aa ca W3 ((ra.stay hb (Nat.le_refl _)).more hb.size) b1 b2)
 have HC : Hid (∀ W3,Below W.heap.size W W3 → Calls Tryz.prog 85 #[exprV bk bn ⟨sb.toArray⟩ (.slice Ab bl.length cb)] W3 fun e w' => e = .returned (.bool (vE varR nuP 30 (.mk bk bn sb bl))) ∧ Below W3.heap.size W3 w'):=Lib.hid (fun W3 hb => sexpr_any bk bn sb bl Ab cb W3 ((rb.stay hb (Nat.le_refl _)).more hb.size) b3 b4)
 have HZA : Hid (∀ W3,Calls Tryz.prog 86 #[exprV ak an ⟨sa.toArray⟩ (.slice Aa al.length ca)] W3 fun e w' => e = .returned (.bool (zX (.mk ak an sa al))) ∧ Below W3.heap.size W3 w'):=Lib.hid (fun W3 => szero_any ak an sa al Aa ca W3 b2)
 have HZB : Hid (∀ W3,Calls Tryz.prog 86 #[exprV bk bn ⟨sb.toArray⟩ (.slice Ab bl.length cb)] W3 fun e w' => e = .returned (.bool (zX (.mk bk bn sb bl))) ∧ Below W3.heap.size W3 w'):=Lib.hid (fun W3 => szero_any bk bn sb bl Ab cb W3 b4)
 have HR:=Lib.hid (And.intro rl ih)
 have hm : ((d + 1 : Nat) : Int) = (d : Int) + 1:=by omega
 rw [hm]
 have hne : ¬ ((d : Int) + 1 < 1):=by omega
 have hd' : (d : Int) ≤ 1000:=by omega
 unfold vC
 generalize hvd : vC varR nuP d = vd at *
 generalize vE varR nuP 30 (.mk ak an sa al) = ea at *
 generalize vE varR nuP 30 (.mk bk bn sb bl) = eb at *
 generalize zX (.mk ak an sa al) = za at *
 generalize zX (.mk bk bn sb bl) = zb at *
 clear ih hvd ra rb rl hm
 unfold maxLen at b1 b2 b3 b4 b5
 rw [if_neg (by intro h;rw [Bool.and_eq_true,decide_eq_true_eq,decide_eq_true_eq] at h;exact h1 h),if_neg k5]
 rw [if_neg (by rintro (h | h);exact k6 h;exact k7 h)]
 go_enter Tryz.func133,Tryz.ntmps133
 go_wp2
 go_ret
 exact ⟨rfl,HB.out⟩
end Go.Proofs.YtbalioicgpgehaaGreatDoor
namespace Go.Proofs.YtbalioicgpgehaaGreatDoor
set_option maxRecDepth 100000
set_option maxHeartbeats 20000000
open Go.RowKit
theorem sc_any : ∀ d : Nat,d ≤ 1000 → ScOk d (vC varR nuP d):=by
 intro d
 induction d with
 | zero =>
   intro _ k ak an sa al bk bn sb bl l Aa ca Ab cb Al cl W ra rb rl b1 b2 b3 b4 b5
   have HB:=Lib.hid (below_alloc W (condC2 k ak an ⟨sa.toArray⟩ (.slice Aa al.length ca) bk bn ⟨sb.toArray⟩ (.slice Ab bl.length cb) (.slice Al l.length cl)))
   clear ra rb rl
   go_enter Tryz.func133,Tryz.ntmps133
   go_wp2
   go_ret
   exact ⟨rfl,HB.out⟩
 | succ d ih =>
   intro hd k ak an sa al bk bn sb bl l Aa ca Ab cb Al cl W
   by_cases k1 : k = 1
   ·exact sc_1 d hd (ih (by omega)) k ak an sa al bk bn sb bl l Aa ca Ab cb Al cl W k1
   by_cases k2 : k = 2
   ·exact sc_2 d hd (ih (by omega)) k ak an sa al bk bn sb bl l Aa ca Ab cb Al cl W k2
   by_cases k3 : k = 3
   ·exact sc_3 d hd (ih (by omega)) k ak an sa al bk bn sb bl l Aa ca Ab cb Al cl W k3
   by_cases k4 : k = 4
   ·exact sc_4 d hd (ih (by omega)) k ak an sa al bk bn sb bl l Aa ca Ab cb Al cl W k4
   by_cases k5 : k = 5
   ·exact sc_5 d hd (ih (by omega)) k ak an sa al bk bn sb bl l Aa ca Ab cb Al cl W k5
   by_cases k6 : k = 6
   ·exact sc_6 d hd (ih (by omega)) k ak an sa al bk bn sb bl l Aa ca Ab cb Al cl W k6
   by_cases k7 : k = 7
   ·exact sc_7 d hd (ih (by omega)) k ak an sa al bk bn sb bl l Aa ca Ab cb Al cl W k7
   exact sc_8 d hd (ih (by omega)) k ak an sa al bk bn sb bl l Aa ca Ab cb Al cl W (by omega) k5 k6 k7
theorem scond_any (k ak an : Int) (sa : List UInt8) (al : List Ex) (bk bn : Int) (sb : List UInt8) (bl : List Ex) (l : List Cn) (Aa : Option Addr) (ca : Nat) (Ab : Option Addr) (cb : Nat) (Al : Option Addr) (cl : Nat) (w : World)
 (ra : ExRow w w.heap.size al Aa) (rb : ExRow w w.heap.size bl Ab) (rl : CnRow w w.heap.size l Al) (b1 : sa.length ≤ maxLen) (b2 : al.length ≤ maxLen) (b3 : sb.length ≤ maxLen) (b4 : bl.length ≤ maxLen) (b5 : l.length ≤ maxLen) :
 Calls Tryz.prog 87 #[condV2 k ak an ⟨sa.toArray⟩ (.slice Aa al.length ca) bk bn ⟨sb.toArray⟩ (.slice Ab bl.length cb) (.slice Al l.length cl)] w fun e w' => e = .returned (.bool (vC varR nuP 30 (.mk k (.mk ak an sa al) (.mk bk bn sb bl) l))) ∧ Below w.heap.size w w':=by
 have HB:=Lib.hid (below_alloc w (condC2 k ak an ⟨sa.toArray⟩ (.slice Aa al.length ca) bk bn ⟨sb.toArray⟩ (.slice Ab bl.length cb) (.slice Al l.length cl)))
 have HC:=Lib.hid (sc_any 30 (by omega) k ak an sa al bk bn sb bl l Aa ca Ab cb Al cl (w.alloc (condC2 k ak an ⟨sa.toArray⟩ (.slice Aa al.length ca) bk bn ⟨sb.toArray⟩ (.slice Ab bl.length cb) (.slice Al l.length cl))) ((ra.stay HB.out (Nat.le_refl _)).more HB.out.size) ((rb.stay HB.out (Nat.le_refl _)).more HB.out.size) ((rl.stay HB.out (Nat.le_refl _)).more HB.out.size) b1 b2 b3 b4 b5)
 generalize vC varR nuP 30 (.mk k (.mk ak an sa al) (.mk bk bn sb bl) l) = res at *
 unfold maxLen at b1 b2 b3 b4 b5
 clear ra rb rl
 go_enter Tryz.func87,Tryz.ntmps87
 go_wp2_with (go_at_call 133;refine HC.out.mono ?_;rintro e w3 ⟨rfl,hb⟩)
 go_ret
 exact ⟨rfl,HB.out.chain hb⟩
end Go.Proofs.YtbalioicgpgehaaGreatDoor
namespace Go.Proofs.YtbalioicgpgehaaGreatDoor
set_option maxRecDepth 100000
set_option maxHeartbeats 4000000
open Go.RowKit
theorem beq_nilU (l : List UInt8) : (l == ([] : List UInt8)) = l.isEmpty:=by cases l <;> rfl
theorem splace_any (ln co : Int) (w : World) : Calls Tryz.prog 81 #[posV ln co] w fun e w' => e = .returned (.bool (vPos ln co)) ∧ Below w.heap.size w w':=by
 have HB:=Lib.hid (below_alloc w (.cells #[.int .i64 ln,.int .i64 co] 26))
 obtain ⟨res,hres⟩ : ∃ res,res = vPos ln co:=⟨_,rfl⟩
 rw [← hres]
 unfold vPos at hres
 by_cases h1 : 0 ≤ ln
 ·by_cases h3 : 0 ≤ co
  ·by_cases h2 : ln ≤ 65537
   ·by_cases h4 : co ≤ 65537
    ·have e : res = true:=by rw [hres];rw [decide_eq_true h1,decide_eq_true h2,decide_eq_true h3,decide_eq_true h4];rfl
     clear hres
     subst e
     go_enter Tryz.func81,Tryz.ntmps81
     go_wp2
     go_ret
     exact ⟨by first | rfl | (simp;done) | (simp;omega),HB.out⟩
    ·have e : res = false:=by rw [hres];rw [decide_eq_false h4];simp
     clear hres
     subst e
     go_enter Tryz.func81,Tryz.ntmps81
     go_wp2
     go_ret
     exact ⟨by first | rfl | (simp;done) | (simp;omega),HB.out⟩
   ·have e : res = false:=by rw [hres];rw [decide_eq_false h2];simp
    clear hres
    subst e
    go_enter Tryz.func81,Tryz.ntmps81
    go_wp2
    go_ret
    exact ⟨by first | rfl | (simp;done) | (simp;omega),HB.out⟩
  ·have e : res = false:=by rw [hres];rw [decide_eq_false h3];simp
   clear hres
   subst e
   go_enter Tryz.func81,Tryz.ntmps81
   go_wp2
   go_ret
   exact ⟨by first | rfl | (simp;done) | (simp;omega),HB.out⟩
 ·have e : res = false:=by rw [hres];rw [decide_eq_false h1];simp
  clear hres
  subst e
  go_enter Tryz.func81,Tryz.ntmps81
  go_wp2
  go_ret
  exact ⟨by first | rfl | (simp;done) | (simp;omega),HB.out⟩
theorem size_listT (s : ByteArray) : s.data.toList.length = s.size:=rfl
theorem shas_any (s : ByteArray) (x : UInt8) (w : World) (hs : s.size ≤ 1000) : Calls Tryz.prog 84 #[.string s,.int .u8 x.toNat] w fun e w' => e = .returned (.bool (!(s.data.toList.all fun y => y != x))) ∧ w = w':=by
 generalize hr : (s.data.toList.all fun y => y != x) = r
 have HR:=Lib.hid hr
 clear hr
 go_enter Tryz.func84,Tryz.ntmps84
 go_wp2
 go_loop [5] (fun j => ∃ k : Nat,k ≤ s.size ∧ j = .int .i64 k ∧ Hid ((s.data.toList.take k).all (fun y => y != x) = true)) (fun j => s.size - (intOf j).toNat)
 case atStart => exact ⟨0,Nat.zero_le _,rfl,rfl⟩
 case round =>
  obtain ⟨k,hk,rfl,HA⟩:=hrel
  by_cases hlt : k < s.size
  ·have hi : s.data.toList[k]? = some s[k]:=by rw [List.getElem?_eq_getElem (by rw [size_listT];exact hlt)];rfl
   by_cases hd : s[k] = x
   ·have HF : Hid (r = false):=Lib.hid (by rw [← HR.out];exact all_of_false _ _ k _ hi (by rw [hd];simp))
    have hd2 : (s[k].toNat : Int) = x.toNat:=by rw [hd]
    clear hd hi
    go_wp2
    go_ret
    exact ⟨by rw [HF.out] <;> rfl,rfl⟩
   ·have HT : Hid ((s.data.toList.take (k + 1)).all (fun y => y != x) = true):=Lib.hid (by rw [all_take_succ _ _ k _ hi,HA.out];simpa using hd)
    have hd2 : ¬ ((s[k].toNat : Int) = x.toNat):=fun h => hd (UInt8.toNat_inj.1 (by omega))
    clear hd hi
    go_wp2
    go_round
    case rel => exact ⟨k + 1,by omega,by go_num,HT⟩
    case measure => simp [intOf];omega
  ·have HF : Hid (r = true):=Lib.hid (by rw [← HR.out,← HA.out,List.take_of_length_le (by rw [size_listT];omega)])
   go_wp2
   go_ret
   exact ⟨by rw [HF.out] <;> rfl,rfl⟩
def usesL (k : Int) : List UInt8 :=
 if k = 1 then [110,69,48] else if k = 2 then [110,102,114,48] else if k = 3 then [110,102,69,48] else if k = 4 then [110,114,48] else if k = 5 then [110,48] else if k = 6 then [110,48] else if k = 7 then [49]
 else if k = 8 then [67,48,98,101] else if k = 9 then [67,48,105,98] else if k = 10 then [67,48] else if k = 11 then [110,48,98] else if k = 12 then [50] else []
theorem suses_any (k : Int) (w : World) : Calls Tryz.prog 80 #[.int .i64 k] w fun e w' => e = .returned (.string ⟨(usesL k).toArray⟩) ∧ w = w':=by
 obtain ⟨u,hu⟩ : ∃ u,u = usesL k:=⟨_,rfl⟩
 rw [← hu]
 unfold usesL at hu
 by_cases k1 : k = 1
 ·subst k1
  have e : u = [110,69,48]:=hu
  clear hu
  subst e
  go_enter Tryz.func80,Tryz.ntmps80
  go_wp2
  go_ret
  exact ⟨rfl,rfl⟩
 by_cases k2 : k = 2
 ·subst k2
  have e : u = [110,102,114,48]:=hu
  clear hu
  subst e
  go_enter Tryz.func80,Tryz.ntmps80
  go_wp2
  go_ret
  exact ⟨rfl,rfl⟩
 by_cases k3 : k = 3
 ·subst k3
  have e : u = [110,102,69,48]:=hu
  clear hu
  subst e
  go_enter Tryz.func80,Tryz.ntmps80
  go_wp2
  go_ret
  exact ⟨rfl,rfl⟩
 by_cases k4 : k = 4
 ·subst k4
  have e : u = [110,114,48]:=hu
  clear hu
  subst e
  go_enter Tryz.func80,Tryz.ntmps80
  go_wp2
  go_ret
  exact ⟨rfl,rfl⟩
 by_cases k5 : k = 5
 ·subst k5
  have e : u = [110,48]:=hu
  clear hu
  subst e
  go_enter Tryz.func80,Tryz.ntmps80
  go_wp2
  go_ret
  exact ⟨rfl,rfl⟩
 by_cases k6 : k = 6
 ·subst k6
  have e : u = [110,48]:=hu
  clear hu
  subst e
  go_enter Tryz.func80,Tryz.ntmps80
  go_wp2
  go_ret
  exact ⟨rfl,rfl⟩
 by_cases k7 : k = 7
 ·subst k7
  have e : u = [49]:=hu
  clear hu
  subst e
  go_enter Tryz.func80,Tryz.ntmps80
  go_wp2
  go_ret
  exact ⟨rfl,rfl⟩
 by_cases k8 : k = 8
 ·subst k8
  have e : u = [67,48,98,101]:=hu
  clear hu
  subst e
  go_enter Tryz.func80,Tryz.ntmps80
  go_wp2
  go_ret
  exact ⟨rfl,rfl⟩
 by_cases k9 : k = 9
 ·subst k9
  have e : u = [67,48,105,98]:=hu
  clear hu
  subst e
  go_enter Tryz.func80,Tryz.ntmps80
  go_wp2
  go_ret
  exact ⟨rfl,rfl⟩
 by_cases k10 : k = 10
 ·subst k10
  have e : u = [67,48]:=hu
  clear hu
  subst e
  go_enter Tryz.func80,Tryz.ntmps80
  go_wp2
  go_ret
  exact ⟨rfl,rfl⟩
 by_cases k11 : k = 11
 ·subst k11
  have e : u = [110,48,98]:=hu
  clear hu
  subst e
  go_enter Tryz.func80,Tryz.ntmps80
  go_wp2
  go_ret
  exact ⟨rfl,rfl⟩
 by_cases k12 : k = 12
 ·subst k12
  have e : u = [50]:=hu
  clear hu
  subst e
  go_enter Tryz.func80,Tryz.ntmps80
  go_wp2
  go_ret
  exact ⟨rfl,rfl⟩
 have e : u = []:=by rw [hu,if_neg k1,if_neg k2,if_neg k3,if_neg k4,if_neg k5,if_neg k6,if_neg k7,if_neg k8,if_neg k9,if_neg k10,if_neg k11,if_neg k12]
 clear hu
 subst e
 go_enter Tryz.func80,Tryz.ntmps80
 go_wp2
 go_ret
 exact ⟨rfl,rfl⟩
theorem isEmpty_lenC {α : Type} (l : List α) : l.isEmpty = ((l.length : Int) == 0):=by
 cases l with
 | nil => rfl
 | cons x l =>
   have : (((x :: l).length : Int) == 0) = false:=by rw [beq_eq_false_iff_ne,List.length_cons];omega
   rw [this]
   rfl
theorem snothing_any (k ak an : Int) (sa : List UInt8) (al : List Ex) (bk bn : Int) (sb : List UInt8) (bl : List Ex) (l : List Cn) (Aa : Option Addr) (ca : Nat) (Ab : Option Addr) (cb : Nat) (Al : Option Addr) (cl : Nat) (w : World) (b2 : al.length ≤ maxLen) (b4 : bl.length ≤ maxLen) (_b5 : l.length ≤ maxLen) :
 Calls Tryz.prog 88 #[condV2 k ak an ⟨sa.toArray⟩ (.slice Aa al.length ca) bk bn ⟨sb.toArray⟩ (.slice Ab bl.length cb) (.slice Al l.length cl)] w
  fun e w' => e = .returned (.bool (zC (.mk k (.mk ak an sa al) (.mk bk bn sb bl) l))) ∧ Below w.heap.size w w':=by
 have HA : Hid (∀ w,Calls Tryz.prog 86 #[exprV ak an ⟨sa.toArray⟩ (.slice Aa al.length ca)] w fun e w' => e = .returned (.bool (zX (.mk ak an sa al))) ∧ Below w.heap.size w w'):=Lib.hid (fun w => szero_any ak an sa al Aa ca w b2)
 have HE : Hid (∀ w,Calls Tryz.prog 86 #[exprV bk bn ⟨sb.toArray⟩ (.slice Ab bl.length cb)] w fun e w' => e = .returned (.bool (zX (.mk bk bn sb bl))) ∧ Below w.heap.size w w'):=Lib.hid (fun w => szero_any bk bn sb bl Ab cb w b4)
 obtain ⟨res,hres⟩ : ∃ res,res = zC (.mk k (.mk ak an sa al) (.mk bk bn sb bl) l):=⟨_,rfl⟩
 rw [← hres]
 rw [zC_eq,isEmpty_lenC] at hres
 generalize zX (.mk ak an sa al) = za at *
 generalize zX (.mk bk bn sb bl) = zb at *
 have HB:=Lib.hid (below_alloc w (condC2 k ak an ⟨sa.toArray⟩ (.slice Aa al.length ca) bk bn ⟨sb.toArray⟩ (.slice Ab bl.length cb) (.slice Al l.length cl)))
 have HQ:=Lib.hid (heap_of_alloc w (condC2 k ak an ⟨sa.toArray⟩ (.slice Aa al.length ca) bk bn ⟨sb.toArray⟩ (.slice Ab bl.length cb) (.slice Al l.length cl)))
 unfold maxLen at b2 b4 _b5
 generalize l.length = nl at *
 by_cases hk : k = 0
 ·subst hk
  cases za with
  | false =>
    have e : res = false:=hres
    clear hres
    subst e
    go_enter Tryz.func88,Tryz.ntmps88
    go_wp2_with (go_at_call 86;refine (HA.out _).mono ?_;rintro e w2 ⟨rfl,hb⟩;have HB2:=Lib.hid (HB.out.chain hb);clear hb)
    go_ret
    exact ⟨rfl,HB2.out⟩
  | true =>
    cases zb with
    | false =>
      have e : res = false:=hres
      clear hres
      subst e
      go_enter Tryz.func88,Tryz.ntmps88
      go_wp2_with (first
       | (go_at_call 86;with_reducible refine (HA.out _).mono ?_;rintro e w2 ⟨rfl,hb⟩;have HB2:=Lib.hid (HB.out.chain hb);obtain ⟨g1,g2,g3,g4,g5,g6,g7,g8,g9⟩:=box10 (kept_box hb HQ.out);clear hb)
       | (go_at_call 86;refine (HE.out _).mono ?_;rintro e w3 ⟨rfl,hb3⟩;have HB3:=Lib.hid (HB2.out.chain hb3);clear hb3))
      go_ret
      exact ⟨rfl,HB3.out⟩
    | true =>
      have e : res = ((nl : Int) == 0):=hres
      clear hres
      subst e
      go_enter Tryz.func88,Tryz.ntmps88
      go_wp2_with (first
       | (go_at_call 86;with_reducible refine (HA.out _).mono ?_;rintro e w2 ⟨rfl,hb⟩;have HB2:=Lib.hid (HB.out.chain hb);have HQ2:=Lib.hid (kept_box hb HQ.out);obtain ⟨g1,g2,g3,g4,g5,g6,g7,g8,g9⟩:=box10 HQ2.out;clear hb)
       | (go_at_call 86;refine (HE.out _).mono ?_;rintro e w3 ⟨rfl,hb3⟩;have HB3:=Lib.hid (HB2.out.chain hb3);obtain ⟨i1,i2,i3,i4,i5,i6,i7,i8,i9⟩:=box10 (kept_box hb3 HQ2.out);clear hb3))
      go_ret
      exact ⟨by first | rfl | (simp;done),HB3.out⟩
 ·have hkb : (k == 0) = false:=by simpa using hk
  have e : res = false:=by rw [hres,hkb];rfl
  clear hres hkb
  subst e
  go_enter Tryz.func88,Tryz.ntmps88
  go_wp2
  go_ret
  exact ⟨rfl,HB.out⟩
theorem scall_any (r p : List UInt8) (l : List Ex) (A : Option Addr) (c : Nat) (w : World) (hr : ExRow w w.heap.size l A) (hrl : r.length ≤ maxLen) (hp : p.length ≤ maxLen) (hl : l.length ≤ maxLen) :
 Calls Tryz.prog 89 #[callV ⟨r.toArray⟩ ⟨p.toArray⟩ (.slice A l.length c)] w fun e w' => e = .returned (.bool (vCal varR nuP ⟨r,p,l⟩)) ∧ Below w.heap.size w w':=by
 have HN : Hid (∀ w,Calls Tryz.prog 83 #[.string ⟨p.toArray⟩] w fun e w' => e = .returned (.bool (nameL p)) ∧ Below w.heap.size w w'):=Lib.hid (fun w => by rw [name_eq];exact sname_any p w hp)
 have HR : Hid (∀ w,Calls Tryz.prog 82 #[.string ⟨r.toArray⟩] w fun e w' => e = .returned (.bool (varR r)) ∧ Below w.heap.size w w'):=Lib.hid (fun w => svariable_any r w hrl)
 have HV : Hid (BC w 134 #[.slice A l.length c] (l.all (vE varR nuP 30))):=Lib.hid (fun W hb => sexprs_any l A c W hl (hr.on hb))
 have HB:=Lib.hid (below_alloc w (callC ⟨r.toArray⟩ ⟨p.toArray⟩ (.slice A l.length c)))
 have HQ:=Lib.hid (heap_of_alloc w (callC ⟨r.toArray⟩ ⟨p.toArray⟩ (.slice A l.length c)))
 obtain ⟨res,hres⟩ : ∃ res,res = vCal varR nuP ⟨r,p,l⟩:=⟨_,rfl⟩
 rw [← hres]
 unfold vCal at hres
 simp only at hres
 generalize nameL p = np at *
 generalize varR r = vr at *
 generalize l.all (vE varR nuP 30) = v1 at *
 generalize l.length = n at *
 unfold maxLen at hl hrl hp
 clear hr
 rcases r with _ | ⟨x,r⟩
 ·cases np with
  | false =>
    have e : res = false:=by rw [hres];simp
    clear hres
    subst e
    go_enter Tryz.func89,Tryz.ntmps89
    go_wp2_with (first
     | (go_at_call 83;refine (HN.out _).mono ?_;rintro e w2 ⟨rfl,hb⟩;have HB2:=Lib.hid (HB.out.chain hb);have hq0:=kept_box hb HQ.out;obtain ⟨a00,a01,a02⟩:=box3l hq0;have HQ1:=Lib.hid hq0;clear hb hq0))
    go_ret
    exact ⟨by first | rfl | (simp;done) | (simp;omega),HB2.out⟩
  | true =>
    by_cases h8 : (n : Int) ≤ 8
    ·cases v1 with
     | false =>
       have e : res = false:=by rw [hres];simp
       clear hres
       subst e
       go_enter Tryz.func89,Tryz.ntmps89
       go_wp2_with (first
        | (go_at_call 83;refine (HN.out _).mono ?_;rintro e w2 ⟨rfl,hb⟩;have HB2:=Lib.hid (HB.out.chain hb);have hq0:=kept_box hb HQ.out;obtain ⟨a00,a01,a02⟩:=box3l hq0;have HQ1:=Lib.hid hq0;clear hb hq0)
        | (go_at_call 134;refine (HV.out _ HB2.out).mono ?_;rintro e w3 ⟨rfl,hb⟩;have HB3:=Lib.hid (HB2.out.chain hb);have hq1:=kept_box hb HQ1.out;obtain ⟨a10,a11,a12⟩:=box3l hq1;have HQ2:=Lib.hid hq1;clear hb hq1))
       go_ret
       exact ⟨by first | rfl | (simp;done) | (simp;omega),HB3.out⟩
     | true =>
       have e : res = true:=by rw [hres];rw [decide_eq_true h8];simp
       clear hres
       subst e
       go_enter Tryz.func89,Tryz.ntmps89
       go_wp2_with (first
        | (go_at_call 83;refine (HN.out _).mono ?_;rintro e w2 ⟨rfl,hb⟩;have HB2:=Lib.hid (HB.out.chain hb);have hq0:=kept_box hb HQ.out;obtain ⟨a00,a01,a02⟩:=box3l hq0;have HQ1:=Lib.hid hq0;clear hb hq0)
        | (go_at_call 134;refine (HV.out _ HB2.out).mono ?_;rintro e w3 ⟨rfl,hb⟩;have HB3:=Lib.hid (HB2.out.chain hb);have hq1:=kept_box hb HQ1.out;obtain ⟨a10,a11,a12⟩:=box3l hq1;have HQ2:=Lib.hid hq1;clear hb hq1))
       go_ret
       exact ⟨by first | rfl | (simp;done) | (simp;omega),HB3.out⟩
    ·have e : res = false:=by rw [hres];rw [decide_eq_false h8];simp
     clear hres
     subst e
     go_enter Tryz.func89,Tryz.ntmps89
     go_wp2_with (first
      | (go_at_call 83;refine (HN.out _).mono ?_;rintro e w2 ⟨rfl,hb⟩;have HB2:=Lib.hid (HB.out.chain hb);have hq0:=kept_box hb HQ.out;obtain ⟨a00,a01,a02⟩:=box3l hq0;have HQ1:=Lib.hid hq0;clear hb hq0))
     go_ret
     exact ⟨by first | rfl | (simp;done) | (simp;omega),HB2.out⟩
 ·cases vr with
  | false =>
    have e : res = false:=by rw [hres];simp
    clear hres
    subst e
    go_enter Tryz.func89,Tryz.ntmps89
    go_wp2_with (first
     | (go_at_call 82;refine (HR.out _).mono ?_;rintro e w2 ⟨rfl,hb⟩;have HB2:=Lib.hid (HB.out.chain hb);have hq0:=kept_box hb HQ.out;obtain ⟨a00,a01,a02⟩:=box3l hq0;have HQ1:=Lib.hid hq0;clear hb hq0))
    go_ret
    exact ⟨by first | rfl | (simp;done) | (simp;omega),HB2.out⟩
  | true =>
    cases np with
    | false =>
      have e : res = false:=by rw [hres];simp
      clear hres
      subst e
      go_enter Tryz.func89,Tryz.ntmps89
      go_wp2_with (first
       | (go_at_call 82;refine (HR.out _).mono ?_;rintro e w2 ⟨rfl,hb⟩;have HB2:=Lib.hid (HB.out.chain hb);have hq0:=kept_box hb HQ.out;obtain ⟨a00,a01,a02⟩:=box3l hq0;have HQ1:=Lib.hid hq0;clear hb hq0)
       | (go_at_call 83;refine (HN.out _).mono ?_;rintro e w3 ⟨rfl,hb⟩;have HB3:=Lib.hid (HB2.out.chain hb);have hq1:=kept_box hb HQ1.out;obtain ⟨a10,a11,a12⟩:=box3l hq1;have HQ2:=Lib.hid hq1;clear hb hq1))
      go_ret
      exact ⟨by first | rfl | (simp;done) | (simp;omega),HB3.out⟩
    | true =>
      by_cases h8 : (n : Int) ≤ 8
      ·cases v1 with
       | false =>
         have e : res = false:=by rw [hres];simp
         clear hres
         subst e
         go_enter Tryz.func89,Tryz.ntmps89
         go_wp2_with (first
          | (go_at_call 82;refine (HR.out _).mono ?_;rintro e w2 ⟨rfl,hb⟩;have HB2:=Lib.hid (HB.out.chain hb);have hq0:=kept_box hb HQ.out;obtain ⟨a00,a01,a02⟩:=box3l hq0;have HQ1:=Lib.hid hq0;clear hb hq0)
          | (go_at_call 83;refine (HN.out _).mono ?_;rintro e w3 ⟨rfl,hb⟩;have HB3:=Lib.hid (HB2.out.chain hb);have hq1:=kept_box hb HQ1.out;obtain ⟨a10,a11,a12⟩:=box3l hq1;have HQ2:=Lib.hid hq1;clear hb hq1)
          | (go_at_call 134;refine (HV.out _ HB3.out).mono ?_;rintro e w4 ⟨rfl,hb⟩;have HB4:=Lib.hid (HB3.out.chain hb);have hq2:=kept_box hb HQ2.out;obtain ⟨a20,a21,a22⟩:=box3l hq2;have HQ3:=Lib.hid hq2;clear hb hq2))
         go_ret
         exact ⟨by first | rfl | (simp;done) | (simp;omega),HB4.out⟩
       | true =>
         have e : res = true:=by rw [hres];rw [decide_eq_true h8];simp
         clear hres
         subst e
         go_enter Tryz.func89,Tryz.ntmps89
         go_wp2_with (first
          | (go_at_call 82;refine (HR.out _).mono ?_;rintro e w2 ⟨rfl,hb⟩;have HB2:=Lib.hid (HB.out.chain hb);have hq0:=kept_box hb HQ.out;obtain ⟨a00,a01,a02⟩:=box3l hq0;have HQ1:=Lib.hid hq0;clear hb hq0)
          | (go_at_call 83;refine (HN.out _).mono ?_;rintro e w3 ⟨rfl,hb⟩;have HB3:=Lib.hid (HB2.out.chain hb);have hq1:=kept_box hb HQ1.out;obtain ⟨a10,a11,a12⟩:=box3l hq1;have HQ2:=Lib.hid hq1;clear hb hq1)
          | (go_at_call 134;refine (HV.out _ HB3.out).mono ?_;rintro e w4 ⟨rfl,hb⟩;have HB4:=Lib.hid (HB3.out.chain hb);have hq2:=kept_box hb HQ2.out;obtain ⟨a20,a21,a22⟩:=box3l hq2;have HQ3:=Lib.hid hq2;clear hb hq2))
         go_ret
         exact ⟨by first | rfl | (simp;done) | (simp;omega),HB4.out⟩
      ·have e : res = false:=by rw [hres];rw [decide_eq_false h8];simp
       clear hres
       subst e
       go_enter Tryz.func89,Tryz.ntmps89
       go_wp2_with (first
        | (go_at_call 82;refine (HR.out _).mono ?_;rintro e w2 ⟨rfl,hb⟩;have HB2:=Lib.hid (HB.out.chain hb);have hq0:=kept_box hb HQ.out;obtain ⟨a00,a01,a02⟩:=box3l hq0;have HQ1:=Lib.hid hq0;clear hb hq0)
        | (go_at_call 83;refine (HN.out _).mono ?_;rintro e w3 ⟨rfl,hb⟩;have HB3:=Lib.hid (HB2.out.chain hb);have hq1:=kept_box hb HQ1.out;obtain ⟨a10,a11,a12⟩:=box3l hq1;have HQ2:=Lib.hid hq1;clear hb hq1))
       go_ret
       exact ⟨by first | rfl | (simp;done) | (simp;omega),HB3.out⟩
theorem sformulas_any (fs : List Fm) (A : Option Addr) (c : Nat) (w : World) (hn : fs.length ≤ maxLen) (hr : FmRow w w.heap.size fs A) :
 Calls Tryz.prog 90 #[.slice A fs.length c,.int .i64 0] w fun e w' => e = .returned (.bool (decide ((fs.length : Int) ≤ 100) && fs.all (vF varR nuP 100))) ∧ Below w.heap.size w w':=by
 obtain ⟨ok,hok⟩ : ∃ ok,ok = vF varR nuP 100:=⟨_,rfl⟩
 have HS : Hid (∀ (f : Fm) Ap cp Aa ca Ac cc w,f.ps.length ≤ maxLen → f.ats.length ≤ maxLen → f.cls.length ≤ maxLen → PmRow w w.heap.size f.ps Ap → AtRow w w.heap.size f.ats Aa → ClRow w w.heap.size f.cls Ac →
  Calls Tryz.prog 135 #[formulaV (.slice Ap f.ps.length cp) (.slice Aa f.ats.length ca) (.slice Ac f.cls.length cc)] w fun e w' => e = .returned (.bool (ok f)) ∧ Below w.heap.size w w'):=Lib.hid (by rw [hok];exact sformula_any)
 rw [← hok]
 clear hok
 obtain ⟨n,hnn⟩ : ∃ n,n = fs.length:=⟨_,rfl⟩
 have HH:=Lib.hid (And.intro hr hnn)
 have HB0:=Lib.hid (Below.refl w.heap.size w)
 rw [← hnn] at hn ⊢
 clear hr hnn
 unfold maxLen at hn
 go_enter Tryz.func90,Tryz.ntmps90
 by_cases hm : (n : Int) > 100
 ·go_wp2
  go_ret
  exact ⟨by rw [show decide ((n : Int) ≤ 100) = false by simp;omega];rfl,HB0.out⟩
 go_wp2
 go_loopg [5] n (fun m j wr => ∃ k : Nat,m = n - k ∧ k ≤ n ∧ j = .int .i64 k ∧ Hid (Below w.heap.size w wr ∧ (fs.take k).all ok = true))
 case atStart => exact ⟨0,rfl,Nat.zero_le _,rfl,Lib.hid ⟨HB0.out,rfl⟩⟩
 case round =>
  obtain ⟨k,rfl,hk,rfl,HI⟩:=hrel
  by_cases hlt : k < n
  ·have hki : (k : Int) < n:=by omega
   obtain ⟨x,hi⟩ : ∃ x,fs[k]? = some x:=⟨fs[k]'(by rw [← HH.out.2];exact hlt),List.getElem?_eq_getElem _⟩
   obtain ⟨a,rfl,hab,Ap,cp,Aa,ca,Ac,cc,d0,d1,d2,⟨b0,b1,b2⟩,rp,ra,rc⟩:=(HH.out.1.on fm_keeps HI.out.1).at_ hi
   have c0 : wr.cell? (a.add (k * 3)) = some (.slice Ap x.ps.length cp):=d0
   have c1 : wr.cell? ⟨(a.add (k * 3)).block,(a.add (k * 3)).off + 1,none⟩ = some (.slice Aa x.ats.length ca):=d1
   have c2 : wr.cell? ⟨(a.add (k * 3)).block,(a.add (k * 3)).off + 2,none⟩ = some (.slice Ac x.cls.length cc):=d2
   have HC2:=Lib.hid (HS.out x Ap cp Aa ca Ac cc wr b0 b1 b2 rp ra rc)
   have HX:=Lib.hid (And.intro hi (all_take_succ ok fs k _ hi))
   obtain ⟨okx,hokx⟩ : ∃ b,b = ok x:=⟨_,rfl⟩
   rw [← hokx] at HC2 HX
   have HO:=Lib.hid hokx
   clear d0 d1 d2 rp ra rc b0 b1 b2 hi hokx
   go_wp2_with (go_at_call 135;refine HC2.out.mono ?_;rintro e w3 ⟨rfl,hb⟩;have HB3:=Lib.hid (HI.out.1.chain hb);clear hb)
   ·rename_i hf
    have hf' : ok x = false:=by rw [← HO.out];simpa using hf
    go_ret
    exact ⟨by rw [all_of_false ok fs k _ HX.out.1 hf',Bool.and_false];rfl,HB3.out⟩
   ·rename_i hf
    have hf' : okx = true:=by simpa using hf
    go_roundg (n - (k + 1))
    case measure => omega
    case rel => exact ⟨k + 1,rfl,by omega,by go_num,Lib.hid ⟨HB3.out,by rw [HX.out.2,HI.out.2,hf'];rfl⟩⟩
  ·obtain rfl : k = n:=by omega
   go_wp2
   go_ret
   refine ⟨?_,HI.out.1⟩
   have := HI.out.2
   rw [List.take_of_length_le (by rw [HH.out.2];exact Nat.le_refl _)] at this
   rw [this,Bool.and_true,show decide ((k : Int) ≤ 100) = true by simp;omega]
   rfl
abbrev D24 (cs : Array Value) (k ln co : Int) (nm fd fr : List UInt8) (ek en : Int) (es : List UInt8) (ve : Value) (ck ak an : Int) (sa : List UInt8) (va : Value) (bk bn : Int) (sb : List UInt8) (vb vl vc vi vs vt : Value) : Prop := cs[0]? = some (.int .i64 k) ∧ cs[1]? = some (.int .i64 ln) ∧ cs[2]? = some (.int .i64 co) ∧ cs[3]? = some (.string ⟨nm.toArray⟩) ∧ cs[4]? = some (.string ⟨fd.toArray⟩) ∧ cs[5]? = some (.string ⟨fr.toArray⟩) ∧ cs[6]? = some (.int .i64 ek) ∧ cs[7]? = some (.int .i64 en) ∧ cs[8]? = some (.string ⟨es.toArray⟩) ∧ cs[9]? = some ve ∧ cs[10]? = some (.int .i64 ck) ∧ cs[11]? = some (.int .i64 ak) ∧ cs[12]? = some (.int .i64 an) ∧ cs[13]? = some (.string ⟨sa.toArray⟩) ∧ cs[14]? = some va ∧ cs[15]? = some (.int .i64 bk) ∧ cs[16]? = some (.int .i64 bn) ∧ cs[17]? = some (.string ⟨sb.toArray⟩) ∧ cs[18]? = some vb ∧ cs[19]? = some vl ∧ cs[20]? = some vc ∧ cs[21]? = some vi ∧ cs[22]? = some vs ∧ cs[23]? = some vt
abbrev C24 (W : World) (b : Nat) (k ln co : Int) (nm fd fr : List UInt8) (ek en : Int) (es : List UInt8) (ve : Value) (ck ak an : Int) (sa : List UInt8) (va : Value) (bk bn : Int) (sb : List UInt8) (vb vl vc vi vs vt : Value) : Prop := W.cell? ⟨b,0,none⟩ = some (.int .i64 k) ∧ W.cell? ⟨b,1,none⟩ = some (.int .i64 ln) ∧ W.cell? ⟨b,2,none⟩ = some (.int .i64 co) ∧ W.cell? ⟨b,3,none⟩ = some (.string ⟨nm.toArray⟩) ∧ W.cell? ⟨b,4,none⟩ = some (.string ⟨fd.toArray⟩) ∧ W.cell? ⟨b,5,none⟩ = some (.string ⟨fr.toArray⟩) ∧ W.cell? ⟨b,6,none⟩ = some (.int .i64 ek) ∧ W.cell? ⟨b,7,none⟩ = some (.int .i64 en) ∧ W.cell? ⟨b,8,none⟩ = some (.string ⟨es.toArray⟩) ∧ W.cell? ⟨b,9,none⟩ = some ve ∧ W.cell? ⟨b,10,none⟩ = some (.int .i64 ck) ∧ W.cell? ⟨b,11,none⟩ = some (.int .i64 ak) ∧ W.cell? ⟨b,12,none⟩ = some (.int .i64 an) ∧ W.cell? ⟨b,13,none⟩ = some (.string ⟨sa.toArray⟩) ∧ W.cell? ⟨b,14,none⟩ = some va ∧ W.cell? ⟨b,15,none⟩ = some (.int .i64 bk) ∧ W.cell? ⟨b,16,none⟩ = some (.int .i64 bn) ∧ W.cell? ⟨b,17,none⟩ = some (.string ⟨sb.toArray⟩) ∧ W.cell? ⟨b,18,none⟩ = some vb ∧ W.cell? ⟨b,19,none⟩ = some vl ∧ W.cell? ⟨b,20,none⟩ = some vc ∧ W.cell? ⟨b,21,none⟩ = some vi ∧ W.cell? ⟨b,22,none⟩ = some vs ∧ W.cell? ⟨b,23,none⟩ = some vt
theorem c24_of {W : World} {b : Nat} {cs : Array Value} {t : TypeId} {k ln co : Int} {nm fd fr : List UInt8} {ek en : Int} {es : List UInt8} {ve : Value} {ck ak an : Int} {sa : List UInt8} {va : Value} {bk bn : Int} {sb : List UInt8} {vb vl vc vi vs vt : Value} (g : W.heap[b]? = some (.cells cs t)) (h : D24 cs k ln co nm fd fr ek en es ve ck ak an sa va bk bn sb vb vl vc vi vs vt) : C24 W b k ln co nm fd fr ek en es ve ck ak an sa va bk bn sb vb vl vc vi vs vt := by
 obtain ⟨k0,k1,k2,k3,k4,k5,k6,k7,k8,k9,k10,k11,k12,k13,k14,k15,k16,k17,k18,k19,k20,k21,k22,k23⟩ := h
 exact ⟨cell_of_block g 0 k0,cell_of_block g 1 k1,cell_of_block g 2 k2,cell_of_block g 3 k3,cell_of_block g 4 k4,cell_of_block g 5 k5,cell_of_block g 6 k6,cell_of_block g 7 k7,cell_of_block g 8 k8,cell_of_block g 9 k9,cell_of_block g 10 k10,cell_of_block g 11 k11,cell_of_block g 12 k12,cell_of_block g 13 k13,cell_of_block g 14 k14,cell_of_block g 15 k15,cell_of_block g 16 k16,cell_of_block g 17 k17,cell_of_block g 18 k18,cell_of_block g 19 k19,cell_of_block g 20 k20,cell_of_block g 21 k21,cell_of_block g 22 k22,cell_of_block g 23 k23⟩
abbrev C3 (W : World) (b : Nat) (nm fd fr : List UInt8) : Prop := W.cell? ⟨b,3,none⟩ = some (.string ⟨nm.toArray⟩) ∧ W.cell? ⟨b,4,none⟩ = some (.string ⟨fd.toArray⟩) ∧ W.cell? ⟨b,5,none⟩ = some (.string ⟨fr.toArray⟩)
def shasQ (s : ByteArray) (k : Int) (b : Bool) : Bool := decide (s.size ≤ 1000) && decide (0 ≤ k) && decide (k ≤ 255) && ((!(s.data.toList.all fun y => y != UInt8.ofNat k.toNat)) == b)
theorem shasI {s : ByteArray} {k : Int} {b : Bool} (h : shasQ s k b = true) {w : World} : Calls Tryz.prog 84 #[.string s,.int .u8 k] w fun e w' => e = .returned (.bool b) ∧ w = w' := by
 simp only [shasQ,Bool.and_eq_true,decide_eq_true_eq,beq_iff_eq] at h
 obtain ⟨⟨⟨h1,h2⟩,h3⟩,h4⟩ := h
 have q:=shas_any s (UInt8.ofNat k.toNat) w h1
 rw [h4,show (((UInt8.ofNat k.toNat).toNat : Nat) : Int) = k by rw [UInt8.toNat_ofNat'];omega] at q
 exact q
end Go.Proofs.YtbalioicgpgehaaGreatDoor
