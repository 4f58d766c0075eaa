/-
  The reference's plain, at any row of formulas.
  The reference's plainStmts, at any row of statements.
-/
import Derived.Test.YtkopbfndfkibbaaGreatDoorSTreePe
import Derived.Test.YtkopbfndfkibbaaGreatDoorSTreeQ0
set_option linter.unusedVariables false
set_option linter.unusedSimpArgs false
namespace Go.Proofs.YtkopbfndfkibbaaGreatDoor
set_option maxRecDepth 100000
set_option maxHeartbeats 16000000
open Go.RowKit
theorem fm_hiddenP : ∃ (T N : Nat) (zc : Array Value),59 = T ∧ N = 3 ∧ zc.size = N ∧ (∀ w : World,(isAgg T).run Tryz.prog w = .ok true w) ∧ (∀ w : World,(sizeOf T).run Tryz.prog w = .ok N w) ∧ (∀ w : World,(zeroValue T).run Tryz.prog w = .ok (.agg zc) w) :=
 ⟨_,3,#[.slice none 0 0,.slice none 0 0,.slice none 0 0],rfl,rfl,rfl,fun w => by kernel_rfl,fun w => by kernel_rfl,fun w => by kernel_rfl⟩
theorem okf_n (o : OkF) {x : Fm} (h : ¬ (x.ps.length : Int) ≤ 8) : o.f x = false:=by rw [o.mkF,decide_eq_false h];simp
theorem okf_ps (o : OkF) {x : Fm} (h : plP x.ps = false) : o.f x = false:=by rw [o.mkF,h];simp
theorem okf_ats (o : OkF) {x : Fm} (h : x.ats.all (plA o) = false) : o.f x = false:=by rw [o.mkF,h];simp
theorem okf_cls (o : OkF) {x : Fm} (h : x.cls.all (plL o) = false) : o.f x = false:=by rw [o.mkF,h];simp
theorem okf_true (o : OkF) {x : Fm} (h0 : (x.ps.length : Int) ≤ 8) (h1 : plP x.ps = true) (h2 : x.ats.all (plA o) = true) (h3 : x.cls.all (plL o) = true) : o.f x = true:=by
 rw [o.mkF,decide_eq_true h0,h1,h2,h3];rfl
theorem plain_any (o : OkF) (fs : List Fm) (A : Option Addr) (c : Nat) (w : World) (hn : fs.length ≤ maxLen) (hr : FmRow w w.heap.size fs A) :
 Calls Tryz.prog 20 #[.slice A fs.length c] w fun e w' => e = .returned (.bool (fs.all o.f)) ∧ Below w.heap.size w w':=by
 obtain ⟨T,N,zc,hT,hN,hzc,hag,hsz,hzv⟩:=fm_hiddenP
 have e1 : ∀ y : Operand,Op.load 59 y = Op.load T y:=fun y => by rw [hT]
 have e2 : ∀ y z : Operand,Op.store 59 y z = Op.store T y z:=fun y z => by rw [hT]
 have e3 : Op.alloc 59 = Op.alloc T:=by rw [hT]
 obtain ⟨n,hnn⟩ : ∃ n,n = fs.length:=⟨_,rfl⟩
 have HH:=Lib.hid (And.intro hr hnn)
 have HN:=Lib.hid (And.intro hN hzc)
 have HB0:=Lib.hid (Below.refl w.heap.size w)
 rw [← hnn] at hn ⊢
 clear hr hnn hN hzc
 unfold maxLen at hn
 go_enter Tryz.func20,Tryz.ntmps20
 simp only [e1,e2,e3]
 clear e1 e2 e3 hT
 go_wp2
 go_loopg [3] n (fun m j wr => ∃ k : Nat,m = n - k ∧ k ≤ n ∧ j = .int .i64 k ∧ Hid (Below w.heap.size w wr ∧ (fs.take k).all o.f = true))
 case atStart => exact ⟨0,rfl,Nat.zero_le _,rfl,Lib.hid ⟨HB0.out,rfl⟩⟩
 case round =>
  obtain ⟨k,rfl,hk,rfl,HI⟩:=hrel
  by_cases hlt : k < n
  ·have hki : (k : Int) < n:=by omega
   obtain ⟨x,hi⟩ : ∃ x,fs[k]? = some x:=⟨fs[k]'(by rw [← HH.out.2];exact hlt),List.getElem?_eq_getElem _⟩
   obtain ⟨a,rfl,hab,Ap,cp,Aa,ca,Ac,cc,d0,d1,d2,⟨b0,b1,b2⟩,rp,ra,rc⟩:=(HH.out.1.on fm_keeps HI.out.1).at_ hi
   obtain ⟨n1,hn1⟩ : ∃ m,m = x.ps.length:=⟨_,rfl⟩
   obtain ⟨n2,hn2⟩ : ∃ m,m = x.ats.length:=⟨_,rfl⟩
   obtain ⟨n3,hn3⟩ : ∃ m,m = x.cls.length:=⟨_,rfl⟩
   have HP : Hid (BC wr 17 #[.slice Ap n1 cp] (plP x.ps)):=Lib.hid (fun W hb => by rw [hn1];exact splainp_any x.ps Ap cp W b0 (rp.on pm_keeps hb))
   rw [← hn1] at d0 b0
   rw [← hn2] at d1 b1
   rw [← hn3] at d2 b2
   obtain ⟨cs,hcs⟩ : ∃ cs : Array Value,cs = #[.slice Ap n1 cp,.slice Aa n2 ca,.slice Ac n3 cc]:=⟨_,rfl⟩
   have hcz : cs.size = 3:=by rw [hcs];rfl
   have h1c : cs.all (·.oneCell') = true:=by rw [hcs,List.all_toArray];rfl
   have hca : ∀ (j : Nat) (v : Value),cs[j]? = some v → wr.cell? ((a.add (k * 3)).add j) = some v:=by
    intro j v hv
    rw [hcs] at hv
    match j,hv with
    | 0,hv => injection hv with hv;subst hv;rw [show (a.add (k * 3)).add 0 = a.add (k * 3) from by simp [Addr.add]];exact d0
    | 1,hv => injection hv with hv;subst hv;exact d1
    | 2,hv => injection hv with hv;subst hv;exact d2
    | j + 3,hv => simp at hv
   have hl1 : (loadCellsFrom (a.add (k * 3)) 0 N #[]).run Tryz.prog wr = .ok cs wr:=load_list hca (hcz.trans HN.out.1.symm)
   have hst : (storeCells ⟨wr.heap.size,0,none⟩ cs.toList).run Tryz.prog (wr.alloc (.cells zc T)) = .ok () (wr.alloc (.cells cs T)):=by
    have h:=store_row (heap_of_alloc wr (.cells zc T)) (HN.out.2.trans (HN.out.1.trans hcz.symm)) h1c
    rw [World.setRow_alloc_new] at h
    exact h
   have hszc : cs.size = N:=hcz.trans HN.out.1.symm
   obtain ⟨wo,hwo⟩ : ∃ wo,wo = wr.alloc (.cells cs T):=⟨_,rfl⟩
   have HBO : Hid (Below wr.heap.size wr wo):=Lib.hid (by rw [hwo];exact below_alloc wr _)
   have hbx : wo.heap[wr.heap.size]? = some (.cells cs T (0,0)):=by rw [hwo];exact heap_of_alloc wr _
   have HBX : Hid (∀ W,Below wo.heap.size wo W → W.cell? ⟨wr.heap.size,0,none⟩ = some (.slice Ap n1 cp) ∧ W.cell? ⟨wr.heap.size,1,none⟩ = some (.slice Aa n2 ca) ∧ W.cell? ⟨wr.heap.size,2,none⟩ = some (.slice Ac n3 cc)):=Lib.hid (fun W hb => ⟨cell_of_block (kept_box hb hbx) 0 (by rw [hcs];rfl),cell_of_block (kept_box hb hbx) 1 (by rw [hcs];rfl),cell_of_block (kept_box hb hbx) 2 (by rw [hcs];rfl)⟩)
   have HZ0:=Lib.hid (Below.refl wo.heap.size wo)
   obtain ⟨f0,f1,f2⟩:=HBX.out _ HZ0.out
   rw [hwo] at f0 f1 f2
   have HX:=Lib.hid (And.intro hi (And.intro (all_take_succ o.f fs k _ hi) (And.intro hn1 (And.intro hn2 hn3))))
   have HR:=Lib.hid (And.intro ra rc)
   have HLT:=Lib.hid (And.intro trivial hlt)
   unfold maxLen at b0 b1 b2
   obtain ⟨vp,hvp⟩ : ∃ v,v = plP x.ps:=⟨_,rfl⟩
   rw [← hvp] at HP
   have HVP:=Lib.hid hvp
   clear hca hi rp ra rc hbx hcs hcz h1c d0 d1 d2 hn1 hn2 hn3 hab hvp
   by_cases h8 : (n1 : Int) ≤ 8
   ·have h8' : ¬ (n1 : Int) > 8:=by omega
    cases vp with
    | false =>
      go_wp2_with (go_at_call 17;rw [← hwo];clear hwo;refine (HP.out _ HBO.out).mono ?_;rintro e w3 ⟨rfl,hb⟩;have HB3:=Lib.hid (HBO.out.chain hb);clear hb)
      go_ret
      exact ⟨by rw [all_of_false o.f fs k x HX.out.1 (okf_ps o HVP.out.symm)];rfl,HI.out.1.chain HB3.out⟩
    | true =>
      go_wp2_with (go_at_call 17;rw [← hwo];clear hwo;refine (HP.out _ HBO.out).mono ?_;rintro e w3 ⟨rfl,hb⟩;have HZ3:=Lib.hid (HZ0.out.chain hb);clear hb f0 f1 f2)
      go_loopg [5] n2 (fun m j wr2 => ∃ q : Nat,m = n2 - q ∧ q ≤ n2 ∧ j = .int .i64 q ∧ Hid (Below wo.heap.size wo wr2 ∧ (x.ats.take q).all (plA o) = true))
      case atStart => exact ⟨0,rfl,Nat.zero_le _,(by first | rfl | go_num),Lib.hid ⟨HZ3.out,rfl⟩⟩
      case round =>
       obtain ⟨q,rfl,hq,rfl,HJ⟩:=hrel
       obtain ⟨f0,f1,f2⟩:=HBX.out _ HJ.out.1
       by_cases hqt : q < n2
       ·have hqi : (q : Int) < n2:=by omega
        obtain ⟨⟨k0,xa,xb⟩,hx⟩ : ∃ y,x.ats[q]? = some y:=⟨x.ats[q]'(by rw [← HX.out.2.2.2.1];exact hqt),List.getElem?_eq_getElem _⟩
        have hwr2:=HBO.out.chain HJ.out.1
        obtain ⟨a2,rfl,hab2,ak,an,sa,al,bk,bn,sb,bl,Ba,ca2,Bb,cb2,rfl,rfl,hc,⟨p1,p2,p3,p4⟩,ra,rb⟩:=(HR.out.1.on at_keeps hwr2).at_ hx
        simp only at hc
        obtain ⟨e0,e1,e2,e3,e4,e5,e6,e7,e8⟩:=hc.flat
        have habk : (a2.add (q * 9)).block < wr.heap.size:=by rw [block_adds];exact hab2
        have HA : Hid (BC wr 49 #[exprV ak an ⟨sa.toArray⟩ (.slice Ba al.length ca2)] (o.e (.mk ak an sa al))):=Lib.hid (fun W hb => splaine_any o ak an sa al Ba ca2 W ((ra.stay hb (Nat.le_refl _)).more hb.size) p1 p2)
        have HC : Hid (BC wr 49 #[exprV bk bn ⟨sb.toArray⟩ (.slice Bb bl.length cb2)] (o.e (.mk bk bn sb bl))):=Lib.hid (fun W hb => splaine_any o bk bn sb bl Bb cb2 W ((rb.stay hb (Nat.le_refl _)).more hb.size) p3 p4)
        have HFE : Hid (∀ W,Below wr.heap.size wr W → W.cell? ⟨(a2.add (q * 9)).block,(a2.add (q * 9)).off + 5,none⟩ = some (.int .i64 bk) ∧ W.cell? ⟨(a2.add (q * 9)).block,(a2.add (q * 9)).off + 6,none⟩ = some (.int .i64 bn) ∧ W.cell? ⟨(a2.add (q * 9)).block,(a2.add (q * 9)).off + 7,none⟩ = some (.string ⟨sb.toArray⟩) ∧ W.cell? ⟨(a2.add (q * 9)).block,(a2.add (q * 9)).off + 8,none⟩ = some (.slice Bb bl.length cb2)):=Lib.hid (fun W hb => by
         obtain ⟨t0,t1,t2,t3,t4,t5,t6,t7,t8⟩:=(hc.stay hb habk).flat
         exact ⟨t5,t6,t7,t8⟩)
        obtain ⟨va,hva⟩ : ∃ v,v = o.e (.mk ak an sa al):=⟨_,rfl⟩
        obtain ⟨vb,hvb⟩ : ∃ v,v = o.e (.mk bk bn sb bl):=⟨_,rfl⟩
        have HX2:=Lib.hid (And.intro hx (And.intro (all_take_succ (plA o) x.ats q _ hx) (show plA o ⟨k0,.mk ak an sa al,.mk bk bn sb bl⟩ = (va && vb) by rw [hva,hvb];rfl)))
        have HQT:=Lib.hid (And.intro trivial hqt)
        rw [← hva] at HA
        rw [← hvb] at HC
        clear hc p1 p2 p3 p4 ra rb hx habk hwr2 hva hvb e0 e5 e6 e7 e8 f0 f2
        cases va with
        | false =>
          go_wp2_with (go_at_call 49;refine (HA.out _ (Below.refl _ _)).mono ?_;rintro e w3 ⟨rfl,hb⟩;have HB3:=Lib.hid (HJ.out.1.chain hb);clear hb)
          go_ret
          exact ⟨by rw [all_of_false o.f fs k x HX.out.1 (okf_ats o (all_of_false _ _ q _ HX2.out.1 HX2.out.2.2))];rfl,(HI.out.1.chain HBO.out).chain HB3.out⟩
        | true =>
          cases vb with
          | false =>
            go_wp2_with (first
             | (go_at_call 49;with_reducible refine (HA.out _ (Below.refl _ _)).mono ?_;rintro e w3 ⟨rfl,hb⟩;have HB3:=Lib.hid (HJ.out.1.chain hb);clear e1 e2 e3 e4 f1;obtain ⟨y5,y6,y7,y8⟩:=HFE.out _ hb;have HB3':=Lib.hid hb;obtain ⟨g0,g1,g2⟩:=HBX.out _ HB3.out;clear hb)
             | (go_at_call 49;refine (HC.out _ HB3'.out).mono ?_;rintro e w4 ⟨rfl,hb⟩;have HB4:=Lib.hid (HB3.out.chain hb);clear hb))
            go_ret
            exact ⟨by rw [all_of_false o.f fs k x HX.out.1 (okf_ats o (all_of_false _ _ q _ HX2.out.1 HX2.out.2.2))];rfl,(HI.out.1.chain HBO.out).chain HB4.out⟩
          | true =>
            go_wp2_with (first
             | (go_at_call 49;with_reducible refine (HA.out _ (Below.refl _ _)).mono ?_;rintro e w3 ⟨rfl,hb⟩;have HB3:=Lib.hid (HJ.out.1.chain hb);clear e1 e2 e3 e4 f1;obtain ⟨y5,y6,y7,y8⟩:=HFE.out _ hb;have HB3':=Lib.hid hb;obtain ⟨g0,g1,g2⟩:=HBX.out _ HB3.out;clear hb)
             | (go_at_call 49;refine (HC.out _ HB3'.out).mono ?_;rintro e w4 ⟨rfl,hb⟩;have HB4:=Lib.hid (HB3.out.chain hb);clear hb))
            go_roundg (n2 - (q + 1))
            case measure => have := HQT.out.2;omega
            case rel => exact ⟨q + 1,rfl,(by have := HQT.out.2;omega),by go_num,Lib.hid ⟨HB4.out,by rw [HX2.out.2.1,HJ.out.2,HX2.out.2.2];rfl⟩⟩
       ·obtain rfl : q = n2:=by omega
        have HAT : Hid (x.ats.all (plA o) = true):=Lib.hid (by
         have := HJ.out.2
         rwa [List.take_of_length_le (by rw [HX.out.2.2.2.1];exact Nat.le_refl _)] at this)
        go_wp2
        go_loopg [6] n3 (fun m j wr3 => ∃ t : Nat,m = n3 - t ∧ t ≤ n3 ∧ j = .int .i64 t ∧ Hid (Below wo.heap.size wo wr3 ∧ (x.cls.take t).all (plL o) = true))
        case atStart => exact ⟨0,rfl,Nat.zero_le _,(by first | rfl | go_num),Lib.hid ⟨HJ.out.1,rfl⟩⟩
        case round =>
         clear f0 f1 f2
         obtain ⟨t,rfl,ht,rfl,HK⟩:=hrel
         obtain ⟨f0,f1,f2⟩:=HBX.out _ HK.out.1
         by_cases htt : t < n3
         ·have hti : (t : Int) < n3:=by omega
          obtain ⟨⟨k0,nm,l⟩,hx⟩ : ∃ y,x.cls[t]? = some y:=⟨x.cls[t]'(by rw [← HX.out.2.2.2.2];exact htt),List.getElem?_eq_getElem _⟩
          have hwr3:=HBO.out.chain HK.out.1
          obtain ⟨a3,rfl,hab3,Al,cl,d0,d1,d2,hnm,hll,rl⟩:=(HR.out.2.on cl_keeps hwr3).at_ hx
          simp only at d0 d1 d2 hnm hll rl
          have c2 : wr.cell? ⟨(a3.add (t * 3)).block,(a3.add (t * 3)).off + 2,none⟩ = some (.slice Al l.length cl):=d2
          have HC:=Lib.hid (splaines_any o l Al cl wr hll rl)
          obtain ⟨va,hva⟩ : ∃ v,v = l.all o.e:=⟨_,rfl⟩
          have HX2:=Lib.hid (And.intro hx (And.intro (all_take_succ (plL o) x.cls t _ hx) (show plL o ⟨k0,nm,l⟩ = va by rw [hva];rfl)))
          have HTT:=Lib.hid (And.intro trivial htt)
          rw [← hva] at HC
          clear d0 d1 d2 hnm hll rl hx hva hwr3 hab3
          cases va with
          | false =>
            go_wp2_with (go_at_call 50;refine HC.out.mono ?_;rintro e w5 ⟨rfl,hb⟩;have HB5:=Lib.hid (HK.out.1.chain hb);clear hb)
            go_ret
            exact ⟨by rw [all_of_false o.f fs k x HX.out.1 (okf_cls o (all_of_false _ _ t _ HX2.out.1 HX2.out.2.2))];rfl,(HI.out.1.chain HBO.out).chain HB5.out⟩
          | true =>
            go_wp2_with (go_at_call 50;refine HC.out.mono ?_;rintro e w5 ⟨rfl,hb⟩;have HB5:=Lib.hid (HK.out.1.chain hb);clear hb)
            go_roundg (n3 - (t + 1))
            case measure => have := HTT.out.2;omega
            case rel => exact ⟨t + 1,rfl,(by have := HTT.out.2;omega),by go_num,Lib.hid ⟨HB5.out,by rw [HX2.out.2.1,HK.out.2,HX2.out.2.2];rfl⟩⟩
         ·obtain rfl : t = n3:=by omega
          have HCT : Hid (x.cls.all (plL o) = true):=Lib.hid (by
           have := HK.out.2
           rwa [List.take_of_length_le (by rw [HX.out.2.2.2.2];exact Nat.le_refl _)] at this)
          have HOK : Hid (o.f x = true):=Lib.hid (okf_true o (by rw [← HX.out.2.2.1];exact h8) HVP.out.symm HAT.out HCT.out)
          go_wp2
          go_roundg (n - (k + 1))
          case measure => have := HLT.out.2;omega
          case rel => exact ⟨k + 1,rfl,(by have := HLT.out.2;omega),by go_num,Lib.hid ⟨(HI.out.1.chain HBO.out).chain HK.out.1,by rw [HX.out.2.1,HI.out.2,HOK.out];rfl⟩⟩
   ·have h8' : (n1 : Int) > 8:=by omega
    go_wp2
    go_ret
    exact ⟨by rw [all_of_false o.f fs k x HX.out.1 (okf_n o (by rw [← HX.out.2.2.1];omega))];rfl,by rw [← hwo];exact HI.out.1.chain HBO.out⟩
  ·obtain rfl : k = n:=by omega
   go_wp2
   go_ret
   refine ⟨?_,HI.out.1⟩
   have := HI.out.2
   rw [List.take_of_length_le (by rw [HH.out.2];exact Nat.le_refl _)] at this
   rw [this]
   rfl
end Go.Proofs.YtkopbfndfkibbaaGreatDoor
namespace Go.Proofs.YtkopbfndfkibbaaGreatDoor
set_option maxRecDepth 100000
set_option maxHeartbeats 20000000
open Go.RowKit
theorem stCs_oneP (d : SAd) (s : St) : (stCs d s).all (·.oneCell') = true:=by
 obtain ⟨k0,ln,co,nm,fd,fr,⟨ek,en,es,el⟩,⟨ck,⟨ak,an,sa,al⟩,⟨bk,bn,sb,bl⟩,l⟩,cl,iv,b,t⟩:=s
 unfold stCs
 rw [List.all_toArray]
 rfl
theorem splains_at (o : OkF) : ∀ (M : Nat) (ss : List St),SizeOf.sizeOf ss < M → ∀ (A : Option Addr) (c : Nat) (w : World),StRow w w.heap.size ss A → ss.length ≤ maxLen →
 Calls Tryz.prog 54 #[.slice A ss.length c] w fun e w' => e = .returned (.bool (ss.all o.s)) ∧ Below w.heap.size w w':=by
 intro M
 induction M with
 | zero => intro ss h;omega
 | succ M ih =>
   intro ss hM A c w hr hn
   obtain ⟨T,N,zc,hT,hN,hzc,hag,hsz,hzv⟩:=stmt_hidden2
   have e1 : ∀ y : Operand,Op.load 45 y = Op.load T y:=fun y => by rw [hT]
   have e2 : ∀ y z : Operand,Op.store 45 y z = Op.store T y z:=fun y z => by rw [hT]
   have e3 : Op.alloc 45 = Op.alloc T:=by rw [hT]
   obtain ⟨n,hnn⟩ : ∃ n,n = ss.length:=⟨_,rfl⟩
   have HH:=Lib.hid (And.intro hr (And.intro ih (And.intro hM hnn)))
   have HN:=Lib.hid (And.intro hN hzc)
   have HB0:=Lib.hid (Below.refl w.heap.size w)
   rw [← hnn] at hn ⊢
   clear hr ih hM hnn hN hzc
   unfold maxLen at hn
   go_enter Tryz.func54,Tryz.ntmps54
   simp only [e1,e2,e3]
   clear e1 e2 e3 hT
   go_wp2
   go_loopg [3] n (fun m j wr => ∃ k : Nat,m = n - k ∧ k ≤ n ∧ j = .int .i64 k ∧ Hid (Below w.heap.size w wr ∧ (ss.take k).all o.s = true))
   case atStart => exact ⟨0,rfl,Nat.zero_le _,rfl,Lib.hid ⟨HB0.out,rfl⟩⟩
   case round =>
    obtain ⟨k,rfl,hk,rfl,HI⟩:=hrel
    by_cases hlt : k < n
    ·have hki : (k : Int) < n:=by omega
     obtain ⟨s,hi⟩ : ∃ x,ss[k]? = some x:=⟨ss[k]'(by rw [← HH.out.2.2.2];exact hlt),List.getElem?_eq_getElem _⟩
     have hone:=fun d => stCs_oneP d s
     obtain ⟨a,d,rfl,hab,hc,hown,hb1,hb2⟩:=(HH.out.1.on HI.out.1).at_ hi
     obtain ⟨k0,ln,co,nm,fd,fr,⟨ek,en,es,el⟩,⟨ck,⟨ak,an,sa,al⟩,⟨bk,bn,sb,bl⟩,l⟩,cl,iv,b,t⟩:=s
     obtain ⟨⟨m0,m1,m2,m3,m4,m5,m6,m7,m8,m9,m10,m11,m12,m13⟩,re,ra,rb,rl,rc,ri⟩:=hown
     have hszz : SizeOf.sizeOf b < M ∧ SizeOf.sizeOf t < M:=by
      have h1:=HH.out.2.2.1
      have h2:=List.sizeOf_lt_of_mem (List.mem_of_getElem? hi)
      have h3 : SizeOf.sizeOf b < SizeOf.sizeOf (St.mk k0 ln co nm fd fr (.mk ek en es el) (.mk ck (.mk ak an sa al) (.mk bk bn sb bl) l) cl iv b t):=by simp;omega
      have h4 : SizeOf.sizeOf t < SizeOf.sizeOf (St.mk k0 ln co nm fd fr (.mk ek en es el) (.mk ck (.mk ak an sa al) (.mk bk bn sb bl) l) cl iv b t):=by simp;omega
      omega
     obtain ⟨nc,hnc⟩ : ∃ nc,nc = cl.length:=⟨_,rfl⟩
     obtain ⟨v0,hv0⟩ : ∃ v,v = dlrB nm:=⟨_,rfl⟩
     obtain ⟨v1,hv1⟩ : ∃ v,v = dlrB fr:=⟨_,rfl⟩
     obtain ⟨v2,hv2⟩ : ∃ v,v = o.e (.mk ek en es el):=⟨_,rfl⟩
     obtain ⟨v3,hv3⟩ : ∃ v,v = o.c (.mk ck (.mk ak an sa al) (.mk bk bn sb bl) l):=⟨_,rfl⟩
     obtain ⟨v4,hv4⟩ : ∃ v,v = iv.all o.f:=⟨_,rfl⟩
     obtain ⟨v6,hv6⟩ : ∃ v,v = b.all o.s:=⟨_,rfl⟩
     obtain ⟨v7,hv7⟩ : ∃ v,v = t.all o.s:=⟨_,rfl⟩
     have HV : Hid (o.s (St.mk k0 ln co nm fd fr (.mk ek en es el) (.mk ck (.mk ak an sa al) (.mk bk bn sb bl) l) cl iv b t) = (!v0 && !v1 && v2 && v3 && v4 && cl.all (plCal o) && v6 && v7)):=Lib.hid (by rw [hv0,hv1,hv2,hv3,hv4,hv6,hv7];exact o.mkS _ _ _ _ _ _ _ _ _ _ _ _)
     have HD0 : Hid (∀ W,Calls Tryz.prog 53 #[.string ⟨nm.toArray⟩] W fun e w' => e = .returned (.bool v0) ∧ W = w'):=Lib.hid (fun W => by rw [hv0];exact dollar_any nm W m0)
     have HD1 : Hid (∀ W,Calls Tryz.prog 53 #[.string ⟨fr.toArray⟩] W fun e w' => e = .returned (.bool v1) ∧ W = w'):=Lib.hid (fun W => by rw [hv1];exact dollar_any fr W m2)
     have HE : Hid (BC wr 49 #[exprV ek en ⟨es.toArray⟩ (.slice d.e el.length d.ne)] v2):=Lib.hid (fun W hb => by rw [hv2];exact splaine_any o ek en es el d.e d.ne W (re.on hb) m3 m4)
     have HC : Hid (BC wr 87 #[condV2 ck ak an ⟨sa.toArray⟩ (.slice d.a al.length d.na) bk bn ⟨sb.toArray⟩ (.slice d.b bl.length d.nb) (.slice d.l l.length d.nl)] v3):=Lib.hid (fun W hb => by rw [hv3];exact splainc_any o ck ak an sa al bk bn sb bl l d.a d.na d.b d.nb d.l d.nl W (ra.on hb) (rb.on hb) (rl.on hb) m5 m6 m7 m8 m9)
     have HG : Hid (BC wr 20 #[.slice d.i iv.length d.ni] v4):=Lib.hid (fun W hb => by rw [hv4];exact plain_any o iv d.i d.ni W m11 (ri.on fm_keeps hb))
     have HS1 : Hid (BC wr 54 #[.slice d.s b.length d.ns] v6):=Lib.hid (fun W hb => by rw [hv6];exact HH.out.2.1 b hszz.1 d.s d.ns W (hb1.on hb) m12)
     have HS2 : Hid (BC wr 54 #[.slice d.t t.length d.nt] v7):=Lib.hid (fun W hb => by rw [hv7];exact HH.out.2.1 t hszz.2 d.t d.nt W (hb2.on hb) m13)
     obtain ⟨cs,hcs⟩ : ∃ cs,cs = stCs d (St.mk k0 ln co nm fd fr (.mk ek en es el) (.mk ck (.mk ak an sa al) (.mk bk bn sb bl) l) cl iv b t):=⟨_,rfl⟩
     have hcz : cs.size = 24:=by rw [hcs];rfl
     have h1c : cs.all (·.oneCell') = true:=by rw [hcs];exact hone d
     rw [← hcs] at hc
     have hca : ∀ (j : Nat) (v : Value),cs[j]? = some v → wr.cell? ((a.add (k * 24)).add j) = some v:=hc
     simp only [stCs] at hcs
     have HR:=Lib.hid (And.intro rc hnc)
     rw [← hnc] at m10 hcs
     unfold maxLen at m0 m1 m2 m3 m4 m5 m6 m7 m8 m9 m10 m11 m12 m13
     have HX:=Lib.hid (And.intro hi (all_take_succ o.s ss k _ hi))
     have HLT:=Lib.hid (And.intro trivial hlt)
     clear hc re ra rb rl rc ri hi hszz hb1 hb2 hnc hone hv0 hv1 hv2 hv3 hv4 hv6 hv7 hab
     generalize el.length = n4 at *
     generalize al.length = n6 at *
     generalize bl.length = n8 at *
     generalize l.length = n9 at *
     generalize iv.length = n11 at *
     generalize b.length = n12 at *
     generalize t.length = n13 at *
     have hl1 : (loadCellsFrom (a.add (k * 24)) 0 N #[]).run Tryz.prog wr = .ok cs wr:=load_list hca (hcz.trans HN.out.1.symm)
     have hst : (storeCells ⟨wr.heap.size,0,none⟩ cs.toList).run Tryz.prog (wr.alloc (.cells zc T)) = .ok () (wr.alloc (.cells cs T)):=by
      have h:=store_row (heap_of_alloc wr (.cells zc T)) (HN.out.2.trans (HN.out.1.trans hcz.symm)) h1c
      rw [World.setRow_alloc_new] at h
      exact h
     have hszc : cs.size = N:=hcz.trans HN.out.1.symm
     obtain ⟨wo,hwo⟩ : ∃ wo,wo = wr.alloc (.cells cs T):=⟨_,rfl⟩
     have HBO : Hid (Below wr.heap.size wr wo):=Lib.hid (by rw [hwo];exact below_alloc wr _)
     have hbx : wo.heap[wr.heap.size]? = some (.cells cs T (0,0)):=by rw [hwo];exact heap_of_alloc wr _
     have HX3 : Hid (∀ W,Below wo.heap.size wo W → W.cell? ⟨wr.heap.size,3,none⟩ = some (.string ⟨nm.toArray⟩)):=Lib.hid (fun W hb => cell_of_block (kept_box hb hbx) 3 (by rw [hcs];rfl))
     have HX5 : Hid (∀ W,Below wo.heap.size wo W → W.cell? ⟨wr.heap.size,5,none⟩ = some (.string ⟨fr.toArray⟩) ∧ W.cell? ⟨wr.heap.size,6,none⟩ = some (.int .i64 ek) ∧ W.cell? ⟨wr.heap.size,7,none⟩ = some (.int .i64 en) ∧ W.cell? ⟨wr.heap.size,8,none⟩ = some (.string ⟨es.toArray⟩) ∧ W.cell? ⟨wr.heap.size,9,none⟩ = some (.slice d.e n4 d.ne)):=Lib.hid (fun W hb => ⟨cell_of_block (kept_box hb hbx) 5 (by rw [hcs];rfl),cell_of_block (kept_box hb hbx) 6 (by rw [hcs];rfl),cell_of_block (kept_box hb hbx) 7 (by rw [hcs];rfl),cell_of_block (kept_box hb hbx) 8 (by rw [hcs];rfl),cell_of_block (kept_box hb hbx) 9 (by rw [hcs];rfl)⟩)
     have HX10 : Hid (∀ W,Below wo.heap.size wo W → W.cell? ⟨wr.heap.size,10,none⟩ = some (.int .i64 ck) ∧ W.cell? ⟨wr.heap.size,11,none⟩ = some (.int .i64 ak) ∧ W.cell? ⟨wr.heap.size,12,none⟩ = some (.int .i64 an) ∧ W.cell? ⟨wr.heap.size,13,none⟩ = some (.string ⟨sa.toArray⟩) ∧ W.cell? ⟨wr.heap.size,14,none⟩ = some (.slice d.a n6 d.na) ∧ W.cell? ⟨wr.heap.size,15,none⟩ = some (.int .i64 bk) ∧ W.cell? ⟨wr.heap.size,16,none⟩ = some (.int .i64 bn) ∧ W.cell? ⟨wr.heap.size,17,none⟩ = some (.string ⟨sb.toArray⟩) ∧ W.cell? ⟨wr.heap.size,18,none⟩ = some (.slice d.b n8 d.nb) ∧ W.cell? ⟨wr.heap.size,19,none⟩ = some (.slice d.l n9 d.nl)):=Lib.hid (fun W hb => ⟨cell_of_block (kept_box hb hbx) 10 (by rw [hcs];rfl),cell_of_block (kept_box hb hbx) 11 (by rw [hcs];rfl),cell_of_block (kept_box hb hbx) 12 (by rw [hcs];rfl),cell_of_block (kept_box hb hbx) 13 (by rw [hcs];rfl),cell_of_block (kept_box hb hbx) 14 (by rw [hcs];rfl),cell_of_block (kept_box hb hbx) 15 (by rw [hcs];rfl),cell_of_block (kept_box hb hbx) 16 (by rw [hcs];rfl),cell_of_block (kept_box hb hbx) 17 (by rw [hcs];rfl),cell_of_block (kept_box hb hbx) 18 (by rw [hcs];rfl),cell_of_block (kept_box hb hbx) 19 (by rw [hcs];rfl)⟩)
     have HX20 : Hid (∀ W,Below wo.heap.size wo W → W.cell? ⟨wr.heap.size,20,none⟩ = some (.slice d.c nc d.nc)):=Lib.hid (fun W hb => cell_of_block (kept_box hb hbx) 20 (by rw [hcs];rfl))
     have HX21 : Hid (∀ W,Below wo.heap.size wo W → W.cell? ⟨wr.heap.size,21,none⟩ = some (.slice d.i n11 d.ni)):=Lib.hid (fun W hb => cell_of_block (kept_box hb hbx) 21 (by rw [hcs];rfl))
     have HX22 : Hid (∀ W,Below wo.heap.size wo W → W.cell? ⟨wr.heap.size,22,none⟩ = some (.slice d.s n12 d.ns)):=Lib.hid (fun W hb => cell_of_block (kept_box hb hbx) 22 (by rw [hcs];rfl))
     have HX23 : Hid (∀ W,Below wo.heap.size wo W → W.cell? ⟨wr.heap.size,23,none⟩ = some (.slice d.t n13 d.nt)):=Lib.hid (fun W hb => cell_of_block (kept_box hb hbx) 23 (by rw [hcs];rfl))
     have HZ0:=Lib.hid (Below.refl wo.heap.size wo)
     have f3:=HX3.out _ HZ0.out
     rw [hwo] at f3
     clear hca hbx hcs hcz h1c
     cases v0 with
     | true =>
       go_wp2_with (go_at_call 53;rw [← hwo];clear hwo;with_reducible refine (HD0.out _).mono ?_;rintro e w2 ⟨rfl,rfl⟩;clear f3;obtain ⟨f5,f6,f7,f8,f9⟩:=HX5.out _ HZ0.out)
       go_ret
       exact ⟨by rw [all_of_false o.s ss k _ HX.out.1 (by rw [HV.out];simp)];rfl,(HI.out.1.chain HBO.out).chain HZ0.out⟩
     | false =>
       cases v1 with
       | true =>
         go_wp2_with (first
          | (go_at_call 53;rw [← hwo];clear hwo;with_reducible refine (HD0.out _).mono ?_;rintro e w2 ⟨rfl,rfl⟩;clear f3;obtain ⟨f5,f6,f7,f8,f9⟩:=HX5.out _ HZ0.out)
          | (go_at_call 53;with_reducible refine (HD1.out _).mono ?_;rintro e w2 ⟨rfl,rfl⟩))
         go_ret
         exact ⟨by rw [all_of_false o.s ss k _ HX.out.1 (by rw [HV.out];simp)];rfl,(HI.out.1.chain HBO.out).chain HZ0.out⟩
       | false =>
         cases v2 with
         | false =>
           go_wp2_with (first
            | (go_at_call 53;rw [← hwo];clear hwo;with_reducible refine (HD0.out _).mono ?_;rintro e w2 ⟨rfl,rfl⟩;clear f3;obtain ⟨f5,f6,f7,f8,f9⟩:=HX5.out _ HZ0.out)
            | (go_at_call 53;with_reducible refine (HD1.out _).mono ?_;rintro e w2 ⟨rfl,rfl⟩)
            | (go_at_call 49;refine (HE.out _ (HBO.out.chain HZ0.out)).mono ?_;rintro e w3 ⟨rfl,hb⟩;have HZ1:=Lib.hid (HZ0.out.chain hb);clear hb f5 f6 f7 f8 f9;obtain ⟨f10,f11,f12,f13,f14,f15,f16,f17,f18,f19⟩:=HX10.out _ HZ1.out))
           go_ret
           exact ⟨by rw [all_of_false o.s ss k _ HX.out.1 (by rw [HV.out];simp)];rfl,(HI.out.1.chain HBO.out).chain HZ1.out⟩
         | true =>
           cases v3 with
           | false =>
             go_wp2_with (first
              | (go_at_call 53;rw [← hwo];clear hwo;with_reducible refine (HD0.out _).mono ?_;rintro e w2 ⟨rfl,rfl⟩;clear f3;obtain ⟨f5,f6,f7,f8,f9⟩:=HX5.out _ HZ0.out)
              | (go_at_call 53;with_reducible refine (HD1.out _).mono ?_;rintro e w2 ⟨rfl,rfl⟩)
              | (go_at_call 49;refine (HE.out _ (HBO.out.chain HZ0.out)).mono ?_;rintro e w3 ⟨rfl,hb⟩;have HZ1:=Lib.hid (HZ0.out.chain hb);clear hb f5 f6 f7 f8 f9;obtain ⟨f10,f11,f12,f13,f14,f15,f16,f17,f18,f19⟩:=HX10.out _ HZ1.out)
              | (go_at_call 87;refine (HC.out _ (HBO.out.chain HZ1.out)).mono ?_;rintro e w4 ⟨rfl,hb⟩;have HZ2:=Lib.hid (HZ1.out.chain hb);clear hb f10 f11 f12 f13 f14 f15 f16 f17 f18 f19;have f21:=HX21.out _ HZ2.out))
             go_ret
             exact ⟨by rw [all_of_false o.s ss k _ HX.out.1 (by rw [HV.out];simp)];rfl,(HI.out.1.chain HBO.out).chain HZ2.out⟩
           | true =>
             cases v4 with
             | false =>
               go_wp2_with (first
                | (go_at_call 53;rw [← hwo];clear hwo;with_reducible refine (HD0.out _).mono ?_;rintro e w2 ⟨rfl,rfl⟩;clear f3;obtain ⟨f5,f6,f7,f8,f9⟩:=HX5.out _ HZ0.out)
                | (go_at_call 53;with_reducible refine (HD1.out _).mono ?_;rintro e w2 ⟨rfl,rfl⟩)
                | (go_at_call 49;refine (HE.out _ (HBO.out.chain HZ0.out)).mono ?_;rintro e w3 ⟨rfl,hb⟩;have HZ1:=Lib.hid (HZ0.out.chain hb);clear hb f5 f6 f7 f8 f9;obtain ⟨f10,f11,f12,f13,f14,f15,f16,f17,f18,f19⟩:=HX10.out _ HZ1.out)
                | (go_at_call 87;refine (HC.out _ (HBO.out.chain HZ1.out)).mono ?_;rintro e w4 ⟨rfl,hb⟩;have HZ2:=Lib.hid (HZ1.out.chain hb);clear hb f10 f11 f12 f13 f14 f15 f16 f17 f18 f19;have f21:=HX21.out _ HZ2.out)
                | (go_at_call 20;refine (HG.out _ (HBO.out.chain HZ2.out)).mono ?_;rintro e w5 ⟨rfl,hb⟩;have HZ3:=Lib.hid (HZ2.out.chain hb);clear hb f21))
               go_ret
               exact ⟨by rw [all_of_false o.s ss k _ HX.out.1 (by rw [HV.out];simp)];rfl,(HI.out.1.chain HBO.out).chain HZ3.out⟩
             | true =>
               go_wp2_with (first
                | (go_at_call 53;rw [← hwo];clear hwo;with_reducible refine (HD0.out _).mono ?_;rintro e w2 ⟨rfl,rfl⟩;clear f3;obtain ⟨f5,f6,f7,f8,f9⟩:=HX5.out _ HZ0.out)
                | (go_at_call 53;with_reducible refine (HD1.out _).mono ?_;rintro e w2 ⟨rfl,rfl⟩)
                | (go_at_call 49;refine (HE.out _ (HBO.out.chain HZ0.out)).mono ?_;rintro e w3 ⟨rfl,hb⟩;have HZ1:=Lib.hid (HZ0.out.chain hb);clear hb f5 f6 f7 f8 f9;obtain ⟨f10,f11,f12,f13,f14,f15,f16,f17,f18,f19⟩:=HX10.out _ HZ1.out)
                | (go_at_call 87;refine (HC.out _ (HBO.out.chain HZ1.out)).mono ?_;rintro e w4 ⟨rfl,hb⟩;have HZ2:=Lib.hid (HZ1.out.chain hb);clear hb f10 f11 f12 f13 f14 f15 f16 f17 f18 f19;have f21:=HX21.out _ HZ2.out)
                | (go_at_call 20;refine (HG.out _ (HBO.out.chain HZ2.out)).mono ?_;rintro e w5 ⟨rfl,hb⟩;have HZ3:=Lib.hid (HZ2.out.chain hb);clear hb f21))
               go_loopg [5] nc (fun m j wr2 => ∃ q : Nat,m = nc - q ∧ q ≤ nc ∧ j = .int .i64 q ∧ Hid (Below wo.heap.size wo wr2 ∧ (cl.take q).all (plCal o) = true))
               case atStart => exact ⟨0,rfl,Nat.zero_le _,(by first | rfl | go_num),Lib.hid ⟨HZ3.out,rfl⟩⟩
               case round =>
                obtain ⟨q,rfl,hq,rfl,HJ⟩:=hrel
                have f20:=HX20.out _ HJ.out.1
                by_cases hqt : q < nc
                ·have hqi : (q : Int) < nc:=by omega
                 obtain ⟨⟨xr,xp,xl⟩,hx⟩ : ∃ x,cl[q]? = some x:=⟨cl[q]'(by rw [← HR.out.2];exact hqt),List.getElem?_eq_getElem _⟩
                 have hwr2:=HBO.out.chain HJ.out.1
                 obtain ⟨a3,ha3,hab3,Al,cal,e0,e1,e2,hxr,hxp,hll,rxl⟩:=(HR.out.1.on cal_keeps hwr2).at_ hx
                 simp only at e0 e1 e2 hxr hxp hll rxl
                 rw [ha3] at f20
                 have c0 : wr.cell? (a3.add (q * 3)) = some (.string ⟨xr.toArray⟩):=e0
                 have c2 : wr.cell? ⟨(a3.add (q * 3)).block,(a3.add (q * 3)).off + 2,none⟩ = some (.slice Al xl.length cal):=e2
                 have HDq : Hid (∀ W,Calls Tryz.prog 53 #[.string ⟨xr.toArray⟩] W fun e w' => e = .returned (.bool (dlrB xr)) ∧ W = w'):=Lib.hid (fun W => dollar_any xr W hxr)
                 have HEq:=Lib.hid (splaines_any o xl Al cal wr hll rxl)
                 obtain ⟨va,hva⟩ : ∃ v,v = dlrB xr:=⟨_,rfl⟩
                 obtain ⟨vb,hvb⟩ : ∃ v,v = xl.all o.e:=⟨_,rfl⟩
                 have HX2:=Lib.hid (And.intro hx (And.intro (all_take_succ (plCal o) cl q _ hx) (show plCal o ⟨xr,xp,xl⟩ = (!va && vb) by rw [hva,hvb];rfl)))
                 have HQT:=Lib.hid (And.intro trivial hqt)
                 rw [← hva] at HDq
                 rw [← hvb] at HEq
                 unfold maxLen at hll hxr
                 clear e0 e1 e2 hxp rxl hx hwr2 hva hvb ha3 hab3
                 cases va with
                 | true =>
                   go_wp2_with (go_at_call 53;with_reducible refine (HDq.out _).mono ?_;rintro e w6 ⟨rfl,rfl⟩)
                   go_ret
                   exact ⟨by rw [all_of_false o.s ss k _ HX.out.1 (by rw [HV.out,all_of_false _ _ q _ HX2.out.1 HX2.out.2.2];simp)];rfl,(HI.out.1.chain HBO.out).chain HJ.out.1⟩
                 | false =>
                   cases vb with
                   | false =>
                     go_wp2_with (first
                      | (go_at_call 53;with_reducible refine (HDq.out _).mono ?_;rintro e w6 ⟨rfl,rfl⟩)
                      | (go_at_call 50;refine HEq.out.mono ?_;rintro e w7 ⟨rfl,hb⟩;have HB7:=Lib.hid (HJ.out.1.chain hb);clear hb))
                     go_ret
                     exact ⟨by rw [all_of_false o.s ss k _ HX.out.1 (by rw [HV.out,all_of_false _ _ q _ HX2.out.1 HX2.out.2.2];simp)];rfl,(HI.out.1.chain HBO.out).chain HB7.out⟩
                   | true =>
                     go_wp2_with (first
                      | (go_at_call 53;with_reducible refine (HDq.out _).mono ?_;rintro e w6 ⟨rfl,rfl⟩)
                      | (go_at_call 50;refine HEq.out.mono ?_;rintro e w7 ⟨rfl,hb⟩;have HB7:=Lib.hid (HJ.out.1.chain hb);clear hb))
                     go_roundg (nc - (q + 1))
                     case measure => have := HQT.out.2;omega
                     case rel => exact ⟨q + 1,rfl,(by have := HQT.out.2;omega),by go_num,Lib.hid ⟨HB7.out,by rw [HX2.out.2.1,HJ.out.2,HX2.out.2.2];rfl⟩⟩
                ·obtain rfl : q = nc:=by omega
                 have HCA : Hid (cl.all (plCal o) = true):=Lib.hid (by
                  have := HJ.out.2
                  rwa [List.take_of_length_le (by rw [HR.out.2];exact Nat.le_refl _)] at this)
                 have f22:=HX22.out _ HJ.out.1
                 cases v6 with
                 | false =>
                   go_wp2_with (go_at_call 54;with_reducible refine (HS1.out _ (HBO.out.chain HJ.out.1)).mono ?_;rintro e w6 ⟨rfl,hb⟩;have HZ6:=Lib.hid (HJ.out.1.chain hb);clear hb)
                   go_ret
                   exact ⟨by rw [all_of_false o.s ss k _ HX.out.1 (by rw [HV.out];simp)];rfl,(HI.out.1.chain HBO.out).chain HZ6.out⟩
                 | true =>
                   cases v7 with
                   | false =>
                     go_wp2_with (first
                      | (go_at_call 54;with_reducible refine (HS1.out _ (HBO.out.chain HJ.out.1)).mono ?_;rintro e w6 ⟨rfl,hb⟩;have HZ6:=Lib.hid (HJ.out.1.chain hb);clear hb f22 f20;have f23:=HX23.out _ HZ6.out)
                      | (go_at_call 54;refine (HS2.out _ (HBO.out.chain HZ6.out)).mono ?_;rintro e w7 ⟨rfl,hb⟩;have HZ7:=Lib.hid (HZ6.out.chain hb);clear hb))
                     go_ret
                     exact ⟨by rw [all_of_false o.s ss k _ HX.out.1 (by rw [HV.out];simp)];rfl,(HI.out.1.chain HBO.out).chain HZ7.out⟩
                   | true =>
                     go_wp2_with (first
                      | (go_at_call 54;with_reducible refine (HS1.out _ (HBO.out.chain HJ.out.1)).mono ?_;rintro e w6 ⟨rfl,hb⟩;have HZ6:=Lib.hid (HJ.out.1.chain hb);clear hb f22 f20;have f23:=HX23.out _ HZ6.out)
                      | (go_at_call 54;refine (HS2.out _ (HBO.out.chain HZ6.out)).mono ?_;rintro e w7 ⟨rfl,hb⟩;have HZ7:=Lib.hid (HZ6.out.chain hb);clear hb))
                     go_roundg (n - (k + 1))
                     case measure => have := HLT.out.2;omega
                     case rel => exact ⟨k + 1,rfl,(by have := HLT.out.2;omega),by go_num,Lib.hid ⟨(HI.out.1.chain HBO.out).chain HZ7.out,by rw [HX.out.2,HI.out.2,HV.out,HCA.out];rfl⟩⟩
    ·obtain rfl : k = n:=by omega
     go_wp2
     go_ret
     refine ⟨?_,HI.out.1⟩
     have := HI.out.2
     rw [List.take_of_length_le (by rw [HH.out.2.2.2];exact Nat.le_refl _)] at this
     rw [this]
     rfl
theorem splains_any (o : OkF) (ss : List St) (A : Option Addr) (c : Nat) (w : World) (hr : StRow w w.heap.size ss A) (hn : ss.length ≤ maxLen) :
 Calls Tryz.prog 54 #[.slice A ss.length c] w fun e w' => e = .returned (.bool (ss.all o.s)) ∧ Below w.heap.size w w' :=
 splains_at o _ ss (Nat.lt_succ_self _) A c w hr hn
end Go.Proofs.YtkopbfndfkibbaaGreatDoor
