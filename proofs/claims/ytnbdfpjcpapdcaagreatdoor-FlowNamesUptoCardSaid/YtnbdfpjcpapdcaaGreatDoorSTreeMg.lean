import Derived.Test.YtnbdfpjcpapdcaaGreatDoorSTreeMo
set_option linter.unusedVariables false
set_option linter.unusedSimpArgs false
namespace Go.Proofs.YtnbdfpjcpapdcaaGreatDoor
set_option maxRecDepth 100000
set_option maxHeartbeats 8000000
open Go.RowKit
def FlatPost (B : Nat) (f : List St) (w : World) (e : Ending) (w' : World) : Prop:=∃ (A : Option Addr) (c : Nat),e = .returned (.slice A f.length c) ∧ Flatted B w f (.slice A f.length c) w'
theorem flat_any : ∀ (M : Nat) (ss : List St),SizeOf.sizeOf ss < M → ∀ (A : Option Addr) (c B : Nat) (f : List St) (w : World),StRow w B ss A → B ≤ w.heap.size → ss.length ≤ maxLen → FlL ss f → f.length ≤ 200000 →
 Calls Tryz.prog 30 #[.slice A ss.length c] w (FlatPost B f w):=by
 intro M
 induction M with
 | zero => intro ss h;omega
 | succ M ih =>
   intro ss hM A c B f w hr hB hn hf hfl
   obtain ⟨T,N,zc,hT,hN,hzc,hag,hsz,hzv⟩:=stmt_hidden2
   have e1 : ∀ y : Operand,Op.load 42 y = Op.load T y:=fun y => by rw [hT]
   obtain ⟨i0,hi0,hiz,his,hib⟩:=info_parts infoStmt
   have HI0:=Lib.hid (And.intro hi0 (And.intro hiz (And.intro his hib)))
   clear hi0 hiz his hib
   obtain ⟨n,hnn⟩ : ∃ n,n = ss.length:=⟨_,rfl⟩
   have HH:=Lib.hid (And.intro hr (And.intro ih (And.intro hM (And.intro hnn (And.intro hf hfl)))))
   have HB:=Lib.hid hB
   have HN:=Lib.hid (And.intro hN hzc)
   rw [← hnn] at hn ⊢
   clear hr ih hM hnn hN hzc hf hfl hB
   unfold maxLen at hn
   go_enter Tryz.func30,Tryz.ntmps30
   simp only [e1]
   clear e1 hT
   go_wp2
   go_loopg [3,4] n (fun m v j wr => ∃ (k : Nat) (g : List St),m = n - k ∧ k ≤ n ∧ j = .int .i64 k ∧ Hid (FlL (ss.take k) g ∧ Flatted B w g v wr))
   case atStart => exact ⟨0,[],rfl,Nat.zero_le _,rfl,Lib.hid ⟨by rw [List.take_zero];exact .nil,fun _ => sAd0,[],World.ownsRow_nil w _ _ _,fun i s hi => by simp at hi,fun i s hi => by simp at hi,Below.refl _ _⟩⟩
   case round =>
    obtain ⟨k,g,rfl,hk,rfl,HI⟩:=hrel
    by_cases hlt : k < n
    ·have hki : (k : Int) < n:=by omega
     obtain ⟨s,hi⟩ : ∃ x,ss[k]? = some x:=⟨ss[k]'(by rw [← HH.out.2.2.2.1];exact hlt),List.getElem?_eq_getElem _⟩
     have hone:=fun d => stCs_oneM d s
     obtain ⟨a,d,rfl,hab,hc,hown,hb1,hb2⟩:=HH.out.1.at_ hi
     obtain ⟨D,xs,ho,hcl,hel,hbw⟩:=HI.out.2
     have HEl : Hid (ElIn (fun b => b < B) w d s):=Lib.hid (el_in HB.out hown hb1 hb2)
     obtain ⟨fb,hfb⟩:=fl_any _ s.body (Nat.lt_succ_self _)
     obtain ⟨fo,hfo⟩:=fl_any _ s.els (Nat.lt_succ_self _)
     have HF:=Lib.hid (And.intro hfb (And.intro hfo (And.intro (fl_add hi HI.out.1 hfb hfo) (fl_room hi HH.out.2.2.2.2.1 HI.out.1 hfb hfo))))
     have hroom : g.length + 1 + fb.length + fo.length ≤ 200000:=by have := HF.out.2.2.2;have := HH.out.2.2.2.2.2;omega
     have hm12 : s.body.length ≤ maxLen ∧ s.els.length ≤ maxLen:=⟨by have := fl_len hfb;unfold maxLen;omega,by have := fl_len hfo;unfold maxLen;omega⟩
     have hszz : SizeOf.sizeOf s.body < M ∧ SizeOf.sizeOf s.els < M:=by
      have h1:=HH.out.2.2.1
      have h2:=List.sizeOf_lt_of_mem (List.mem_of_getElem? hi)
      obtain ⟨k0,ln,co,nm,fd,fr,e,cn,cl,iv,b,t⟩:=s
      have h3 : SizeOf.sizeOf b < SizeOf.sizeOf (St.mk k0 ln co nm fd fr e cn cl iv b t):=by simp;omega
      have h4 : SizeOf.sizeOf t < SizeOf.sizeOf (St.mk k0 ln co nm fd fr e cn cl iv b t):=by simp;omega
      simp only [St.body,St.els]
      omega
     obtain ⟨nb,hnb⟩ : ∃ nb,nb = s.body.length:=⟨_,rfl⟩
     obtain ⟨nt,hnt⟩ : ∃ nt,nt = s.els.length:=⟨_,rfl⟩
     have hcz : (stCs d s).size = 24:=stCs_size d s
     have hc22 : (stCs d s)[22]? = some (.slice d.s nb d.ns):=by rw [hnb];exact stCs_22 d s
     have hc23 : (stCs d s)[23]? = some (.slice d.t nt d.nt):=by rw [hnt];exact stCs_23 d s
     obtain ⟨cs,hcs⟩ : ∃ cs,cs = stCs d s:=⟨_,rfl⟩
     rw [← hcs] at hc hcz hc22 hc23
     have hone1 : ∀ u ∈ cs.toList,u.oneCell' = true:=by rw [hcs];exact hone d
     have HC1 : Hid (∀ W,Below w.heap.size w W → Calls Tryz.prog 30 #[.slice d.s nb d.ns] W (FlatPost B fb W)):=Lib.hid (fun W hb => by
      rw [hnb]
      exact HH.out.2.1 s.body hszz.1 d.s d.ns B fb W (hb1.keep (fun q hq => hb.cell (Nat.lt_of_lt_of_le hq HB.out)) (Nat.le_refl _)) (Nat.le_trans HB.out hb.size) hm12.1 hfb (by omega))
     have HC2 : Hid (∀ W,Below w.heap.size w W → Calls Tryz.prog 30 #[.slice d.t nt d.nt] W (FlatPost B fo W)):=Lib.hid (fun W hb => by
      rw [hnt]
      exact HH.out.2.1 s.els hszz.2 d.t d.nt B fo W (hb2.keep (fun q hq => hb.cell (Nat.lt_of_lt_of_le hq HB.out)) (Nat.le_refl _)) (Nat.le_trans HB.out hb.size) hm12.2 hfo (by omega))
     have hblk : (a.add (k * 24)).block < w.heap.size:=by rw [block_adds];exact Nat.lt_of_lt_of_le hab HB.out
     have HY : Hid (∀ W,Below w.heap.size w W → W.cell? ⟨(a.add (k * 24)).block,(a.add (k * 24)).off + 22,none⟩ = some (.slice d.s nb d.ns) ∧ W.cell? ⟨(a.add (k * 24)).block,(a.add (k * 24)).off + 23,none⟩ = some (.slice d.t nt d.nt)):=Lib.hid (fun W hb =>
      ⟨(hb.cell (p:=(a.add (k * 24)).add 22) (by rw [block_adds];exact hblk)).trans (hc 22 _ hc22),(hb.cell (p:=(a.add (k * 24)).add 23) (by rw [block_adds];exact hblk)).trans (hc 23 _ hc23)⟩)
     have hl1 : (loadCellsFrom (a.add (k * 24)) 0 N #[]).run Tryz.prog wr = .ok cs wr:=load_list (fun j v hv => (hbw.cell (by rw [block_adds];exact hblk)).trans (hc j v hv)) (hcz.trans HN.out.1.symm)
     obtain ⟨ng,hng⟩ : ∃ ng,ng = g.length:=⟨_,rfl⟩
     obtain ⟨mb,hmb⟩ : ∃ mb,mb = fb.length:=⟨_,rfl⟩
     obtain ⟨mo,hmo⟩ : ∃ mo,mo = fo.length:=⟨_,rfl⟩
     rw [← hng] at ho
     have HO:=Lib.hid (And.intro ho (And.intro hcl (And.intro hel (And.intro hbw hone1))))
     have HG:=Lib.hid (And.intro hng (And.intro hmb (And.intro hmo (And.intro hcs hlt))))
     rw [← hng,← hmb,← hmo] at hroom
     clear hc hown hb1 hb2 hi hfb hfo hszz hm12 hnb hnt hng hmb hmo ho hcl hel hbw hone hone1 hcs hc22 hc23 hab hblk
     have HB1 : Hid (Below w.heap.size w (wr.alloc (.cells cs 42))):=Lib.hid (below_al HO.out.2.2.2.1 _)
     go_wp2_with (first
      | (refine wpList_srowM 16 rfl rfl (.tmp 15) rfl cs hcz rfl ?_)
      | (at_builtin;refine wpList_append_any (o:=⟨some 17,_,_,_,_,_⟩) _ rfl _ _ 22 rfl w.heap.size 42 i0 _ 24 368 Tryz.underlying22 HI0.out.1 HI0.out.2.1 HI0.out.2.2.1 HI0.out.2.2.2 rfl (by decide) _ ng xs rfl (HO.out.1.alloc _) (wr.heap.size + 1) (some ⟨wr.heap.size,0,none⟩) 1 1 cs.toList rfl (reads_one hcz) HO.out.2.2.2.2 (by unfold maxLen;omega) (by omega) HB1.out.size ?_
         intro v1 w1 o1 g1 _
         have HB2 : Hid (Below w.heap.size w w1):=Lib.hid (HB1.out.trans (below_grown (HO.out.1.alloc _) g1 HB1.out.size))
         have H1:=Lib.hid o1
         obtain ⟨y22,_⟩:=HY.out _ HB2.out
         clear o1 g1)
      | (go_at_call 30;(with_reducible refine (HC1.out _ HB2.out).mono ?_);rintro e w2 ⟨A2,c2,rfl,D2,xs2,o2,cl2,el2,b2⟩
         have HB3 : Hid (Below w.heap.size w w2):=Lib.hid (HB2.out.trans (b2.mono HB2.out.size))
         have H2 : Hid (w2.ownsRow w.heap.size 42 24 v1 (ng + 1) (xs ++ cs.toList)):=Lib.hid (own_below H1.out b2 (fun q hq => (own_lt H1.out q hq).2))
         rw [← HG.out.2.1] at o2 ⊢
         have H2b:=Lib.hid (And.intro o2 (And.intro cl2 el2))
         clear o2 cl2 el2 b2 y22)
      | (at_builtin;refine wpList_append_any (o:=⟨some 25,_,_,_,_,_⟩) _ rfl _ _ 22 rfl w.heap.size 42 i0 _ 24 368 Tryz.underlying22 HI0.out.1 HI0.out.2.1 HI0.out.2.2.1 HI0.out.2.2.2 rfl (by decide) _ (ng + 1) (xs ++ cs.toList) rfl H2.out w2.heap.size A2 mb c2 xs2 rfl (Reads.of_own H2b.out.1) (cells_one H2b.out.2.1 (by rw [← HG.out.2.1];exact H2b.out.1.1)) (by unfold maxLen;omega) (by omega) HB3.out.size ?_
         intro v3 w3 o3 g3 _
         have HB4 : Hid (Below w.heap.size w w3):=Lib.hid (HB3.out.trans (below_grown H2.out g3 HB3.out.size))
         have H3:=Lib.hid o3
         obtain ⟨_,y23⟩:=HY.out _ HB4.out
         clear o3 g3)
      | (go_at_call 30;(with_reducible refine (HC2.out _ HB4.out).mono ?_);rintro e w4 ⟨A4,c4,rfl,D4,xs4,o4,cl4,el4,b4⟩
         have HB5 : Hid (Below w.heap.size w w4):=Lib.hid (HB4.out.trans (b4.mono HB4.out.size))
         have H4 : Hid (w4.ownsRow w.heap.size 42 24 v3 (ng + 1 + mb) (xs ++ cs.toList ++ xs2)):=Lib.hid (own_below H3.out b4 (fun q hq => (own_lt H3.out q hq).2))
         rw [← HG.out.2.2.1] at o4 ⊢
         have H4b:=Lib.hid (And.intro o4 (And.intro cl4 el4))
         clear o4 cl4 el4 b4 y23)
      | (at_builtin;refine wpList_append_any (o:=⟨some 33,_,_,_,_,_⟩) _ rfl _ _ 22 rfl w.heap.size 42 i0 _ 24 368 Tryz.underlying22 HI0.out.1 HI0.out.2.1 HI0.out.2.2.1 HI0.out.2.2.2 rfl (by decide) _ (ng + 1 + mb) (xs ++ cs.toList ++ xs2) rfl H4.out w4.heap.size A4 mo c4 xs4 rfl (Reads.of_own H4b.out.1) (cells_one H4b.out.2.1 (by rw [← HG.out.2.2.1];exact H4b.out.1.1)) (by unfold maxLen;omega) (by omega) HB5.out.size ?_
         intro v5 w5 o5 g5 _
         have HB6 : Hid (Below w.heap.size w w5):=Lib.hid (HB5.out.trans (below_grown H4.out g5 HB5.out.size))
         have H5:=Lib.hid o5
         clear o5 g5))
     go_roundg (n - (k + 1))
     case measure => have := HG.out.2.2.2.2;omega
     case rel =>
      refine ⟨k + 1,g ++ [s] ++ fb ++ fo,rfl,(by have := HG.out.2.2.2.2;omega),by go_num,Lib.hid ⟨HF.out.2.2.1,?_⟩⟩
      obtain ⟨hng,hmb,hmo,hcs,_⟩:=HG.out
      have hB:=HB.out
      have hx : xs.length = g.length * 24:=by rw [← hng];exact HO.out.1.1
      obtain ⟨D1,c1,e1⟩:=els_cat (w:=w5) hx HO.out.2.1 (cellsOf_one d s) (fun q hq => (HB6.out.cell (by omega)).trans (HO.out.2.2.2.1.cell (by omega)).symm) (fun q hq => HB6.out.cell (by omega)) HO.out.2.2.1 (fun i t hi => by
       match i,hi with
       | 0,hi => obtain rfl:=Option.some.inj hi;exact HEl.out
       | i + 1,hi => simp at hi)
      have hx1 : (xs ++ (stCs d s).toList).length = (g ++ [s]).length * 24:=by
       have h1 : (stCs d s).toList.length = 24:=by rw [Array.length_toList];exact stCs_size d s
       have h2 : (g ++ [s]).length = g.length + 1:=by simp
       rw [List.length_append,hx,h1,h2];omega
      obtain ⟨D3,c3,e3⟩:=els_cat (w:=w5) hx1 c1 H2b.out.2.1 (fun q hq => rfl) (fun q hq => (HB6.out.cell (by omega)).trans (HB3.out.cell (by omega)).symm) e1 H2b.out.2.2
      have hx3 : (xs ++ (stCs d s).toList ++ xs2).length = (g ++ [s] ++ fb).length * 24:=by
       have := H2b.out.1.1
       have h4 : (g ++ [s] ++ fb).length = (g ++ [s]).length + fb.length:=List.length_append
       rw [List.length_append,hx1,this,hmb,h4];omega
      obtain ⟨D5,c5,e5⟩:=els_cat (w:=w5) hx3 c3 H4b.out.2.1 (fun q hq => rfl) (fun q hq => (HB6.out.cell (by omega)).trans (HB5.out.cell (by omega)).symm) e3 H4b.out.2.2
      refine ⟨D5,_,?_,c5,e5,HB6.out⟩
      have h5:=H5.out
      rw [hng,hmb,hmo,hcs] at h5
      rw [show (g ++ [s] ++ fb ++ fo).length = g.length + 1 + fb.length + fo.length by simp only [List.length_append,List.length_cons,List.length_nil]]
      exact h5
    ·obtain rfl : k = n:=by omega
     go_wp2
     go_ret
     obtain ⟨h1,h2⟩:=HI.out
     rw [List.take_of_length_le (by rw [← HH.out.2.2.2.1];exact Nat.le_refl _)] at h1
     obtain rfl:=fl_eq HH.out.2.2.2.2.1 h1
     obtain ⟨D,xs,ho,_⟩:=id h2
     obtain ⟨A',c',rfl⟩:=own_sliceM ho
     exact ⟨A',c',rfl,h2⟩
end Go.Proofs.YtnbdfpjcpapdcaaGreatDoor
