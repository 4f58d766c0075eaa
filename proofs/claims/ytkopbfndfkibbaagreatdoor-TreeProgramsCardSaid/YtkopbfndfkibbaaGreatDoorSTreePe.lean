/-
  The reference's dollar, plainExpr, plainExprs, plainCond.
  The reference's functions on lists of parameters and of formulas, and on texts with a dollar sign.
-/
import Derived.Test.YtkopbfndfkibbaaGreatDoorSTreeGa
import Derived.Test.YtkopbfndfkibbaaGreatDoorSTreeGl
import Derived.Test.YtkopbfndfkibbaaGreatDoorSTreeTs
import Derived.Test.YtkopbfndfkibbaaGreatDoorSTreeKw
set_option linter.unusedVariables false
set_option linter.unusedSimpArgs false
namespace Go.Proofs.YtkopbfndfkibbaaGreatDoor
set_option maxRecDepth 100000
set_option maxHeartbeats 8000000
open Go.RowKit
theorem dollar_any (l : List UInt8) (w : World) (hl : l.length ≤ maxLen) :
 Calls Tryz.prog 53 #[.string ⟨l.toArray⟩] w fun e w' => e = .returned (.bool (dlrB l)) ∧ w = w':=by
 rcases l with _ | ⟨x,t⟩
 ·rw [dlr_nil]
  go_enter Tryz.func53,Tryz.ntmps53
  go_wp2
  go_ret
  exact ⟨rfl,rfl⟩
 ·rw [dlr_cons]
  obtain ⟨s,hs⟩ : ∃ s : ByteArray,s = ⟨(x :: t).toArray⟩:=⟨_,rfl⟩
  have hsz : s.size = t.length + 1:=by rw [hs];rfl
  have h0 : 0 < s.size:=by omega
  have hx : s[0] = x:=by subst hs;rfl
  have hm : s.size ≤ maxLen:=by rw [hsz];exact hl
  unfold maxLen at hm
  have he:=list_empty h0
  rw [← hs]
  clear hs hl
  by_cases c36 : x = 36
  ·have q36 : (s[0].toNat : Int) = 36:=by rw [hx,c36];rfl
   rw [decide_eq_true c36]
   clear hx
   go_enter Tryz.func53,Tryz.ntmps53
   go_wp2
   go_ret
   exact ⟨rfl,rfl⟩
  ·have q36 : ¬ (s[0].toNat : Int) = 36:=fun e => c36 (by rw [← hx];exact UInt8.toNat_inj.1 (show s[0].toNat = 36 by omega))
   rw [decide_eq_false c36]
   clear hx
   go_enter Tryz.func53,Tryz.ntmps53
   go_wp2
   go_ret
   refine ⟨?_,rfl⟩
   show Ending.returned (Value.bool ((s[0].toNat : Int) == 36)) = _
   rw [show ((s[0].toNat : Int) == 36) = false from by rw [beq_eq_false_iff_ne];exact q36]
theorem splaine_of (o : OkF) (k n : Int) (s : List UInt8) (l : List Ex) (A : Option Addr) (c : Nat) (w : World) (hs : s.length ≤ maxLen) (hl : l.length ≤ maxLen)
 (HL : BC w 50 #[.slice A l.length c] (l.all o.e)) :
 Calls Tryz.prog 49 #[exprV k n ⟨s.toArray⟩ (.slice A l.length c)] w fun e w' => e = .returned (.bool (o.e (.mk k n s l))) ∧ Below w.heap.size w w':=by
 rw [o.mkE]
 have HB:=Lib.hid (below_alloc w (exprC k n ⟨s.toArray⟩ (.slice A l.length c)))
 have HI : Hid (∀ W,Calls Tryz.prog 85 #[.int .i64 n,.int .i64 1048576] W fun e w' => e = .returned (.bool (inR 1048576 n)) ∧ W = w'):=Lib.hid (fun W => within_any n 1048576 (by decide) (by decide) W)
 have HN : Hid (∀ W,Calls Tryz.prog 18 #[.string ⟨s.toArray⟩] W fun e w' => e = .returned (.bool (nameR s)) ∧ Below W.heap.size W w'):=Lib.hid (fun W => sname_any s W hs)
 have HX:=Lib.hid (heap_of_alloc w (exprC k n ⟨s.toArray⟩ (.slice A l.length c)))
 have HL:=Lib.hid HL
 generalize inR 1048576 n = ir at *
 generalize nameR s = nr at *
 generalize l.all o.e = la at *
 generalize l.length = m at *
 unfold maxLen at hs hl
 by_cases h2 : k = 2
 ·subst h2
  rw [show (!(decide ((2 : Int) = 2)) || nr) = nr from by cases nr <;> rfl]
  cases nr with
  | false =>
    go_enter Tryz.func49,Tryz.ntmps49
    go_wp2_with (go_at_call 18;refine (HN.out _).mono ?_;rintro e w2 ⟨rfl,hb⟩;have HB2:=Lib.hid (HB.out.chain hb);clear hb)
    go_ret
    exact ⟨rfl,HB2.out⟩
  | true =>
    cases ir with
    | false =>
      go_enter Tryz.func49,Tryz.ntmps49
      go_wp2_with (first
       | (go_at_call 18;refine (HN.out _).mono ?_;rintro e w2 ⟨rfl,hb⟩;have HB2:=Lib.hid (HB.out.chain hb);have y1:=cell_of_block (kept_box hb HX.out) 1 (v:=.int .i64 n) rfl;clear hb)
       | (go_at_call 85;refine (HI.out _).mono ?_;rintro e w3 ⟨rfl,rfl⟩))
      go_ret
      exact ⟨rfl,HB2.out⟩
    | true =>
      go_enter Tryz.func49,Tryz.ntmps49
      go_wp2_with (first
       | (go_at_call 18;refine (HN.out _).mono ?_;rintro e w2 ⟨rfl,hb⟩;have HB2:=Lib.hid (HB.out.chain hb);have y1:=cell_of_block (kept_box hb HX.out) 1 (v:=.int .i64 n) rfl;have y3:=cell_of_block (kept_box hb HX.out) 3 (v:=.slice A m c) rfl;clear hb)
       | (go_at_call 85;refine (HI.out _).mono ?_;rintro e w3 ⟨rfl,rfl⟩)
       | (go_at_call 50;refine (HL.out _ HB2.out).mono ?_;rintro e w4 ⟨rfl,hb⟩;have HB4:=Lib.hid (HB2.out.chain hb);clear hb))
      go_ret
      exact ⟨rfl,HB4.out⟩
 ·rw [show (!(decide (k = 2)) || nr) = true from by rw [decide_eq_false h2];rfl]
  cases ir with
  | false =>
    go_enter Tryz.func49,Tryz.ntmps49
    go_wp2_with (go_at_call 85;refine (HI.out _).mono ?_;rintro e w3 ⟨rfl,rfl⟩)
    go_ret
    exact ⟨rfl,HB.out⟩
  | true =>
    go_enter Tryz.func49,Tryz.ntmps49
    go_wp2_with (first
     | (go_at_call 85;refine (HI.out _).mono ?_;rintro e w3 ⟨rfl,rfl⟩)
     | (go_at_call 50;refine (HL.out _ HB.out).mono ?_;rintro e w4 ⟨rfl,hb⟩;have HB4:=Lib.hid (HB.out.chain hb);clear hb))
    go_ret
    exact ⟨rfl,HB4.out⟩
theorem splaines_at (o : OkF) : ∀ (M : Nat) (es : List Ex),SizeOf.sizeOf es < M → ∀ (A : Option Addr) (c : Nat) (w : World),es.length ≤ maxLen → ExRow w w.heap.size es A →
 Calls Tryz.prog 50 #[.slice A es.length c] w fun e w' => e = .returned (.bool (es.all o.e)) ∧ Below w.heap.size w w':=by
 intro M
 induction M with
 | zero => intro es h;omega
 | succ M ih =>
   intro es hM A c w hn hr
   have HS : Hid (∀ k n s l A c w,Ex.mk k n s l ∈ es → ExRow w w.heap.size l A → s.length ≤ maxLen → l.length ≤ maxLen → Calls Tryz.prog 49 #[exprV k n ⟨s.toArray⟩ (.slice A l.length c)] w fun e w' => e = .returned (.bool (o.e (.mk k n s l))) ∧ Below w.heap.size w w'):=Lib.hid (fun k n s l A c w hm hr hs hl =>
    splaine_of o k n s l A c w hs hl (fun W hb => ih l (by
     have h2:=List.sizeOf_lt_of_mem hm
     have h3 : SizeOf.sizeOf l < SizeOf.sizeOf (Ex.mk k n s l):=by simp;omega
     omega) A c W hl ((hr.stay hb (Nat.le_refl _)).more hb.size)))
   obtain ⟨ok,hok⟩ : ∃ ok,ok = o.e:=⟨_,rfl⟩
   rw [← hok] at HS ⊢
   clear ih hM hok
   obtain ⟨n,hnn⟩ : ∃ n,n = es.length:=⟨_,rfl⟩
   have HH:=Lib.hid (And.intro hr hnn)
   have HB0:=Lib.hid (Below.refl w.heap.size w)
   rw [← hnn] at hn ⊢
   clear hr hnn
   unfold maxLen at hn
   go_enter Tryz.func50,Tryz.ntmps50
   go_wp2
   go_loopg [3] n (fun m j wr => ∃ k : Nat,m = n - k ∧ k ≤ n ∧ j = .int .i64 k ∧ Hid (Below w.heap.size w wr ∧ (es.take k).all ok = true))
   case atStart => exact ⟨0,rfl,Nat.zero_le _,rfl,Lib.hid ⟨HB0.out,rfl⟩⟩
   case round =>
    obtain ⟨k,rfl,hk,rfl,HI⟩:=hrel
    by_cases hlt : k < n
    ·have hki : (k : Int) < n:=by omega
     obtain ⟨⟨k0,n0,s,l⟩,hi⟩ : ∃ x,es[k]? = some x:=⟨es[k]'(by rw [← HH.out.2];exact hlt),List.getElem?_eq_getElem _⟩
     obtain ⟨a,A',c',rfl,hab,d0,d1,d2,d3,hs,hll,hrow⟩:=(HH.out.1.stay HI.out.1 (Nat.le_refl _)).at_ hi
     have c0:=d0
     have c1 : wr.cell? ⟨(a.add (k * 4)).block,(a.add (k * 4)).off + 1,none⟩ = some (.int .i64 n0):=d1
     have c2 : wr.cell? ⟨(a.add (k * 4)).block,(a.add (k * 4)).off + 2,none⟩ = some (.string ⟨s.toArray⟩):=d2
     have c3 : wr.cell? ⟨(a.add (k * 4)).block,(a.add (k * 4)).off + 3,none⟩ = some (.slice A' l.length c'):=d3
     have HC2:=Lib.hid (HS.out k0 n0 s l A' c' wr (List.mem_of_getElem? hi) (hrow.more HI.out.1.size) hs hll)
     have HX:=Lib.hid (And.intro hi (all_take_succ ok es k _ hi))
     obtain ⟨okx,hokx⟩ : ∃ b,b = ok (.mk k0 n0 s l):=⟨_,rfl⟩
     rw [← hokx] at HC2 HX
     have HO:=Lib.hid hokx
     clear d0 d1 d2 d3 hrow hs hll hi hokx
     go_wp2_with (go_at_call 49;refine HC2.out.mono ?_;rintro e w3 ⟨rfl,hb⟩;have HB3:=Lib.hid (HI.out.1.chain hb);clear hb)
     ·rename_i hf
      have hf' : ok (.mk k0 n0 s l) = false:=by rw [← HO.out];simpa using hf
      go_ret
      exact ⟨by rw [all_of_false ok es k _ HX.out.1 hf'];rfl,HB3.out⟩
     ·rename_i hf
      have hf' : okx = true:=by simpa using hf
      go_roundg (n - (k + 1))
      case measure => omega
      case rel => exact ⟨k + 1,rfl,by omega,by go_num,Lib.hid ⟨HB3.out,by rw [HX.out.2,HI.out.2,hf'];rfl⟩⟩
    ·obtain rfl : k = n:=by omega
     go_wp2
     go_ret
     refine ⟨?_,HI.out.1⟩
     have := HI.out.2
     rw [List.take_of_length_le (by rw [HH.out.2];exact Nat.le_refl _)] at this
     rw [this]
     rfl
theorem splaines_any (o : OkF) (es : List Ex) (A : Option Addr) (c : Nat) (w : World) (hn : es.length ≤ maxLen) (hr : ExRow w w.heap.size es A) :
 Calls Tryz.prog 50 #[.slice A es.length c] w fun e w' => e = .returned (.bool (es.all o.e)) ∧ Below w.heap.size w w' :=
 splaines_at o _ es (Nat.lt_succ_self _) A c w hn hr
theorem splaine_any (o : OkF) (k n : Int) (s : List UInt8) (l : List Ex) (A : Option Addr) (c : Nat) (w : World) (hr : ExRow w w.heap.size l A) (hs : s.length ≤ maxLen) (hl : l.length ≤ maxLen) :
 Calls Tryz.prog 49 #[exprV k n ⟨s.toArray⟩ (.slice A l.length c)] w fun e w' => e = .returned (.bool (o.e (.mk k n s l))) ∧ Below w.heap.size w w' :=
 splaine_of o k n s l A c w hs hl (fun W hb => splaines_any o l A c W hl ((hr.stay hb (Nat.le_refl _)).more hb.size))
theorem splainc_at (o : OkF) : ∀ (M : Nat) (k ak an : Int) (sa : List UInt8) (al : List Ex) (bk bn : Int) (sb : List UInt8) (bl : List Ex) (l : List Cn),SizeOf.sizeOf l < M → ∀ (Aa : Option Addr) (ca : Nat) (Ab : Option Addr) (cb : Nat) (Al : Option Addr) (cl : Nat) (w : World),ExRow w w.heap.size al Aa → ExRow w w.heap.size bl Ab → CnRow w w.heap.size l Al → sa.length ≤ maxLen → al.length ≤ maxLen → sb.length ≤ maxLen → bl.length ≤ maxLen → l.length ≤ maxLen →
 Calls Tryz.prog 87 #[condV2 k ak an ⟨sa.toArray⟩ (.slice Aa al.length ca) bk bn ⟨sb.toArray⟩ (.slice Ab bl.length cb) (.slice Al l.length cl)] w fun e w' => e = .returned (.bool (o.c (.mk k (.mk ak an sa al) (.mk bk bn sb bl) l))) ∧ Below w.heap.size w w':=by
 intro M
 induction M with
 | zero => intro k ak an sa al bk bn sb bl l h;omega
 | succ M ih =>
   intro k ak an sa al bk bn sb bl l hM Aa ca Ab cb Al cl w ra rb rl b1 b2 b3 b4 b5
   rw [o.mkC]
   have HB:=Lib.hid (below_alloc w (condC2 k ak an ⟨sa.toArray⟩ (.slice Aa al.length ca) bk bn ⟨sb.toArray⟩ (.slice Ab bl.length cb) (.slice Al l.length cl)))
   have HX:=Lib.hid (heap_of_alloc w (condC2 k ak an ⟨sa.toArray⟩ (.slice Aa al.length ca) bk bn ⟨sb.toArray⟩ (.slice Ab bl.length cb) (.slice Al l.length cl)))
   have HA : Hid (∀ W3,Below w.heap.size w W3 → Calls Tryz.prog 49 #[exprV ak an ⟨sa.toArray⟩ (.slice Aa al.length ca)] W3 fun e w' => e = .returned (.bool (o.e (.mk ak an sa al))) ∧ Below W3.heap.size W3 w'):=Lib.hid (fun W3 hb => splaine_any o ak an sa al Aa ca W3 ((ra.stay hb (Nat.le_refl _)).more hb.size) b1 b2)
   have HC : Hid (∀ W3,Below w.heap.size w W3 → Calls Tryz.prog 49 #[exprV bk bn ⟨sb.toArray⟩ (.slice Ab bl.length cb)] W3 fun e w' => e = .returned (.bool (o.e (.mk bk bn sb bl))) ∧ Below W3.heap.size W3 w'):=Lib.hid (fun W3 hb => splaine_any o bk bn sb bl Ab cb W3 ((rb.stay hb (Nat.le_refl _)).more hb.size) b3 b4)
   have HS : Hid (∀ k ak an sa al bk bn sb bl l' Aa ca Ab cb Al cl w,Cn.mk k (.mk ak an sa al) (.mk bk bn sb bl) l' ∈ l → ExRow w w.heap.size al Aa → ExRow w w.heap.size bl Ab → CnRow w w.heap.size l' Al → sa.length ≤ maxLen → al.length ≤ maxLen → sb.length ≤ maxLen → bl.length ≤ maxLen → l'.length ≤ maxLen →
    Calls Tryz.prog 87 #[condV2 k ak an ⟨sa.toArray⟩ (.slice Aa al.length ca) bk bn ⟨sb.toArray⟩ (.slice Ab bl.length cb) (.slice Al l'.length cl)] w fun e w' => e = .returned (.bool (o.c (.mk k (.mk ak an sa al) (.mk bk bn sb bl) l'))) ∧ Below w.heap.size w w'):=Lib.hid (fun k ak an sa al bk bn sb bl l' Aa ca Ab cb Al cl w hm =>
    ih k ak an sa al bk bn sb bl l' (by
     have h2:=List.sizeOf_lt_of_mem hm
     have h3 : SizeOf.sizeOf l' < SizeOf.sizeOf (Cn.mk k (.mk ak an sa al) (.mk bk bn sb bl) l'):=by simp;omega
     omega) Aa ca Ab cb Al cl w)
   obtain ⟨oe,hoe⟩ : ∃ f,f = o.e:=⟨_,rfl⟩
   obtain ⟨ok,hok⟩ : ∃ f,f = o.c:=⟨_,rfl⟩
   rw [← hoe] at HA HC ⊢
   rw [← hok] at HS ⊢
   generalize oe (.mk ak an sa al) = ea at *
   generalize oe (.mk bk bn sb bl) = eb at *
   clear ih hM hoe hok ra rb
   obtain ⟨n,hnn⟩ : ∃ n,n = l.length:=⟨_,rfl⟩
   have HH:=Lib.hid (And.intro rl hnn)
   rw [← hnn] at b5 HX HB ⊢
   generalize al.length = n2 at *
   generalize bl.length = n4 at *
   clear rl hnn
   unfold maxLen at b1 b2 b3 b4 b5
   go_enter Tryz.func87,Tryz.ntmps87
   go_wp2
   go_loopg [3] n (fun m j wr => ∃ i : Nat,m = n - i ∧ i ≤ n ∧ j = .int .i64 i ∧ Hid (Below w.heap.size w wr ∧ wr.heap[w.heap.size]? = some (condC2 k ak an ⟨sa.toArray⟩ (.slice Aa n2 ca) bk bn ⟨sb.toArray⟩ (.slice Ab n4 cb) (.slice Al n cl)) ∧ (l.take i).all ok = true))
   case atStart => exact ⟨0,rfl,Nat.zero_le _,rfl,Lib.hid ⟨HB.out,HX.out,rfl⟩⟩
   case round =>
    obtain ⟨i,rfl,hi,rfl,HI⟩:=hrel
    by_cases hlt : i < n
    ·have hki : (i : Int) < n:=by omega
     obtain ⟨⟨k',⟨ak',an',sa',al'⟩,⟨bk',bn',sb',bl'⟩,l'⟩,hx⟩ : ∃ x,l[i]? = some x:=⟨l[i]'(by rw [← HH.out.2];exact hlt),List.getElem?_eq_getElem _⟩
     obtain ⟨a,Aa',ca',Ab',cb',Al',cl',rfl,hab,hcc,p1,p2,p3,p4,p5,ra,rb,rl⟩:=(HH.out.1.stay HI.out.1 (Nat.le_refl _)).at_ hx
     obtain ⟨c0,c1,c2,c3,c4,c5,c6,c7,c8,c9⟩:=hcc.flat
     have t9:=cell_of_block HI.out.2.1 9 (v:=.slice (some a) n cl) rfl
     have HC2:=Lib.hid (HS.out k' ak' an' sa' al' bk' bn' sb' bl' l' Aa' ca' Ab' cb' Al' cl' wr (List.mem_of_getElem? hx) (ra.more HI.out.1.size) (rb.more HI.out.1.size) (rl.more HI.out.1.size) p1 p2 p3 p4 p5)
     have HT:=Lib.hid (And.intro hx (all_take_succ ok l i _ hx))
     obtain ⟨okx,hokx⟩ : ∃ b,b = ok (.mk k' (.mk ak' an' sa' al') (.mk bk' bn' sb' bl') l'):=⟨_,rfl⟩
     rw [← hokx] at HC2 HT
     have HO:=Lib.hid hokx
     clear hcc p1 p2 p3 p4 p5 ra rb rl hx hokx
     cases okx with
     | false =>
       go_wp2_with (go_at_call 87;refine HC2.out.mono ?_;rintro e w5 ⟨rfl,hb⟩;have HB5:=Lib.hid (HI.out.1.chain hb);clear hb)
       go_ret
       exact ⟨by rw [all_of_false ok l i _ HT.out.1 HO.out.symm];rfl,HB5.out⟩
     | true =>
       go_wp2_with (go_at_call 87;refine HC2.out.mono ?_;rintro e w5 ⟨rfl,hb⟩;have HB5:=Lib.hid (And.intro (HI.out.1.chain hb) (kept_box hb HI.out.2.1));clear hb)
       go_roundg (n - (i + 1))
       case measure => omega
       case rel => exact ⟨i + 1,rfl,by omega,by go_num,Lib.hid ⟨HB5.out.1,HB5.out.2,by rw [HT.out.2,HI.out.2.2];rfl⟩⟩
    ·obtain rfl : i = n:=by omega
     have hall : Hid (l.all ok = true):=Lib.hid (by
      have := HI.out.2.2
      rwa [List.take_of_length_le (by rw [HH.out.2];exact Nat.le_refl _)] at this)
     have t9:=cell_of_block HI.out.2.1 9 (v:=.slice Al i cl) rfl
     obtain ⟨y1,y2,y3,y4,y5,y6,y7,y8,y9⟩:=box10 HI.out.2.1
     cases ea with
     | false =>
       go_wp2_with (go_at_call 49;refine (HA.out _ HI.out.1).mono ?_;rintro e w5 ⟨rfl,hb⟩;have HB5:=Lib.hid (HI.out.1.chain hb);clear hb)
       go_ret
       exact ⟨by rw [hall.out];rfl,HB5.out⟩
     | true =>
       go_wp2_with (first
        | (go_at_call 49;with_reducible refine (HA.out _ HI.out.1).mono ?_;rintro e w5 ⟨rfl,hb⟩;have HB5:=Lib.hid (HI.out.1.chain hb);clear y1 y2 y3 y4 y5 y6 y7 y8 y9 t9;obtain ⟨z1,z2,z3,z4,z5,z6,z7,z8,z9⟩:=box10 (kept_box hb HI.out.2.1);clear hb)
        | (go_at_call 49;refine (HC.out _ HB5.out).mono ?_;rintro e w6 ⟨rfl,hb⟩;have HB6:=Lib.hid (HB5.out.chain hb);clear hb))
       go_ret
       exact ⟨by rw [hall.out];rfl,HB6.out⟩
theorem splainc_any (o : OkF) (k ak an : Int) (sa : List UInt8) (al : List Ex) (bk bn : Int) (sb : List UInt8) (bl : List Ex) (l : List Cn) (Aa : Option Addr) (ca : Nat) (Ab : Option Addr) (cb : Nat) (Al : Option Addr) (cl : Nat) (w : World) (ra : ExRow w w.heap.size al Aa) (rb : ExRow w w.heap.size bl Ab) (rl : CnRow w w.heap.size l Al) (b1 : sa.length ≤ maxLen) (b2 : al.length ≤ maxLen) (b3 : sb.length ≤ maxLen) (b4 : bl.length ≤ maxLen) (b5 : l.length ≤ maxLen) :
 Calls Tryz.prog 87 #[condV2 k ak an ⟨sa.toArray⟩ (.slice Aa al.length ca) bk bn ⟨sb.toArray⟩ (.slice Ab bl.length cb) (.slice Al l.length cl)] w fun e w' => e = .returned (.bool (o.c (.mk k (.mk ak an sa al) (.mk bk bn sb bl) l))) ∧ Below w.heap.size w w' :=
 splainc_at o _ k ak an sa al bk bn sb bl l (Nat.lt_succ_self _) Aa ca Ab cb Al cl w ra rb rl b1 b2 b3 b4 b5
end Go.Proofs.YtkopbfndfkibbaaGreatDoor
namespace Go.Proofs.YtkopbfndfkibbaaGreatDoor
set_option maxRecDepth 100000
set_option maxHeartbeats 4000000
open Go.RowKit
theorem sparams_any (ps : List Pm) (A : Option Addr) (c : Nat) (least most : Int) (w : World) (hn : ps.length ≤ maxLen) (hr : PmRow w w.heap.size ps A) :
 Calls Tryz.prog 16 #[.slice A ps.length c,.int .i64 least,.int .i64 most] w fun e w' => e = .returned (.bool (rPs least most ps)) ∧ Below w.heap.size w w':=by
 unfold rPs
 obtain ⟨ok,hok⟩ : ∃ ok,ok = vP varR:=⟨_,rfl⟩
 have HS : Hid (∀ (t nm : List UInt8) w,t.length ≤ maxLen → nm.length ≤ maxLen → Calls Tryz.prog 46 #[paramV ⟨t.toArray⟩ ⟨nm.toArray⟩] w fun e w' => e = .returned (.bool (ok ⟨t,nm⟩)) ∧ Below w.heap.size w w'):=Lib.hid (by rw [hok];exact sparam_any)
 rw [← hok]
 clear hok
 obtain ⟨n,hnn⟩ : ∃ n,n = ps.length:=⟨_,rfl⟩
 have HH:=Lib.hid (And.intro hr hnn)
 have HB0:=Lib.hid (Below.refl w.heap.size w)
 rw [← hnn] at hn ⊢
 clear hr hnn
 unfold maxLen at hn
 go_enter Tryz.func16,Tryz.ntmps16
 by_cases hl : (n : Int) < least
 ·go_wp2
  go_ret
  exact ⟨by rw [show decide (least ≤ (n : Int)) = false by simp;omega];rfl,HB0.out⟩
 by_cases hm : (n : Int) > most
 ·go_wp2
  go_ret
  exact ⟨by rw [show decide ((n : Int) ≤ most) = false by simp;omega];simp,HB0.out⟩
 go_wp2
 go_loopg [7] n (fun m j wr => ∃ k : Nat,m = n - k ∧ k ≤ n ∧ j = .int .i64 k ∧ Hid (Below w.heap.size w wr ∧ (ps.take k).all ok = true))
 case atStart => exact ⟨0,rfl,Nat.zero_le _,rfl,Lib.hid ⟨HB0.out,rfl⟩⟩
 case round =>
  obtain ⟨k,rfl,hk,rfl,HI⟩:=hrel
  by_cases hlt : k < n
  ·have hki : (k : Int) < n:=by omega
   obtain ⟨⟨t,nm⟩,hi⟩ : ∃ x,ps[k]? = some x:=⟨ps[k]'(by rw [← HH.out.2];exact hlt),List.getElem?_eq_getElem _⟩
   obtain ⟨a,rfl,hab,d0,d1,b0,b1⟩:=(HH.out.1.on pm_keeps HI.out.1).at_ hi
   have c0 : wr.cell? (a.add (k * 2)) = some (.string ⟨t.toArray⟩):=d0
   have c1 : wr.cell? ⟨(a.add (k * 2)).block,(a.add (k * 2)).off + 1,none⟩ = some (.string ⟨nm.toArray⟩):=d1
   have HC2:=Lib.hid (HS.out t nm wr b0 b1)
   have HX:=Lib.hid (And.intro hi (all_take_succ ok ps k _ hi))
   obtain ⟨okx,hokx⟩ : ∃ b,b = ok ⟨t,nm⟩:=⟨_,rfl⟩
   rw [← hokx] at HC2 HX
   have HO:=Lib.hid hokx
   clear d0 d1 b0 b1 hi hokx
   go_wp2_with (go_at_call 46;refine HC2.out.mono ?_;rintro e w3 ⟨rfl,hb⟩;have HB3:=Lib.hid (HI.out.1.chain hb);clear hb)
   ·rename_i hf
    have hf' : ok ⟨t,nm⟩ = false:=by rw [← HO.out];simpa using hf
    go_ret
    exact ⟨by rw [all_of_false ok ps k _ HX.out.1 hf',Bool.and_false];rfl,HB3.out⟩
   ·rename_i hf
    have hf' : okx = true:=by simpa using hf
    go_roundg (n - (k + 1))
    case measure => omega
    case rel => exact ⟨k + 1,rfl,by omega,by go_num,Lib.hid ⟨HB3.out,by rw [HX.out.2,HI.out.2,hf'];rfl⟩⟩
  ·obtain rfl : k = n:=by omega
   go_wp2
   go_ret
   refine ⟨?_,HI.out.1⟩
   have := HI.out.2
   rw [List.take_of_length_le (by rw [HH.out.2];exact Nat.le_refl _)] at this
   rw [this,Bool.and_true,show decide (least ≤ (k : Int)) = true by simp;omega,show decide ((k : Int) ≤ most) = true by simp;omega]
   rfl
theorem splainp_any (ps : List Pm) (A : Option Addr) (c : Nat) (w : World) (hn : ps.length ≤ maxLen) (hr : PmRow w w.heap.size ps A) :
 Calls Tryz.prog 17 #[.slice A ps.length c] w fun e w' => e = .returned (.bool (plP ps)) ∧ Below w.heap.size w w':=by
 unfold plP
 obtain ⟨ok,hok⟩ : ∃ ok : Pm → Bool,ok = fun x => nameR x.nm:=⟨_,rfl⟩
 have HS : Hid (∀ (t nm : List UInt8) w,nm.length ≤ maxLen → Calls Tryz.prog 18 #[.string ⟨nm.toArray⟩] w fun e w' => e = .returned (.bool (ok ⟨t,nm⟩)) ∧ Below w.heap.size w w'):=Lib.hid (by rw [hok];exact fun t nm w h => sname_any nm w h)
 rw [← hok]
 clear hok
 obtain ⟨n,hnn⟩ : ∃ n,n = ps.length:=⟨_,rfl⟩
 have HH:=Lib.hid (And.intro hr hnn)
 have HB0:=Lib.hid (Below.refl w.heap.size w)
 rw [← hnn] at hn ⊢
 clear hr hnn
 unfold maxLen at hn
 go_enter Tryz.func17,Tryz.ntmps17
 go_wp2
 go_loopg [3] n (fun m j wr => ∃ k : Nat,m = n - k ∧ k ≤ n ∧ j = .int .i64 k ∧ Hid (Below w.heap.size w wr ∧ (ps.take k).all ok = true))
 case atStart => exact ⟨0,rfl,Nat.zero_le _,rfl,Lib.hid ⟨HB0.out,rfl⟩⟩
 case round =>
  obtain ⟨k,rfl,hk,rfl,HI⟩:=hrel
  by_cases hlt : k < n
  ·have hki : (k : Int) < n:=by omega
   obtain ⟨⟨t,nm⟩,hi⟩ : ∃ x,ps[k]? = some x:=⟨ps[k]'(by rw [← HH.out.2];exact hlt),List.getElem?_eq_getElem _⟩
   obtain ⟨a,rfl,hab,d0,d1,b0,b1⟩:=(HH.out.1.on pm_keeps HI.out.1).at_ hi
   have c1 : wr.cell? ⟨(a.add (k * 2)).block,(a.add (k * 2)).off + 1,none⟩ = some (.string ⟨nm.toArray⟩):=d1
   have HC2:=Lib.hid (HS.out t nm wr b1)
   have HX:=Lib.hid (And.intro hi (all_take_succ ok ps k _ hi))
   obtain ⟨okx,hokx⟩ : ∃ b,b = ok ⟨t,nm⟩:=⟨_,rfl⟩
   rw [← hokx] at HC2 HX
   have HO:=Lib.hid hokx
   clear d0 d1 b0 b1 hi hokx
   go_wp2_with (go_at_call 18;refine HC2.out.mono ?_;rintro e w3 ⟨rfl,hb⟩;have HB3:=Lib.hid (HI.out.1.chain hb);clear hb)
   ·rename_i hf
    have hf' : ok ⟨t,nm⟩ = false:=by rw [← HO.out];simpa using hf
    go_ret
    exact ⟨by rw [all_of_false ok ps k _ HX.out.1 hf'];rfl,HB3.out⟩
   ·rename_i hf
    have hf' : okx = true:=by simpa using hf
    go_roundg (n - (k + 1))
    case measure => omega
    case rel => exact ⟨k + 1,rfl,by omega,by go_num,Lib.hid ⟨HB3.out,by rw [HX.out.2,HI.out.2,hf'];rfl⟩⟩
  ·obtain rfl : k = n:=by omega
   go_wp2
   go_ret
   refine ⟨?_,HI.out.1⟩
   have := HI.out.2
   rw [List.take_of_length_le (by rw [HH.out.2];exact Nat.le_refl _)] at this
   rw [this]
   rfl
theorem sforms_any (fs : List Fm) (A : Option Addr) (c : Nat) (least : Int) (w : World) (hn : fs.length ≤ maxLen) (hr : FmRow w w.heap.size fs A) :
 Calls Tryz.prog 19 #[.slice A fs.length c,.int .i64 least] w fun e w' => e = .returned (.bool (rFs least fs)) ∧ Below w.heap.size w w':=by
 unfold rFs
 obtain ⟨ok,hok⟩ : ∃ ok,ok = vF varR nuP 100:=⟨_,rfl⟩
 have HS : Hid (∀ (f : Fm) Ap cp Aa ca Ac cc w,f.ps.length ≤ maxLen → f.ats.length ≤ maxLen → f.cls.length ≤ maxLen → PmRow w w.heap.size f.ps Ap → AtRow w w.heap.size f.ats Aa → ClRow w w.heap.size f.cls Ac →
  Calls Tryz.prog 48 #[formulaV (.slice Ap f.ps.length cp) (.slice Aa f.ats.length ca) (.slice Ac f.cls.length cc)] w fun e w' => e = .returned (.bool (ok f)) ∧ Below w.heap.size w w'):=Lib.hid (by rw [hok];exact sformula_any)
 rw [← hok]
 clear hok
 obtain ⟨n,hnn⟩ : ∃ n,n = fs.length:=⟨_,rfl⟩
 have HH:=Lib.hid (And.intro hr hnn)
 have HB0:=Lib.hid (Below.refl w.heap.size w)
 rw [← hnn] at hn ⊢
 clear hr hnn
 unfold maxLen at hn
 go_enter Tryz.func19,Tryz.ntmps19
 by_cases hl : (n : Int) < least
 ·go_wp2
  go_ret
  exact ⟨by rw [show decide (least ≤ (n : Int)) = false by simp;omega];rfl,HB0.out⟩
 by_cases hm : (n : Int) > 100
 ·go_wp2
  go_ret
  exact ⟨by rw [show decide ((n : Int) ≤ 100) = false by simp;omega];simp,HB0.out⟩
 go_wp2
 go_loopg [5] n (fun m j wr => ∃ k : Nat,m = n - k ∧ k ≤ n ∧ j = .int .i64 k ∧ Hid (Below w.heap.size w wr ∧ (fs.take k).all ok = true))
 case atStart => exact ⟨0,rfl,Nat.zero_le _,rfl,Lib.hid ⟨HB0.out,rfl⟩⟩
 case round =>
  obtain ⟨k,rfl,hk,rfl,HI⟩:=hrel
  by_cases hlt : k < n
  ·have hki : (k : Int) < n:=by omega
   obtain ⟨x,hi⟩ : ∃ x,fs[k]? = some x:=⟨fs[k]'(by rw [← HH.out.2];exact hlt),List.getElem?_eq_getElem _⟩
   obtain ⟨a,rfl,hab,Ap,cp,Aa,ca,Ac,cc,d0,d1,d2,⟨b0,b1,b2⟩,rp,ra,rc⟩:=(HH.out.1.on fm_keeps HI.out.1).at_ hi
   have c0 : wr.cell? (a.add (k * 3)) = some (.slice Ap x.ps.length cp):=d0
   have c1 : wr.cell? ⟨(a.add (k * 3)).block,(a.add (k * 3)).off + 1,none⟩ = some (.slice Aa x.ats.length ca):=d1
   have c2 : wr.cell? ⟨(a.add (k * 3)).block,(a.add (k * 3)).off + 2,none⟩ = some (.slice Ac x.cls.length cc):=d2
   have HC2:=Lib.hid (HS.out x Ap cp Aa ca Ac cc wr b0 b1 b2 rp ra rc)
   have HX:=Lib.hid (And.intro hi (all_take_succ ok fs k _ hi))
   obtain ⟨okx,hokx⟩ : ∃ b,b = ok x:=⟨_,rfl⟩
   rw [← hokx] at HC2 HX
   have HO:=Lib.hid hokx
   clear d0 d1 d2 rp ra rc b0 b1 b2 hi hokx
   go_wp2_with (go_at_call 48;refine HC2.out.mono ?_;rintro e w3 ⟨rfl,hb⟩;have HB3:=Lib.hid (HI.out.1.chain hb);clear hb)
   ·rename_i hf
    have hf' : ok x = false:=by rw [← HO.out];simpa using hf
    go_ret
    exact ⟨by rw [all_of_false ok fs k _ HX.out.1 hf',Bool.and_false];rfl,HB3.out⟩
   ·rename_i hf
    have hf' : okx = true:=by simpa using hf
    go_roundg (n - (k + 1))
    case measure => omega
    case rel => exact ⟨k + 1,rfl,by omega,by go_num,Lib.hid ⟨HB3.out,by rw [HX.out.2,HI.out.2,hf'];rfl⟩⟩
  ·obtain rfl : k = n:=by omega
   go_wp2
   go_ret
   refine ⟨?_,HI.out.1⟩
   have := HI.out.2
   rw [List.take_of_length_le (by rw [HH.out.2];exact Nat.le_refl _)] at this
   rw [this,Bool.and_true,show decide (least ≤ (k : Int)) = true by simp;omega,show decide ((k : Int) ≤ 100) = true by simp;omega]
   rfl
end Go.Proofs.YtkopbfndfkibbaaGreatDoor
