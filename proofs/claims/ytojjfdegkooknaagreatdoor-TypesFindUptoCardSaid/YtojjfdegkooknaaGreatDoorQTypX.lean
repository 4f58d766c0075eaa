import Derived.Test.YtojjfdegkooknaaGreatDoorQTypFParam
import Derived.Test.YtojjfdegkooknaaGreatDoorQTreeO
import Derived.Test.YtojjfdegkooknaaGreatDoorQTreeL
set_option linter.unusedVariables false
set_option linter.unusedSimpArgs false
namespace Go.Proofs.YtojjfdegkooknaaGreatDoor
set_option maxRecDepth 100000
set_option maxHeartbeats 4000000
open Go.RowKit
theorem fits_any (a b : List UInt8) (w : World) : Calls Tryz.prog 115 #[.string ⟨a.toArray⟩,.string ⟨b.toArray⟩] w fun e w' => e = .returned (.bool (fitsB a b)) ∧ w' = w:=by
 unfold fitsB
 obtain ⟨x1,h1⟩ : ∃ x,x = (a == b):=⟨_,rfl⟩
 obtain ⟨x2,h2⟩ : ∃ x,x = (a == [110,117,108,108]):=⟨_,rfl⟩
 obtain ⟨x3,h3⟩ : ∃ x,x = (b == [105,110,116]):=⟨_,rfl⟩
 obtain ⟨x4,h4⟩ : ∃ x,x = (b == []):=⟨_,rfl⟩
 have H1:=Lib.hid h1.symm
 have e3 : (b != [105,110,116]) = !x3:=by rw [h3];rfl
 have e4 : (b != []) = !x4:=by rw [h4];rfl
 show Calls _ _ _ _ (fun e w' => e = .returned (.bool (a == b || (a == [110,117,108,108] && b != [105,110,116] && b != []))) ∧ w' = w)
 rw [← h1,← h2,e3,e4]
 have g1:=h1.symm
 have g2:=h2.symm
 have g3:=h3.symm
 have g4:=h4.symm
 clear h1 h2 h3 h4 e3 e4 H1
 cases x1 <;> cases x2 <;> cases x3 <;> cases x4
 all_goals
  go_enter Tryz.func115,Tryz.ntmps115
  go_wp2
  go_ret
  exact ⟨rfl,rfl⟩
theorem has_any' (s : List UInt8) (l : List Pm) (A : Option Addr) (c n : Nat) (hn : n = l.length) (hm : n ≤ maxLen) (B0 : Nat) (w : World) (hB0 : B0 ≤ w.heap.size) (hA : RowV VPm 2 w B0 l A) :
 Calls Tryz.prog 80 #[.slice A n c,.string ⟨s.toArray⟩] w fun e w' => e = .returned (.bool (fstO (·.nm) l s).isSome) ∧ Below w.heap.size w w':=by
 have HF:=Lib.hid (fst_Param 95 (enters_of Tryz.func95 (by kernel_rfl) rfl) (·.nm) nm_Param s l A c n hn hm B0 w hB0 hA)
 clear hn hm hA
 obtain ⟨o,ho⟩ : ∃ o,o = fstO (fun x : Pm => x.nm) l s:=⟨_,rfl⟩
 rw [← ho] at HF ⊢
 go_enter Tryz.func80,Tryz.ntmps80
 go_wp2_with fail
 refine HF.out.mono ?_
 rintro e w1 ⟨⟨cs,b,rfl,hr⟩,hb⟩
 have HB:=Lib.hid (hb.chain (below_alloc w1 (.cells cs 42)))
 obtain ⟨u,v,hcs⟩ : ∃ u v : ByteArray,cs = #[.string u,.string v]:=by
  rcases hr with ⟨_,h,_⟩ | ⟨_,x,_,h⟩
  ·exact ⟨_,_,h⟩
  ·exact ⟨_,_,h.1⟩
 have hbs : b = o.isSome:=by
  rcases hr with ⟨rfl,_,h⟩ | ⟨rfl,x,h,_⟩
  ·rw [h];rfl
  ·rw [h];rfl
 subst hcs
 have HS:=Lib.hid hbs
 clear hr hb hbs ho
 go_wp2
 go_ret
 exact ⟨by rw [← HS.out];rfl,HB.out⟩
theorem fld_Param0 (u v : ByteArray) (w : World) : (Instr.field 42 (.agg #[.string u,.string v]) 0).run Tryz.prog w = .ok (.string u) w:=by kernel_rfl
abbrev varsV (A : Option Addr) (n c : Nat) (D : Option Addr) (m d : Nat) : Value:=.agg #[.slice A n c,.slice D m d]
abbrev varsC (A : Option Addr) (n c : Nat) (D : Option Addr) (m d : Nat) : Obj:=.cells #[.slice A n c,.slice D m d] 146
structure VarsAt (w : World) (B0 : Nat) (sc br : List Pm) (A : Option Addr) (n : Nat) (D : Option Addr) (m : Nat) : Prop where
 hn : n = sc.length
 hm : n ≤ maxLen
 hn2 : m = br.length
 hm2 : m ≤ maxLen
 hB : B0 ≤ w.heap.size
 r1 : RowV VPm 2 w B0 sc A
 r2 : RowV VPm 2 w B0 br D
theorem VarsAt.on {w w' : World} {B0 : Nat} {sc br : List Pm} {A : Option Addr} {n : Nat} {D : Option Addr} {m : Nat} (h : VarsAt w B0 sc br A n D m) (hb : Below w.heap.size w w') : VarsAt w' B0 sc br A n D m :=
 ⟨h.hn,h.hm,h.hn2,h.hm2,Nat.le_trans h.hB hb.size,rowB vpm_keeps h.hB hb h.r1,rowB vpm_keeps h.hB hb h.r2⟩
theorem kind_any (s : List UInt8) (sc br : List Pm) (A : Option Addr) (n c : Nat) (D : Option Addr) (m d : Nat) (B0 : Nat) (w : World) (hV : VarsAt w B0 sc br A n D m) :
 Calls Tryz.prog 144 #[varsV A n c D m d,.string ⟨s.toArray⟩] w (StrPost (kindE sc br s) w):=by
 obtain ⟨W1,hW1⟩ : ∃ W1,W1 = w.alloc (varsC A n c D m d):=⟨_,rfl⟩
 have hb1 : Below w.heap.size w W1:=by rw [hW1];exact below_alloc w _
 have hp1 : W1.heap[w.heap.size]? = some (varsC A n c D m d):=by rw [hW1];exact heap_of_alloc w _
 have HH : Hid (∀ W,Below W1.heap.size W1 W → Calls Tryz.prog 80 #[.slice D m d,.string ⟨s.toArray⟩] W fun e w' => e = .returned (.bool (fstO (·.nm) br s).isSome) ∧ Below W.heap.size W w'):=Lib.hid (fun W hb => has_any' s br D d m hV.hn2 hV.hm2 B0 W (Nat.le_trans hV.hB (hb1.chain hb).size) (hV.on (hb1.chain hb)).r2)
 have HF : Hid (∀ W,Below W1.heap.size W1 W → Calls Tryz.prog 178 #[.slice A n c,.string ⟨s.toArray⟩,.func (.func 95) #[] #[]] W (FndPost VPm s (fstO (·.nm) sc s) B0 W)):=Lib.hid (fun W hb => fnd_Param 95 (enters_of Tryz.func95 (by kernel_rfl) rfl) (·.nm) nm_Param s sc A c n hV.hn hV.hm B0 W (Nat.le_trans hV.hB (hb1.chain hb).size) (hV.on (hb1.chain hb)).r1)
 have HB1:=Lib.hid (And.intro hb1 hp1)
 obtain ⟨o,ho⟩ : ∃ o,o = fstO (fun x : Pm => x.nm) sc s:=⟨_,rfl⟩
 obtain ⟨h,hh⟩ : ∃ h,h = (fstO (fun x : Pm => x.nm) br s).isSome:=⟨_,rfl⟩
 have hk : kindE sc br s = kindO h o s:=by rw [ho,hh];rfl
 rw [hk]
 rw [← ho] at HF
 rw [← hh] at HH
 clear hV hb1 hp1 ho hh hk
 go_enter Tryz.func144,Tryz.ntmps144
 go_wp2_with fail
 rw [← hW1]
 clear hW1
 refine (HH.out _ (Below.refl _ _)).mono ?_
 rintro e w2 ⟨rfl,hb2⟩
 have H2:=Lib.hid hb2
 have c0:=cell_of_block (kept_box hb2 HB1.out.2) 0 (v:=.slice A n c) rfl
 clear hb2
 go_wp2_with fail
 refine (demand_any (!h) 6 s w2).mono ?_
 rintro e w3 ⟨he,rfl⟩
 cases h
 ·obtain rfl : e = _:=he
  go_wp2_with fail
  refine (HF.out _ H2.out).mono ?_
  rintro e w4 ⟨hr,hb4⟩
  have H4:=Lib.hid (HB1.out.1.chain (H2.out.chain hb4))
  clear hb4
  rcases hr with ⟨cs,x,rfl,ho,hv⟩ | ⟨ho,he⟩
  ·obtain ⟨hcs,_⟩:=hv
   subst hcs ho
   have hfl:=fun w => fld_Param0 ⟨x.t.toArray⟩ ⟨x.nm.toArray⟩ w
   go_wp2
   go_ret
   exact ⟨rfl,H4.out⟩
  ·subst he ho
   exact ⟨rfl,rfl,H4.out⟩
 ·obtain rfl : e = _:=he
  exact ⟨rfl,rfl,HB1.out.1.chain H2.out⟩
end Go.Proofs.YtojjfdegkooknaaGreatDoor
namespace Go.Proofs.YtojjfdegkooknaaGreatDoor
set_option maxRecDepth 100000
set_option maxHeartbeats 8000000
open Go.RowKit
theorem exT_mk (sc br : List Pm) (k n : Int) (s : List UInt8) (l : List Ex) : exT sc br (.mk k n s l) = if k = 2 then kindE sc br s else if k = 3 then .ok nullB else match allC (exC sc br) l with
 | none => .ok intB
 | some t => .error t:=by
 rw [exT,exLs_eq]
 rfl
theorem expr_at (sc br : List Pm) (A : Option Addr) (n c : Nat) (D : Option Addr) (m d : Nat) (B0 : Nat) : ∀ (M : Nat) (l : List Ex),SizeOf.sizeOf l < M → ∀ (k nn : Int) (s : List UInt8) (A2 : Option Addr) (c2 : Nat) (w : World),VarsAt w B0 sc br A n D m → ExRow w w.heap.size l A2 → s.length ≤ maxLen → l.length ≤ maxLen →
 Calls Tryz.prog 114 #[varsV A n c D m d,exprV k nn ⟨s.toArray⟩ (.slice A2 l.length c2)] w (StrPost (exT sc br (.mk k nn s l)) w):=by
 intro M
 induction M with
 | zero => intro l h;omega
 | succ M ih =>
   intro l hM k nn s A2 c2 w hV hr hs hl
   rw [exT_mk]
   obtain ⟨z,hz⟩ : ∃ z,z = l.length:=⟨_,rfl⟩
   rw [← hz] at hl ⊢
   obtain ⟨W1,hW1⟩ : ∃ W1,W1 = (w.alloc (varsC A n c D m d)).alloc (exprC k nn ⟨s.toArray⟩ (.slice A2 z c2)):=⟨_,rfl⟩
   have hb1 : Below w.heap.size w W1:=by rw [hW1];exact (below_alloc w _).chain (below_alloc _ _)
   have hp0 : W1.heap[w.heap.size]? = some (varsC A n c D m d):=by rw [hW1];exact heap_keep (heap_of_alloc w _)
   have HB1:=Lib.hid (And.intro hb1 hp0)
   have HV:=Lib.hid hV
   by_cases h2 : k = 2
   ·subst h2
    have HK:=Lib.hid (kind_any s sc br A n c D m d B0 W1 (hV.on hb1))
    rw [if_pos rfl]
    obtain ⟨r,hr'⟩ : ∃ r,r = kindE sc br s:=⟨_,rfl⟩
    rw [← hr'] at HK ⊢
    clear hr' hr hs hl hV hb1 hp0 ih hM hz
    go_enter Tryz.func114,Tryz.ntmps114
    go_wp2_with fail
    rw [← hW1]
    clear hW1
    refine HK.out.mono ?_
    rintro e w2 ⟨he,hb⟩
    have H2:=Lib.hid (HB1.out.1.chain hb)
    clear hb
    cases r with
    | ok t =>
      obtain rfl : e = _:=he
      go_wp2
      go_ret
      exact ⟨rfl,H2.out⟩
    | error t =>
      obtain rfl : e = _:=he
      exact ⟨rfl,rfl,H2.out⟩
   have h2' : (k == 2) = false:=beq_eq_false_iff_ne.2 h2
   rw [if_neg h2]
   by_cases h3 : k = 3
   ·subst h3
    rw [if_pos rfl]
    clear hr hs hl hV hb1 hp0 ih hM hz
    go_enter Tryz.func114,Tryz.ntmps114
    go_wp2
    go_ret
    exact ⟨rfl,(below_alloc w _).chain (below_alloc _ _)⟩
   have h3' : (k == 3) = false:=beq_eq_false_iff_ne.2 h3
   rw [if_neg h3]
   have HH:=Lib.hid (And.intro hr (And.intro hz (And.intro hM (And.intro ih (And.intro hs trivial)))))
   obtain ⟨R,hR⟩ : ∃ R : Except Thr (List UInt8),R = match allC (exC sc br) l with
    | none => .ok intB
    | some t => .error t:=⟨_,rfl⟩
   have HR:=Lib.hid hR
   rw [← hR]
   clear hr hs hV hb1 hp0 ih hM hz hR
   unfold maxLen at hl
   go_enter Tryz.func114,Tryz.ntmps114
   go_wp2
   rw [← hW1]
   clear hW1
   go_loopg [20] z (fun mm j wr => ∃ i : Nat,mm = z - i ∧ i ≤ z ∧ j = .int .i64 i ∧ Hid (Below W1.heap.size W1 wr ∧ allC (exC sc br) (l.take i) = none))
   case atStart => exact ⟨0,rfl,Nat.zero_le _,rfl,Lib.hid ⟨Below.refl _ _,rfl⟩⟩
   case round =>
    obtain ⟨i,rfl,hi,rfl,HI⟩:=hrel
    have hi0 : (0 : Int) ≤ i:=by omega
    by_cases hlt : i < z
    ·have hii : (i : Int) < z:=by omega
     have hbr:=HB1.out.1.chain HI.out.1
     obtain ⟨⟨k0,n0,s0,l0⟩,hg⟩ : ∃ x,l[i]? = some x:=⟨l[i]'(by rw [← HH.out.2.1];exact hlt),List.getElem?_eq_getElem _⟩
     obtain ⟨a,A',c',rfl,hab,d0,d1,d2,d3,hs0,hl0,hrow⟩:=(HH.out.1.on hbr).at_ hg
     have e0 : wr.cell? (a.add (i * 4)) = some (.int .i64 k0):=d0
     have e1 : wr.cell? ⟨(a.add (i * 4)).block,(a.add (i * 4)).off + 1,none⟩ = some (.int .i64 n0):=d1
     have e2 : wr.cell? ⟨(a.add (i * 4)).block,(a.add (i * 4)).off + 2,none⟩ = some (.string ⟨s0.toArray⟩):=d2
     have e3 : wr.cell? ⟨(a.add (i * 4)).block,(a.add (i * 4)).off + 3,none⟩ = some (.slice A' l0.length c'):=d3
     obtain ⟨W6,hW6⟩ : ∃ W6,W6 = wr.alloc (exprC k0 n0 ⟨s0.toArray⟩ (.slice A' l0.length c')):=⟨_,rfl⟩
     have hb6 : Below wr.heap.size wr W6:=by rw [hW6];exact below_alloc wr _
     have hbx:=kept_box (HI.out.1.chain (below_alloc wr (exprC k0 n0 ⟨s0.toArray⟩ (.slice A' l0.length c')))) HB1.out.2
     have v0:=cell_of_block hbx 0 (v:=.slice A n c) rfl
     have v1:=cell_of_block hbx 1 (v:=.slice D m d) rfl
     have hsz : SizeOf.sizeOf l0 < M:=by
      have q1:=List.sizeOf_lt_of_mem (List.mem_of_getElem? hg)
      have q2 : SizeOf.sizeOf l0 < SizeOf.sizeOf (Ex.mk k0 n0 s0 l0):=by simp;omega
      have q3:=HH.out.2.2.1
      omega
     have HC:=Lib.hid (HH.out.2.2.2.1 l0 hsz k0 n0 s0 A' c' W6 (HV.out.on (hbr.chain hb6)) (hrow.on hb6) hs0 hl0)
     obtain ⟨q,hq⟩ : ∃ q,q = exT sc br (.mk k0 n0 s0 l0):=⟨_,rfl⟩
     rw [← hq] at HC
     have H6:=Lib.hid (HI.out.1.chain hb6)
     have HX:=Lib.hid (And.intro hg hq)
     clear hg hq hab d0 d1 d2 d3 hs0 hl0 hrow hb6 hbx hbr hsz
     go_wp2_with fail
     rw [← hW6]
     clear hW6
     refine HC.out.mono ?_
     rintro e w3 ⟨he,hb⟩
     have H3:=Lib.hid (H6.out.chain hb)
     clear hb
     cases q with
     | error t =>
       obtain rfl : e = _:=he
       refine ⟨rfl,?_,HB1.out.1.chain H3.out⟩
       have hx : exC sc br (.mk k0 n0 s0 l0) = some t:=by unfold exC;rw [← HX.out.2]
       rw [HR.out,allC_some _ l i _ t HX.out.1 HI.out.2 hx]
       rfl
     | ok y =>
       obtain rfl : e = _:=he
       go_wp2_with fail
       refine (demand_any (y == [105,110,116]) 9 [] w3).mono ?_
       rintro e w4 ⟨he,rfl⟩
       have hx : exC sc br (.mk k0 n0 s0 l0) = demC (y == [105,110,116]) 9 []:=by unfold exC;rw [← HX.out.2]
       cases hy : (y == [105,110,116])
       ·rw [hy] at he hx
        obtain rfl : e = _:=he
        refine ⟨rfl,?_,HB1.out.1.chain H3.out⟩
        rw [HR.out,allC_some _ l i _ ([],9) HX.out.1 HI.out.2 hx]
        rfl
       ·rw [hy] at he hx
        obtain rfl : e = _:=he
        have HN : Hid (allC (exC sc br) (l.take (i + 1)) = none):=Lib.hid (by rw [allC_take_succ _ l i _ HX.out.1,HI.out.2,hx];rfl)
        clear hx hy
        go_wp2
        go_roundg (z - (i + 1))
        case measure => omega
        case rel => exact ⟨i + 1,rfl,by omega,by go_num,Lib.hid ⟨H3.out,HN.out⟩⟩
    ·have hlt' : ¬ (i : Int) < z:=by omega
     obtain rfl : i = z:=by omega
     go_wp2
     go_ret
     refine ⟨?_,HB1.out.1.chain HI.out.1⟩
     have h:=HI.out.2
     rw [List.take_of_length_le (by rw [HH.out.2.1];exact Nat.le_refl _)] at h
     rw [HR.out,h]
     rfl
theorem expr_any' (sc br : List Pm) (A : Option Addr) (n c : Nat) (D : Option Addr) (m d : Nat) (B0 : Nat) (k nn : Int) (s : List UInt8) (l : List Ex) (A2 : Option Addr) (c2 : Nat) (w : World) (hV : VarsAt w B0 sc br A n D m) (hr : ExRow w w.heap.size l A2) (hs : s.length ≤ maxLen) (hl : l.length ≤ maxLen) :
 Calls Tryz.prog 114 #[varsV A n c D m d,exprV k nn ⟨s.toArray⟩ (.slice A2 l.length c2)] w (StrPost (exT sc br (.mk k nn s l)) w) :=
 expr_at sc br A n c D m d B0 _ l (Nat.lt_succ_self _) k nn s A2 c2 w hV hr hs hl
end Go.Proofs.YtojjfdegkooknaaGreatDoor
namespace Go.Proofs.YtojjfdegkooknaaGreatDoor
open Go.RowKit
mutual
def cnC (sc br : List Pm) : Cn → Ck
 | .mk k a b l => if k = 5 ∨ k = 6 ∨ k = 7 then cnLs sc br l else cmpC sc br k a b
def cnLs (sc br : List Pm) : List Cn → Ck
 | [] => none
 | x :: l => seqC (cnC sc br x) (cnLs sc br l)
end
end Go.Proofs.YtojjfdegkooknaaGreatDoor
