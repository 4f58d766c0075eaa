/-
  tree.Formula at any formula.
  The closures of the law TreeParts at valid formulas and expressions: bad answers no, exprs answers yes; slices.ContainsFunc with them.
-/
import Derived.Test.YtnkpgpmaiicdeaaGreatDoorSTreeGf
import Derived.Test.YtnkpgpmaiicdeaaGreatDoorSTreeNa
import Derived.Test.YtnkpgpmaiicdeaaGreatDoorSTreeXv
set_option linter.unusedVariables false
set_option linter.unusedSimpArgs false
namespace Go.Proofs.YtnkpgpmaiicdeaaGreatDoor
set_option maxRecDepth 100000
set_option maxHeartbeats 4000000
open Go.RowKit
open Go.Maps (Keyed addKey setOf)
theorem tformula_any (f : Fm) (Ap : Option Addr) (cp : Nat) (Aa : Option Addr) (ca : Nat) (Ac : Option Addr) (cc : Nat) (w : World)
 (b0 : f.ps.length ≤ maxLen) (b1 : f.ats.length ≤ maxLen) (b2 : f.cls.length ≤ maxLen) (rp : PmRow w w.heap.size f.ps Ap) (ra : AtRow w w.heap.size f.ats Aa) (rc : ClRow w w.heap.size f.cls Ac) :
 Calls Tryz.prog 18 #[formulaV (.slice Ap f.ps.length cp) (.slice Aa f.ats.length ca) (.slice Ac f.cls.length cc)] w fun e w' => e = .returned (.bool (vF varB 1125899906842624 100 f)) ∧ Below w.heap.size w w':=by
 obtain ⟨W1,hW1⟩ : ∃ W1,W1 = w.alloc (formulaC (.slice Ap f.ps.length cp) (.slice Aa f.ats.length ca) (.slice Ac f.cls.length cc)):=⟨_,rfl⟩
 have HB : Hid (Below w.heap.size w W1):=Lib.hid (by rw [hW1];exact below_alloc w _)
 have HC : Hid (Calls Tryz.prog 38 #[rulesV 73 1125899906842624 100,formulaV (.slice Ap f.ps.length cp) (.slice Aa f.ats.length ca) (.slice Ac f.cls.length cc)] (W1.alloc (rulesC 73 1125899906842624 100)).drew fun e w' => e = .returned (.bool (vF varB 1125899906842624 100 f)) ∧ Below W1.heap.size W1 w'):=Lib.hid (by
  have hb3 : Below W1.heap.size W1 (W1.alloc (rulesC 73 1125899906842624 100)).drew:=(below_alloc W1 _).drew
  have hb:=HB.out.chain hb3
  exact (formula_any _ varB variable_ok 1125899906842624 100 (by omega) (by omega) f Ap cp Aa ca Ac cc _ b0 b1 b2 (rp.on pm_keeps hb) (ra.on at_keeps hb) (rc.on cl_keeps hb)).mono fun e w' ⟨he,hb⟩ => ⟨he,hb3.chain hb⟩)
 have HP : Hid (∀ W,Calls Tryz.prog 35 #[] W fun e w' => e = .returned (rulesV 73 1125899906842624 100) ∧ w' = W.alloc (rulesC 73 1125899906842624 100)):=Lib.hid proof_rules
 generalize vF varB 1125899906842624 100 f = res at *
 generalize f.ps.length = n0 at *
 generalize f.ats.length = n1 at *
 generalize f.cls.length = n2 at *
 have q2:=heap_of_alloc w (formulaC (.slice Ap n0 cp) (.slice Aa n1 ca) (.slice Ac n2 cc))
 rw [← hW1] at q2
 obtain ⟨d0,d1,d2⟩:=box3f q2
 have HQ:=Lib.hid q2
 unfold maxLen at b0 b1 b2
 clear rp ra rc q2
 go_enter Tryz.func18,Tryz.ntmps18
 go_wp2
 rw [← hW1]
 clear hW1
 go_region_held3 (fun W => W.cell? ⟨w.heap.size,0,none⟩ = some (.slice Ap n0 cp) ∧ W.cell? ⟨w.heap.size,1,none⟩ = some (.slice Aa n1 ca) ∧ W.cell? ⟨w.heap.size,2,none⟩ = some (.slice Ac n2 cc))
  (first | go_keep | (trace_state;fail))
  (first
    | (go_at_call 35;refine (HP.out _).mono ?_;rintro e w2 ⟨rfl,rfl⟩)
    | (go_at_call 38;refine HC.out.mono ?_;rintro e w3 ⟨rfl,hb3⟩;have HB3:=Lib.hid hb3;obtain ⟨g0,g1,g2⟩:=box3f (kept_box hb3 HQ.out);clear hb3))
 all_goals go_wp2
 all_goals go_ret
 all_goals exact ⟨rfl,HB.out.chain HB3.out⟩
end Go.Proofs.YtnkpgpmaiicdeaaGreatDoor
namespace Go.Proofs.YtnkpgpmaiicdeaaGreatDoor
set_option maxRecDepth 100000
set_option maxHeartbeats 4000000
open Go.RowKit
theorem bad_any (f : Fm) (Ap : Option Addr) (cp : Nat) (Aa : Option Addr) (ca : Nat) (Ac : Option Addr) (cc : Nat) (w : World)
 (b0 : f.ps.length ≤ maxLen) (b1 : f.ats.length ≤ maxLen) (b2 : f.cls.length ≤ maxLen) (rp : PmRow w w.heap.size f.ps Ap) (ra : AtRow w w.heap.size f.ats Aa) (rc : ClRow w w.heap.size f.cls Ac) (hv : vF varB 1125899906842624 100 f = true) :
 Calls Tryz.prog 17 #[formulaV (.slice Ap f.ps.length cp) (.slice Aa f.ats.length ca) (.slice Ac f.cls.length cc)] w fun e w' => e = .returned (.bool false) ∧ Below w.heap.size w w':=by
 have HC : Hid (BC w 18 #[formulaV (.slice Ap f.ps.length cp) (.slice Aa f.ats.length ca) (.slice Ac f.cls.length cc)] true):=Lib.hid (fun W hb => by
  have h:=tformula_any f Ap cp Aa ca Ac cc W b0 b1 b2 (rp.on pm_keeps hb) (ra.on at_keeps hb) (rc.on cl_keeps hb)
  rw [hv] at h
  exact h)
 have HB:=Lib.hid (below_alloc w (formulaC (.slice Ap f.ps.length cp) (.slice Aa f.ats.length ca) (.slice Ac f.cls.length cc)))
 have HB0:=Lib.hid (Below.refl w.heap.size w)
 clear b0 b1 b2 rp ra rc hv
 generalize f.ps.length = n0 at *
 generalize f.ats.length = n1 at *
 generalize f.cls.length = n2 at *
 go_enter Tryz.func17,Tryz.ntmps17
 go_wp2_with (first
  | ((refine (HC.out _ HB.out).mono ?_);rintro e w1 ⟨rfl,hb⟩;have H1:=Lib.hid (HB.out.chain hb);clear hb)
  | ((refine (HC.out _ HB0.out).mono ?_);rintro e w1 ⟨rfl,hb⟩;have H1:=Lib.hid hb;clear hb))
 go_ret
 exact ⟨rfl,H1.out⟩
theorem indexBad_any (es : List Fm) (A : Option Addr) (c n : Nat) (hnn : n = es.length) (hn : n ≤ maxLen) (w : World) (hr : FmRow w w.heap.size es A) (hv : es.all (vF varB 1125899906842624 100) = true) :
 Calls Tryz.prog 39 #[.slice A n c,.func (.func 17) #[] #[]] w fun e w' => e = .returned (.int .i64 (-1)) ∧ Below w.heap.size w w':=by
 have HH:=Lib.hid (And.intro hr (And.intro hv hnn))
 clear hr hv hnn
 unfold maxLen at hn
 go_enter Tryz.func39,Tryz.ntmps39
 go_wp2
 go_loopg [8] n (fun m j wr => ∃ k : Nat,m = n - k ∧ k ≤ n ∧ j = .int .i64 k ∧ Hid (Below w.heap.size w wr))
 case atStart => exact ⟨0,rfl,Nat.zero_le _,rfl,Lib.hid (Below.refl _ _)⟩
 case round =>
  obtain ⟨k,rfl,hk,rfl,HI⟩:=hrel
  have hk0 : (0 : Int) ≤ k:=by omega
  by_cases hlt : k < n
  ·have hki : (k : Int) < n:=by omega
   obtain ⟨x,hi⟩ : ∃ x,es[k]? = some x:=⟨es[k]'(by rw [← HH.out.2.2];exact hlt),List.getElem?_eq_getElem _⟩
   obtain ⟨a,rfl,hab,hp⟩:=(HH.out.1.stay fm_keeps HI.out (Nat.le_refl _)).at_ hi
   obtain ⟨Ap,cp,Aa,ca,Ac,cc,d0,d1,d2,⟨b0,b1,b2⟩,rp,ra,rc⟩:=hp
   have c0 : wr.cell? (a.add (k * 3)) = some (.slice Ap x.ps.length cp):=d0
   have c1 : wr.cell? ⟨(a.add (k * 3)).block,(a.add (k * 3)).off + 1,none⟩ = some (.slice Aa x.ats.length ca):=d1
   have c2 : wr.cell? ⟨(a.add (k * 3)).block,(a.add (k * 3)).off + 2,none⟩ = some (.slice Ac x.cls.length cc):=d2
   have HC2:=Lib.hid (bad_any x Ap cp Aa ca Ac cc wr b0 b1 b2 (rp.more pm_keeps HI.out.size) (ra.more at_keeps HI.out.size) (rc.more cl_keeps HI.out.size) (List.all_eq_true.1 HH.out.2.1 x (List.mem_of_getElem? hi)))
   clear hi d0 d1 d2 b0 b1 b2 rp ra rc
   go_wp2_with fail
   refine HC2.out.mono ?_
   rintro e w3 ⟨rfl,hb⟩
   have HB3:=Lib.hid (HI.out.chain hb)
   clear hb
   go_wp2
   go_roundg (n - (k + 1))
   case measure => omega
   case rel => exact ⟨k + 1,rfl,by omega,by go_num,HB3⟩
  ·have hlt' : ¬ (k : Int) < n:=by omega
   go_wp2
   go_ret
   exact ⟨rfl,HI.out⟩
theorem containsBad_any (es : List Fm) (A : Option Addr) (c n : Nat) (hnn : n = es.length) (hn : n ≤ maxLen) (w : World) (hr : FmRow w w.heap.size es A) (hv : es.all (vF varB 1125899906842624 100) = true) :
 Calls Tryz.prog 19 #[.slice A n c,.func (.func 17) #[] #[]] w fun e w' => e = .returned (.bool false) ∧ Below w.heap.size w w':=by
 have HI:=Lib.hid (indexBad_any es A c n hnn hn w hr hv)
 clear hnn hr hv
 go_enter Tryz.func19,Tryz.ntmps19
 go_wp2_with fail
 refine HI.out.mono ?_
 rintro e w1 ⟨rfl,hb⟩
 have H1:=Lib.hid hb
 clear hb
 go_wp2
 go_ret
 exact ⟨rfl,H1.out⟩
abbrev cloE (b : Nat) : Value:=.func (.func 13) #[] #[.pointer (some ⟨b,0,none⟩)]
abbrev cloI (b : Nat) : Value:=.func (.func 16) #[] #[.pointer (some ⟨b,0,none⟩)]
def ExBox (b : Nat) (w : World) : Prop:=b < w.heap.size ∧ w.cell? ⟨b,0,none⟩ = some (cloE b)
theorem ExBox.on {b : Nat} {w w' : World} (h : ExBox b w) (hb : Below w.heap.size w w') : ExBox b w' :=
 ⟨Nat.lt_of_lt_of_le h.1 hb.size,(hb.cell (p:=⟨b,0,none⟩) h.1).trans h.2⟩
def ExYes (b : Nat) (k n : Int) (s : List UInt8) (l : List Ex) (A : Option Addr) (c : Nat) (W : World) : Prop :=
 Calls Tryz.prog 13 #[exprV k n ⟨s.toArray⟩ (.slice A l.length c),.pointer (some ⟨b,0,none⟩)] W fun e w' => e = .returned (.bool true) ∧ Below W.heap.size W w'
theorem inner_any (b : Nat) (k n : Int) (s : List UInt8) (l : List Ex) (A : Option Addr) (c : Nat) (w : World) (hx : ExBox b w) (hy : ∀ W,Below w.heap.size w W → ExYes b k n s l A c W) :
 Calls Tryz.prog 16 #[exprV k n ⟨s.toArray⟩ (.slice A l.length c),.pointer (some ⟨b,0,none⟩)] w fun e w' => e = .returned (.bool false) ∧ Below w.heap.size w w':=by
 have HB:=Lib.hid (below_alloc w (exprC k n ⟨s.toArray⟩ (.slice A l.length c)))
 have HB0:=Lib.hid (Below.refl w.heap.size w)
 have HY : Hid (BC w 13 #[exprV k n ⟨s.toArray⟩ (.slice A l.length c),.pointer (some ⟨b,0,none⟩)] true):=Lib.hid hy
 have hc0:=hx.2
 have hc1:=(hx.on HB.out).2
 clear hy hx
 generalize l.length = n0 at *
 go_enter Tryz.func16,Tryz.ntmps16
 go_wp2_with (first
  | ((refine (HY.out _ HB.out).mono ?_);rintro e w1 ⟨rfl,hb⟩;have H1:=Lib.hid (HB.out.chain hb);clear hb)
  | ((refine (HY.out _ HB0.out).mono ?_);rintro e w1 ⟨rfl,hb⟩;have H1:=Lib.hid hb;clear hb))
 go_ret
 exact ⟨rfl,H1.out⟩
theorem indexEx_any (b : Nat) (l : List Ex) (A : Option Addr) (c z : Nat) (hz : z = l.length) (hzl : z ≤ maxLen) (w : World) (hr : ExRow w w.heap.size l A) (hx : ExBox b w)
 (hO : ∀ k n s l' A' c',(Ex.mk k n s l') ∈ l → s.length ≤ maxLen → l'.length ≤ maxLen → ∀ W,Below w.heap.size w W → ExRow W W.heap.size l' A' → ExYes b k n s l' A' c' W) :
 Calls Tryz.prog 37 #[.slice A z c,cloI b] w fun e w' => e = .returned (.int .i64 (-1)) ∧ Below w.heap.size w w':=by
 have HH:=Lib.hid (And.intro hr (And.intro hz (And.intro hO hx)))
 clear hr hz hO hx
 unfold maxLen at hzl
 go_enter Tryz.func37,Tryz.ntmps37
 go_wp2
 go_loopg [8] z (fun m j wr => ∃ i : Nat,m = z - i ∧ i ≤ z ∧ j = .int .i64 i ∧ Hid (Below w.heap.size w wr))
 case atStart => exact ⟨0,rfl,Nat.zero_le _,rfl,Lib.hid (Below.refl _ _)⟩
 case round =>
  obtain ⟨i,rfl,hi,rfl,HI⟩:=hrel
  have hi0 : (0 : Int) ≤ i:=by omega
  by_cases hlt : i < z
  ·have hii : (i : Int) < z:=by omega
   obtain ⟨⟨k0,n0,s0,l0⟩,hg⟩ : ∃ x,l[i]? = some x:=⟨l[i]'(by rw [← HH.out.2.1];exact hlt),List.getElem?_eq_getElem _⟩
   obtain ⟨a,A',c',rfl,hab,d0,d1,d2,d3,hs0,hl0,hrow⟩:=(HH.out.1.on HI.out).at_ hg
   have e0 : wr.cell? (a.add (i * 4)) = some (.int .i64 k0):=d0
   have e1 : wr.cell? ⟨(a.add (i * 4)).block,(a.add (i * 4)).off + 1,none⟩ = some (.int .i64 n0):=d1
   have e2 : wr.cell? ⟨(a.add (i * 4)).block,(a.add (i * 4)).off + 2,none⟩ = some (.string ⟨s0.toArray⟩):=d2
   have e3 : wr.cell? ⟨(a.add (i * 4)).block,(a.add (i * 4)).off + 3,none⟩ = some (.slice A' l0.length c'):=d3
   have HC:=Lib.hid (inner_any b k0 n0 s0 l0 A' c' wr (HH.out.2.2.2.on HI.out) (fun W hb => HH.out.2.2.1 k0 n0 s0 l0 A' c' (List.mem_of_getElem? hg) hs0 hl0 W (HI.out.chain hb) (hrow.on hb)))
   clear hrow hs0 hl0 hg d0 d1 d2 d3
   go_wp2_with fail
   refine HC.out.mono ?_
   rintro e w3 ⟨rfl,hb⟩
   have H3:=Lib.hid (HI.out.chain hb)
   clear hb
   go_wp2
   go_roundg (z - (i + 1))
   case measure => omega
   case rel => exact ⟨i + 1,rfl,by omega,by go_num,H3⟩
  ·have hlt' : ¬ (i : Int) < z:=by omega
   go_wp2
   go_ret
   exact ⟨rfl,HI.out⟩
theorem containsEx_any (b : Nat) (l : List Ex) (A : Option Addr) (c z : Nat) (hz : z = l.length) (hzl : z ≤ maxLen) (w : World) (hr : ExRow w w.heap.size l A) (hx : ExBox b w)
 (hO : ∀ k n s l' A' c',(Ex.mk k n s l') ∈ l → s.length ≤ maxLen → l'.length ≤ maxLen → ∀ W,Below w.heap.size w W → ExRow W W.heap.size l' A' → ExYes b k n s l' A' c' W) :
 Calls Tryz.prog 15 #[.slice A z c,cloI b] w fun e w' => e = .returned (.bool false) ∧ Below w.heap.size w w':=by
 have HI:=Lib.hid (indexEx_any b l A c z hz hzl w hr hx hO)
 clear hz hr hO hx
 go_enter Tryz.func15,Tryz.ntmps15
 go_wp2_with fail
 refine HI.out.mono ?_
 rintro e w1 ⟨rfl,hb⟩
 have H1:=Lib.hid hb
 clear hb
 go_wp2
 go_ret
 exact ⟨rfl,H1.out⟩
theorem exprs_by (b : Nat) : ∀ (M : Nat) (l : List Ex),SizeOf.sizeOf l < M → ∀ (k n : Int) (s : List UInt8) (A : Option Addr) (c : Nat) (w : World),ExRow w w.heap.size l A → s.length ≤ maxLen → l.length ≤ maxLen → vE varB 1125899906842624 30 (.mk k n s l) = true → ExBox b w → ExYes b k n s l A c w:=by
 intro M
 induction M with
 | zero => intro l h;omega
 | succ M ih =>
   intro l hM k n s A c w hr hs hl hv hx
   unfold ExYes
   have HE : Hid (BC w 14 #[exprV k n ⟨s.toArray⟩ (.slice A l.length c)] true):=Lib.hid (fun W hb => by
    have h:=texpr_any k n s l A c W (hr.on hb) hs hl
    rw [hv] at h
    exact h)
   have HC : Hid (BC w 15 #[.slice A l.length c,cloI b] false):=Lib.hid (fun W hb => by
    refine containsEx_any b l A c l.length rfl hl W (hr.on hb) (hx.on hb) (fun k' n' s' l' A' c' hm hs' hl' W2 hb2 hr2 => ?_)
    have hsz : SizeOf.sizeOf l' < M:=by
     have h2:=List.sizeOf_lt_of_mem hm
     have h3 : SizeOf.sizeOf l' < SizeOf.sizeOf (Ex.mk k' n' s' l'):=by simp;omega
     omega
    exact ih l' hsz k' n' s' A' c' W2 hr2 hs' hl' (vE_mono (fun _ h => h) (Int.le_refl _) 29 30 (by omega) _ (vE_sub hv _ hm)) ((hx.on hb).on hb2))
   have HB:=Lib.hid (below_alloc w (exprC k n ⟨s.toArray⟩ (.slice A l.length c)))
   have hw:=hx.2
   have hw1:=(hx.on HB.out).2
   clear hr ih hM hs hv hx hl
   generalize l.length = n0 at *
   go_enter Tryz.func13,Tryz.ntmps13
   go_wp2_with fail
   refine (HE.out _ HB.out).mono ?_
   rintro e w1 ⟨rfl,hb⟩
   have H1:=Lib.hid (HB.out.chain hb)
   have c3:=cell_of_block (kept_box hb (heap_of_alloc w (exprC k n ⟨s.toArray⟩ (.slice A n0 c)))) 3 rfl
   clear hb
   go_wp2_with fail
   refine (HC.out _ H1.out).mono ?_
   rintro e w2 ⟨rfl,hb⟩
   have H2:=Lib.hid (H1.out.chain hb)
   clear hb
   go_wp2
   go_ret
   exact ⟨rfl,H2.out⟩
end Go.Proofs.YtnkpgpmaiicdeaaGreatDoor
