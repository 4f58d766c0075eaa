import Derived.Test.YthenbbpagbdbeaaGreatDoorSTypDv
import Derived.Test.YthenbbpagbdbeaaGreatDoorSTypSu
import Derived.Deep.RegionHeld3
import Derived.Lib.SliceRun
set_option linter.unusedVariables false
set_option linter.unusedSimpArgs false
namespace Go.Proofs.YthenbbpagbdbeaaGreatDoor
set_option maxRecDepth 100000
set_option maxHeartbeats 4000000
open Go.RowKit Go.Lib
abbrev pamV (x : Pm) : Value:=.agg #[.string ⟨x.t.toArray⟩,.string ⟨x.nm.toArray⟩]
abbrev pamC (x : Pm) : Obj:=.cells #[.string ⟨x.t.toArray⟩,.string ⟨x.nm.toArray⟩] 35
def IxF (P : Pm → Bool) (l : List Pm) (q : Int) : Prop:=(q = -1 ∧ l.find? P = none) ∨ ∃ (i : Nat) (x : Pm),q = i ∧ l[i]? = some x ∧ P x = true ∧ (l.take i).all (fun y => !P y) = true
theorem IxF.ixd {P : Pm → Bool} {l : List Pm} {q : Int} (h : IxF P l q) : Ixd P l q:=by
 rcases h with h | ⟨i,x,h1,h2,h3,h4⟩
 ·exact .inl h
 ·exact .inr ⟨i,x,h1,h2,find_take _ l i x h2 h4 h3⟩
theorem idxp_any (F : Nat) (hF : ∀ args w,(callFunc F args).run Tryz.prog w = .ok (.enter F args) w) (b : Nat) (P : Pm → Bool) (l : List Pm) (A : Option Addr) (c n : Nat) (hn : n = l.length) (hm : n ≤ maxLen) (B0 : Nat) (w : World) (hB0 : B0 ≤ w.heap.size) (hA : RowV VPm 2 w B0 l A)
 (HC : ∀ x ∈ l,BC w F #[pamV x,.pointer (some ⟨b,0,none⟩)] (P x)) :
 Calls Tryz.prog 46 #[.slice A n c,.func (.func F) #[] #[.pointer (some ⟨b,0,none⟩)]] w fun e w' => ∃ q : Int,e = .returned (.int .i64 q) ∧ IxF P l q ∧ Below w.heap.size w w':=by
 have HH:=Lib.hid (And.intro hA (And.intro hn (And.intro HC hB0)))
 have HG : Hid (∀ args w,(callFunc F args).run Tryz.prog w = .ok (.enter F args) w):=Lib.hid hF
 have hcl:=HG.out
 clear hA hn HC hF hB0
 unfold maxLen at hm
 go_enter Tryz.func46,Tryz.ntmps46
 go_wp2
 go_loopg [8] n (fun m j wr => ∃ k : Nat,m = n - k ∧ k ≤ n ∧ j = .int .i64 k ∧ Hid (Below w.heap.size w wr ∧ (l.take k).all (fun y => !P y) = true))
 case atStart => exact ⟨0,rfl,Nat.zero_le _,rfl,Lib.hid ⟨Below.refl _ _,by rw [List.take_zero];rfl⟩⟩
 case round =>
  obtain ⟨k,rfl,hk,rfl,HI⟩:=hrel
  have hk0 : (0 : Int) ≤ k:=by omega
  by_cases hlt : k < n
  ·have hki : (k : Int) < n:=by omega
   obtain ⟨x,hx⟩ : ∃ x,l[k]? = some x:=⟨l[k]'(by rw [← HH.out.2.1];exact hlt),List.getElem?_eq_getElem _⟩
   obtain ⟨a,cs,rfl,hab,hcs,hca,hv⟩:=HH.out.1 k x hx
   obtain ⟨hv0,hv1,hv2⟩:=hv
   have e0 : wr.cell? (a.add (k * 2)) = some (.string ⟨x.t.toArray⟩):=by
    have h:=(HI.out.1.cell (p:=(a.add (k * 2)).add 0) (by rw [block_adds,block_adds];exact Nat.lt_of_lt_of_le hab HH.out.2.2.2)).trans (hca 0 _ (by rw [hv0];rfl))
    rwa [add_add_plain,Nat.add_zero] at h
   have e1 : wr.cell? ⟨(a.add (k * 2)).block,(a.add (k * 2)).off + 1,none⟩ = some (.string ⟨x.nm.toArray⟩):=(HI.out.1.cell (p:=(a.add (k * 2)).add 1) (by rw [block_adds,block_adds];exact Nat.lt_of_lt_of_le hab HH.out.2.2.2)).trans (hca 1 _ (by rw [hv0];rfl))
   have HC:=Lib.hid (HH.out.2.2.1 x (List.mem_of_getElem? hx) wr HI.out.1)
   obtain ⟨r,hr⟩ : ∃ r,r = P x:=⟨_,rfl⟩
   rw [← hr] at HC
   have HX:=Lib.hid (And.intro hx hr)
   clear hx hr hca hab hcs hv0 hv1 hv2
   go_wp2_with fail
   refine HC.out.mono ?_
   rintro e w3 ⟨rfl,hb⟩
   have H3:=Lib.hid (HI.out.1.chain hb)
   clear hb e0 e1
   cases r
   ·go_wp2
    go_roundg (n - (k + 1))
    case measure => omega
    case rel => exact ⟨k + 1,rfl,by omega,by go_num,Lib.hid ⟨H3.out,by rw [all_take_succ (fun y => !P y) l k x HX.out.1,HI.out.2,← HX.out.2];rfl⟩⟩
   ·go_wp2
    go_ret
    exact ⟨k,rfl,.inr ⟨k,x,rfl,HX.out.1,HX.out.2.symm,HI.out.2⟩,H3.out⟩
  ·have hlt' : ¬ (k : Int) < n:=by omega
   obtain rfl : k = n:=by omega
   go_wp2
   go_ret
   refine ⟨-1,rfl,.inl ⟨rfl,find_none _ l ?_⟩,HI.out.1⟩
   have h:=HI.out.2
   rw [List.take_of_length_le (by rw [HH.out.2.1];exact Nat.le_refl _)] at h
   exact h
theorem contp_any (F : Nat) (hF : ∀ args w,(callFunc F args).run Tryz.prog w = .ok (.enter F args) w) (b : Nat) (P : Pm → Bool) (l : List Pm) (A : Option Addr) (c n : Nat) (hn : n = l.length) (hm : n ≤ maxLen) (B0 : Nat) (w : World) (hB0 : B0 ≤ w.heap.size) (hA : RowV VPm 2 w B0 l A)
 (HC : ∀ x ∈ l,BC w F #[pamV x,.pointer (some ⟨b,0,none⟩)] (P x)) :
 Calls Tryz.prog 11 #[.slice A n c,.func (.func F) #[] #[.pointer (some ⟨b,0,none⟩)]] w fun e w' => e = .returned (.bool (l.any P)) ∧ Below w.heap.size w w':=by
 have HI:=Lib.hid (idxp_any F hF b P l A c n hn hm B0 w hB0 hA HC)
 obtain ⟨r,hr⟩ : ∃ r,r = l.any P:=⟨_,rfl⟩
 have HR:=Lib.hid hr
 rw [← hr]
 clear hF hn hm hA HC hr hB0
 go_enter Tryz.func11,Tryz.ntmps11
 go_wp2_with fail
 refine HI.out.mono ?_
 rintro e w3 ⟨q,rfl,hq,hb⟩
 have hd : decide (0 ≤ q) = r:=(ixd_any hq.ixd).trans HR.out.symm
 have H3:=Lib.hid hb
 clear hq hb
 go_wp2
 go_ret
 exact ⟨rfl,H3.out⟩
theorem clash1_any (x m : Pm) (b : Nat) (w : World) (hb : b < w.heap.size) (h1 : w.cell? ⟨b,1,none⟩ = some (.string ⟨m.nm.toArray⟩)) :
 Calls Tryz.prog 12 #[pamV x,.pointer (some ⟨b,0,none⟩)] w fun e w' => e = .returned (.bool (x.nm == m.nm)) ∧ Below w.heap.size w w':=by
 obtain ⟨W1,hW1⟩ : ∃ W1,W1 = w.alloc (pamC x):=⟨_,rfl⟩
 have hb1 : Below w.heap.size w W1:=by rw [hW1];exact below_alloc w _
 have c1 : W1.cell? ⟨w.heap.size,1,none⟩ = some (.string ⟨x.nm.toArray⟩):=by rw [hW1];exact cell_of_block (heap_of_alloc w _) 1 rfl
 have c2 : W1.cell? ⟨b,1,none⟩ = some (.string ⟨m.nm.toArray⟩):=(hb1.cell (p:=⟨b,1,none⟩) hb).trans h1
 have HB1:=Lib.hid hb1
 clear hb1 h1
 go_enter Tryz.func12,Tryz.ntmps12
 go_upto_region 1 with fail
 rw [← hW1]
 clear hW1
 go_wp2
 go_ret
 exact ⟨rfl,HB1.out⟩
theorem clash_any (m : Pm) (b : Nat) (l : List Pm) (A : Option Addr) (c n : Nat) (hn : n = l.length) (hm : n ≤ maxLen) (B0 : Nat) (w : World) (hB0 : B0 ≤ w.heap.size) (hA : RowV VPm 2 w B0 l A) (hb : b < w.heap.size) (h1 : w.cell? ⟨b,1,none⟩ = some (.string ⟨m.nm.toArray⟩)) :
 Calls Tryz.prog 10 #[.slice A n c,.pointer (some ⟨b,0,none⟩)] w fun e w' => e = .returned (.bool (l.any fun x => x.nm == m.nm)) ∧ Below w.heap.size w w':=by
 have HC:=Lib.hid (contp_any 12 (enters_of Tryz.func12 (by kernel_rfl) rfl) b (fun x => x.nm == m.nm) l A c n hn hm B0 w hB0 hA (fun x _ W hw => clash1_any x m b W (Nat.lt_of_lt_of_le hb hw.size) ((hw.cell (p:=⟨b,1,none⟩) hb).trans h1)))
 obtain ⟨r,hr⟩ : ∃ r,r = l.any fun x => x.nm == m.nm:=⟨_,rfl⟩
 rw [← hr] at HC ⊢
 have hmf : ∀ (fn : Fn) (first cap : Array Value) (w : World),(Instr.makeFunc fn first cap).run Tryz.prog w = .ok (.func fn first cap) w:=fun _ _ _ _ => rfl
 clear hn hm hB0 hA hb h1 hr
 go_enter Tryz.func10,Tryz.ntmps10
 go_wp2_with fail
 (with_reducible refine HC.out.mono ?_)
 rintro e w3 ⟨rfl,hb⟩
 have H3:=Lib.hid hb
 clear hb
 go_wp2
 go_ret
 exact ⟨rfl,H3.out⟩
theorem first2_any (x : Pm) (s : List UInt8) (b n c : Nat) (a : Addr) (hn : 1 ≤ n) (w : World) (hb : b < w.heap.size) (h0 : w.cell? ⟨b,0,none⟩ = some (.slice (some a) n c)) (h1 : w.cell? a = some (.string ⟨s.toArray⟩)) :
 Calls Tryz.prog 15 #[pamV x,.pointer (some ⟨b,0,none⟩)] w fun e w' => e = .returned (.bool (x.nm == s)) ∧ Below w.heap.size w w':=by
 obtain ⟨W1,hW1⟩ : ∃ W1,W1 = w.alloc (pamC x):=⟨_,rfl⟩
 have hb1 : Below w.heap.size w W1:=by rw [hW1];exact below_alloc w _
 have hp1 : W1.heap[w.heap.size]? = some (pamC x):=by rw [hW1];exact heap_of_alloc w _
 have hmx : Tryz.prog.follows .mixedOrders = true:=by kernel_rfl
 obtain ⟨S,hS⟩ : ∃ S : World → Prop,S = fun W => Below W1.heap.size W1 W:=⟨_,rfl⟩
 have HS2 : Hid (∀ W,Below W1.heap.size W1 W → S W):=Lib.hid (fun W hb => by rw [hS];exact hb)
 have HLD : Hid (∀ W,S W → W.cell? ⟨w.heap.size,1,none⟩ = some (.string ⟨x.nm.toArray⟩) ∧ W.cell? ⟨b,0,none⟩ = some (.slice (some a) n c) ∧ W.cell? a = some (.string ⟨s.toArray⟩)):=Lib.hid (fun W hs => by
  rw [hS] at hs
  have hw:=hb1.chain hs
  refine ⟨cell_of_block (kept_box hs hp1) 1 rfl,(hw.cell (p:=⟨b,0,none⟩) hb).trans h0,?_⟩
  exact (hw.cell (World.block_lt_of_cell? w _ h1)).trans h1)
 have HX0:=Lib.hid (Below.refl W1.heap.size W1).drew
 have g0:=HS2.out _ HX0.out
 have HB1:=Lib.hid hb1
 have hn1 : ¬ n = 0:=by omega
 clear hb1 hp1 hb h0 h1 hS
 go_enter Tryz.func15,Tryz.ntmps15
 go_upto_region 1 with fail
 rw [← hW1]
 clear hW1
 refine wp_region_held (S:=S) hmx ?_
 change wpAnyH _ _ _ _ _ 7 #[false,false,false,false,false,false,false] _ W1.drew
 refine tk 0 4 (.pointer (some ⟨w.heap.size,1,none⟩)) g0 ?v ?_
 case v => intro Wx hSx;go_simp
 refine tk 1 5 (.string ⟨x.nm.toArray⟩) g0 ?v ?_
 case v => intro Wx hSx;obtain ⟨z1,z2,z3⟩:=HLD.out Wx hSx;go_simp
 refine tk 2 6 (.slice (some a) n c) g0 ?v ?_
 case v => intro Wx hSx;obtain ⟨z1,z2,z3⟩:=HLD.out Wx hSx;go_simp
 try simp only [Act.put,List.setIfInBounds_toArray,List.set_cons_zero,List.set_cons_succ]
 refine tk 3 7 (.pointer (some a)) g0 ?v ?_
 case v => intro Wx hSx;go_simp
 refine tk 4 8 (.string ⟨s.toArray⟩) g0 ?v ?_
 case v => intro Wx hSx;obtain ⟨z1,z2,z3⟩:=HLD.out Wx hSx;go_simp
 try simp only [Act.put,List.setIfInBounds_toArray,List.set_cons_zero,List.set_cons_succ]
 refine tk 5 9 (.bool (x.nm == s)) g0 ?v ?_
 case v => intro Wx hSx;go_simp
 refine tk 6 3 (.bool (x.nm == s)) g0 ?v ?_
 case v => intro Wx hSx;go_simp
 try simp only [Act.put,List.setIfInBounds_toArray,List.set_cons_zero,List.set_cons_succ]
 refine wpAnyH_done (by kernel_rfl) ?_ _
 go_wp2
 go_ret
 exact ⟨rfl,HB1.out.chain HX0.out⟩
theorem first3_any (x : Pm) (s : List UInt8) (b n c : Nat) (a : Addr) (hn : 1 ≤ n) (w : World) (hb : b < w.heap.size) (h0 : w.cell? ⟨b,0,none⟩ = some (.slice (some a) n c)) (h1 : w.cell? a = some (.string ⟨s.toArray⟩)) :
 Calls Tryz.prog 17 #[pamV x,.pointer (some ⟨b,0,none⟩)] w fun e w' => e = .returned (.bool (x.nm == s)) ∧ Below w.heap.size w w':=by
 obtain ⟨W1,hW1⟩ : ∃ W1,W1 = w.alloc (pamC x):=⟨_,rfl⟩
 have hb1 : Below w.heap.size w W1:=by rw [hW1];exact below_alloc w _
 have hp1 : W1.heap[w.heap.size]? = some (pamC x):=by rw [hW1];exact heap_of_alloc w _
 have hmx : Tryz.prog.follows .mixedOrders = true:=by kernel_rfl
 obtain ⟨S,hS⟩ : ∃ S : World → Prop,S = fun W => Below W1.heap.size W1 W:=⟨_,rfl⟩
 have HS2 : Hid (∀ W,Below W1.heap.size W1 W → S W):=Lib.hid (fun W hb => by rw [hS];exact hb)
 have HLD : Hid (∀ W,S W → W.cell? ⟨w.heap.size,1,none⟩ = some (.string ⟨x.nm.toArray⟩) ∧ W.cell? ⟨b,0,none⟩ = some (.slice (some a) n c) ∧ W.cell? a = some (.string ⟨s.toArray⟩)):=Lib.hid (fun W hs => by
  rw [hS] at hs
  have hw:=hb1.chain hs
  refine ⟨cell_of_block (kept_box hs hp1) 1 rfl,(hw.cell (p:=⟨b,0,none⟩) hb).trans h0,?_⟩
  exact (hw.cell (World.block_lt_of_cell? w _ h1)).trans h1)
 have HX0:=Lib.hid (Below.refl W1.heap.size W1).drew
 have g0:=HS2.out _ HX0.out
 have HB1:=Lib.hid hb1
 have hn1 : ¬ n = 0:=by omega
 clear hb1 hp1 hb h0 h1 hS
 go_enter Tryz.func17,Tryz.ntmps17
 go_upto_region 1 with fail
 rw [← hW1]
 clear hW1
 refine wp_region_held (S:=S) hmx ?_
 change wpAnyH _ _ _ _ _ 7 #[false,false,false,false,false,false,false] _ W1.drew
 refine tk 0 4 (.pointer (some ⟨w.heap.size,1,none⟩)) g0 ?v ?_
 case v => intro Wx hSx;go_simp
 refine tk 1 5 (.string ⟨x.nm.toArray⟩) g0 ?v ?_
 case v => intro Wx hSx;obtain ⟨z1,z2,z3⟩:=HLD.out Wx hSx;go_simp
 refine tk 2 6 (.slice (some a) n c) g0 ?v ?_
 case v => intro Wx hSx;obtain ⟨z1,z2,z3⟩:=HLD.out Wx hSx;go_simp
 try simp only [Act.put,List.setIfInBounds_toArray,List.set_cons_zero,List.set_cons_succ]
 refine tk 3 7 (.pointer (some a)) g0 ?v ?_
 case v => intro Wx hSx;go_simp
 refine tk 4 8 (.string ⟨s.toArray⟩) g0 ?v ?_
 case v => intro Wx hSx;obtain ⟨z1,z2,z3⟩:=HLD.out Wx hSx;go_simp
 try simp only [Act.put,List.setIfInBounds_toArray,List.set_cons_zero,List.set_cons_succ]
 refine tk 5 9 (.bool (x.nm == s)) g0 ?v ?_
 case v => intro Wx hSx;go_simp
 refine tk 6 3 (.bool (x.nm == s)) g0 ?v ?_
 case v => intro Wx hSx;go_simp
 try simp only [Act.put,List.setIfInBounds_toArray,List.set_cons_zero,List.set_cons_succ]
 refine wpAnyH_done (by kernel_rfl) ?_ _
 go_wp2
 go_ret
 exact ⟨rfl,HB1.out.chain HX0.out⟩
theorem clonePm_any (A : Option Addr) (c n : Nat) (l : List Pm) (hn : n = l.length) (hb : n ≤ 1000000) (w : World) (hf : RowV VPm 2 w w.heap.size l A) :
 Calls Tryz.prog 13 #[.slice A n c] w fun e w' => ∃ A' c',e = .returned (.slice A' n c') ∧ w'.ownsRow w.heap.size 35 2 (.slice A' n c') n (pcL l) ∧ Below w.heap.size w w':=by
 have hr:=pc_reads hf
 rw [← hn] at hr
 have HF:=Lib.hid (And.intro hr hn)
 clear hf hr hn
 cases A with
 | none =>
   have h0 : n = 0:=by
    rcases Nat.eq_zero_or_pos n with h | h
    ·exact h
    ·obtain ⟨a,ha,_⟩:=HF.out.1.2 h
     cases ha
   subst h0
   have hq:=Lib.run_eql_slice_nil (P:=Tryz.prog) w 23 35 none 0 c 0 0 Tryz.underlying23
   go_enter Tryz.func13,Tryz.ntmps13
   go_wp2
   go_ret
   have h1 : l = []:=List.eq_nil_of_length_eq_zero HF.out.2.symm
   rw [h1]
   exact ⟨none,0,rfl,World.ownsRow_nil w _ _ _,Below.refl _ _⟩
 | some a =>
   obtain ⟨i0,hi,hiz,his,hib⟩:=info_parts infoPmV
   have HR:=Lib.hid (And.intro (World.ownsRow_made w #[] 0 (base:=w.heap.size) (e:=35) (size:=2) (Nat.le_refl _) (by unfold maxLen;omega) rfl) (HF.out.1.alloc (Nat.le_refl _) (.cells #[] 35)))
   have HI:=Lib.hid (And.intro hi (And.intro hiz (And.intro his hib)))
   clear hi hiz his hib
   have hq:=Lib.run_eql_slice_nil (P:=Tryz.prog) w 23 35 (some a) n c 0 0 Tryz.underlying23
   go_enter Tryz.func13,Tryz.ntmps13
   go_wp2_with (at_builtin;refine wpList_append_any _ rfl _ _ 23 rfl w.heap.size 35 i0 _ 2 32 Tryz.underlying23 HI.out.1 HI.out.2.1 HI.out.2.2.1 HI.out.2.2.2 rfl (by decide) _ 0 [] rfl HR.out.1 w.heap.size (some a) n c (pcL l) rfl HR.out.2 (pcL_one _) (by unfold maxLen;omega) (by omega) (by rw [size_of_alloc];omega) ?_;intro v' w2 hown hgrow hat;have HO:=Lib.hid (And.intro hown (And.intro hgrow hat));clear hown hgrow hat)
   go_ret
   have hb : Below w.heap.size w w2:=((below_alloc w _).trans (below_grown HR.out.1 HO.out.2.1 (by rw [size_of_alloc];omega)))
   have h1:=HO.out.1
   rw [Nat.zero_add,List.nil_append] at h1
   obtain ⟨A',c',hv⟩:=own_sliceM h1
   rw [hv] at h1
   exact ⟨A',c',by rw [hv] <;> rfl,h1,hb⟩
end Go.Proofs.YthenbbpagbdbeaaGreatDoor
namespace Go.Proofs.YthenbbpagbdbeaaGreatDoor
open Go.RowKit Go.Lib
theorem pcL_set : ∀ (l : List Pm) (i : Nat) (x : Pm),pcL (l.set i x) = ((pcL l).set (i * 2) (.string ⟨x.t.toArray⟩)).set (i * 2 + 1) (.string ⟨x.nm.toArray⟩)
 | [],i,x => rfl
 | y :: l,0,x => rfl
 | y :: l,i + 1,x => by
   show .string ⟨y.t.toArray⟩ :: .string ⟨y.nm.toArray⟩ :: pcL (l.set i x) = _
   rw [pcL_set l i x,show (i + 1) * 2 = i * 2 + 1 + 1 by omega]
   rfl
theorem sc_belowP {B g : Nat} {a : World} (hB : B ≤ g) : ∀ (vs : List Value) (o : Nat) (w : World),Below B a w → Below B a (w.setCells g o vs)
 | [],_,_,h => h
 | v :: r,o,w,h => sc_belowP hB r (o + 1) (w.setCell ⟨g,o,none⟩ v) (h.setCell (p:=⟨g,o,none⟩) hB v)
theorem own_setCellsP {B g c size n : Nat} {e : TypeId} : ∀ (news : List Value) (o : Nat) (xs : List Value) (W : World),W.ownsRow B e size (.slice (some ⟨g,0,none⟩) n c) n xs →
 ∃ ys,(W.setCells g o news).ownsRow B e size (.slice (some ⟨g,0,none⟩) n c) n ys ∧ ∀ j : Nat,j < o → ys[j]? = xs[j]?
 | [],o,xs,W,h => ⟨xs,h,fun j _ => rfl⟩
 | u :: us,o,xs,W,h => by
   obtain ⟨ys,h1,h2⟩:=own_setCellsP us (o + 1) (xs.set o u) _ (h.stored o u).1
   refine ⟨ys,h1,fun j hj => ?_⟩
   rw [h2 j (by omega),List.getElem?_set_ne (by omega)]
theorem own_shortP {W : World} {B g c size n n' : Nat} {e : TypeId} {xs : List Value} (h : W.ownsRow B e size (.slice (some ⟨g,0,none⟩) n c) n xs) (hn : n' ≤ n) : W.ownsRow B e size (.slice (some ⟨g,0,none⟩) n' c) n' (xs.take (n' * size)):=by
 have hl:=h.1
 have hle : n' * size ≤ n * size:=Nat.mul_le_mul_right _ hn
 refine ⟨by rw [List.length_take];omega,?_⟩
 rcases h.2 with ⟨hv,_⟩ | ⟨g',cap,cur,hv,hB,hh,hnc,hcm,hsz,ht⟩
 ·cases hv
 ·injection hv with h1 h2 h3
  have h4 : g = g':=by injection h1 with h1;injection h1
  subst h4
  subst h3
  exact .inr ⟨g,_,cur,rfl,hB,hh,by omega,hcm,hsz,by rw [← ht,List.take_take,Nat.min_eq_left hle]⟩
def zerosP (n : Nat) : List Value:=(Builtin.zeroCells #[.string ⟨#[]⟩,.string ⟨#[]⟩] n).toList
theorem zerosP_len (n : Nat) : (zerosP n).length = n * 2:=by
 show ((Array.range (n * 2)).map fun i => (#[.string ⟨#[]⟩,.string ⟨#[]⟩] : Array Value)[i % 2]!).toList.length = n * 2
 rw [Array.length_toList,Array.size_map,Array.size_range]
theorem zerosP_one (n : Nat) : ∀ v ∈ zerosP n,v.oneCell' = true:=by
 intro v hv
 have hv2 : v ∈ (Array.range (n * 2)).map fun i => (#[.string ⟨#[]⟩,.string ⟨#[]⟩] : Array Value)[i % 2]!:=Array.mem_toList_iff.1 hv
 obtain ⟨i,_,he⟩:=Array.mem_map.1 hv2
 rw [← he]
 have h2 : i % 2 = 0 ∨ i % 2 = 1:=by omega
 rcases h2 with h | h <;> rw [h] <;> rfl
theorem run_clear_pm (w : World) (ty : TypeId) (b o n c : Nat) (hn : 0 < n) (hc : ∀ j,j < n * 2 → (w.cell? ⟨b,o + j,none⟩).isSome = true) (hf : ∀ j,j < n * 2 → w.frozen? ⟨b,o + j,none⟩ = false) :
 (Builtin.clear_ #[23] ty #[.slice (some ⟨b,o,none⟩) n c]).run Tryz.prog w = .ok (.tuple #[]) (w.setCells b o (zerosP n)):=by
 have hv : ∀ w : World,(zeroValue 35).run Tryz.prog w = .ok (.agg #[.string ⟨#[]⟩,.string ⟨#[]⟩]) w:=fun _ => by kernel_rfl
 have hst:=run_storeCells_cells (P:=Tryz.prog) b o (zerosP n) 0 w (by rw [zerosP_len];simpa using hc) (by rw [zerosP_len];simpa using hf) (zerosP_one n)
 simp only [Nat.add_zero] at hst
 have hcs : (Value.agg #[.string ⟨#[]⟩,.string ⟨#[]⟩]).cells = #[.string ⟨#[]⟩,.string ⟨#[]⟩]:=by kernel_rfl
 obtain ⟨m,rfl⟩ : ∃ m,n = m + 1:=⟨n - 1,by omega⟩
 unfold zerosP at hst ⊢
 simp [Builtin.clear_,run_underlying Tryz.underlying23,hv,hcs,hst]
def DelP (P : Pm → Bool) (l : List Pm) (B0 : Nat) (w : World) (e : Ending) (w' : World) : Prop :=
 ∃ (A : Option Addr) (m c : Nat),e = .returned (.slice A m c) ∧ m = (l.filter fun x => !P x).length ∧ RowV VPm 2 w' w'.heap.size (l.filter fun x => !P x) A ∧ Below B0 w w'
theorem filter_take_succ (P : Pm → Bool) (l : List Pm) (j : Nat) (x : Pm) (h : l[j]? = some x) : (l.take (j + 1)).filter (fun y => !P y) = (l.take j).filter (fun y => !P y) ++ if P x then [] else [x]:=by
 have e : l.take (j + 1) = l.take j ++ [x]:=by rw [List.take_add_one,h];rfl
 rw [e,List.filter_append]
 cases hp : P x <;> simp [hp]
structure DelSt (P : Pm → Bool) (l : List Pm) (B0 g n c : Nat) (w : World) (i j : Nat) (ys : List Pm) (W : World) : Prop where
 b : Below B0 w W
 len : ys.length = n
 lo : ys.take i = (l.take j).filter fun x => !P x
 hi : ys.drop j = l.drop j
 lens : ∀ x ∈ ys,x.t.length ≤ maxLen ∧ x.nm.length ≤ maxLen
 own : W.ownsRow B0 35 2 (.slice (some ⟨g,0,none⟩) n c) n (pcL ys)
theorem DelSt.elem {P : Pm → Bool} {l : List Pm} {B0 g n c : Nat} {w : World} {i j : Nat} {ys : List Pm} {W : World} (h : DelSt P l B0 g n c w i j ys W) {x : Pm} (hx : l[j]? = some x) : ys[j]? = some x:=by
 have h1 : (ys.drop j)[0]? = (l.drop j)[0]?:=by rw [h.hi]
 rw [List.getElem?_drop,List.getElem?_drop,Nat.add_zero] at h1
 rw [h1,hx]
theorem DelSt.skip {P : Pm → Bool} {l : List Pm} {B0 g n c : Nat} {w : World} {i j : Nat} {ys : List Pm} {W W' : World} (h : DelSt P l B0 g n c w i j ys W) {x : Pm} (hx : l[j]? = some x) (hp : P x = true) (hB : B0 ≤ W.heap.size) (hb : Below W.heap.size W W') : DelSt P l B0 g n c w i (j + 1) ys W':=by
 refine ⟨h.b.trans (hb.mono hB),h.len,?_,?_,h.lens,own_below h.own hb (fun g hg => (own_lt h.own g hg).2)⟩
 ·rw [filter_take_succ P l j x hx,hp,if_pos rfl,List.append_nil]
  exact h.lo
 ·rw [← List.drop_drop,← List.drop_drop,h.hi]
theorem DelSt.keep {P : Pm → Bool} {l : List Pm} {B0 g n c : Nat} {w : World} {i j : Nat} {ys : List Pm} {W W' : World} (h : DelSt P l B0 g n c w i j ys W) {x : Pm} (hx : l[j]? = some x) (hp : P x = false) (hij : i < j) (hB : B0 ≤ W.heap.size) (hb : Below W.heap.size W W') :
 DelSt P l B0 g n c w (i + 1) (j + 1) (ys.set i x) ((W'.setCell ⟨g,i * 2,none⟩ (.string ⟨x.t.toArray⟩)).setCell ⟨g,i * 2 + 1,none⟩ (.string ⟨x.nm.toArray⟩)):=by
 have hown:=own_below h.own hb (fun g hg => (own_lt h.own g hg).2)
 have hg : B0 ≤ g:=own_addr h.own _ rfl
 have hj : j < ys.length:=(List.getElem?_eq_some_iff.1 (h.elem hx)).1
 refine ⟨((h.b.trans (hb.mono hB)).setCell (p:=⟨g,i * 2,none⟩) hg _).setCell (p:=⟨g,i * 2 + 1,none⟩) hg _,by rw [List.length_set];exact h.len,?_,?_,fun y hy => ?_,?_⟩
 ·rw [filter_take_succ P l j x hx,hp,if_neg Bool.false_ne_true,← h.lo,List.take_add_one,List.take_set_of_le (Nat.le_refl _),List.getElem?_set_self (by omega)]
  rfl
 ·rw [List.drop_set_of_lt (by omega),← List.drop_drop,← List.drop_drop,h.hi]
 ·rcases List.mem_or_eq_of_mem_set hy with hy | rfl
  ·exact h.lens y hy
  ·exact h.lens y (List.mem_of_getElem? (h.elem hx))
 ·rw [pcL_set]
  exact (((hown.stored (i * 2) _).1).stored (i * 2 + 1) _).1
theorem DelSt.done {P : Pm → Bool} {l : List Pm} {B0 g n c : Nat} {w : World} {i : Nat} {ys : List Pm} {W : World} (h : DelSt P l B0 g n c w i n ys W) (hn : n = l.length) (hi : i < n) : DelP P l B0 w (.returned (.slice (some ⟨g,0,none⟩) i c)) (W.setCells g (i * 2) (zerosP (n - i))):=by
 have hg : B0 ≤ g:=own_addr h.own _ rfl
 have hlo : ys.take i = l.filter fun x => !P x:=by
  have := h.lo
  rwa [List.take_of_length_le (l:=l) (by omega)] at this
 have hil : i = (l.filter fun x => !P x).length:=by
  rw [← hlo,List.length_take,h.len]
  omega
 obtain ⟨zs,h1,h2⟩:=own_setCellsP (zerosP (n - i)) (i * 2) (pcL ys) W h.own
 refine ⟨_,i,c,rfl,hil,?_,sc_belowP hg _ _ _ h.b⟩
 have h3:=own_shortP h1 (Nat.le_of_lt hi)
 have h4 : zs.take (i * 2) = pcL (l.filter fun x => !P x):=by
  rw [← hlo]
  apply List.ext_getElem?
  intro j
  have e : pcL ys = pcL (ys.take i) ++ pcL (ys.drop i):=by rw [← pcL_append,List.take_append_drop]
  have el : (pcL (ys.take i)).length = i * 2:=by rw [pcL_len,List.length_take,h.len,Nat.min_eq_left (Nat.le_of_lt hi)]
  rw [List.getElem?_take]
  split
  ·rename_i hj
   rw [h2 j hj,e,List.getElem?_append_left (by omega)]
  ·rename_i hj
   rw [List.getElem?_eq_none (by omega)]
 rw [h4] at h3
 refine pc_row hil (Reads.of_own h3) (fun x hx => ?_)
 rw [← hlo] at hx
 exact h.lens x (List.mem_of_mem_take hx)
end Go.Proofs.YthenbbpagbdbeaaGreatDoor
namespace Go.Proofs.YthenbbpagbdbeaaGreatDoor
set_option maxRecDepth 100000
set_option maxHeartbeats 8000000
open Go.RowKit Go.Lib
theorem wrap_succ {k k1 : Nat} (h : k1 = k + 1) (hk : k ≤ 1000000) : IntKind.i64.wrap ((k : Int) + 1) = (k1 : Int):=by rw [IntKind.wrap_i64];omega
theorem wrap64_succ {k k1 : Nat} (h : k1 = k + 1) (hk : k ≤ 1000000) : wrap64 ((k : Int) + 1) = (k1 : Int):=by unfold wrap64;omega
theorem wrap_succ' {k : Nat} (hk : k ≤ 1000000) : wrap64 ((k : Int) + 1) = ((k + 1 : Nat) : Int):=by unfold wrap64;omega
theorem RowV.up {w : World} {B B' : Nat} (hB : B ≤ B') {l : List Pm} {A : Option Addr} (h : RowV VPm 2 w B l A) : RowV VPm 2 w B' l A:=fun i x hi => by
 obtain ⟨a,cs,h1,h2,h3⟩:=h i x hi
 exact ⟨a,cs,h1,Nat.lt_of_lt_of_le h2 hB,h3⟩
theorem delp_any (F : Nat) (hF : ∀ args w,(callFunc F args).run Tryz.prog w = .ok (.enter F args) w) (b : Nat) (P : Pm → Bool) (l : List Pm) (A : Option Addr) (c n : Nat) (hn : n = l.length) (hm : n ≤ 1000000) (hl : ∀ x ∈ l,x.t.length ≤ maxLen ∧ x.nm.length ≤ maxLen) (B0 : Nat) (w : World) (hB0 : B0 ≤ w.heap.size)
 (hown : w.ownsRow B0 35 2 (.slice A n c) n (pcL l))
 (HC : ∀ x ∈ l,∀ W,Below B0 w W → B0 ≤ W.heap.size → Calls Tryz.prog F #[pamV x,.pointer (some ⟨b,0,none⟩)] W fun e w' => e = .returned (.bool (P x)) ∧ Below W.heap.size W w') :
 Calls Tryz.prog 16 #[.slice A n c,.func (.func F) #[] #[.pointer (some ⟨b,0,none⟩)]] w (DelP P l B0 w):=by
 have hrow : RowV VPm 2 w w.heap.size l A:=pc_row hn (Reads.of_own hown) hl
 have HIx:=Lib.hid (idxp_any F hF b P l A c n hn (by unfold maxLen;omega) w.heap.size w (Nat.le_refl _) hrow (fun x hx W hb => HC x hx W (hb.mono hB0) (Nat.le_trans hB0 hb.size)))
 have HH:=Lib.hid (And.intro hn (And.intro hl (And.intro hB0 (And.intro hown HC))))
 have HG : Hid (∀ args w,(callFunc F args).run Tryz.prog w = .ok (.enter F args) w):=Lib.hid hF
 have hcl:=HG.out
 have hnc : n ≤ c:=by
  rcases hown.2 with ⟨hv,h0⟩ | ⟨g,cap,cur,hv,_,_,h1,_⟩
  ·omega
  ·injection hv with _ _ hv
   omega
 clear hrow hn hl hB0 hown HC hF
 go_enter Tryz.func16,Tryz.ntmps16
 go_wp2_with fail
 refine HIx.out.mono ?_
 rintro e w2 ⟨q,rfl,hq,hb⟩
 have H2:=Lib.hid hb
 clear hb
 rcases hq with ⟨rfl,hf⟩ | ⟨i0,x0,rfl,hx0,hp0,hall⟩
 ·have HF:=Lib.hid hf
  clear hf
  go_wp2
  go_ret
  have hfl : (l.filter fun x => !P x) = l:=List.filter_eq_self.2 fun x hx => by simpa using List.find?_eq_none.1 HF.out x hx
  refine ⟨A,n,c,rfl,by rw [hfl];exact HH.out.1,?_,H2.out.mono HH.out.2.2.1⟩
  rw [hfl]
  exact RowV.up H2.out.size (rowB vpm_keeps (Nat.le_refl _) H2.out (pc_row HH.out.1 (Reads.of_own HH.out.2.2.2.1) HH.out.2.1))
 ·have hi0 : i0 < n:=by rw [HH.out.1];exact (List.getElem?_eq_some_iff.1 hx0).1
  obtain ⟨g,hA,hg0⟩ : ∃ g,A = some ⟨g,0,none⟩ ∧ B0 ≤ g:=by
   obtain ⟨g,cap,hv,hg,_⟩:=HH.out.2.2.2.1.form (by omega)
   injection hv with hv _ _
   exact ⟨g,hv,hg⟩
  subst hA
  have hne : ((i0 : Int) == -1) = false:=beq_eq_false_iff_ne.2 (by omega)
  have hne2 : ¬ (i0 : Int) = -1:=by omega
  have hwr:=wrap_succ (k:=i0) rfl (Nat.le_trans (Nat.le_of_lt hi0) hm)
  have hwr2:=wrap64_succ (k:=i0) rfl (Nat.le_trans (Nat.le_of_lt hi0) hm)
  have HS0 : Hid (DelSt P l B0 g n c w i0 (i0 + 1) l w2):=Lib.hid (by
   refine ⟨H2.out.mono HH.out.2.2.1,HH.out.1.symm,?_,rfl,HH.out.2.1,own_below HH.out.2.2.2.1 H2.out (fun g hg => (own_lt HH.out.2.2.2.1 g hg).2)⟩
   rw [filter_take_succ P l i0 x0 hx0,hp0,if_pos rfl,List.append_nil]
   exact (List.filter_eq_self.2 fun x hx => List.all_eq_true.1 hall x hx).symm)
  clear hx0 hp0 hall
  go_wp2
  clear hne hne2 hwr hwr2
  go_loopg [5,6] (n - (i0 + 1)) (fun mm iv jv wr => ∃ (i j : Nat) (ys : List Pm),mm = n - j ∧ i < j ∧ j ≤ n ∧ iv = .int .i64 (i : Int) ∧ jv = .int .i64 (j : Int) ∧ Hid (DelSt P l B0 g n c w i j ys wr))
  case atStart => exact ⟨i0,i0 + 1,l,rfl,by omega,by omega,rfl,rfl,HS0⟩
  case round =>
   obtain ⟨i,j,ys,rfl,hij,hj,rfl,rfl,HI⟩:=hrel
   have hj0 : (0 : Int) ≤ j:=by omega
   have hi0' : (0 : Int) ≤ i:=by omega
   have hB : B0 ≤ wr.heap.size:=Nat.le_trans HH.out.2.2.1 HI.out.b.size
   by_cases hlt : j < n
   ·have hjj : (j : Int) < n:=by omega
    have hii : (i : Int) < n:=by omega
    obtain ⟨x,hx⟩ : ∃ x,l[j]? = some x:=⟨l[j]'(by rw [← HH.out.1];exact hlt),List.getElem?_eq_getElem _⟩
    have hcell : ∀ k,k < 2 → wr.cell? ⟨g,j * 2 + k,none⟩ = ([.string ⟨x.t.toArray⟩,.string ⟨x.nm.toArray⟩] : List Value)[k]?:=fun k hk => by
     rw [HI.out.own.cellAt _ (by omega),pcL_get ys j k hk,HI.out.elem hx]
     rfl
    have e0 : wr.cell? ⟨g,j * 2,none⟩ = some (.string ⟨x.t.toArray⟩):=hcell 0 (by omega)
    have e1 : wr.cell? ⟨g,j * 2 + 1,none⟩ = some (.string ⟨x.nm.toArray⟩):=hcell 1 (by omega)
    obtain ⟨W6,hW6⟩ : ∃ W6,W6 = wr.alloc (pamC x):=⟨_,rfl⟩
    have hb6 : Below wr.heap.size wr W6:=by rw [hW6];exact below_alloc wr _
    have hp6 : W6.heap[wr.heap.size]? = some (pamC x):=by rw [hW6];exact heap_of_alloc wr _
    have f0:=cell_of_block hp6 0 (v:=.string ⟨x.t.toArray⟩) rfl
    have f1:=cell_of_block hp6 1 (v:=.string ⟨x.nm.toArray⟩) rfl
    have HC:=Lib.hid (HH.out.2.2.2.2 x (List.mem_of_getElem? hx) W6 (HI.out.b.trans (hb6.mono hB)) (Nat.le_trans hB hb6.size))
    obtain ⟨r,hr⟩ : ∃ r,r = P x:=⟨_,rfl⟩
    rw [← hr] at HC
    have HX:=Lib.hid (And.intro hx (And.intro hr (And.intro hb6 (And.intro hp6 hB))))
    clear hx hr hcell hb6 hp6
    go_upto_region 8 with fail
    rw [← hW6]
    clear hW6 e0 e1
    go_wp2_with fail
    clear f0 f1
    refine HC.out.mono ?_
    rintro e w7 ⟨rfl,hb⟩
    have H7:=Lib.hid (HX.out.2.2.1.chain hb)
    have p7:=kept_box hb HX.out.2.2.2.1
    clear hb
    have HIL : Hid (i < j ∧ j ≤ n ∧ j < n ∧ n ≤ 1000000):=Lib.hid ⟨hij,hj,hlt,hm⟩
    cases r
    ·have hown7:=own_below HI.out.own H7.out (fun g hg => (own_lt HI.out.own g hg).2)
     have f0:=cell_of_block p7 0 (v:=.string ⟨x.t.toArray⟩) rfl
     have f1:=cell_of_block p7 1 (v:=.string ⟨x.nm.toArray⟩) rfl
     obtain ⟨u0,c0⟩ : ∃ u,w7.cell? ⟨g,i * 2,none⟩ = some u:=by
      rw [hown7.cellAt _ (by omega),List.getElem?_eq_getElem (by rw [pcL_len,HI.out.len];omega)]
      exact ⟨_,rfl⟩
     obtain ⟨u1,c1⟩ : ∃ u,w7.cell? ⟨g,i * 2 + 1,none⟩ = some u:=by
      rw [hown7.cellAt _ (by omega),List.getElem?_eq_getElem (by rw [pcL_len,HI.out.len];omega)]
      exact ⟨_,rfl⟩
     have z0:=hown7.frozenAt (i * 2)
     have z1:=hown7.frozenAt (i * 2 + 1)
     have HK:=Lib.hid (HI.out.keep HX.out.1 HX.out.2.1.symm hij HX.out.2.2.2.2 H7.out)
     clear p7 hown7 hnc hm hij hj hlt hj0 hjj
     go_wp2
     clear c0 c1 z0 z1 f0 f1 hii hi0'
     obtain ⟨hij,hj,hlt,hm⟩:=HIL.out
     go_roundg (n - (j + 1))
     case measure => omega
     case rel => exact ⟨i + 1,j + 1,_,rfl,by omega,by omega,congrArg (Value.int .i64) (wrap_succ' (by omega)),congrArg (Value.int .i64) (wrap_succ' (by omega)),HK⟩
    ·clear p7 hnc hm hij hj hlt hj0 hi0' hjj hii
     go_wp2
     obtain ⟨hij,hj,hlt,hm⟩:=HIL.out
     go_roundg (n - (j + 1))
     case measure => omega
     case rel => exact ⟨i,j + 1,ys,rfl,by omega,by omega,rfl,congrArg (Value.int .i64) (wrap_succ' (by omega)),Lib.hid (HI.out.skip HX.out.1 HX.out.2.1.symm HX.out.2.2.2.2 H7.out)⟩
   ·obtain rfl : n = j:=by omega
    have hlt' : ¬ (n : Int) < n:=by omega
    have hcl2 : ∀ ty,(Builtin.clear_ #[23] ty #[.slice (some ⟨g,i * 2,none⟩) (n - i) (c - i)]).run Tryz.prog wr = .ok (.tuple #[]) (wr.setCells g (i * 2) (zerosP (n - i))):=fun ty =>
     run_clear_pm wr ty g (i * 2) (n - i) (c - i) (by omega) (fun k hk => by
      rw [HI.out.own.cellAt _ (by omega),List.getElem?_eq_getElem (by rw [pcL_len,HI.out.len];omega)]
      rfl) (fun k _ => HI.out.own.frozenAt _)
    have hin : (i : Int) ≤ n:=by omega
    have hic : (i : Int) ≤ c:=by omega
    have hci : ¬ c = i:=by omega
    have HD:=Lib.hid (HI.out.done HH.out.1 hij)
    have htn : ((i : Int)).toNat = i:=Int.toNat_natCast i
    clear hB
    go_wp2
    go_ret
    exact HD.out
end Go.Proofs.YthenbbpagbdbeaaGreatDoor
