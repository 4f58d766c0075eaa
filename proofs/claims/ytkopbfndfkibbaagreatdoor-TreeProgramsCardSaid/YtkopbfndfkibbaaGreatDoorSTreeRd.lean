/-
  The reference's depth and Expr: what vE says.
-/
import Derived.Test.YtkopbfndfkibbaaGreatDoorSTreeR
import Derived.Test.YtkopbfndfkibbaaGreatDoorSTreeXe
set_option linter.unusedVariables false
set_option linter.unusedSimpArgs false
namespace Go.Proofs.YtkopbfndfkibbaaGreatDoor
set_option maxRecDepth 100000
set_option maxHeartbeats 20000000
open Go.RowKit
theorem opsB_zero (l : List Ex) (f : Ex → Bool) : opsB 0 l f = l.isEmpty:=by
 unfold opsB
 cases l with
 | nil => rfl
 | cons x l =>
   have : decide (((x :: l).length : Int) ≤ 0) = false:=decide_eq_false (by rw [List.length_cons];omega)
   rw [this]
   simp
theorem isEmpty_len (l : List Ex) : l.isEmpty = ((l.length : Int) == 0):=by
 cases l with
 | nil => rfl
 | cons x l =>
   have : (((x :: l).length : Int) == 0) = false:=by rw [beq_eq_false_iff_ne,List.length_cons];omega
   rw [this]
   rfl
theorem opsB_eq {m : Int} {l : List Ex} (h : (l.length : Int) = m) (f : Ex → Bool) : opsB m l f = l.all f:=by
 unfold opsB
 rw [show decide (m ≤ (l.length : Int)) = true from decide_eq_true (by omega),show decide ((l.length : Int) ≤ m) = true from decide_eq_true (by omega)]
 rfl
theorem opsB_ne {m : Int} {l : List Ex} (h : ¬ (l.length : Int) = m) (f : Ex → Bool) : opsB m l f = false:=by
 unfold opsB
 by_cases h1 : m ≤ (l.length : Int)
 ·rw [show decide ((l.length : Int) ≤ m) = false from decide_eq_false (by omega)]
  simp
 ·rw [show decide (m ≤ (l.length : Int)) = false from decide_eq_false h1]
  rfl
abbrev nuP : Int:=1125899906842624
def SdOk (d : Nat) (f : Ex → Bool) : Prop :=
 ∀ (k n : Int) (s : List UInt8) (l : List Ex) (A : Option Addr) (c : Nat) (W : World),ExRow W W.heap.size l A → s.length ≤ maxLen → l.length ≤ maxLen →
  Calls Tryz.prog 157 #[exprV k n ⟨s.toArray⟩ (.slice A l.length c),.int .i64 d] W fun e w' => e = .returned (.bool (f (.mk k n s l))) ∧ Below W.heap.size W w'
theorem sd_any : ∀ d : Nat,d ≤ 1000 → SdOk d (vE varR nuP d):=by
 intro d
 induction d with
 | zero =>
   intro _ k n s l A c W hr hs hl
   have HB:=Lib.hid (below_alloc W (exprC k n ⟨s.toArray⟩ (.slice A l.length c)))
   go_enter Tryz.func157,Tryz.ntmps157
   go_wp2
   go_ret
   exact ⟨rfl,HB.out⟩
 | succ d ih =>
   intro hd k n s l A c W hr hs hl
   have HB:=Lib.hid (below_alloc W (exprC k n ⟨s.toArray⟩ (.slice A l.length c)))
   have hX:=heap_of_alloc W (exprC k n ⟨s.toArray⟩ (.slice A l.length c))
   have HX:=Lib.hid hX
   have HI : Hid (∀ W,Calls Tryz.prog 85 #[.int .i64 n,.int .i64 1125899906842624] W fun e w' => e = .returned (.bool (inR nuP n)) ∧ W = w'):=Lib.hid (fun W => within_any n nuP (by decide) (by decide) W)
   have HV : Hid (∀ W,Calls Tryz.prog 79 #[.string ⟨s.toArray⟩] W fun e w' => e = .returned (.bool (varR s)) ∧ Below W.heap.size W w'):=Lib.hid (fun W => svariable_any s W hs)
   have HR:=Lib.hid (And.intro hr (ih (by omega)))
   have hm : ((d + 1 : Nat) : Int) = (d : Int) + 1:=by omega
   rw [hm]
   have hne : ¬ ((d : Int) + 1 < 1):=by omega
   have hd' : (d : Int) ≤ 1000:=by omega
   unfold vE
   generalize hvd : vE varR nuP d = vd at *
   have HVD:=Lib.hid hvd
   have HIR0 : Hid (n = 0 → inR nuP n = true):=Lib.hid (fun h => by subst h;rfl)
   generalize inR nuP n = ir at *
   clear hvd ih hr hX hm
   unfold maxLen at hs hl
   by_cases k1 : k = 1
   ·subst k1
    rw [if_pos rfl]
    cases ir with
    | false =>
      go_enter Tryz.func157,Tryz.ntmps157
      go_wp2_with (first
       | (go_at_call 85;refine (HI.out _).mono ?_;rintro e w2 ⟨rfl,rfl⟩))
      go_ret
      exact ⟨rfl,HB.out⟩
    | true =>
      rcases s with _ | ⟨x,s⟩
      ·dsimp only [List.isEmpty]
       rw [opsB_zero,isEmpty_len]
       go_enter Tryz.func157,Tryz.ntmps157
       go_wp2_with (first
        | (go_at_call 85;refine (HI.out _).mono ?_;rintro e w2 ⟨rfl,rfl⟩))
       go_ret
       exact ⟨rfl,HB.out⟩
      ·
        go_enter Tryz.func157,Tryz.ntmps157
        go_wp2_with (first
         | (go_at_call 85;refine (HI.out _).mono ?_;rintro e w2 ⟨rfl,rfl⟩))
        go_ret
        exact ⟨rfl,HB.out⟩
   rw [if_neg k1]
   by_cases k2 : k = 2
   ·subst k2
    rw [if_pos rfl]
    cases hvs : varR s with
    | false =>
      rw [hvs] at HV
      have HVS:=Lib.hid hvs
      clear hvs
      rw [Bool.and_false,Bool.false_and]
      go_enter Tryz.func157,Tryz.ntmps157
      go_wp2_with (first
       | (go_at_call 85;refine (HI.out _).mono ?_;rintro e w2 ⟨rfl,rfl⟩)
       | (go_at_call 79;refine (HV.out _).mono ?_;rintro e w2 ⟨rfl,hb2⟩;have HB2:=Lib.hid (HB.out.chain hb2);have hc2:=kept_box hb2 HX.out;have n1:=cell_of_block hc2 1 rfl;have n3:=cell_of_block hc2 3 (v:=.slice A l.length c) rfl;clear hb2 hc2))
      go_ret
      exact ⟨rfl,HB2.out⟩
    | true =>
      rw [hvs] at HV
      have HVS:=Lib.hid hvs
      clear hvs
      by_cases hn : n = 0
      ·subst hn
       rw [opsB_zero,isEmpty_len]
       go_enter Tryz.func157,Tryz.ntmps157
       go_wp2_with (first
        | (go_at_call 85;refine (HI.out _).mono ?_;rintro e w2 ⟨rfl,rfl⟩)
        | (go_at_call 79;refine (HV.out _).mono ?_;rintro e w2 ⟨rfl,hb2⟩;have HB2:=Lib.hid (HB.out.chain hb2);have hc2:=kept_box hb2 HX.out;have n1:=cell_of_block hc2 1 rfl;have n3:=cell_of_block hc2 3 (v:=.slice A l.length c) rfl;clear hb2 hc2))
       go_ret
       exact ⟨rfl,HB2.out⟩
      ·have hnb : (n == 0) = false:=by simpa using hn
       rw [hnb]
       clear hnb
       go_enter Tryz.func157,Tryz.ntmps157
       go_wp2_with (first
        | (go_at_call 85;refine (HI.out _).mono ?_;rintro e w2 ⟨rfl,rfl⟩)
        | (go_at_call 79;refine (HV.out _).mono ?_;rintro e w2 ⟨rfl,hb2⟩;have HB2:=Lib.hid (HB.out.chain hb2);have hc2:=kept_box hb2 HX.out;have n1:=cell_of_block hc2 1 rfl;have n3:=cell_of_block hc2 3 (v:=.slice A l.length c) rfl;clear hb2 hc2))
       go_ret
       exact ⟨rfl,HB2.out⟩
   rw [if_neg k2]
   by_cases k3 : k = 3
   ·subst k3
    rw [if_pos rfl]
    by_cases hn : n = 0
    ·subst hn
     rcases s with _ | ⟨x,s⟩
     ·dsimp only [List.isEmpty]
      rw [opsB_zero,isEmpty_len]
      go_enter Tryz.func157,Tryz.ntmps157
      go_wp2_with (first
       | (go_at_call 85;refine (HI.out _).mono ?_;rintro e w2 ⟨rfl,rfl⟩))
      go_ret
      exact ⟨rfl,HB.out⟩
     ·
       go_enter Tryz.func157,Tryz.ntmps157
       go_wp2_with (first
        | (go_at_call 85;refine (HI.out _).mono ?_;rintro e w2 ⟨rfl,rfl⟩))
       go_ret
       exact ⟨rfl,HB.out⟩
    ·have hnb : (n == 0) = false:=by simpa using hn
     rw [hnb]
     clear hnb
     go_enter Tryz.func157,Tryz.ntmps157
     go_wp2_with (first
      | (go_at_call 85;refine (HI.out _).mono ?_;rintro e w2 ⟨rfl,rfl⟩))
     go_ret
     exact ⟨rfl,HB.out⟩
   rw [if_neg k3]
   by_cases k4 : k = 4
   ·subst k4
    rw [if_pos (Or.inl rfl)]
    by_cases hn : n = 0
    ·subst hn
     have hin : ir = true:=HIR0.out rfl
     subst hin
     by_cases hlen : (l.length : Int) = 2
     ·rcases s with _ | ⟨x,s⟩
      ·dsimp only [List.isEmpty]
       have HLM : Hid (True ∧ l.length = 2):=Lib.hid ⟨trivial,by omega⟩
       rw [opsB_eq hlen]
       go_enter Tryz.func157,Tryz.ntmps157
       go_wp2_with (first | (go_at_call 85;refine (HI.out _).mono ?_;rintro e w2 ⟨rfl,rfl⟩))
       go_loopg [6] 2 (fun m j wr => ∃ i : Nat,m = 2 - i ∧ i ≤ 2 ∧ j = .int .i64 i ∧ Hid (Below W.heap.size W wr ∧ wr.heap[W.heap.size]? = some (exprC 4 0 ⟨#[]⟩ (.slice A l.length c)) ∧ (l.take i).all vd = true))
       case atStart => exact ⟨0,rfl,Nat.zero_le _,rfl,Lib.hid ⟨HB.out,HX.out,rfl⟩⟩
       case round =>
        obtain ⟨i,rfl,hi,rfl,HIv⟩:=hrel
        by_cases hlt : i < 2
        ·have hki : (i : Int) < 2:=by omega
         have hlm:=HLM.out.2
         have hkl : (i : Int) < l.length:=by omega
         obtain ⟨⟨k1',n1',s1,l1⟩,hx⟩ : ∃ x,l[i]? = some x:=⟨l[i]'(by omega),List.getElem?_eq_getElem _⟩
         obtain ⟨a,A',c',rfl,hab,d0,d1,d2,d3,hs1,hll1,hrow⟩:=(HR.out.1.stay HIv.out.1 (Nat.le_refl _)).at_ hx
         have c0:=d0
         have c1 : wr.cell? ⟨(a.add (i * 4)).block,(a.add (i * 4)).off + 1,none⟩ = some (.int .i64 n1'):=d1
         have c2 : wr.cell? ⟨(a.add (i * 4)).block,(a.add (i * 4)).off + 2,none⟩ = some (.string ⟨s1.toArray⟩):=d2
         have c3 : wr.cell? ⟨(a.add (i * 4)).block,(a.add (i * 4)).off + 3,none⟩ = some (.slice A' l1.length c'):=d3
         have b3:=cell_of_block HIv.out.2.1 3 (v:=.slice (some a) l.length c) rfl
         have HC:=Lib.hid (HR.out.2 k1' n1' s1 l1 A' c' wr (hrow.more HIv.out.1.size) hs1 hll1)
         have HT:=Lib.hid (And.intro hx (all_take_succ vd l i _ hx))
         have hw1 : IntKind.i64.wrap (d : Int) = d:=by rw [IntKind.wrap_i64];omega
         clear d0 d1 d2 d3 hrow hs1 hll1 hx hlm
         obtain ⟨okx,hokx⟩ : ∃ b,b = vd (.mk k1' n1' s1 l1):=⟨_,rfl⟩
         rw [← hokx] at HC HT
         have HO:=Lib.hid hokx
         clear hokx
         cases okx with
         | false =>
           go_wp2_with (go_at_call 157;refine HC.out.mono ?_;rintro e w3 ⟨rfl,hb⟩;have HB3:=Lib.hid (HIv.out.1.chain hb);clear hb)
           go_ret
           exact ⟨by rw [all_of_false vd l i _ HT.out.1 HO.out.symm];rfl,HB3.out⟩
         | true =>
           go_wp2_with (go_at_call 157;refine HC.out.mono ?_;rintro e w3 ⟨rfl,hb⟩;have HB3:=Lib.hid (And.intro (HIv.out.1.chain hb) (kept_box hb HIv.out.2.1));clear hb)
           go_roundg (2 - (i + 1))
           case measure => omega
           case rel => exact ⟨i + 1,rfl,by omega,by go_num,Lib.hid ⟨HB3.out.1,HB3.out.2,by rw [HT.out.2,HIv.out.2.2];rfl⟩⟩
        ·obtain rfl : i = 2:=by omega
         go_wp2
         go_ret
         refine ⟨?_,HIv.out.1⟩
         have := HIv.out.2.2
         rw [List.take_of_length_le (by have := HLM.out.2;omega)] at this
         rw [this]
         rfl
      ·rw [show (x :: s).isEmpty = false from rfl,Bool.and_false,Bool.false_and]
       go_enter Tryz.func157,Tryz.ntmps157
       go_wp2_with (first
        | (go_at_call 85;refine (HI.out _).mono ?_;rintro e w2 ⟨rfl,rfl⟩))
       go_ret
       exact ⟨rfl,HB.out⟩
     ·rw [opsB_ne hlen,Bool.and_false]
      go_enter Tryz.func157,Tryz.ntmps157
      go_wp2_with (first
       | (go_at_call 85;refine (HI.out _).mono ?_;rintro e w2 ⟨rfl,rfl⟩))
      go_ret
      exact ⟨rfl,HB.out⟩
    ·have hnb : (n == 0) = false:=by simpa using hn
     rw [hnb]
     clear hnb
     rw [Bool.false_and,Bool.false_and]
     by_cases hlen : (l.length : Int) = 2
     ·rcases s with _ | ⟨x,s⟩
      ·
        go_enter Tryz.func157,Tryz.ntmps157
        go_wp2_with (first
         | (go_at_call 85;refine (HI.out _).mono ?_;rintro e w2 ⟨rfl,rfl⟩))
        go_ret
        exact ⟨rfl,HB.out⟩
      ·
        go_enter Tryz.func157,Tryz.ntmps157
        go_wp2_with (first
         | (go_at_call 85;refine (HI.out _).mono ?_;rintro e w2 ⟨rfl,rfl⟩))
        go_ret
        exact ⟨rfl,HB.out⟩
     ·
       go_enter Tryz.func157,Tryz.ntmps157
       go_wp2_with (first
        | (go_at_call 85;refine (HI.out _).mono ?_;rintro e w2 ⟨rfl,rfl⟩))
       go_ret
       exact ⟨rfl,HB.out⟩
   by_cases k5 : k = 5
   ·subst k5
    rw [if_pos (Or.inr rfl)]
    by_cases hn : n = 0
    ·subst hn
     have hin : ir = true:=HIR0.out rfl
     subst hin
     by_cases hlen : (l.length : Int) = 2
     ·rcases s with _ | ⟨x,s⟩
      ·dsimp only [List.isEmpty]
       have HLM : Hid (True ∧ l.length = 2):=Lib.hid ⟨trivial,by omega⟩
       rw [opsB_eq hlen]
       go_enter Tryz.func157,Tryz.ntmps157
       go_wp2_with (first | (go_at_call 85;refine (HI.out _).mono ?_;rintro e w2 ⟨rfl,rfl⟩))
       go_loopg [6] 2 (fun m j wr => ∃ i : Nat,m = 2 - i ∧ i ≤ 2 ∧ j = .int .i64 i ∧ Hid (Below W.heap.size W wr ∧ wr.heap[W.heap.size]? = some (exprC 5 0 ⟨#[]⟩ (.slice A l.length c)) ∧ (l.take i).all vd = true))
       case atStart => exact ⟨0,rfl,Nat.zero_le _,rfl,Lib.hid ⟨HB.out,HX.out,rfl⟩⟩
       case round =>
        obtain ⟨i,rfl,hi,rfl,HIv⟩:=hrel
        by_cases hlt : i < 2
        ·have hki : (i : Int) < 2:=by omega
         have hlm:=HLM.out.2
         have hkl : (i : Int) < l.length:=by omega
         obtain ⟨⟨k1',n1',s1,l1⟩,hx⟩ : ∃ x,l[i]? = some x:=⟨l[i]'(by omega),List.getElem?_eq_getElem _⟩
         obtain ⟨a,A',c',rfl,hab,d0,d1,d2,d3,hs1,hll1,hrow⟩:=(HR.out.1.stay HIv.out.1 (Nat.le_refl _)).at_ hx
         have c0:=d0
         have c1 : wr.cell? ⟨(a.add (i * 4)).block,(a.add (i * 4)).off + 1,none⟩ = some (.int .i64 n1'):=d1
         have c2 : wr.cell? ⟨(a.add (i * 4)).block,(a.add (i * 4)).off + 2,none⟩ = some (.string ⟨s1.toArray⟩):=d2
         have c3 : wr.cell? ⟨(a.add (i * 4)).block,(a.add (i * 4)).off + 3,none⟩ = some (.slice A' l1.length c'):=d3
         have b3:=cell_of_block HIv.out.2.1 3 (v:=.slice (some a) l.length c) rfl
         have HC:=Lib.hid (HR.out.2 k1' n1' s1 l1 A' c' wr (hrow.more HIv.out.1.size) hs1 hll1)
         have HT:=Lib.hid (And.intro hx (all_take_succ vd l i _ hx))
         have hw1 : IntKind.i64.wrap (d : Int) = d:=by rw [IntKind.wrap_i64];omega
         clear d0 d1 d2 d3 hrow hs1 hll1 hx hlm
         obtain ⟨okx,hokx⟩ : ∃ b,b = vd (.mk k1' n1' s1 l1):=⟨_,rfl⟩
         rw [← hokx] at HC HT
         have HO:=Lib.hid hokx
         clear hokx
         cases okx with
         | false =>
           go_wp2_with (go_at_call 157;refine HC.out.mono ?_;rintro e w3 ⟨rfl,hb⟩;have HB3:=Lib.hid (HIv.out.1.chain hb);clear hb)
           go_ret
           exact ⟨by rw [all_of_false vd l i _ HT.out.1 HO.out.symm];rfl,HB3.out⟩
         | true =>
           go_wp2_with (go_at_call 157;refine HC.out.mono ?_;rintro e w3 ⟨rfl,hb⟩;have HB3:=Lib.hid (And.intro (HIv.out.1.chain hb) (kept_box hb HIv.out.2.1));clear hb)
           go_roundg (2 - (i + 1))
           case measure => omega
           case rel => exact ⟨i + 1,rfl,by omega,by go_num,Lib.hid ⟨HB3.out.1,HB3.out.2,by rw [HT.out.2,HIv.out.2.2];rfl⟩⟩
        ·obtain rfl : i = 2:=by omega
         go_wp2
         go_ret
         refine ⟨?_,HIv.out.1⟩
         have := HIv.out.2.2
         rw [List.take_of_length_le (by have := HLM.out.2;omega)] at this
         rw [this]
         rfl
      ·rw [show (x :: s).isEmpty = false from rfl,Bool.and_false,Bool.false_and]
       go_enter Tryz.func157,Tryz.ntmps157
       go_wp2_with (first
        | (go_at_call 85;refine (HI.out _).mono ?_;rintro e w2 ⟨rfl,rfl⟩))
       go_ret
       exact ⟨rfl,HB.out⟩
     ·rw [opsB_ne hlen,Bool.and_false]
      go_enter Tryz.func157,Tryz.ntmps157
      go_wp2_with (first
       | (go_at_call 85;refine (HI.out _).mono ?_;rintro e w2 ⟨rfl,rfl⟩))
      go_ret
      exact ⟨rfl,HB.out⟩
    ·have hnb : (n == 0) = false:=by simpa using hn
     rw [hnb]
     clear hnb
     rw [Bool.false_and,Bool.false_and]
     by_cases hlen : (l.length : Int) = 2
     ·rcases s with _ | ⟨x,s⟩
      ·
        go_enter Tryz.func157,Tryz.ntmps157
        go_wp2_with (first
         | (go_at_call 85;refine (HI.out _).mono ?_;rintro e w2 ⟨rfl,rfl⟩))
        go_ret
        exact ⟨rfl,HB.out⟩
      ·
        go_enter Tryz.func157,Tryz.ntmps157
        go_wp2_with (first
         | (go_at_call 85;refine (HI.out _).mono ?_;rintro e w2 ⟨rfl,rfl⟩))
        go_ret
        exact ⟨rfl,HB.out⟩
     ·
       go_enter Tryz.func157,Tryz.ntmps157
       go_wp2_with (first
        | (go_at_call 85;refine (HI.out _).mono ?_;rintro e w2 ⟨rfl,rfl⟩))
       go_ret
       exact ⟨rfl,HB.out⟩
   rw [if_neg (by rintro (h | h);exact k4 h;exact k5 h)]
   by_cases k6 : k = 6
   ·subst k6
    rw [if_pos rfl]
    cases ir with
    | false =>
      rw [Bool.false_and,Bool.false_and]
      by_cases hlen : (l.length : Int) = 1
      ·rcases s with _ | ⟨x,s⟩
       ·
         go_enter Tryz.func157,Tryz.ntmps157
         go_wp2_with (first
          | (go_at_call 85;refine (HI.out _).mono ?_;rintro e w2 ⟨rfl,rfl⟩))
         go_ret
         exact ⟨rfl,HB.out⟩
       ·
         go_enter Tryz.func157,Tryz.ntmps157
         go_wp2_with (first
          | (go_at_call 85;refine (HI.out _).mono ?_;rintro e w2 ⟨rfl,rfl⟩))
         go_ret
         exact ⟨rfl,HB.out⟩
      ·
        go_enter Tryz.func157,Tryz.ntmps157
        go_wp2_with (first
         | (go_at_call 85;refine (HI.out _).mono ?_;rintro e w2 ⟨rfl,rfl⟩))
        go_ret
        exact ⟨rfl,HB.out⟩
    | true =>
      by_cases hlen : (l.length : Int) = 1
      ·rcases s with _ | ⟨x,s⟩
       ·dsimp only [List.isEmpty]
        have HLM : Hid (True ∧ l.length = 1):=Lib.hid ⟨trivial,by omega⟩
        rw [opsB_eq hlen]
        go_enter Tryz.func157,Tryz.ntmps157
        go_wp2_with (first | (go_at_call 85;refine (HI.out _).mono ?_;rintro e w2 ⟨rfl,rfl⟩))
        go_loopg [6] 1 (fun m j wr => ∃ i : Nat,m = 1 - i ∧ i ≤ 1 ∧ j = .int .i64 i ∧ Hid (Below W.heap.size W wr ∧ wr.heap[W.heap.size]? = some (exprC 6 n ⟨#[]⟩ (.slice A l.length c)) ∧ (l.take i).all vd = true))
        case atStart => exact ⟨0,rfl,Nat.zero_le _,rfl,Lib.hid ⟨HB.out,HX.out,rfl⟩⟩
        case round =>
         obtain ⟨i,rfl,hi,rfl,HIv⟩:=hrel
         by_cases hlt : i < 1
         ·have hki : (i : Int) < 1:=by omega
          have hlm:=HLM.out.2
          have hkl : (i : Int) < l.length:=by omega
          obtain ⟨⟨k1',n1',s1,l1⟩,hx⟩ : ∃ x,l[i]? = some x:=⟨l[i]'(by omega),List.getElem?_eq_getElem _⟩
          obtain ⟨a,A',c',rfl,hab,d0,d1,d2,d3,hs1,hll1,hrow⟩:=(HR.out.1.stay HIv.out.1 (Nat.le_refl _)).at_ hx
          have c0:=d0
          have c1 : wr.cell? ⟨(a.add (i * 4)).block,(a.add (i * 4)).off + 1,none⟩ = some (.int .i64 n1'):=d1
          have c2 : wr.cell? ⟨(a.add (i * 4)).block,(a.add (i * 4)).off + 2,none⟩ = some (.string ⟨s1.toArray⟩):=d2
          have c3 : wr.cell? ⟨(a.add (i * 4)).block,(a.add (i * 4)).off + 3,none⟩ = some (.slice A' l1.length c'):=d3
          have b3:=cell_of_block HIv.out.2.1 3 (v:=.slice (some a) l.length c) rfl
          have HC:=Lib.hid (HR.out.2 k1' n1' s1 l1 A' c' wr (hrow.more HIv.out.1.size) hs1 hll1)
          have HT:=Lib.hid (And.intro hx (all_take_succ vd l i _ hx))
          have hw1 : IntKind.i64.wrap (d : Int) = d:=by rw [IntKind.wrap_i64];omega
          clear d0 d1 d2 d3 hrow hs1 hll1 hx hlm
          obtain ⟨okx,hokx⟩ : ∃ b,b = vd (.mk k1' n1' s1 l1):=⟨_,rfl⟩
          rw [← hokx] at HC HT
          have HO:=Lib.hid hokx
          clear hokx
          cases okx with
          | false =>
            go_wp2_with (go_at_call 157;refine HC.out.mono ?_;rintro e w3 ⟨rfl,hb⟩;have HB3:=Lib.hid (HIv.out.1.chain hb);clear hb)
            go_ret
            exact ⟨by rw [all_of_false vd l i _ HT.out.1 HO.out.symm];rfl,HB3.out⟩
          | true =>
            go_wp2_with (go_at_call 157;refine HC.out.mono ?_;rintro e w3 ⟨rfl,hb⟩;have HB3:=Lib.hid (And.intro (HIv.out.1.chain hb) (kept_box hb HIv.out.2.1));clear hb)
            go_roundg (1 - (i + 1))
            case measure => omega
            case rel => exact ⟨i + 1,rfl,by omega,by go_num,Lib.hid ⟨HB3.out.1,HB3.out.2,by rw [HT.out.2,HIv.out.2.2];rfl⟩⟩
         ·obtain rfl : i = 1:=by omega
          go_wp2
          go_ret
          refine ⟨?_,HIv.out.1⟩
          have := HIv.out.2.2
          rw [List.take_of_length_le (by have := HLM.out.2;omega)] at this
          rw [this]
          rfl
       ·rw [show (x :: s).isEmpty = false from rfl,Bool.and_false,Bool.false_and]
        go_enter Tryz.func157,Tryz.ntmps157
        go_wp2_with (first
         | (go_at_call 85;refine (HI.out _).mono ?_;rintro e w2 ⟨rfl,rfl⟩))
        go_ret
        exact ⟨rfl,HB.out⟩
      ·rw [opsB_ne hlen,Bool.and_false]
       go_enter Tryz.func157,Tryz.ntmps157
       go_wp2_with (first
        | (go_at_call 85;refine (HI.out _).mono ?_;rintro e w2 ⟨rfl,rfl⟩))
       go_ret
       exact ⟨rfl,HB.out⟩
   rw [if_neg k6]
   go_enter Tryz.func157,Tryz.ntmps157
   go_wp2_with (first
    | (go_at_call 85;refine (HI.out _).mono ?_;rintro e w2 ⟨rfl,rfl⟩))
   go_ret
   exact ⟨rfl,HB.out⟩
theorem sexpr_any (k n : Int) (s : List UInt8) (l : List Ex) (A : Option Addr) (c : Nat) (w : World) (hr : ExRow w w.heap.size l A) (hs : s.length ≤ maxLen) (hl : l.length ≤ maxLen) :
 Calls Tryz.prog 125 #[exprV k n ⟨s.toArray⟩ (.slice A l.length c)] w fun e w' => e = .returned (.bool (vE varR nuP 30 (.mk k n s l))) ∧ Below w.heap.size w w':=by
 have HB:=Lib.hid (below_alloc w (exprC k n ⟨s.toArray⟩ (.slice A l.length c)))
 have HC:=Lib.hid (sd_any 30 (by omega) k n s l A c (w.alloc (exprC k n ⟨s.toArray⟩ (.slice A l.length c))) ((hr.stay HB.out (Nat.le_refl _)).more HB.out.size) hs hl)
 generalize vE varR nuP 30 (.mk k n s l) = res at *
 unfold maxLen at hl hs
 clear hr
 go_enter Tryz.func125,Tryz.ntmps125
 go_wp2_with (go_at_call 157;refine HC.out.mono ?_;rintro e w3 ⟨rfl,hb⟩)
 go_ret
 exact ⟨rfl,HB.out.chain hb⟩
end Go.Proofs.YtkopbfndfkibbaaGreatDoor
