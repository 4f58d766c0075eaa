import Derived.Test.YtbalioicgpgehaaGreatDoorSTreeXv
import Derived.Test.YtbalioicgpgehaaGreatDoorSTreeL
set_option linter.unusedVariables false
set_option linter.unusedSimpArgs false
namespace Go.Proofs.YtbalioicgpgehaaGreatDoor
set_option maxRecDepth 100000
set_option maxHeartbeats 4000000
open Go.RowKit
theorem sletter_any (c : Int) (w : World) :
 Calls Tryz.prog 206 #[.int .u8 c] w fun e w' => e = .returned (.bool (isLetter c)) ∧ w = w':=by
 unfold isLetter
 by_cases h1 : 97 ≤ c <;> by_cases h2 : c ≤ 122 <;> by_cases h3 : 65 ≤ c <;> by_cases h4 : c ≤ 90
 all_goals
  go_enter Tryz.func206,Tryz.ntmps206
  go_wp2
  first
   | (exfalso;omega)
   | (go_ret;exact ⟨by simp [h1,h2,h3,h4],rfl⟩)
theorem spart_any (c : Int) (w : World) :
 Calls Tryz.prog 169 #[.int .u8 c] w fun e w' => e = .returned (.bool (isPart c)) ∧ w = w':=by
 unfold isPart isDigit
 have HL0 : ∀ w,Calls Tryz.prog 206 #[.int .u8 c] w fun e w' => e = .returned (.bool (isLetter c)) ∧ w = w':=fun w => sletter_any c w
 have HL:=Lib.hid HL0
 clear HL0
 generalize isLetter c = b1 at *
 by_cases h3 : c = 95
 ·subst h3
  cases b1
  all_goals
   go_enter Tryz.func169,Tryz.ntmps169
   go_wp2_with (first | (go_at_call 206;refine (HL.out _).mono ?_;rintro e w' ⟨rfl,rfl⟩))
   go_ret
   exact ⟨rfl,rfl⟩
 ·have h4 : (c == 95) = false:=by rw [beq_eq_false_iff_ne];exact h3
  have E4:=Lib.hid h4
  cases b1 <;> by_cases h1 : 48 ≤ c <;> by_cases h2 : c ≤ 57
  all_goals
   first
    | (exfalso;omega)
    | (have E1:=Lib.hid h1
       have E2:=Lib.hid h2
       go_enter Tryz.func169,Tryz.ntmps169
       go_wp2_with (first | (go_at_call 206;refine (HL.out _).mono ?_;rintro e w' ⟨rfl,rfl⟩))
       go_ret
       first
        | exact ⟨by have f1:=E1.out;have f2:=E2.out;simp [f1,f2,E4.out],rfl⟩
        | exact ⟨by have f1:=E1.out;have f2:=E2.out;simp [E4.out];omega,rfl⟩
        | exact ⟨by have f1:=E1.out;have f2:=E2.out;simp [E4.out],rfl⟩)
theorem rest_any (s : ByteArray) (w : World) (hs : s.size ≤ maxLen) :
 Calls Tryz.prog 130 #[.string s] w fun e w' => e = .returned (.bool (s.data.toList.all prt)) ∧ w = w':=by
 unfold maxLen at hs
 generalize hr : s.data.toList.all prt = r
 have HR:=Lib.hid hr
 clear hr
 go_enter Tryz.func130,Tryz.ntmps130
 go_wp2
 go_loop [3] (fun j => ∃ k : Nat,k ≤ s.size ∧ j = .int .i64 k ∧ Hid ((s.data.toList.take k).all prt = true)) (fun j => s.size - (intOf j).toNat)
 case atStart => exact ⟨0,Nat.zero_le _,rfl,rfl⟩
 case round =>
  obtain ⟨k,hk,rfl,HA⟩:=hrel
  by_cases hlt : k < s.size
  ·cases hd : prt s[k] with
   | true =>
     have HT:=Lib.hid (all_prt_snoc s k hlt HA.out hd)
     have HP : Hid (∀ w,Calls Tryz.prog 169 #[.int .u8 (s[k].toNat : Int)] w fun e w' => e = .returned (.bool true) ∧ w = w'):=Lib.hid (fun w => hd ▸ prt_isPart s[k] ▸ spart_any _ w)
     clear hd
     go_wp2_with (first | (go_at_call 169;refine (HP.out _).mono ?_;rintro e w' ⟨rfl,rfl⟩))
     go_round
     case rel => exact ⟨k + 1,by omega,by go_num,HT⟩
     case measure => simp [intOf];omega
   | false =>
     have HF : Hid (r = false):=Lib.hid (HR.out ▸ not_all_prt s k hlt hd)
     have HP : Hid (∀ w,Calls Tryz.prog 169 #[.int .u8 (s[k].toNat : Int)] w fun e w' => e = .returned (.bool false) ∧ w = w'):=Lib.hid (fun w => hd ▸ prt_isPart s[k] ▸ spart_any _ w)
     clear hd
     go_wp2_with (first | (go_at_call 169;refine (HP.out _).mono ?_;rintro e w' ⟨rfl,rfl⟩))
     go_ret
     exact ⟨by rw [HF.out] <;> rfl,rfl⟩
  ·have HF : Hid (r = true):=Lib.hid (by rw [← HR.out,← HA.out,List.take_of_length_le (by rw [size_list];omega)])
   go_wp2
   go_ret
   exact ⟨by rw [HF.out] <;> rfl,rfl⟩
theorem within_any (n nu : Int) (h0 : 0 ≤ nu) (h1 : nu ≤ 4611686018427387904) (w : World) : Calls Tryz.prog 173 #[.int .i64 n,.int .i64 nu] w fun e w' => e = .returned (.bool (inR nu n)) ∧ w = w':=by
 unfold inR
 by_cases h2 : -nu ≤ n
 ·by_cases h3 : n ≤ nu
  ·have h4 : 0 - nu ≤ n:=by omega
   go_enter Tryz.func173,Tryz.ntmps173
   go_wp2
   go_ret
   exact ⟨by simp [h2,h3],rfl⟩
  ·have h4 : 0 - nu ≤ n:=by omega
   go_enter Tryz.func173,Tryz.ntmps173
   go_wp2
   go_ret
   exact ⟨by simp [h3],rfl⟩
 ·have h4 : ¬ 0 - nu ≤ n:=by omega
  go_enter Tryz.func173,Tryz.ntmps173
  go_wp2
  go_ret
  exact ⟨by rw [show decide (-nu ≤ n) = false from decide_eq_false (by omega)];rfl,rfl⟩
theorem sname_any (l : List UInt8) (w : World) (hl : l.length ≤ maxLen) :
 Calls Tryz.prog 83 #[.string ⟨l.toArray⟩] w fun e w' => e = .returned (.bool (nameR l)) ∧ Below w.heap.size w w':=by
 have HN : Hid (∀ w,Calls Tryz.prog 131 #[.string ⟨l.toArray⟩] w fun e w' => e = .returned (.bool (nameR l)) ∧ Below w.heap.size w w'):=Lib.hid (fun w => rname_any l w hl)
 generalize nameR l = nr at *
 go_enter Tryz.func83,Tryz.ntmps83
 go_wp2_with (first | (go_at_call 131;refine (HN.out _).mono ?_;rintro e w' ⟨rfl,hb⟩))
 go_ret
 exact ⟨rfl,hb⟩
def varR (s : List UInt8) : Bool:=nameR s || (decide (2 ≤ s.length) && decide (s.length ≤ 20) && (s.head? == some 36) && (s.drop 1).all prt)
theorem svariable_any (l : List UInt8) (w : World) (hl : l.length ≤ maxLen) :
 Calls Tryz.prog 82 #[.string ⟨l.toArray⟩] w fun e w' => e = .returned (.bool (varR l)) ∧ Below w.heap.size w w':=by
 have HN : Hid (∀ w,Calls Tryz.prog 83 #[.string ⟨l.toArray⟩] w fun e w' => e = .returned (.bool (nameR l)) ∧ Below w.heap.size w w'):=Lib.hid (fun w => sname_any l w hl)
 unfold varR
 generalize nameR l = nr at *
 cases nr with
 | true =>
   go_enter Tryz.func82,Tryz.ntmps82
   go_wp2_with (first | (go_at_call 83;refine (HN.out _).mono ?_;rintro e w2 ⟨rfl,hb⟩;have HB:=Lib.hid hb;clear hb))
   go_ret
   exact ⟨rfl,HB.out⟩
 | false =>
   rw [Bool.false_or]
   obtain ⟨s,hs⟩ : ∃ s : ByteArray,s = ⟨l.toArray⟩:=⟨_,rfl⟩
   have hsz : s.size = l.length:=by rw [hs];rfl
   have HS:=Lib.hid hs
   rw [← hs] at HN ⊢
   clear hs
   by_cases h2 : 2 ≤ l.length
   ·by_cases h20 : l.length ≤ 20
    ·have k1 : (2 : Int) ≤ s.size:=by omega
     have k2 : (s.size : Int) ≤ 20:=by omega
     have h0 : 0 < s.size:=by omega
     have HD:=Lib.hid (And.intro (decide_eq_true h2) (decide_eq_true h20))
     have hx : (s.extract 1 l.length).data.toList = l.drop 1:=by
      rw [← hsz,Lib.extract_to_end,HS.out]
     have HRs : Hid (∀ w,Calls Tryz.prog 130 #[.string (s.extract 1 l.length)] w fun e w' => e = .returned (.bool ((l.drop 1).all prt)) ∧ w = w'):=Lib.hid (fun w => by
      have := rest_any (s.extract 1 l.length) w (by rw [ByteArray.size_extract];unfold maxLen;omega)
      rwa [hx] at this)
     have hhd : l.head? = some s[0]:=by
      have e : l = s.data.toList:=by rw [HS.out]
      rw [e,List.head?_eq_getElem?,List.getElem?_eq_getElem (by rw [size_list];exact h0)]
      rfl
     have HH:=Lib.hid hhd
     generalize (l.drop 1).all prt = rs at *
     clear hx hhd
     by_cases c36 : s[0] = 36
     ·have q36 : (s[0].toNat : Int) = 36:=by rw [c36];rfl
      have HC:=Lib.hid c36
      clear c36
      go_enter Tryz.func82,Tryz.ntmps82
      go_wp2_with (first
       | (go_at_call 83;refine (HN.out _).mono ?_;rintro e w2 ⟨rfl,hb⟩;have HB:=Lib.hid hb;clear hb)
       | (go_at_call 130;refine (HRs.out _).mono ?_;rintro e w3 ⟨rfl,rfl⟩))
      go_ret
      exact ⟨by rw [HD.out.1,HD.out.2,HH.out,HC.out];rfl,HB.out⟩
     ·have q36 : ¬ (s[0].toNat : Int) = 36:=fun e => c36 (UInt8.toNat_inj.1 (show s[0].toNat = 36 by omega))
      have HC:=Lib.hid c36
      clear c36
      go_enter Tryz.func82,Tryz.ntmps82
      go_wp2_with (first
       | (go_at_call 83;refine (HN.out _).mono ?_;rintro e w2 ⟨rfl,hb⟩;have HB:=Lib.hid hb;clear hb))
      go_ret
      refine ⟨?_,HB.out⟩
      have : (some s[0] == some (36 : UInt8)) = false:=by
       rw [beq_eq_false_iff_ne]
       intro e
       exact HC.out (Option.some.inj e)
      rw [HD.out.1,HD.out.2,HH.out,this]
      rfl
    ·have k1 : (2 : Int) ≤ s.size:=by omega
     have k2 : ¬ (s.size : Int) ≤ 20:=by omega
     have HD:=Lib.hid (decide_eq_false h20)
     unfold maxLen at hl
     go_enter Tryz.func82,Tryz.ntmps82
     go_wp2_with (first
      | (go_at_call 83;refine (HN.out _).mono ?_;rintro e w2 ⟨rfl,hb⟩;have HB:=Lib.hid hb;clear hb))
     go_ret
     exact ⟨rfl,HB.out⟩
   ·have k1 : ¬ (2 : Int) ≤ s.size:=by omega
    have HD:=Lib.hid (decide_eq_false h2)
    unfold maxLen at hl
    go_enter Tryz.func82,Tryz.ntmps82
    go_wp2_with (first
     | (go_at_call 83;refine (HN.out _).mono ?_;rintro e w2 ⟨rfl,hb⟩;have HB:=Lib.hid hb;clear hb))
    go_ret
    exact ⟨rfl,HB.out⟩
end Go.Proofs.YtbalioicgpgehaaGreatDoor
namespace Go.Proofs.YtbalioicgpgehaaGreatDoor
set_option maxRecDepth 100000
set_option maxHeartbeats 20000000
open Go.RowKit
theorem opsB_zero (l : List Ex) (f : Ex → Bool) : opsB 0 l f = l.isEmpty:=by
 unfold opsB
 cases l with
 | nil => rfl
 | cons x l =>
   have : decide (((x :: l).length : Int) ≤ 0) = false:=decide_eq_false (by rw [List.length_cons];omega)
   rw [this]
   simp
theorem isEmpty_len (l : List Ex) : l.isEmpty = ((l.length : Int) == 0):=by
 cases l with
 | nil => rfl
 | cons x l =>
   have : (((x :: l).length : Int) == 0) = false:=by rw [beq_eq_false_iff_ne,List.length_cons];omega
   rw [this]
   rfl
theorem opsB_eq {m : Int} {l : List Ex} (h : (l.length : Int) = m) (f : Ex → Bool) : opsB m l f = l.all f:=by
 unfold opsB
 rw [show decide (m ≤ (l.length : Int)) = true from decide_eq_true (by omega),show decide ((l.length : Int) ≤ m) = true from decide_eq_true (by omega)]
 rfl
theorem opsB_ne {m : Int} {l : List Ex} (h : ¬ (l.length : Int) = m) (f : Ex → Bool) : opsB m l f = false:=by
 unfold opsB
 by_cases h1 : m ≤ (l.length : Int)
 ·rw [show decide ((l.length : Int) ≤ m) = false from decide_eq_false (by omega)]
  simp
 ·rw [show decide (m ≤ (l.length : Int)) = false from decide_eq_false h1]
  rfl
abbrev nuP : Int:=1125899906842624
def SdOk (d : Nat) (f : Ex → Bool) : Prop :=
 ∀ (k n : Int) (s : List UInt8) (l : List Ex) (A : Option Addr) (c : Nat) (W : World),ExRow W W.heap.size l A → s.length ≤ maxLen → l.length ≤ maxLen →
  Calls Tryz.prog 132 #[exprV k n ⟨s.toArray⟩ (.slice A l.length c),.int .i64 d] W fun e w' => e = .returned (.bool (f (.mk k n s l))) ∧ Below W.heap.size W w'
theorem sd_any : ∀ d : Nat,d ≤ 1000 → SdOk d (vE varR nuP d):=by
 intro d
 induction d with
 | zero =>
   intro _ k n s l A c W hr hs hl
   have HB:=Lib.hid (below_alloc W (exprC k n ⟨s.toArray⟩ (.slice A l.length c)))
   go_enter Tryz.func132,Tryz.ntmps132
   go_wp2
   go_ret
   exact ⟨rfl,HB.out⟩
 | succ d ih =>
   intro hd k n s l A c W hr hs hl
   have HB:=Lib.hid (below_alloc W (exprC k n ⟨s.toArray⟩ (.slice A l.length c)))
   have hX:=heap_of_alloc W (exprC k n ⟨s.toArray⟩ (.slice A l.length c))
   have HX:=Lib.hid hX
   have HI : Hid (∀ W,Calls Tryz.prog 173 #[.int .i64 n,.int .i64 1125899906842624] W fun e w' => e = .returned (.bool (inR nuP n)) ∧ W = w'):=Lib.hid (fun W => within_any n nuP (by decide) (by decide) W)
   have HV : Hid (∀ W,Calls Tryz.prog 82 #[.string ⟨s.toArray⟩] W fun e w' => e = .returned (.bool (varR s)) ∧ Below W.heap.size W w'):=Lib.hid (fun W => svariable_any s W hs)
   have HR:=Lib.hid (And.intro hr (ih (by omega)))
   have hm : ((d + 1 : Nat) : Int) = (d : Int) + 1:=by omega
   rw [hm]
   have hne : ¬ ((d : Int) + 1 < 1):=by omega
   have hd' : (d : Int) ≤ 1000:=by omega
   unfold vE
   generalize hvd : vE varR nuP d = vd at *
   have HVD:=Lib.hid hvd
   have HIR0 : Hid (n = 0 → inR nuP n = true):=Lib.hid (fun h => by subst h;rfl)
   generalize inR nuP n = ir at *
   clear hvd ih hr hX hm
   unfold maxLen at hs hl
   by_cases k1 : k = 1
   ·subst k1
    rw [if_pos rfl]
    cases ir with
    | false =>
      go_enter Tryz.func132,Tryz.ntmps132
      go_wp2_with (first
       | (go_at_call 173;refine (HI.out _).mono ?_;rintro e w2 ⟨rfl,rfl⟩))
      go_ret
      exact ⟨rfl,HB.out⟩
    | true =>
      rcases s with _ | ⟨x,s⟩
      ·dsimp only [List.isEmpty]
       rw [opsB_zero,isEmpty_len]
       go_enter Tryz.func132,Tryz.ntmps132
       go_wp2_with (first
        | (go_at_call 173;refine (HI.out _).mono ?_;rintro e w2 ⟨rfl,rfl⟩))
       go_ret
       exact ⟨rfl,HB.out⟩
      ·
        go_enter Tryz.func132,Tryz.ntmps132
        go_wp2_with (first
         | (go_at_call 173;refine (HI.out _).mono ?_;rintro e w2 ⟨rfl,rfl⟩))
        go_ret
        exact ⟨rfl,HB.out⟩
   rw [if_neg k1]
   by_cases k2 : k = 2
   ·subst k2
    rw [if_pos rfl]
    cases hvs : varR s with
    | false =>
      rw [hvs] at HV
      have HVS:=Lib.hid hvs
      clear hvs
      rw [Bool.and_false,Bool.false_and]
      go_enter Tryz.func132,Tryz.ntmps132
      go_wp2_with (first
       | (go_at_call 173;refine (HI.out _).mono ?_;rintro e w2 ⟨rfl,rfl⟩)
       | (go_at_call 82;refine (HV.out _).mono ?_;rintro e w2 ⟨rfl,hb2⟩;have HB2:=Lib.hid (HB.out.chain hb2);have hc2:=kept_box hb2 HX.out;have n1:=cell_of_block hc2 1 rfl;have n3:=cell_of_block hc2 3 (v:=.slice A l.length c) rfl;clear hb2 hc2))
      go_ret
      exact ⟨rfl,HB2.out⟩
    | true =>
      rw [hvs] at HV
      have HVS:=Lib.hid hvs
      clear hvs
      by_cases hn : n = 0
      ·subst hn
       rw [opsB_zero,isEmpty_len]
       go_enter Tryz.func132,Tryz.ntmps132
       go_wp2_with (first
        | (go_at_call 173;refine (HI.out _).mono ?_;rintro e w2 ⟨rfl,rfl⟩)
        | (go_at_call 82;refine (HV.out _).mono ?_;rintro e w2 ⟨rfl,hb2⟩;have HB2:=Lib.hid (HB.out.chain hb2);have hc2:=kept_box hb2 HX.out;have n1:=cell_of_block hc2 1 rfl;have n3:=cell_of_block hc2 3 (v:=.slice A l.length c) rfl;clear hb2 hc2))
       go_ret
       exact ⟨rfl,HB2.out⟩
      ·have hnb : (n == 0) = false:=by simpa using hn
       rw [hnb]
       clear hnb
       go_enter Tryz.func132,Tryz.ntmps132
       go_wp2_with (first
        | (go_at_call 173;refine (HI.out _).mono ?_;rintro e w2 ⟨rfl,rfl⟩)
        | (go_at_call 82;refine (HV.out _).mono ?_;rintro e w2 ⟨rfl,hb2⟩;have HB2:=Lib.hid (HB.out.chain hb2);have hc2:=kept_box hb2 HX.out;have n1:=cell_of_block hc2 1 rfl;have n3:=cell_of_block hc2 3 (v:=.slice A l.length c) rfl;clear hb2 hc2))
       go_ret
       exact ⟨rfl,HB2.out⟩
   rw [if_neg k2]
   by_cases k3 : k = 3
   ·subst k3
    rw [if_pos rfl]
    by_cases hn : n = 0
    ·subst hn
     rcases s with _ | ⟨x,s⟩
     ·dsimp only [List.isEmpty]
      rw [opsB_zero,isEmpty_len]
      go_enter Tryz.func132,Tryz.ntmps132
      go_wp2_with (first
       | (go_at_call 173;refine (HI.out _).mono ?_;rintro e w2 ⟨rfl,rfl⟩))
      go_ret
      exact ⟨rfl,HB.out⟩
     ·
       go_enter Tryz.func132,Tryz.ntmps132
       go_wp2_with (first
        | (go_at_call 173;refine (HI.out _).mono ?_;rintro e w2 ⟨rfl,rfl⟩))
       go_ret
       exact ⟨rfl,HB.out⟩
    ·have hnb : (n == 0) = false:=by simpa using hn
     rw [hnb]
     clear hnb
     go_enter Tryz.func132,Tryz.ntmps132
     go_wp2_with (first
      | (go_at_call 173;refine (HI.out _).mono ?_;rintro e w2 ⟨rfl,rfl⟩))
     go_ret
     exact ⟨rfl,HB.out⟩
   rw [if_neg k3]
   by_cases k4 : k = 4
   ·subst k4
    rw [if_pos (Or.inl rfl)]
    by_cases hn : n = 0
    ·subst hn
     have hin : ir = true:=HIR0.out rfl
     subst hin
     by_cases hlen : (l.length : Int) = 2
     ·rcases s with _ | ⟨x,s⟩
      ·dsimp only [List.isEmpty]
       have HLM : Hid (True ∧ l.length = 2):=Lib.hid ⟨trivial,by omega⟩
       rw [opsB_eq hlen]
       go_enter Tryz.func132,Tryz.ntmps132
       go_wp2_with (first | (go_at_call 173;refine (HI.out _).mono ?_;rintro e w2 ⟨rfl,rfl⟩))
       go_loopg [6] 2 (fun m j wr => ∃ i : Nat,m = 2 - i ∧ i ≤ 2 ∧ j = .int .i64 i ∧ Hid (Below W.heap.size W wr ∧ wr.heap[W.heap.size]? = some (exprC 4 0 ⟨#[]⟩ (.slice A l.length c)) ∧ (l.take i).all vd = true))
       case atStart => exact ⟨0,rfl,Nat.zero_le _,rfl,Lib.hid ⟨HB.out,HX.out,rfl⟩⟩
       case round =>
        obtain ⟨i,rfl,hi,rfl,HIv⟩:=hrel
        by_cases hlt : i < 2
        ·have hki : (i : Int) < 2:=by omega
         have hlm:=HLM.out.2
         have hkl : (i : Int) < l.length:=by omega
         obtain ⟨⟨k1',n1',s1,l1⟩,hx⟩ : ∃ x,l[i]? = some x:=⟨l[i]'(by omega),List.getElem?_eq_getElem _⟩
         obtain ⟨a,A',c',rfl,hab,d0,d1,d2,d3,hs1,hll1,hrow⟩:=(HR.out.1.stay HIv.out.1 (Nat.le_refl _)).at_ hx
         have c0:=d0
         have c1 : wr.cell? ⟨(a.add (i * 4)).block,(a.add (i * 4)).off + 1,none⟩ = some (.int .i64 n1'):=d1
         have c2 : wr.cell? ⟨(a.add (i * 4)).block,(a.add (i * 4)).off + 2,none⟩ = some (.string ⟨s1.toArray⟩):=d2
         have c3 : wr.cell? ⟨(a.add (i * 4)).block,(a.add (i * 4)).off + 3,none⟩ = some (.slice A' l1.length c'):=d3
         have b3:=cell_of_block HIv.out.2.1 3 (v:=.slice (some a) l.length c) rfl
         have HC:=Lib.hid (HR.out.2 k1' n1' s1 l1 A' c' wr (hrow.more HIv.out.1.size) hs1 hll1)
         have HT:=Lib.hid (And.intro hx (all_take_succ vd l i _ hx))
         have hw1 : IntKind.i64.wrap (d : Int) = d:=by rw [IntKind.wrap_i64];omega
         clear d0 d1 d2 d3 hrow hs1 hll1 hx hlm
         obtain ⟨okx,hokx⟩ : ∃ b,b = vd (.mk k1' n1' s1 l1):=⟨_,rfl⟩
         rw [← hokx] at HC HT
         have HO:=Lib.hid hokx
         clear hokx
         cases okx with
         | false =>
           go_wp2_with (go_at_call 132;refine HC.out.mono ?_;rintro e w3 ⟨rfl,hb⟩;have HB3:=Lib.hid (HIv.out.1.chain hb);clear hb)
           go_ret
           exact ⟨by rw [all_of_false vd l i _ HT.out.1 HO.out.symm];rfl,HB3.out⟩
         | true =>
           go_wp2_with (go_at_call 132;refine HC.out.mono ?_;rintro e w3 ⟨rfl,hb⟩;have HB3:=Lib.hid (And.intro (HIv.out.1.chain hb) (kept_box hb HIv.out.2.1));clear hb)
           go_roundg (2 - (i + 1))
           case measure => omega
           case rel => exact ⟨i + 1,rfl,by omega,by go_num,Lib.hid ⟨HB3.out.1,HB3.out.2,by rw [HT.out.2,HIv.out.2.2];rfl⟩⟩
        ·obtain rfl : i = 2:=by omega
         go_wp2
         go_ret
         refine ⟨?_,HIv.out.1⟩
         have := HIv.out.2.2
         rw [List.take_of_length_le (by have := HLM.out.2;omega)] at this
         rw [this]
         rfl
      ·rw [show (x :: s).isEmpty = false from rfl,Bool.and_false,Bool.false_and]
       go_enter Tryz.func132,Tryz.ntmps132
       go_wp2_with (first
        | (go_at_call 173;refine (HI.out _).mono ?_;rintro e w2 ⟨rfl,rfl⟩))
       go_ret
       exact ⟨rfl,HB.out⟩
     ·rw [opsB_ne hlen,Bool.and_false]
      go_enter Tryz.func132,Tryz.ntmps132
      go_wp2_with (first
       | (go_at_call 173;refine (HI.out _).mono ?_;rintro e w2 ⟨rfl,rfl⟩))
      go_ret
      exact ⟨rfl,HB.out⟩
    ·have hnb : (n == 0) = false:=by simpa using hn
     rw [hnb]
     clear hnb
     rw [Bool.false_and,Bool.false_and]
     by_cases hlen : (l.length : Int) = 2
     ·rcases s with _ | ⟨x,s⟩
      ·
        go_enter Tryz.func132,Tryz.ntmps132
        go_wp2_with (first
         | (go_at_call 173;refine (HI.out _).mono ?_;rintro e w2 ⟨rfl,rfl⟩))
        go_ret
        exact ⟨rfl,HB.out⟩
      ·
        go_enter Tryz.func132,Tryz.ntmps132
        go_wp2_with (first
         | (go_at_call 173;refine (HI.out _).mono ?_;rintro e w2 ⟨rfl,rfl⟩))
        go_ret
        exact ⟨rfl,HB.out⟩
     ·
       go_enter Tryz.func132,Tryz.ntmps132
       go_wp2_with (first
        | (go_at_call 173;refine (HI.out _).mono ?_;rintro e w2 ⟨rfl,rfl⟩))
       go_ret
       exact ⟨rfl,HB.out⟩
   by_cases k5 : k = 5
   ·subst k5
    rw [if_pos (Or.inr rfl)]
    by_cases hn : n = 0
    ·subst hn
     have hin : ir = true:=HIR0.out rfl
     subst hin
     by_cases hlen : (l.length : Int) = 2
     ·rcases s with _ | ⟨x,s⟩
      ·dsimp only [List.isEmpty]
       have HLM : Hid (True ∧ l.length = 2):=Lib.hid ⟨trivial,by omega⟩
       rw [opsB_eq hlen]
       go_enter Tryz.func132,Tryz.ntmps132
       go_wp2_with (first | (go_at_call 173;refine (HI.out _).mono ?_;rintro e w2 ⟨rfl,rfl⟩))
       go_loopg [6] 2 (fun m j wr => ∃ i : Nat,m = 2 - i ∧ i ≤ 2 ∧ j = .int .i64 i ∧ Hid (Below W.heap.size W wr ∧ wr.heap[W.heap.size]? = some (exprC 5 0 ⟨#[]⟩ (.slice A l.length c)) ∧ (l.take i).all vd = true))
       case atStart => exact ⟨0,rfl,Nat.zero_le _,rfl,Lib.hid ⟨HB.out,HX.out,rfl⟩⟩
       case round =>
        obtain ⟨i,rfl,hi,rfl,HIv⟩:=hrel
        by_cases hlt : i < 2
        ·have hki : (i : Int) < 2:=by omega
         have hlm:=HLM.out.2
         have hkl : (i : Int) < l.length:=by omega
         obtain ⟨⟨k1',n1',s1,l1⟩,hx⟩ : ∃ x,l[i]? = some x:=⟨l[i]'(by omega),List.getElem?_eq_getElem _⟩
         obtain ⟨a,A',c',rfl,hab,d0,d1,d2,d3,hs1,hll1,hrow⟩:=(HR.out.1.stay HIv.out.1 (Nat.le_refl _)).at_ hx
         have c0:=d0
         have c1 : wr.cell? ⟨(a.add (i * 4)).block,(a.add (i * 4)).off + 1,none⟩ = some (.int .i64 n1'):=d1
         have c2 : wr.cell? ⟨(a.add (i * 4)).block,(a.add (i * 4)).off + 2,none⟩ = some (.string ⟨s1.toArray⟩):=d2
         have c3 : wr.cell? ⟨(a.add (i * 4)).block,(a.add (i * 4)).off + 3,none⟩ = some (.slice A' l1.length c'):=d3
         have b3:=cell_of_block HIv.out.2.1 3 (v:=.slice (some a) l.length c) rfl
         have HC:=Lib.hid (HR.out.2 k1' n1' s1 l1 A' c' wr (hrow.more HIv.out.1.size) hs1 hll1)
         have HT:=Lib.hid (And.intro hx (all_take_succ vd l i _ hx))
         have hw1 : IntKind.i64.wrap (d : Int) = d:=by rw [IntKind.wrap_i64];omega
         clear d0 d1 d2 d3 hrow hs1 hll1 hx hlm
         obtain ⟨okx,hokx⟩ : ∃ b,b = vd (.mk k1' n1' s1 l1):=⟨_,rfl⟩
         rw [← hokx] at HC HT
         have HO:=Lib.hid hokx
         clear hokx
         cases okx with
         | false =>
           go_wp2_with (go_at_call 132;refine HC.out.mono ?_;rintro e w3 ⟨rfl,hb⟩;have HB3:=Lib.hid (HIv.out.1.chain hb);clear hb)
           go_ret
           exact ⟨by rw [all_of_false vd l i _ HT.out.1 HO.out.symm];rfl,HB3.out⟩
         | true =>
           go_wp2_with (go_at_call 132;refine HC.out.mono ?_;rintro e w3 ⟨rfl,hb⟩;have HB3:=Lib.hid (And.intro (HIv.out.1.chain hb) (kept_box hb HIv.out.2.1));clear hb)
           go_roundg (2 - (i + 1))
           case measure => omega
           case rel => exact ⟨i + 1,rfl,by omega,by go_num,Lib.hid ⟨HB3.out.1,HB3.out.2,by rw [HT.out.2,HIv.out.2.2];rfl⟩⟩
        ·obtain rfl : i = 2:=by omega
         go_wp2
         go_ret
         refine ⟨?_,HIv.out.1⟩
         have := HIv.out.2.2
         rw [List.take_of_length_le (by have := HLM.out.2;omega)] at this
         rw [this]
         rfl
      ·rw [show (x :: s).isEmpty = false from rfl,Bool.and_false,Bool.false_and]
       go_enter Tryz.func132,Tryz.ntmps132
       go_wp2_with (first
        | (go_at_call 173;refine (HI.out _).mono ?_;rintro e w2 ⟨rfl,rfl⟩))
       go_ret
       exact ⟨rfl,HB.out⟩
     ·rw [opsB_ne hlen,Bool.and_false]
      go_enter Tryz.func132,Tryz.ntmps132
      go_wp2_with (first
       | (go_at_call 173;refine (HI.out _).mono ?_;rintro e w2 ⟨rfl,rfl⟩))
      go_ret
      exact ⟨rfl,HB.out⟩
    ·have hnb : (n == 0) = false:=by simpa using hn
     rw [hnb]
     clear hnb
     rw [Bool.false_and,Bool.false_and]
     by_cases hlen : (l.length : Int) = 2
     ·rcases s with _ | ⟨x,s⟩
      ·
        go_enter Tryz.func132,Tryz.ntmps132
        go_wp2_with (first
         | (go_at_call 173;refine (HI.out _).mono ?_;rintro e w2 ⟨rfl,rfl⟩))
        go_ret
        exact ⟨rfl,HB.out⟩
      ·
        go_enter Tryz.func132,Tryz.ntmps132
        go_wp2_with (first
         | (go_at_call 173;refine (HI.out _).mono ?_;rintro e w2 ⟨rfl,rfl⟩))
        go_ret
        exact ⟨rfl,HB.out⟩
     ·
       go_enter Tryz.func132,Tryz.ntmps132
       go_wp2_with (first
        | (go_at_call 173;refine (HI.out _).mono ?_;rintro e w2 ⟨rfl,rfl⟩))
       go_ret
       exact ⟨rfl,HB.out⟩
   rw [if_neg (by rintro (h | h);exact k4 h;exact k5 h)]
   by_cases k6 : k = 6
   ·subst k6
    rw [if_pos rfl]
    cases ir with
    | false =>
      rw [Bool.false_and,Bool.false_and]
      by_cases hlen : (l.length : Int) = 1
      ·rcases s with _ | ⟨x,s⟩
       ·
         go_enter Tryz.func132,Tryz.ntmps132
         go_wp2_with (first
          | (go_at_call 173;refine (HI.out _).mono ?_;rintro e w2 ⟨rfl,rfl⟩))
         go_ret
         exact ⟨rfl,HB.out⟩
       ·
         go_enter Tryz.func132,Tryz.ntmps132
         go_wp2_with (first
          | (go_at_call 173;refine (HI.out _).mono ?_;rintro e w2 ⟨rfl,rfl⟩))
         go_ret
         exact ⟨rfl,HB.out⟩
      ·
        go_enter Tryz.func132,Tryz.ntmps132
        go_wp2_with (first
         | (go_at_call 173;refine (HI.out _).mono ?_;rintro e w2 ⟨rfl,rfl⟩))
        go_ret
        exact ⟨rfl,HB.out⟩
    | true =>
      by_cases hlen : (l.length : Int) = 1
      ·rcases s with _ | ⟨x,s⟩
       ·dsimp only [List.isEmpty]
        have HLM : Hid (True ∧ l.length = 1):=Lib.hid ⟨trivial,by omega⟩
        rw [opsB_eq hlen]
        go_enter Tryz.func132,Tryz.ntmps132
        go_wp2_with (first | (go_at_call 173;refine (HI.out _).mono ?_;rintro e w2 ⟨rfl,rfl⟩))
        go_loopg [6] 1 (fun m j wr => ∃ i : Nat,m = 1 - i ∧ i ≤ 1 ∧ j = .int .i64 i ∧ Hid (Below W.heap.size W wr ∧ wr.heap[W.heap.size]? = some (exprC 6 n ⟨#[]⟩ (.slice A l.length c)) ∧ (l.take i).all vd = true))
        case atStart => exact ⟨0,rfl,Nat.zero_le _,rfl,Lib.hid ⟨HB.out,HX.out,rfl⟩⟩
        case round =>
         obtain ⟨i,rfl,hi,rfl,HIv⟩:=hrel
         by_cases hlt : i < 1
         ·have hki : (i : Int) < 1:=by omega
          have hlm:=HLM.out.2
          have hkl : (i : Int) < l.length:=by omega
          obtain ⟨⟨k1',n1',s1,l1⟩,hx⟩ : ∃ x,l[i]? = some x:=⟨l[i]'(by omega),List.getElem?_eq_getElem _⟩
          obtain ⟨a,A',c',rfl,hab,d0,d1,d2,d3,hs1,hll1,hrow⟩:=(HR.out.1.stay HIv.out.1 (Nat.le_refl _)).at_ hx
          have c0:=d0
          have c1 : wr.cell? ⟨(a.add (i * 4)).block,(a.add (i * 4)).off + 1,none⟩ = some (.int .i64 n1'):=d1
          have c2 : wr.cell? ⟨(a.add (i * 4)).block,(a.add (i * 4)).off + 2,none⟩ = some (.string ⟨s1.toArray⟩):=d2
          have c3 : wr.cell? ⟨(a.add (i * 4)).block,(a.add (i * 4)).off + 3,none⟩ = some (.slice A' l1.length c'):=d3
          have b3:=cell_of_block HIv.out.2.1 3 (v:=.slice (some a) l.length c) rfl
          have HC:=Lib.hid (HR.out.2 k1' n1' s1 l1 A' c' wr (hrow.more HIv.out.1.size) hs1 hll1)
          have HT:=Lib.hid (And.intro hx (all_take_succ vd l i _ hx))
          have hw1 : IntKind.i64.wrap (d : Int) = d:=by rw [IntKind.wrap_i64];omega
          clear d0 d1 d2 d3 hrow hs1 hll1 hx hlm
          obtain ⟨okx,hokx⟩ : ∃ b,b = vd (.mk k1' n1' s1 l1):=⟨_,rfl⟩
          rw [← hokx] at HC HT
          have HO:=Lib.hid hokx
          clear hokx
          cases okx with
          | false =>
            go_wp2_with (go_at_call 132;refine HC.out.mono ?_;rintro e w3 ⟨rfl,hb⟩;have HB3:=Lib.hid (HIv.out.1.chain hb);clear hb)
            go_ret
            exact ⟨by rw [all_of_false vd l i _ HT.out.1 HO.out.symm];rfl,HB3.out⟩
          | true =>
            go_wp2_with (go_at_call 132;refine HC.out.mono ?_;rintro e w3 ⟨rfl,hb⟩;have HB3:=Lib.hid (And.intro (HIv.out.1.chain hb) (kept_box hb HIv.out.2.1));clear hb)
            go_roundg (1 - (i + 1))
            case measure => omega
            case rel => exact ⟨i + 1,rfl,by omega,by go_num,Lib.hid ⟨HB3.out.1,HB3.out.2,by rw [HT.out.2,HIv.out.2.2];rfl⟩⟩
         ·obtain rfl : i = 1:=by omega
          go_wp2
          go_ret
          refine ⟨?_,HIv.out.1⟩
          have := HIv.out.2.2
          rw [List.take_of_length_le (by have := HLM.out.2;omega)] at this
          rw [this]
          rfl
       ·rw [show (x :: s).isEmpty = false from rfl,Bool.and_false,Bool.false_and]
        go_enter Tryz.func132,Tryz.ntmps132
        go_wp2_with (first
         | (go_at_call 173;refine (HI.out _).mono ?_;rintro e w2 ⟨rfl,rfl⟩))
        go_ret
        exact ⟨rfl,HB.out⟩
      ·rw [opsB_ne hlen,Bool.and_false]
       go_enter Tryz.func132,Tryz.ntmps132
       go_wp2_with (first
        | (go_at_call 173;refine (HI.out _).mono ?_;rintro e w2 ⟨rfl,rfl⟩))
       go_ret
       exact ⟨rfl,HB.out⟩
   rw [if_neg k6]
   go_enter Tryz.func132,Tryz.ntmps132
   go_wp2_with (first
    | (go_at_call 173;refine (HI.out _).mono ?_;rintro e w2 ⟨rfl,rfl⟩))
   go_ret
   exact ⟨rfl,HB.out⟩
theorem sexpr_any (k n : Int) (s : List UInt8) (l : List Ex) (A : Option Addr) (c : Nat) (w : World) (hr : ExRow w w.heap.size l A) (hs : s.length ≤ maxLen) (hl : l.length ≤ maxLen) :
 Calls Tryz.prog 85 #[exprV k n ⟨s.toArray⟩ (.slice A l.length c)] w fun e w' => e = .returned (.bool (vE varR nuP 30 (.mk k n s l))) ∧ Below w.heap.size w w':=by
 have HB:=Lib.hid (below_alloc w (exprC k n ⟨s.toArray⟩ (.slice A l.length c)))
 have HC:=Lib.hid (sd_any 30 (by omega) k n s l A c (w.alloc (exprC k n ⟨s.toArray⟩ (.slice A l.length c))) ((hr.stay HB.out (Nat.le_refl _)).more HB.out.size) hs hl)
 generalize vE varR nuP 30 (.mk k n s l) = res at *
 unfold maxLen at hl hs
 clear hr
 go_enter Tryz.func85,Tryz.ntmps85
 go_wp2_with (go_at_call 132;refine HC.out.mono ?_;rintro e w3 ⟨rfl,hb⟩)
 go_ret
 exact ⟨rfl,HB.out.chain hb⟩
end Go.Proofs.YtbalioicgpgehaaGreatDoor
namespace Go.Proofs.YtbalioicgpgehaaGreatDoor
set_option maxRecDepth 100000
set_option maxHeartbeats 4000000
open Go.RowKit
def zX : Ex → Bool
 | .mk k n s l => (k == 0) && (n == 0) && s.isEmpty && l.isEmpty
theorem zX_eq (k n : Int) (s : List UInt8) (l : List Ex) : zX (.mk k n s l) = ((k == 0) && (n == 0) && s.isEmpty && l.isEmpty):=rfl
def opsC (m : Int) (l : List Cn) (f : Cn → Bool) : Bool:=decide (m ≤ (l.length : Int)) && decide ((l.length : Int) ≤ m) && l.all f
def vC (var : List UInt8 → Bool) (nu : Int) : Nat → Cn → Bool
 | 0,_ => false
 | d + 1,.mk k a b l =>
   if decide (1 ≤ k) && decide (k ≤ 4) then vE var nu 30 a && vE var nu 30 b && ((l.length : Int) == 0)
   else if k = 5 then zX a && zX b && opsC 1 l (vC var nu d)
   else if k = 6 ∨ k = 7 then zX a && zX b && opsC 2 l (vC var nu d)
   else false
theorem comparison_any (k : Int) (w : World) : Calls Tryz.prog 222 #[.int .i64 k] w fun e w' => e = .returned (.bool (decide (1 ≤ k) && decide (k ≤ 4))) ∧ w = w':=by
 by_cases h1 : 1 ≤ k <;> by_cases h2 : k ≤ 4
 all_goals
  first
   | (exfalso;omega)
   | (have E1:=Lib.hid h1
      have E2:=Lib.hid h2
      go_enter Tryz.func222,Tryz.ntmps222
      go_wp2
      go_ret
      exact ⟨by have f1:=E1.out;have f2:=E2.out;simp [f1,f2],rfl⟩)
theorem el_zero (l : List Ex) (A : Option Addr) (c : Nat) (f : Value) (w : World) (hl : l.length ≤ maxLen) :
 Calls Tryz.prog 220 #[.slice A l.length c,.slice none 0 0,f] w fun e w' => e = .returned (.bool l.isEmpty) ∧ w = w':=by
 unfold maxLen at hl
 cases l with
 | nil =>
   go_enter Tryz.func220,Tryz.ntmps220
   go_wp2
   go_loop [15] (fun j => j = .int .i64 0) (fun _ => 0)
   case atStart => rfl
   case round =>
    subst hrel
    go_wp2
    go_ret
    exact ⟨rfl,rfl⟩
 | cons x l =>
   obtain ⟨n,hn⟩ : ∃ n,n = (x :: l).length:=⟨_,rfl⟩
   have h0 : ¬ (n : Int) = 0:=by rw [hn,List.length_cons];omega
   rw [← hn]
   clear hn
   go_enter Tryz.func220,Tryz.ntmps220
   go_wp2
   go_ret
   exact ⟨rfl,rfl⟩
theorem ee_zero (k n : Int) (s : List UInt8) (l : List Ex) (A : Option Addr) (c : Nat) (w : World) (hl : l.length ≤ maxLen) :
 Calls Tryz.prog 195 #[exprV k n ⟨s.toArray⟩ (.slice A l.length c),exprV 0 0 ⟨#[]⟩ (.slice none 0 0)] w fun e w' => e = .returned (.bool (zX (.mk k n s l))) ∧ Below w.heap.size w w':=by
 have HL : Hid (∀ f w,Calls Tryz.prog 220 #[.slice A l.length c,.slice none 0 0,f] w fun e w' => e = .returned (.bool l.isEmpty) ∧ w = w'):=Lib.hid (fun f w => el_zero l A c f w hl)
 have HB:=Lib.hid ((below_alloc w (exprC k n ⟨s.toArray⟩ (.slice A l.length c))).chain (below_alloc _ (exprC 0 0 ⟨#[]⟩ (.slice none 0 0))))
 rw [zX_eq]
 obtain ⟨le,hle⟩ : ∃ le,le = l.isEmpty:=⟨_,rfl⟩
 rw [← hle] at HL ⊢
 clear hle
 by_cases hk : k = 0
 ·subst hk
  by_cases hn : n = 0
  ·subst hn
   rcases s with _ | ⟨x,s⟩
   ·go_enter Tryz.func195,Tryz.ntmps195
    go_wp2_with (go_at_call 220;refine (HL.out _ _).mono ?_;rintro e w3 ⟨rfl,rfl⟩)
    go_ret
    exact ⟨rfl,HB.out⟩
   ·go_enter Tryz.func195,Tryz.ntmps195
    go_wp2
    go_ret
    exact ⟨rfl,HB.out⟩
  ·have hnb : (n == 0) = false:=by simpa using hn
   rw [hnb]
   clear hnb
   go_enter Tryz.func195,Tryz.ntmps195
   go_wp2
   go_ret
   exact ⟨rfl,HB.out⟩
 ·have hkb : (k == 0) = false:=by simpa using hk
  rw [hkb]
  clear hkb
  go_enter Tryz.func195,Tryz.ntmps195
  go_wp2
  go_ret
  exact ⟨rfl,HB.out⟩
theorem no_expr (k n : Int) (s : List UInt8) (l : List Ex) (A : Option Addr) (c : Nat) (w : World) (hl : l.length ≤ maxLen) :
 Calls Tryz.prog 161 #[exprV k n ⟨s.toArray⟩ (.slice A l.length c)] w fun e w' => e = .returned (.bool (zX (.mk k n s l))) ∧ Below w.heap.size w w':=by
 have HB:=Lib.hid (below_alloc w (exprC k n ⟨s.toArray⟩ (.slice A l.length c)))
 have HC:=Lib.hid (ee_zero k n s l A c (w.alloc (exprC k n ⟨s.toArray⟩ (.slice A l.length c))) hl)
 generalize zX (.mk k n s l) = res at *
 go_enter Tryz.func161,Tryz.ntmps161
 go_wp2_with (go_at_call 195;refine HC.out.mono ?_;rintro e w3 ⟨rfl,hb⟩)
 go_ret
 exact ⟨rfl,HB.out.chain hb⟩
theorem szero_any (k n : Int) (s : List UInt8) (l : List Ex) (A : Option Addr) (c : Nat) (w : World) (_hl : l.length ≤ maxLen) :
 Calls Tryz.prog 86 #[exprV k n ⟨s.toArray⟩ (.slice A l.length c)] w fun e w' => e = .returned (.bool (zX (.mk k n s l))) ∧ Below w.heap.size w w':=by
 have HB:=Lib.hid (below_alloc w (exprC k n ⟨s.toArray⟩ (.slice A l.length c)))
 rw [zX_eq]
 rw [isEmpty_len]
 unfold maxLen at _hl
 by_cases hk : k = 0
 ·subst hk
  by_cases hn : n = 0
  ·subst hn
   rcases s with _ | ⟨x,s⟩
   ·go_enter Tryz.func86,Tryz.ntmps86
    go_wp2
    go_ret
    exact ⟨rfl,HB.out⟩
   ·go_enter Tryz.func86,Tryz.ntmps86
    go_wp2
    go_ret
    exact ⟨rfl,HB.out⟩
  ·have hnb : (n == 0) = false:=by simpa using hn
   rw [hnb]
   clear hnb
   go_enter Tryz.func86,Tryz.ntmps86
   go_wp2
   go_ret
   exact ⟨rfl,HB.out⟩
 ·have hkb : (k == 0) = false:=by simpa using hk
  rw [hkb]
  clear hkb
  go_enter Tryz.func86,Tryz.ntmps86
  go_wp2
  go_ret
  exact ⟨rfl,HB.out⟩
theorem cond_within (fv : Nat) (nu ex d : Int) (w : World) : Calls Tryz.prog 196 #[rulesV fv nu ex,.int .i64 d] w fun e w' =>
 e = .returned (.func (.func 221) #[] #[.pointer (some ⟨w.heap.size + 1,0,none⟩),.pointer (some ⟨w.heap.size,0,none⟩)]) ∧ w' = (w.alloc (rulesC fv nu ex)).alloc (.cells #[.int .i64 d] 3):=by
 go_enter Tryz.func196,Tryz.ntmps196
 go_wp2
 go_ret
 exact ⟨rfl,rfl⟩
theorem vl_cond (ok : Cn → Bool) (G : Nat) (Fi Ca : Array Value) (hG : ∀ args w,(callFunc G args).run Tryz.prog w = .ok (.enter G args) w) (cs : List Cn) (A : Option Addr) (c : Nat) (least most : Int) (w : World) (hn : cs.length ≤ maxLen) (hr : CnRow w w.heap.size cs A)
 (hC : ∀ k ak an sa al bk bn sb bl l Aa ca Ab cb Al cl W,Cn.mk k (.mk ak an sa al) (.mk bk bn sb bl) l ∈ cs → Below w.heap.size w W → ExRow W w.heap.size al Aa → ExRow W w.heap.size bl Ab → CnRow W w.heap.size l Al → sa.length ≤ maxLen → al.length ≤ maxLen → sb.length ≤ maxLen → bl.length ≤ maxLen → l.length ≤ maxLen →
   Calls Tryz.prog G (Fi.push (condV2 k ak an ⟨sa.toArray⟩ (.slice Aa al.length ca) bk bn ⟨sb.toArray⟩ (.slice Ab bl.length cb) (.slice Al l.length cl)) ++ Ca) W fun e w' => e = .returned (.bool (ok (.mk k (.mk ak an sa al) (.mk bk bn sb bl) l))) ∧ Below W.heap.size W w') :
 Calls Tryz.prog 224 #[.slice A cs.length c,.int .i64 least,.int .i64 most,.func (.func G) Fi Ca] w fun e w' =>
  e = .returned (.bool (decide (least ≤ cs.length) && decide ((cs.length : Int) ≤ most) && cs.all ok)) ∧ Below w.heap.size w w':=by
 obtain ⟨n,hnn⟩ : ∃ n,n = cs.length:=⟨_,rfl⟩
 have HH:=Lib.hid (And.intro hr (And.intro hC hnn))
 have HB0:=Lib.hid (Below.refl w.heap.size w)
 rw [← hnn] at hn ⊢
 clear hr hC hnn
 unfold maxLen at hn
 go_enter Tryz.func224,Tryz.ntmps224
 by_cases hl : (n : Int) < least
 ·go_wp2
  go_ret
  exact ⟨by rw [show decide (least ≤ (n : Int)) = false by simp;omega];rfl,HB0.out⟩
 by_cases hm : (n : Int) > most
 ·go_wp2
  go_ret
  exact ⟨by rw [show decide ((n : Int) ≤ most) = false by simp;omega];simp,HB0.out⟩
 go_wp2
 go_loopg [23] n (fun m j wr => ∃ k : Nat,m = n - k ∧ k ≤ n ∧ j = .int .i64 k ∧ Hid (Below w.heap.size w wr ∧ (cs.take k).all ok = true))
 case atStart => exact ⟨0,rfl,Nat.zero_le _,rfl,Lib.hid ⟨HB0.out,rfl⟩⟩
 case round =>
  obtain ⟨i,rfl,hk,rfl,HI⟩:=hrel
  by_cases hlt : i < n
  ·have hki : (i : Int) < n:=by omega
   obtain ⟨⟨k,⟨ak,an,sa,al⟩,⟨bk,bn,sb,bl⟩,l⟩,hi⟩ : ∃ x,cs[i]? = some x:=⟨cs[i]'(by rw [← HH.out.2.2];exact hlt),List.getElem?_eq_getElem _⟩
   obtain ⟨a,Aa,ca,Ab,cb,Al,cl,rfl,hab,hc,b1,b2,b3,b4,b5,ra,rb,rl⟩:=(HH.out.1.stay HI.out.1 (Nat.le_refl _)).at_ hi
   obtain ⟨c0,c1,c2,c3,c4,c5,c6,c7,c8,c9⟩:=hc.flat
   have HJ:=Lib.hid (HI.out.1.alloc HI.out.1.size (condC2 k ak an ⟨sa.toArray⟩ (.slice Aa al.length ca) bk bn ⟨sb.toArray⟩ (.slice Ab bl.length cb) (.slice Al l.length cl)))
   have hbw:=below_alloc wr (condC2 k ak an ⟨sa.toArray⟩ (.slice Aa al.length ca) bk bn ⟨sb.toArray⟩ (.slice Ab bl.length cb) (.slice Al l.length cl))
   have HC2:=Lib.hid (HH.out.2.1 k ak an sa al bk bn sb bl l Aa ca Ab cb Al cl _ (List.mem_of_getElem? hi) HJ.out (ra.stay hbw HI.out.1.size) (rb.stay hbw HI.out.1.size) (rl.stay hbw HI.out.1.size) b1 b2 b3 b4 b5)
   have HX:=Lib.hid (And.intro hi (all_take_succ ok cs i _ hi))
   clear hc b1 b2 b3 b4 b5 ra rb rl hi hbw
   obtain ⟨okx,hokx⟩ : ∃ b,b = ok (.mk k (.mk ak an sa al) (.mk bk bn sb bl) l):=⟨_,rfl⟩
   rw [← hokx] at HC2 HX
   have HO:=Lib.hid hokx
   clear hokx
   go_wp2_with (refine HC2.out.mono ?_;rintro e w3 ⟨rfl,hb⟩;have HB3:=Lib.hid (HJ.out.trans (hb.mono HJ.out.size));clear hb)
   ·rename_i hf
    have hf' : ok (.mk k (.mk ak an sa al) (.mk bk bn sb bl) l) = false:=by rw [← HO.out];simpa using hf
    go_ret
    exact ⟨by rw [all_of_false ok cs i _ HX.out.1 hf',Bool.and_false];rfl,HB3.out⟩
   ·rename_i hf
    have hf' : okx = true:=by simpa using hf
    go_roundg (n - (i + 1))
    case measure => omega
    case rel => exact ⟨i + 1,rfl,by omega,by go_num,Lib.hid ⟨HB3.out,by rw [HX.out.2,HI.out.2,hf'];rfl⟩⟩
  ·obtain rfl : i = n:=by omega
   go_wp2
   go_ret
   refine ⟨?_,HI.out.1⟩
   have := HI.out.2
   rw [List.take_of_length_le (by rw [HH.out.2.2];exact Nat.le_refl _)] at this
   rw [this,Bool.and_true,show decide (least ≤ (i : Int)) = true by simp;omega,show decide ((i : Int) ≤ most) = true by simp;omega]
   rfl
end Go.Proofs.YtbalioicgpgehaaGreatDoor
namespace Go.Proofs.YtbalioicgpgehaaGreatDoor
open Go.RowKit
theorem nameBs_prt (c : UInt8) : nameBs.contains c = prt c:=by
 have h : ∀ n : Fin 256,nameBs.contains (UInt8.ofNat n.val) = prt (UInt8.ofNat n.val):=by decide +kernel
 have := h ⟨c.toNat,c.toNat_lt⟩
 simpa using this
theorem dropWhile_nil (p : UInt8 → Bool) : ∀ r : List UInt8,r.dropWhile p = [] ↔ ∀ x ∈ r,p x = true:=by
 intro r
 induction r with
 | nil => simp
 | cons x r ih =>
   rw [List.dropWhile_cons]
   cases hp : p x with
   | true => simp [ih,hp]
   | false => simp [hp]
theorem all_dropWhile (p : UInt8 → Bool) : ∀ r : List UInt8,(∀ x ∈ r.dropWhile p,p x = true) ↔ ∀ x ∈ r,p x = true:=by
 intro r
 induction r with
 | nil => simp
 | cons x r ih =>
   rw [List.dropWhile_cons]
   cases hp : p x with
   | true => simp [ih,hp]
   | false => simp [hp]
theorem trimS_nil (l cs : List UInt8) : (Lib.trimS l cs == []) = l.all (cs.contains ·):=by
 rw [Bool.eq_iff_iff,beq_iff_eq,List.all_eq_true]
 unfold Lib.trimS Lib.trimLeftS Lib.trimRightS
 rw [dropWhile_nil]
 have := all_dropWhile (cs.contains ·) l.reverse
 constructor
 ·intro h x hx
  exact this.1 (fun y hy => h y (List.mem_reverse.2 hy)) x (List.mem_reverse.2 hx)
 ·intro h x hx
  exact this.2 (fun y hy => h y (List.mem_reverse.1 hy)) x (List.mem_reverse.1 hx)
theorem nameR_dollar (t : List UInt8) : nameR (36 :: t) = false:=by
 unfold nameR wordB
 rw [show headIs ltr (36 :: t) = false from rfl]
 rfl
theorem varB_varR : varB = varR:=by
 funext s
 unfold varB varR
 cases s with
 | nil =>
   rw [show Lib.hasPrefix [] [36] = false from rfl,if_neg (by decide),name_eq]
   rfl
 | cons x t =>
   by_cases hx : x = 36
   ·subst hx
    have hp : Lib.hasPrefix (36 :: t) [36] = true:=by unfold Lib.hasPrefix;simp
    have ht : Lib.trimPrefix (36 :: t) [36] = t:=by unfold Lib.trimPrefix;rw [if_pos hp];rfl
    rw [if_pos hp,ht,trimS_nil,nameR_dollar,Bool.false_or]
    have e1 : (fun c => nameBs.contains c) = prt:=by funext c;exact nameBs_prt c
    rw [show t.all (nameBs.contains ·) = t.all prt from by rw [← e1]]
    have e2 : (!(t == [])) = decide (2 ≤ (36 :: t).length):=by cases t <;> simp
    rw [e2]
    simp
   ·have hp : Lib.hasPrefix (x :: t) [36] = false:=by
     have h36 : ((36 : UInt8) == x) = false:=by rw [beq_eq_false_iff_ne];exact fun e => hx e.symm
     show ((36 : UInt8) == x && List.isPrefixOf [] t) = false
     rw [h36]
     rfl
    have hh : ((x :: t).head? == some 36) = false:=by
     rw [beq_eq_false_iff_ne]
     intro e
     exact hx (Option.some.inj e)
    rw [if_neg (by rw [hp];exact Bool.false_ne_true),name_eq,hh,Bool.and_false,Bool.false_and,Bool.or_false]
end Go.Proofs.YtbalioicgpgehaaGreatDoor
