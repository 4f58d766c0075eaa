import Derived.Test.YtojjfdegkooknaaGreatDoorQTreeL
import Derived.Test.YtojjfdegkooknaaGreatDoorQTreeXv
set_option linter.unusedVariables false
set_option linter.unusedSimpArgs false
namespace Go.Proofs.YtojjfdegkooknaaGreatDoor
set_option maxRecDepth 100000
set_option maxHeartbeats 4000000
open Go.RowKit
def zX : Ex → Bool
 | .mk k n s l => (k == 0) && (n == 0) && s.isEmpty && l.isEmpty
theorem zX_eq (k n : Int) (s : List UInt8) (l : List Ex) : zX (.mk k n s l) = ((k == 0) && (n == 0) && s.isEmpty && l.isEmpty):=rfl
def opsC (m : Int) (l : List Cn) (f : Cn → Bool) : Bool:=decide (m ≤ (l.length : Int)) && decide ((l.length : Int) ≤ m) && l.all f
def vC (var : List UInt8 → Bool) (nu : Int) : Nat → Cn → Bool
 | 0,_ => false
 | d + 1,.mk k a b l =>
   if decide (1 ≤ k) && decide (k ≤ 4) then vE var nu 30 a && vE var nu 30 b && ((l.length : Int) == 0)
   else if k = 5 then zX a && zX b && opsC 1 l (vC var nu d)
   else if k = 6 ∨ k = 7 then zX a && zX b && opsC 2 l (vC var nu d)
   else false
theorem comparison_any (k : Int) (w : World) : Calls Tryz.prog 140 #[.int .i64 k] w fun e w' => e = .returned (.bool (decide (1 ≤ k) && decide (k ≤ 4))) ∧ w = w':=by
 by_cases h1 : 1 ≤ k <;> by_cases h2 : k ≤ 4
 all_goals
  first
   | (exfalso;omega)
   | (have E1:=Lib.hid h1
      have E2:=Lib.hid h2
      go_enter Tryz.func140,Tryz.ntmps140
      go_wp2
      go_ret
      exact ⟨by have f1:=E1.out;have f2:=E2.out;simp [f1,f2],rfl⟩)
theorem el_zero (l : List Ex) (A : Option Addr) (c : Nat) (f : Value) (w : World) (hl : l.length ≤ maxLen) :
 Calls Tryz.prog 260 #[.slice A l.length c,.slice none 0 0,f] w fun e w' => e = .returned (.bool l.isEmpty) ∧ w = w':=by
 unfold maxLen at hl
 cases l with
 | nil =>
   go_enter Tryz.func260,Tryz.ntmps260
   go_wp2
   go_loop [15] (fun j => j = .int .i64 0) (fun _ => 0)
   case atStart => rfl
   case round =>
    subst hrel
    go_wp2
    go_ret
    exact ⟨rfl,rfl⟩
 | cons x l =>
   obtain ⟨n,hn⟩ : ∃ n,n = (x :: l).length:=⟨_,rfl⟩
   have h0 : ¬ (n : Int) = 0:=by rw [hn,List.length_cons];omega
   rw [← hn]
   clear hn
   go_enter Tryz.func260,Tryz.ntmps260
   go_wp2
   go_ret
   exact ⟨rfl,rfl⟩
theorem ee_zero (k n : Int) (s : List UInt8) (l : List Ex) (A : Option Addr) (c : Nat) (w : World) (hl : l.length ≤ maxLen) :
 Calls Tryz.prog 250 #[exprV k n ⟨s.toArray⟩ (.slice A l.length c),exprV 0 0 ⟨#[]⟩ (.slice none 0 0)] w fun e w' => e = .returned (.bool (zX (.mk k n s l))) ∧ Below w.heap.size w w':=by
 have HL : Hid (∀ f w,Calls Tryz.prog 260 #[.slice A l.length c,.slice none 0 0,f] w fun e w' => e = .returned (.bool l.isEmpty) ∧ w = w'):=Lib.hid (fun f w => el_zero l A c f w hl)
 have HB:=Lib.hid ((below_alloc w (exprC k n ⟨s.toArray⟩ (.slice A l.length c))).chain (below_alloc _ (exprC 0 0 ⟨#[]⟩ (.slice none 0 0))))
 rw [zX_eq]
 obtain ⟨le,hle⟩ : ∃ le,le = l.isEmpty:=⟨_,rfl⟩
 rw [← hle] at HL ⊢
 clear hle
 by_cases hk : k = 0
 ·subst hk
  by_cases hn : n = 0
  ·subst hn
   rcases s with _ | ⟨x,s⟩
   ·go_enter Tryz.func250,Tryz.ntmps250
    go_wp2_with (go_at_call 260;refine (HL.out _ _).mono ?_;rintro e w3 ⟨rfl,rfl⟩)
    go_ret
    exact ⟨rfl,HB.out⟩
   ·go_enter Tryz.func250,Tryz.ntmps250
    go_wp2
    go_ret
    exact ⟨rfl,HB.out⟩
  ·have hnb : (n == 0) = false:=by simpa using hn
   rw [hnb]
   clear hnb
   go_enter Tryz.func250,Tryz.ntmps250
   go_wp2
   go_ret
   exact ⟨rfl,HB.out⟩
 ·have hkb : (k == 0) = false:=by simpa using hk
  rw [hkb]
  clear hkb
  go_enter Tryz.func250,Tryz.ntmps250
  go_wp2
  go_ret
  exact ⟨rfl,HB.out⟩
theorem no_expr (k n : Int) (s : List UInt8) (l : List Ex) (A : Option Addr) (c : Nat) (w : World) (hl : l.length ≤ maxLen) :
 Calls Tryz.prog 228 #[exprV k n ⟨s.toArray⟩ (.slice A l.length c)] w fun e w' => e = .returned (.bool (zX (.mk k n s l))) ∧ Below w.heap.size w w':=by
 have HB:=Lib.hid (below_alloc w (exprC k n ⟨s.toArray⟩ (.slice A l.length c)))
 have HC:=Lib.hid (ee_zero k n s l A c (w.alloc (exprC k n ⟨s.toArray⟩ (.slice A l.length c))) hl)
 generalize zX (.mk k n s l) = res at *
 go_enter Tryz.func228,Tryz.ntmps228
 go_wp2_with (go_at_call 250;refine HC.out.mono ?_;rintro e w3 ⟨rfl,hb⟩)
 go_ret
 exact ⟨rfl,HB.out.chain hb⟩
theorem cond_within (fv : Nat) (nu ex d : Int) (w : World) : Calls Tryz.prog 251 #[rulesV fv nu ex,.int .i64 d] w fun e w' =>
 e = .returned (.func (.func 261) #[] #[.pointer (some ⟨w.heap.size + 1,0,none⟩),.pointer (some ⟨w.heap.size,0,none⟩)]) ∧ w' = (w.alloc (rulesC fv nu ex)).alloc (.cells #[.int .i64 d] 3):=by
 go_enter Tryz.func251,Tryz.ntmps251
 go_wp2
 go_ret
 exact ⟨rfl,rfl⟩
theorem vl_cond (ok : Cn → Bool) (G : Nat) (Fi Ca : Array Value) (hG : ∀ args w,(callFunc G args).run Tryz.prog w = .ok (.enter G args) w) (cs : List Cn) (A : Option Addr) (c : Nat) (least most : Int) (w : World) (hn : cs.length ≤ maxLen) (hr : CnRow w w.heap.size cs A)
 (hC : ∀ k ak an sa al bk bn sb bl l Aa ca Ab cb Al cl W,Cn.mk k (.mk ak an sa al) (.mk bk bn sb bl) l ∈ cs → Below w.heap.size w W → ExRow W w.heap.size al Aa → ExRow W w.heap.size bl Ab → CnRow W w.heap.size l Al → sa.length ≤ maxLen → al.length ≤ maxLen → sb.length ≤ maxLen → bl.length ≤ maxLen → l.length ≤ maxLen →
   Calls Tryz.prog G (Fi.push (condV2 k ak an ⟨sa.toArray⟩ (.slice Aa al.length ca) bk bn ⟨sb.toArray⟩ (.slice Ab bl.length cb) (.slice Al l.length cl)) ++ Ca) W fun e w' => e = .returned (.bool (ok (.mk k (.mk ak an sa al) (.mk bk bn sb bl) l))) ∧ Below W.heap.size W w') :
 Calls Tryz.prog 263 #[.slice A cs.length c,.int .i64 least,.int .i64 most,.func (.func G) Fi Ca] w fun e w' =>
  e = .returned (.bool (decide (least ≤ cs.length) && decide ((cs.length : Int) ≤ most) && cs.all ok)) ∧ Below w.heap.size w w':=by
 obtain ⟨n,hnn⟩ : ∃ n,n = cs.length:=⟨_,rfl⟩
 have HH:=Lib.hid (And.intro hr (And.intro hC hnn))
 have HB0:=Lib.hid (Below.refl w.heap.size w)
 rw [← hnn] at hn ⊢
 clear hr hC hnn
 unfold maxLen at hn
 go_enter Tryz.func263,Tryz.ntmps263
 by_cases hl : (n : Int) < least
 ·go_wp2
  go_ret
  exact ⟨by rw [show decide (least ≤ (n : Int)) = false by simp;omega];rfl,HB0.out⟩
 by_cases hm : (n : Int) > most
 ·go_wp2
  go_ret
  exact ⟨by rw [show decide ((n : Int) ≤ most) = false by simp;omega];simp,HB0.out⟩
 go_wp2
 go_loopg [23] n (fun m j wr => ∃ k : Nat,m = n - k ∧ k ≤ n ∧ j = .int .i64 k ∧ Hid (Below w.heap.size w wr ∧ (cs.take k).all ok = true))
 case atStart => exact ⟨0,rfl,Nat.zero_le _,rfl,Lib.hid ⟨HB0.out,rfl⟩⟩
 case round =>
  obtain ⟨i,rfl,hk,rfl,HI⟩:=hrel
  by_cases hlt : i < n
  ·have hki : (i : Int) < n:=by omega
   obtain ⟨⟨k,⟨ak,an,sa,al⟩,⟨bk,bn,sb,bl⟩,l⟩,hi⟩ : ∃ x,cs[i]? = some x:=⟨cs[i]'(by rw [← HH.out.2.2];exact hlt),List.getElem?_eq_getElem _⟩
   obtain ⟨a,Aa,ca,Ab,cb,Al,cl,rfl,hab,hc,b1,b2,b3,b4,b5,ra,rb,rl⟩:=(HH.out.1.stay HI.out.1 (Nat.le_refl _)).at_ hi
   obtain ⟨c0,c1,c2,c3,c4,c5,c6,c7,c8,c9⟩:=hc.flat
   have HJ:=Lib.hid (HI.out.1.alloc HI.out.1.size (condC2 k ak an ⟨sa.toArray⟩ (.slice Aa al.length ca) bk bn ⟨sb.toArray⟩ (.slice Ab bl.length cb) (.slice Al l.length cl)))
   have hbw:=below_alloc wr (condC2 k ak an ⟨sa.toArray⟩ (.slice Aa al.length ca) bk bn ⟨sb.toArray⟩ (.slice Ab bl.length cb) (.slice Al l.length cl))
   have HC2:=Lib.hid (HH.out.2.1 k ak an sa al bk bn sb bl l Aa ca Ab cb Al cl _ (List.mem_of_getElem? hi) HJ.out (ra.stay hbw HI.out.1.size) (rb.stay hbw HI.out.1.size) (rl.stay hbw HI.out.1.size) b1 b2 b3 b4 b5)
   have HX:=Lib.hid (And.intro hi (all_take_succ ok cs i _ hi))
   clear hc b1 b2 b3 b4 b5 ra rb rl hi hbw
   obtain ⟨okx,hokx⟩ : ∃ b,b = ok (.mk k (.mk ak an sa al) (.mk bk bn sb bl) l):=⟨_,rfl⟩
   rw [← hokx] at HC2 HX
   have HO:=Lib.hid hokx
   clear hokx
   go_wp2_with (refine HC2.out.mono ?_;rintro e w3 ⟨rfl,hb⟩;have HB3:=Lib.hid (HJ.out.trans (hb.mono HJ.out.size));clear hb)
   ·rename_i hf
    have hf' : ok (.mk k (.mk ak an sa al) (.mk bk bn sb bl) l) = false:=by rw [← HO.out];simpa using hf
    go_ret
    exact ⟨by rw [all_of_false ok cs i _ HX.out.1 hf',Bool.and_false];rfl,HB3.out⟩
   ·rename_i hf
    have hf' : okx = true:=by simpa using hf
    go_roundg (n - (i + 1))
    case measure => omega
    case rel => exact ⟨i + 1,rfl,by omega,by go_num,Lib.hid ⟨HB3.out,by rw [HX.out.2,HI.out.2,hf'];rfl⟩⟩
  ·obtain rfl : i = n:=by omega
   go_wp2
   go_ret
   refine ⟨?_,HI.out.1⟩
   have := HI.out.2
   rw [List.take_of_length_le (by rw [HH.out.2.2];exact Nat.le_refl _)] at this
   rw [this,Bool.and_true,show decide (least ≤ (i : Int)) = true by simp;omega,show decide ((i : Int) ≤ most) = true by simp;omega]
   rfl
end Go.Proofs.YtojjfdegkooknaaGreatDoor
