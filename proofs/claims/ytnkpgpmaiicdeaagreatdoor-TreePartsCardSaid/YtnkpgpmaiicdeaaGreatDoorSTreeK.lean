/-
  Conditions: comparison, noExpr, condWithin, validList.
  Both say the same of a variable's name; so of expressions and conditions.
-/
import Derived.Test.YtnkpgpmaiicdeaaGreatDoorSTreeL
import Derived.Test.YtnkpgpmaiicdeaaGreatDoorSTreeR
set_option linter.unusedVariables false
set_option linter.unusedSimpArgs false
namespace Go.Proofs.YtnkpgpmaiicdeaaGreatDoor
set_option maxRecDepth 100000
set_option maxHeartbeats 4000000
open Go.RowKit
def zX : Ex → Bool
 | .mk k n s l => (k == 0) && (n == 0) && s.isEmpty && l.isEmpty
theorem zX_eq (k n : Int) (s : List UInt8) (l : List Ex) : zX (.mk k n s l) = ((k == 0) && (n == 0) && s.isEmpty && l.isEmpty):=rfl
def opsC (m : Int) (l : List Cn) (f : Cn → Bool) : Bool:=decide (m ≤ (l.length : Int)) && decide ((l.length : Int) ≤ m) && l.all f
def vC (var : List UInt8 → Bool) (nu : Int) : Nat → Cn → Bool
 | 0,_ => false
 | d + 1,.mk k a b l =>
   if decide (1 ≤ k) && decide (k ≤ 4) then vE var nu 30 a && vE var nu 30 b && ((l.length : Int) == 0)
   else if k = 5 then zX a && zX b && opsC 1 l (vC var nu d)
   else if k = 6 ∨ k = 7 then zX a && zX b && opsC 2 l (vC var nu d)
   else false
theorem comparison_any (k : Int) (w : World) : Calls Tryz.prog 115 #[.int .i64 k] w fun e w' => e = .returned (.bool (decide (1 ≤ k) && decide (k ≤ 4))) ∧ w = w':=by
 by_cases h1 : 1 ≤ k <;> by_cases h2 : k ≤ 4
 all_goals
  first
   | (exfalso;omega)
   | (have E1:=Lib.hid h1
      have E2:=Lib.hid h2
      go_enter Tryz.func115,Tryz.ntmps115
      go_wp2
      go_ret
      exact ⟨by have f1:=E1.out;have f2:=E2.out;simp [f1,f2],rfl⟩)
theorem el_zero (l : List Ex) (A : Option Addr) (c : Nat) (f : Value) (w : World) (hl : l.length ≤ maxLen) :
 Calls Tryz.prog 94 #[.slice A l.length c,.slice none 0 0,f] w fun e w' => e = .returned (.bool l.isEmpty) ∧ w = w':=by
 unfold maxLen at hl
 cases l with
 | nil =>
   go_enter Tryz.func94,Tryz.ntmps94
   go_wp2
   go_loop [15] (fun j => j = .int .i64 0) (fun _ => 0)
   case atStart => rfl
   case round =>
    subst hrel
    go_wp2
    go_ret
    exact ⟨rfl,rfl⟩
 | cons x l =>
   obtain ⟨n,hn⟩ : ∃ n,n = (x :: l).length:=⟨_,rfl⟩
   have h0 : ¬ (n : Int) = 0:=by rw [hn,List.length_cons];omega
   rw [← hn]
   clear hn
   go_enter Tryz.func94,Tryz.ntmps94
   go_wp2
   go_ret
   exact ⟨rfl,rfl⟩
theorem ee_zero (k n : Int) (s : List UInt8) (l : List Ex) (A : Option Addr) (c : Nat) (w : World) (hl : l.length ≤ maxLen) :
 Calls Tryz.prog 54 #[exprV k n ⟨s.toArray⟩ (.slice A l.length c),exprV 0 0 ⟨#[]⟩ (.slice none 0 0)] w fun e w' => e = .returned (.bool (zX (.mk k n s l))) ∧ Below w.heap.size w w':=by
 have HL : Hid (∀ f w,Calls Tryz.prog 94 #[.slice A l.length c,.slice none 0 0,f] w fun e w' => e = .returned (.bool l.isEmpty) ∧ w = w'):=Lib.hid (fun f w => el_zero l A c f w hl)
 have HB:=Lib.hid ((below_alloc w (exprC k n ⟨s.toArray⟩ (.slice A l.length c))).chain (below_alloc _ (exprC 0 0 ⟨#[]⟩ (.slice none 0 0))))
 rw [zX_eq]
 obtain ⟨le,hle⟩ : ∃ le,le = l.isEmpty:=⟨_,rfl⟩
 rw [← hle] at HL ⊢
 clear hle
 by_cases hk : k = 0
 ·subst hk
  by_cases hn : n = 0
  ·subst hn
   rcases s with _ | ⟨x,s⟩
   ·go_enter Tryz.func54,Tryz.ntmps54
    go_wp2_with (go_at_call 94;refine (HL.out _ _).mono ?_;rintro e w3 ⟨rfl,rfl⟩)
    go_ret
    exact ⟨rfl,HB.out⟩
   ·go_enter Tryz.func54,Tryz.ntmps54
    go_wp2
    go_ret
    exact ⟨rfl,HB.out⟩
  ·have hnb : (n == 0) = false:=by simpa using hn
   rw [hnb]
   clear hnb
   go_enter Tryz.func54,Tryz.ntmps54
   go_wp2
   go_ret
   exact ⟨rfl,HB.out⟩
 ·have hkb : (k == 0) = false:=by simpa using hk
  rw [hkb]
  clear hkb
  go_enter Tryz.func54,Tryz.ntmps54
  go_wp2
  go_ret
  exact ⟨rfl,HB.out⟩
theorem no_expr (k n : Int) (s : List UInt8) (l : List Ex) (A : Option Addr) (c : Nat) (w : World) (hl : l.length ≤ maxLen) :
 Calls Tryz.prog 121 #[exprV k n ⟨s.toArray⟩ (.slice A l.length c)] w fun e w' => e = .returned (.bool (zX (.mk k n s l))) ∧ Below w.heap.size w w':=by
 have HB:=Lib.hid (below_alloc w (exprC k n ⟨s.toArray⟩ (.slice A l.length c)))
 have HC:=Lib.hid (ee_zero k n s l A c (w.alloc (exprC k n ⟨s.toArray⟩ (.slice A l.length c))) hl)
 generalize zX (.mk k n s l) = res at *
 go_enter Tryz.func121,Tryz.ntmps121
 go_wp2_with (go_at_call 54;refine HC.out.mono ?_;rintro e w3 ⟨rfl,hb⟩)
 go_ret
 exact ⟨rfl,HB.out.chain hb⟩
theorem cond_within (fv : Nat) (nu ex d : Int) (w : World) : Calls Tryz.prog 81 #[rulesV fv nu ex,.int .i64 d] w fun e w' =>
 e = .returned (.func (.func 119) #[] #[.pointer (some ⟨w.heap.size + 1,0,none⟩),.pointer (some ⟨w.heap.size,0,none⟩)]) ∧ w' = (w.alloc (rulesC fv nu ex)).alloc (.cells #[.int .i64 d] 3):=by
 go_enter Tryz.func81,Tryz.ntmps81
 go_wp2
 go_ret
 exact ⟨rfl,rfl⟩
theorem vl_cond (ok : Cn → Bool) (G : Nat) (Fi Ca : Array Value) (hG : ∀ args w,(callFunc G args).run Tryz.prog w = .ok (.enter G args) w) (cs : List Cn) (A : Option Addr) (c : Nat) (least most : Int) (w : World) (hn : cs.length ≤ maxLen) (hr : CnRow w w.heap.size cs A)
 (hC : ∀ k ak an sa al bk bn sb bl l Aa ca Ab cb Al cl W,Cn.mk k (.mk ak an sa al) (.mk bk bn sb bl) l ∈ cs → Below w.heap.size w W → ExRow W w.heap.size al Aa → ExRow W w.heap.size bl Ab → CnRow W w.heap.size l Al → sa.length ≤ maxLen → al.length ≤ maxLen → sb.length ≤ maxLen → bl.length ≤ maxLen → l.length ≤ maxLen →
   Calls Tryz.prog G (Fi.push (condV2 k ak an ⟨sa.toArray⟩ (.slice Aa al.length ca) bk bn ⟨sb.toArray⟩ (.slice Ab bl.length cb) (.slice Al l.length cl)) ++ Ca) W fun e w' => e = .returned (.bool (ok (.mk k (.mk ak an sa al) (.mk bk bn sb bl) l))) ∧ Below W.heap.size W w') :
 Calls Tryz.prog 122 #[.slice A cs.length c,.int .i64 least,.int .i64 most,.func (.func G) Fi Ca] w fun e w' =>
  e = .returned (.bool (decide (least ≤ cs.length) && decide ((cs.length : Int) ≤ most) && cs.all ok)) ∧ Below w.heap.size w w':=by
 obtain ⟨n,hnn⟩ : ∃ n,n = cs.length:=⟨_,rfl⟩
 have HH:=Lib.hid (And.intro hr (And.intro hC hnn))
 have HB0:=Lib.hid (Below.refl w.heap.size w)
 rw [← hnn] at hn ⊢
 clear hr hC hnn
 unfold maxLen at hn
 go_enter Tryz.func122,Tryz.ntmps122
 by_cases hl : (n : Int) < least
 ·go_wp2
  go_ret
  exact ⟨by rw [show decide (least ≤ (n : Int)) = false by simp;omega];rfl,HB0.out⟩
 by_cases hm : (n : Int) > most
 ·go_wp2
  go_ret
  exact ⟨by rw [show decide ((n : Int) ≤ most) = false by simp;omega];simp,HB0.out⟩
 go_wp2
 go_loopg [23] n (fun m j wr => ∃ k : Nat,m = n - k ∧ k ≤ n ∧ j = .int .i64 k ∧ Hid (Below w.heap.size w wr ∧ (cs.take k).all ok = true))
 case atStart => exact ⟨0,rfl,Nat.zero_le _,rfl,Lib.hid ⟨HB0.out,rfl⟩⟩
 case round =>
  obtain ⟨i,rfl,hk,rfl,HI⟩:=hrel
  by_cases hlt : i < n
  ·have hki : (i : Int) < n:=by omega
   obtain ⟨⟨k,⟨ak,an,sa,al⟩,⟨bk,bn,sb,bl⟩,l⟩,hi⟩ : ∃ x,cs[i]? = some x:=⟨cs[i]'(by rw [← HH.out.2.2];exact hlt),List.getElem?_eq_getElem _⟩
   obtain ⟨a,Aa,ca,Ab,cb,Al,cl,rfl,hab,hc,b1,b2,b3,b4,b5,ra,rb,rl⟩:=(HH.out.1.stay HI.out.1 (Nat.le_refl _)).at_ hi
   obtain ⟨c0,c1,c2,c3,c4,c5,c6,c7,c8,c9⟩:=hc.flat
   have HJ:=Lib.hid (HI.out.1.alloc HI.out.1.size (condC2 k ak an ⟨sa.toArray⟩ (.slice Aa al.length ca) bk bn ⟨sb.toArray⟩ (.slice Ab bl.length cb) (.slice Al l.length cl)))
   have hbw:=below_alloc wr (condC2 k ak an ⟨sa.toArray⟩ (.slice Aa al.length ca) bk bn ⟨sb.toArray⟩ (.slice Ab bl.length cb) (.slice Al l.length cl))
   have HC2:=Lib.hid (HH.out.2.1 k ak an sa al bk bn sb bl l Aa ca Ab cb Al cl _ (List.mem_of_getElem? hi) HJ.out (ra.stay hbw HI.out.1.size) (rb.stay hbw HI.out.1.size) (rl.stay hbw HI.out.1.size) b1 b2 b3 b4 b5)
   have HX:=Lib.hid (And.intro hi (all_take_succ ok cs i _ hi))
   clear hc b1 b2 b3 b4 b5 ra rb rl hi hbw
   obtain ⟨okx,hokx⟩ : ∃ b,b = ok (.mk k (.mk ak an sa al) (.mk bk bn sb bl) l):=⟨_,rfl⟩
   rw [← hokx] at HC2 HX
   have HO:=Lib.hid hokx
   clear hokx
   go_wp2_with (refine HC2.out.mono ?_;rintro e w3 ⟨rfl,hb⟩;have HB3:=Lib.hid (HJ.out.trans (hb.mono HJ.out.size));clear hb)
   ·rename_i hf
    have hf' : ok (.mk k (.mk ak an sa al) (.mk bk bn sb bl) l) = false:=by rw [← HO.out];simpa using hf
    go_ret
    exact ⟨by rw [all_of_false ok cs i _ HX.out.1 hf',Bool.and_false];rfl,HB3.out⟩
   ·rename_i hf
    have hf' : okx = true:=by simpa using hf
    go_roundg (n - (i + 1))
    case measure => omega
    case rel => exact ⟨i + 1,rfl,by omega,by go_num,Lib.hid ⟨HB3.out,by rw [HX.out.2,HI.out.2,hf'];rfl⟩⟩
  ·obtain rfl : i = n:=by omega
   go_wp2
   go_ret
   refine ⟨?_,HI.out.1⟩
   have := HI.out.2
   rw [List.take_of_length_le (by rw [HH.out.2.2];exact Nat.le_refl _)] at this
   rw [this,Bool.and_true,show decide (least ≤ (i : Int)) = true by simp;omega,show decide ((i : Int) ≤ most) = true by simp;omega]
   rfl
end Go.Proofs.YtnkpgpmaiicdeaaGreatDoor
namespace Go.Proofs.YtnkpgpmaiicdeaaGreatDoor
open Go.RowKit
theorem nameBs_prt (c : UInt8) : nameBs.contains c = prt c:=by
 have h : ∀ n : Fin 256,nameBs.contains (UInt8.ofNat n.val) = prt (UInt8.ofNat n.val):=by decide +kernel
 have := h ⟨c.toNat,c.toNat_lt⟩
 simpa using this
theorem dropWhile_nil (p : UInt8 → Bool) : ∀ r : List UInt8,r.dropWhile p = [] ↔ ∀ x ∈ r,p x = true:=by
 intro r
 induction r with
 | nil => simp
 | cons x r ih =>
   rw [List.dropWhile_cons]
   cases hp : p x with
   | true => simp [ih,hp]
   | false => simp [hp]
theorem all_dropWhile (p : UInt8 → Bool) : ∀ r : List UInt8,(∀ x ∈ r.dropWhile p,p x = true) ↔ ∀ x ∈ r,p x = true:=by
 intro r
 induction r with
 | nil => simp
 | cons x r ih =>
   rw [List.dropWhile_cons]
   cases hp : p x with
   | true => simp [ih,hp]
   | false => simp [hp]
theorem trimS_nil (l cs : List UInt8) : (Lib.trimS l cs == []) = l.all (cs.contains ·):=by
 rw [Bool.eq_iff_iff,beq_iff_eq,List.all_eq_true]
 unfold Lib.trimS Lib.trimLeftS Lib.trimRightS
 rw [dropWhile_nil]
 have := all_dropWhile (cs.contains ·) l.reverse
 constructor
 ·intro h x hx
  exact this.1 (fun y hy => h y (List.mem_reverse.2 hy)) x (List.mem_reverse.2 hx)
 ·intro h x hx
  exact this.2 (fun y hy => h y (List.mem_reverse.1 hy)) x (List.mem_reverse.1 hx)
theorem nameR_dollar (t : List UInt8) : nameR (36 :: t) = false:=by
 unfold nameR wordB
 rw [show headIs ltr (36 :: t) = false from rfl]
 rfl
theorem varB_varR : varB = varR:=by
 funext s
 unfold varB varR
 cases s with
 | nil =>
   rw [show Lib.hasPrefix [] [36] = false from rfl,if_neg (by decide),name_eq]
   rfl
 | cons x t =>
   by_cases hx : x = 36
   ·subst hx
    have hp : Lib.hasPrefix (36 :: t) [36] = true:=by unfold Lib.hasPrefix;simp
    have ht : Lib.trimPrefix (36 :: t) [36] = t:=by unfold Lib.trimPrefix;rw [if_pos hp];rfl
    rw [if_pos hp,ht,trimS_nil,nameR_dollar,Bool.false_or]
    have e1 : (fun c => nameBs.contains c) = prt:=by funext c;exact nameBs_prt c
    rw [show t.all (nameBs.contains ·) = t.all prt from by rw [← e1]]
    have e2 : (!(t == [])) = decide (2 ≤ (36 :: t).length):=by cases t <;> simp
    rw [e2]
    simp
   ·have hp : Lib.hasPrefix (x :: t) [36] = false:=by
     have h36 : ((36 : UInt8) == x) = false:=by rw [beq_eq_false_iff_ne];exact fun e => hx e.symm
     show ((36 : UInt8) == x && List.isPrefixOf [] t) = false
     rw [h36]
     rfl
    have hh : ((x :: t).head? == some 36) = false:=by
     rw [beq_eq_false_iff_ne]
     intro e
     exact hx (Option.some.inj e)
    rw [if_neg (by rw [hp];exact Bool.false_ne_true),name_eq,hh,Bool.and_false,Bool.false_and,Bool.or_false]
end Go.Proofs.YtnkpgpmaiicdeaaGreatDoor
