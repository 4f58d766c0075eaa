import Derived.Test.YtojjfdegkooknaaGreatDoorQTreeSh
set_option linter.unusedVariables false
set_option linter.unusedSimpArgs false
namespace Go.Proofs.YtojjfdegkooknaaGreatDoor
set_option maxRecDepth 100000
set_option maxHeartbeats 4000000
open Go.RowKit
theorem elc_zero (l : List Cn) (A : Option Addr) (c : Nat) (f : Value) (w : World) (hl : l.length ≤ maxLen) :
 Calls Tryz.prog 264 #[.slice A l.length c,.slice none 0 0,f] w fun e w' => e = .returned (.bool l.isEmpty) ∧ w = w':=by
 unfold maxLen at hl
 cases l with
 | nil =>
   go_enter Tryz.func264,Tryz.ntmps264
   go_wp2
   go_loop [15] (fun j => j = .int .i64 0) (fun _ => 0)
   case atStart => rfl
   case round =>
    subst hrel
    go_wp2
    go_ret
    exact ⟨rfl,rfl⟩
 | cons x l =>
   obtain ⟨n,hn⟩ : ∃ n,n = (x :: l).length:=⟨_,rfl⟩
   have h0 : ¬ (n : Int) = 0:=by rw [hn,List.length_cons];omega
   rw [← hn]
   clear hn
   go_enter Tryz.func264,Tryz.ntmps264
   go_wp2
   go_ret
   exact ⟨rfl,rfl⟩
theorem ec_zero (k ak an : Int) (sa : List UInt8) (al : List Ex) (bk bn : Int) (sb : List UInt8) (bl : List Ex) (l : List Cn) (Aa : Option Addr) (ca : Nat) (Ab : Option Addr) (cb : Nat) (Al : Option Addr) (cl : Nat) (w : World) (b2 : al.length ≤ maxLen) (b4 : bl.length ≤ maxLen) (b5 : l.length ≤ maxLen) :
 Calls Tryz.prog 252 #[condV2 k ak an ⟨sa.toArray⟩ (.slice Aa al.length ca) bk bn ⟨sb.toArray⟩ (.slice Ab bl.length cb) (.slice Al l.length cl),condV2 0 0 0 ⟨#[]⟩ (.slice none 0 0) 0 0 ⟨#[]⟩ (.slice none 0 0) (.slice none 0 0)] w
  fun e w' => e = .returned (.bool (zC (.mk k (.mk ak an sa al) (.mk bk bn sb bl) l))) ∧ Below w.heap.size w w':=by
 have HL : Hid (∀ f w,Calls Tryz.prog 264 #[.slice Al l.length cl,.slice none 0 0,f] w fun e w' => e = .returned (.bool l.isEmpty) ∧ w = w'):=Lib.hid (fun f w => elc_zero l Al cl f w b5)
 have HA : Hid (∀ w,Calls Tryz.prog 250 #[exprV ak an ⟨sa.toArray⟩ (.slice Aa al.length ca),exprV 0 0 ⟨#[]⟩ (.slice none 0 0)] w fun e w' => e = .returned (.bool (zX (.mk ak an sa al))) ∧ Below w.heap.size w w'):=Lib.hid (fun w => ee_zero ak an sa al Aa ca w b2)
 have HE : Hid (∀ w,Calls Tryz.prog 250 #[exprV bk bn ⟨sb.toArray⟩ (.slice Ab bl.length cb),exprV 0 0 ⟨#[]⟩ (.slice none 0 0)] w fun e w' => e = .returned (.bool (zX (.mk bk bn sb bl))) ∧ Below w.heap.size w w'):=Lib.hid (fun w => ee_zero bk bn sb bl Ab cb w b4)
 obtain ⟨res,hres⟩ : ∃ res,res = zC (.mk k (.mk ak an sa al) (.mk bk bn sb bl) l):=⟨_,rfl⟩
 rw [← hres]
 rw [zC_eq] at hres
 generalize zX (.mk ak an sa al) = za at *
 generalize zX (.mk bk bn sb bl) = zb at *
 generalize l.isEmpty = le at *
 obtain ⟨W1,hW1⟩ : ∃ W1,W1 = (w.alloc (condC2 k ak an ⟨sa.toArray⟩ (.slice Aa al.length ca) bk bn ⟨sb.toArray⟩ (.slice Ab bl.length cb) (.slice Al l.length cl))).alloc (condC2 0 0 0 ⟨#[]⟩ (.slice none 0 0) 0 0 ⟨#[]⟩ (.slice none 0 0) (.slice none 0 0)):=⟨_,rfl⟩
 have HB : Hid (Below w.heap.size w W1):=Lib.hid (by rw [hW1];exact (below_alloc w _).chain (below_alloc _ _))
 have q1:=heap_keep (o:=condC2 0 0 0 ⟨#[]⟩ (.slice none 0 0) 0 0 ⟨#[]⟩ (.slice none 0 0) (.slice none 0 0)) (heap_of_alloc w (condC2 k ak an ⟨sa.toArray⟩ (.slice Aa al.length ca) bk bn ⟨sb.toArray⟩ (.slice Ab bl.length cb) (.slice Al l.length cl)))
 have q2:=heap_of_alloc (w.alloc (condC2 k ak an ⟨sa.toArray⟩ (.slice Aa al.length ca) bk bn ⟨sb.toArray⟩ (.slice Ab bl.length cb) (.slice Al l.length cl))) (condC2 0 0 0 ⟨#[]⟩ (.slice none 0 0) 0 0 ⟨#[]⟩ (.slice none 0 0) (.slice none 0 0))
 rw [size_of_alloc] at q2
 rw [← hW1] at q1 q2
 have HQ:=Lib.hid (And.intro q1 q2)
 unfold maxLen at b2 b4 b5
 clear q1 q2
 by_cases hk : k = 0
 ·subst hk
  cases za with
  | false =>
    have e : res = false:=hres
    clear hres
    subst e
    go_enter Tryz.func252,Tryz.ntmps252
    go_wp2_with (go_at_call 250;rw [← hW1];clear hW1;refine (HA.out _).mono ?_;rintro e w2 ⟨rfl,hb⟩;have HB2:=Lib.hid (HB.out.chain hb);clear hb)
    go_ret
    exact ⟨rfl,HB2.out⟩
  | true =>
    cases zb with
    | false =>
      have e : res = false:=hres
      clear hres
      subst e
      go_enter Tryz.func252,Tryz.ntmps252
      go_wp2_with (first
       | (go_at_call 250;rw [← hW1];clear hW1;with_reducible refine (HA.out _).mono ?_;rintro e w2 ⟨rfl,hb⟩;have HB2:=Lib.hid (HB.out.chain hb);have HQ2:=Lib.hid (And.intro (kept_box hb HQ.out.1) (kept_box hb HQ.out.2));obtain ⟨g1,g2,g3,g4,g5,g6,g7,g8,g9⟩:=box10 HQ2.out.1;obtain ⟨y1,y2,y3,y4,y5,y6,y7,y8,y9⟩:=box10 HQ2.out.2;clear hb)
       | (go_at_call 250;refine (HE.out _).mono ?_;rintro e w3 ⟨rfl,hb3⟩;have HB3:=Lib.hid (HB2.out.chain hb3);clear hb3))
      go_ret
      exact ⟨rfl,HB3.out⟩
    | true =>
      have e : res = le:=hres
      clear hres
      subst e
      go_enter Tryz.func252,Tryz.ntmps252
      go_wp2_with (first
       | (go_at_call 250;rw [← hW1];clear hW1;with_reducible refine (HA.out _).mono ?_;rintro e w2 ⟨rfl,hb⟩;have HB2:=Lib.hid (HB.out.chain hb);have HQ2:=Lib.hid (And.intro (kept_box hb HQ.out.1) (kept_box hb HQ.out.2));obtain ⟨g1,g2,g3,g4,g5,g6,g7,g8,g9⟩:=box10 HQ2.out.1;obtain ⟨y1,y2,y3,y4,y5,y6,y7,y8,y9⟩:=box10 HQ2.out.2;clear hb)
       | (go_at_call 250;refine (HE.out _).mono ?_;rintro e w3 ⟨rfl,hb3⟩;have HB3:=Lib.hid (HB2.out.chain hb3);obtain ⟨i1,i2,i3,i4,i5,i6,i7,i8,i9⟩:=box10 (kept_box hb3 HQ2.out.1);obtain ⟨x1,x2,x3,x4,x5,x6,x7,x8,x9⟩:=box10 (kept_box hb3 HQ2.out.2);clear hb3)
       | (go_at_call 264;refine (HL.out _ _).mono ?_;rintro e w4 ⟨rfl,rfl⟩))
      go_ret
      exact ⟨rfl,HB3.out⟩
 ·have hkb : (k == 0) = false:=by simpa using hk
  have e : res = false:=by rw [hres,hkb];rfl
  clear hres hkb
  subst e
  go_enter Tryz.func252,Tryz.ntmps252
  go_wp2
  go_ret
  rw [← hW1]
  exact ⟨rfl,HB.out⟩
theorem no_cond (k ak an : Int) (sa : List UInt8) (al : List Ex) (bk bn : Int) (sb : List UInt8) (bl : List Ex) (l : List Cn) (Aa : Option Addr) (ca : Nat) (Ab : Option Addr) (cb : Nat) (Al : Option Addr) (cl : Nat) (w : World) (b2 : al.length ≤ maxLen) (b4 : bl.length ≤ maxLen) (b5 : l.length ≤ maxLen) :
 Calls Tryz.prog 231 #[condV2 k ak an ⟨sa.toArray⟩ (.slice Aa al.length ca) bk bn ⟨sb.toArray⟩ (.slice Ab bl.length cb) (.slice Al l.length cl)] w
  fun e w' => e = .returned (.bool (zC (.mk k (.mk ak an sa al) (.mk bk bn sb bl) l))) ∧ Below w.heap.size w w':=by
 have HB:=Lib.hid (below_alloc w (condC2 k ak an ⟨sa.toArray⟩ (.slice Aa al.length ca) bk bn ⟨sb.toArray⟩ (.slice Ab bl.length cb) (.slice Al l.length cl)))
 have HC:=Lib.hid (ec_zero k ak an sa al bk bn sb bl l Aa ca Ab cb Al cl (w.alloc (condC2 k ak an ⟨sa.toArray⟩ (.slice Aa al.length ca) bk bn ⟨sb.toArray⟩ (.slice Ab bl.length cb) (.slice Al l.length cl))) b2 b4 b5)
 generalize zC (.mk k (.mk ak an sa al) (.mk bk bn sb bl) l) = res at *
 go_enter Tryz.func231,Tryz.ntmps231
 go_wp2_with (go_at_call 252;refine HC.out.mono ?_;rintro e w3 ⟨rfl,hb⟩)
 go_ret
 exact ⟨rfl,HB.out.chain hb⟩
theorem von_expr (fv : Nat) (var : List UInt8 → Bool) (hv : VarOk fv var) (nu ex : Int) (h0 : 0 ≤ nu) (h1 : nu ≤ 4611686018427387904) (b : Bool) (k n : Int) (s : List UInt8) (l : List Ex) (A : Option Addr) (c : Nat) (w : World) (hr : ExRow w w.heap.size l A) (hs : s.length ≤ maxLen) (hl : l.length ≤ maxLen) :
 Calls Tryz.prog 226 #[.bool b,exprV k n ⟨s.toArray⟩ (.slice A l.length c),.func (.func 141) #[rulesV fv nu ex] #[],.func (.func 228) #[] #[]] w
  fun e w' => e = .returned (.bool (if b then vE var nu 30 (.mk k n s l) else zX (.mk k n s l))) ∧ Below w.heap.size w w':=by
 have HB:=Lib.hid (below_alloc w (exprC k n ⟨s.toArray⟩ (.slice A l.length c)))
 have HV:=Lib.hid (rexpr_any fv var hv nu ex h0 h1 k n s l A c (w.alloc (exprC k n ⟨s.toArray⟩ (.slice A l.length c))) (hr.on HB.out) hs hl)
 have HN:=Lib.hid (no_expr k n s l A c (w.alloc (exprC k n ⟨s.toArray⟩ (.slice A l.length c))) hl)
 have he:=enters_of Tryz.func141 (by kernel_rfl) rfl
 have he2:=enters_of Tryz.func228 (by kernel_rfl) rfl
 generalize vE var nu 30 (.mk k n s l) = v1 at *
 generalize zX (.mk k n s l) = v2 at *
 unfold maxLen at hs hl
 clear hr hv h0 h1
 cases b with
 | true =>
   rw [if_pos rfl]
   go_enter Tryz.func226,Tryz.ntmps226
   go_wp2_with (go_at_call 141;refine HV.out.mono ?_;rintro e w3 ⟨rfl,hb⟩)
   go_ret
   exact ⟨rfl,HB.out.chain hb⟩
 | false =>
   rw [if_neg Bool.false_ne_true]
   go_enter Tryz.func226,Tryz.ntmps226
   go_wp2_with (go_at_call 228;refine HN.out.mono ?_;rintro e w3 ⟨rfl,hb⟩)
   go_ret
   exact ⟨rfl,HB.out.chain hb⟩
theorem von_cond (fv : Nat) (var : List UInt8 → Bool) (hv : VarOk fv var) (nu ex : Int) (h0 : 0 ≤ nu) (h1 : nu ≤ 4611686018427387904) (b : Bool) (k ak an : Int) (sa : List UInt8) (al : List Ex) (bk bn : Int) (sb : List UInt8) (bl : List Ex) (l : List Cn) (Aa : Option Addr) (ca : Nat) (Ab : Option Addr) (cb : Nat) (Al : Option Addr) (cl : Nat) (w : World)
 (ra : ExRow w w.heap.size al Aa) (rb : ExRow w w.heap.size bl Ab) (rl : CnRow w w.heap.size l Al) (b1 : sa.length ≤ maxLen) (b2 : al.length ≤ maxLen) (b3 : sb.length ≤ maxLen) (b4 : bl.length ≤ maxLen) (b5 : l.length ≤ maxLen) :
 Calls Tryz.prog 229 #[.bool b,condV2 k ak an ⟨sa.toArray⟩ (.slice Aa al.length ca) bk bn ⟨sb.toArray⟩ (.slice Ab bl.length cb) (.slice Al l.length cl),.func (.func 230) #[rulesV fv nu ex] #[],.func (.func 231) #[] #[]] w
  fun e w' => e = .returned (.bool (if b then vC var nu 30 (.mk k (.mk ak an sa al) (.mk bk bn sb bl) l) else zC (.mk k (.mk ak an sa al) (.mk bk bn sb bl) l))) ∧ Below w.heap.size w w':=by
 have HB:=Lib.hid (below_alloc w (condC2 k ak an ⟨sa.toArray⟩ (.slice Aa al.length ca) bk bn ⟨sb.toArray⟩ (.slice Ab bl.length cb) (.slice Al l.length cl)))
 have HV:=Lib.hid (rcond_any fv var hv nu ex h0 h1 k ak an sa al bk bn sb bl l Aa ca Ab cb Al cl (w.alloc (condC2 k ak an ⟨sa.toArray⟩ (.slice Aa al.length ca) bk bn ⟨sb.toArray⟩ (.slice Ab bl.length cb) (.slice Al l.length cl))) (ra.on HB.out) (rb.on HB.out) (rl.on HB.out) b1 b2 b3 b4 b5)
 have HN:=Lib.hid (no_cond k ak an sa al bk bn sb bl l Aa ca Ab cb Al cl (w.alloc (condC2 k ak an ⟨sa.toArray⟩ (.slice Aa al.length ca) bk bn ⟨sb.toArray⟩ (.slice Ab bl.length cb) (.slice Al l.length cl))) b2 b4 b5)
 have he:=enters_of Tryz.func230 (by kernel_rfl) rfl
 have he2:=enters_of Tryz.func231 (by kernel_rfl) rfl
 generalize vC var nu 30 (.mk k (.mk ak an sa al) (.mk bk bn sb bl) l) = v1 at *
 generalize zC (.mk k (.mk ak an sa al) (.mk bk bn sb bl) l) = v2 at *
 unfold maxLen at b1 b2 b3 b4 b5
 clear ra rb rl hv h0 h1
 cases b with
 | true =>
   rw [if_pos rfl]
   go_enter Tryz.func229,Tryz.ntmps229
   go_wp2_with (go_at_call 230;refine HV.out.mono ?_;rintro e w3 ⟨rfl,hb⟩)
   go_ret
   exact ⟨rfl,HB.out.chain hb⟩
 | false =>
   rw [if_neg Bool.false_ne_true]
   go_enter Tryz.func229,Tryz.ntmps229
   go_wp2_with (go_at_call 231;refine HN.out.mono ?_;rintro e w3 ⟨rfl,hb⟩)
   go_ret
   exact ⟨rfl,HB.out.chain hb⟩
end Go.Proofs.YtojjfdegkooknaaGreatDoor
