/-
  The reference's cond and Cond. The reference's cond: the kinds with operands, and all others. The reference's cond and Cond.
-/
import Derived.Test.YtkopbfndfkibbaaGreatDoorSTreeKw
set_option linter.unusedVariables false
set_option linter.unusedSimpArgs false
namespace Go.Proofs.YtkopbfndfkibbaaGreatDoor
set_option maxRecDepth 100000
set_option maxHeartbeats 20000000
open Go.RowKit
theorem opsC_eq {m : Int} {l : List Cn} (h : (l.length : Int) = m) (f : Cn → Bool) : opsC m l f = l.all f:=by
 unfold opsC
 rw [show decide (m ≤ (l.length : Int)) = true from decide_eq_true (by omega),show decide ((l.length : Int) ≤ m) = true from decide_eq_true (by omega)]
 rfl
theorem opsC_ne {m : Int} {l : List Cn} (h : ¬ (l.length : Int) = m) (f : Cn → Bool) : opsC m l f = false:=by
 unfold opsC
 by_cases h1 : m ≤ (l.length : Int)
 ·rw [show decide ((l.length : Int) ≤ m) = false from decide_eq_false (by omega)]
  simp
 ·rw [show decide (m ≤ (l.length : Int)) = false from decide_eq_false h1]
  rfl
def ScOk (d : Nat) (f : Cn → Bool) : Prop :=
 ∀ (k ak an : Int) (sa : List UInt8) (al : List Ex) (bk bn : Int) (sb : List UInt8) (bl : List Ex) (l : List Cn) (Aa : Option Addr) (ca : Nat) (Ab : Option Addr) (cb : Nat) (Al : Option Addr) (cl : Nat) (W : World),ExRow W W.heap.size al Aa → ExRow W W.heap.size bl Ab → CnRow W W.heap.size l Al → sa.length ≤ maxLen → al.length ≤ maxLen → sb.length ≤ maxLen → bl.length ≤ maxLen → l.length ≤ maxLen →
  Calls Tryz.prog 186 #[condV2 k ak an ⟨sa.toArray⟩ (.slice Aa al.length ca) bk bn ⟨sb.toArray⟩ (.slice Ab bl.length cb) (.slice Al l.length cl),.int .i64 d] W fun e w' => e = .returned (.bool (f (.mk k (.mk ak an sa al) (.mk bk bn sb bl) l))) ∧ Below W.heap.size W w'
theorem sc_1 (d : Nat) (hd : d + 1 ≤ 1000) (ih : ScOk d (vC varR nuP d)) (k ak an : Int) (sa : List UInt8) (al : List Ex) (bk bn : Int) (sb : List UInt8) (bl : List Ex) (l : List Cn) (Aa : Option Addr) (ca : Nat) (Ab : Option Addr) (cb : Nat) (Al : Option Addr) (cl : Nat) (W : World) (hk : k = 1) : ExRow W W.heap.size al Aa → ExRow W W.heap.size bl Ab → CnRow W W.heap.size l Al → sa.length ≤ maxLen → al.length ≤ maxLen → sb.length ≤ maxLen → bl.length ≤ maxLen → l.length ≤ maxLen →
 Calls Tryz.prog 186 #[condV2 k ak an ⟨sa.toArray⟩ (.slice Aa al.length ca) bk bn ⟨sb.toArray⟩ (.slice Ab bl.length cb) (.slice Al l.length cl),.int .i64 ((d + 1 : Nat) : Int)] W fun e w' => e = .returned (.bool (vC varR nuP (d + 1) (.mk k (.mk ak an sa al) (.mk bk bn sb bl) l))) ∧ Below W.heap.size W w':=by
 intro ra rb rl b1 b2 b3 b4 b5
 have HB:=Lib.hid (below_alloc W (condC2 k ak an ⟨sa.toArray⟩ (.slice Aa al.length ca) bk bn ⟨sb.toArray⟩ (.slice Ab bl.length cb) (.slice Al l.length cl)))
 have HX:=Lib.hid (heap_of_alloc W (condC2 k ak an ⟨sa.toArray⟩ (.slice Aa al.length ca) bk bn ⟨sb.toArray⟩ (.slice Ab bl.length cb) (.slice Al l.length cl)))
 have HA : Hid (∀ W3,Below W.heap.size W W3 → Calls Tryz.prog 125 #[exprV ak an ⟨sa.toArray⟩ (.slice Aa al.length ca)] W3 fun e w' => e = .returned (.bool (vE varR nuP 30 (.mk ak an sa al))) ∧ Below W3.heap.size W3 w'):=Lib.hid (fun W3 hb => sexpr_any ak an sa al Aa ca W3 ((ra.stay hb (Nat.le_refl _)).more hb.size) b1 b2)
 have HC : Hid (∀ W3,Below W.heap.size W W3 → Calls Tryz.prog 125 #[exprV bk bn ⟨sb.toArray⟩ (.slice Ab bl.length cb)] W3 fun e w' => e = .returned (.bool (vE varR nuP 30 (.mk bk bn sb bl))) ∧ Below W3.heap.size W3 w'):=Lib.hid (fun W3 hb => sexpr_any bk bn sb bl Ab cb W3 ((rb.stay hb (Nat.le_refl _)).more hb.size) b3 b4)
 have HZA : Hid (∀ W3,Calls Tryz.prog 160 #[exprV ak an ⟨sa.toArray⟩ (.slice Aa al.length ca)] W3 fun e w' => e = .returned (.bool (zX (.mk ak an sa al))) ∧ Below W3.heap.size W3 w'):=Lib.hid (fun W3 => szero_any ak an sa al Aa ca W3 b2)
 have HZB : Hid (∀ W3,Calls Tryz.prog 160 #[exprV bk bn ⟨sb.toArray⟩ (.slice Ab bl.length cb)] W3 fun e w' => e = .returned (.bool (zX (.mk bk bn sb bl))) ∧ Below W3.heap.size W3 w'):=Lib.hid (fun W3 => szero_any bk bn sb bl Ab cb W3 b4)
 have HR:=Lib.hid (And.intro rl ih)
 have hm : ((d + 1 : Nat) : Int) = (d : Int) + 1:=by omega
 rw [hm]
 have hne : ¬ ((d : Int) + 1 < 1):=by omega
 have hd' : (d : Int) ≤ 1000:=by omega
 unfold vC
 generalize hvd : vC varR nuP d = vd at *
 generalize vE varR nuP 30 (.mk ak an sa al) = ea at *
 generalize vE varR nuP 30 (.mk bk bn sb bl) = eb at *
 generalize zX (.mk ak an sa al) = za at *
 generalize zX (.mk bk bn sb bl) = zb at *
 clear ih hvd ra rb rl hm
 unfold maxLen at b1 b2 b3 b4 b5
 subst hk
 rw [if_pos (by decide)]
 cases ea with
 | false =>
   go_enter Tryz.func186,Tryz.ntmps186
   go_wp2_with (first
    | (go_at_call 125;refine (HA.out _ HB.out).mono ?_;rintro e w3 ⟨rfl,hb3⟩;have HB3:=Lib.hid (HB.out.chain hb3);have hc:=kept_box hb3 HX.out;obtain ⟨y1,y2,y3,y4,y5,y6,y7,y8,y9⟩:=box10 hc;clear hb3;have HX3:=Lib.hid hc;clear hc)
    )
   go_ret
   exact ⟨rfl,HB3.out⟩
 | true =>
   cases eb with
   | false =>
     go_enter Tryz.func186,Tryz.ntmps186
     go_wp2_with (first
      | (go_at_call 125;refine (HA.out _ HB.out).mono ?_;rintro e w3 ⟨rfl,hb3⟩;have HB3:=Lib.hid (HB.out.chain hb3);have hc:=kept_box hb3 HX.out;obtain ⟨y1,y2,y3,y4,y5,y6,y7,y8,y9⟩:=box10 hc;clear hb3;have HX3:=Lib.hid hc;clear hc)
      | (go_at_call 125;refine (HC.out w3 HB3.out).mono ?_;rintro e w4 ⟨rfl,hb4⟩;have HB4:=Lib.hid (HB3.out.chain hb4);have hc:=kept_box hb4 HX3.out;have y99:=cell_of_block hc 9 (v:=.slice Al l.length cl) rfl;clear hb4 hc)
      )
     go_ret
     exact ⟨rfl,HB4.out⟩
   | true =>
     go_enter Tryz.func186,Tryz.ntmps186
     go_wp2_with (first
      | (go_at_call 125;refine (HA.out _ HB.out).mono ?_;rintro e w3 ⟨rfl,hb3⟩;have HB3:=Lib.hid (HB.out.chain hb3);have hc:=kept_box hb3 HX.out;obtain ⟨y1,y2,y3,y4,y5,y6,y7,y8,y9⟩:=box10 hc;clear hb3;have HX3:=Lib.hid hc;clear hc)
      | (go_at_call 125;refine (HC.out w3 HB3.out).mono ?_;rintro e w4 ⟨rfl,hb4⟩;have HB4:=Lib.hid (HB3.out.chain hb4);have hc:=kept_box hb4 HX3.out;have y99:=cell_of_block hc 9 (v:=.slice Al l.length cl) rfl;clear hb4 hc)
      )
     go_ret
     exact ⟨rfl,HB4.out⟩
theorem sc_2 (d : Nat) (hd : d + 1 ≤ 1000) (ih : ScOk d (vC varR nuP d)) (k ak an : Int) (sa : List UInt8) (al : List Ex) (bk bn : Int) (sb : List UInt8) (bl : List Ex) (l : List Cn) (Aa : Option Addr) (ca : Nat) (Ab : Option Addr) (cb : Nat) (Al : Option Addr) (cl : Nat) (W : World) (hk : k = 2) : ExRow W W.heap.size al Aa → ExRow W W.heap.size bl Ab → CnRow W W.heap.size l Al → sa.length ≤ maxLen → al.length ≤ maxLen → sb.length ≤ maxLen → bl.length ≤ maxLen → l.length ≤ maxLen →
 Calls Tryz.prog 186 #[condV2 k ak an ⟨sa.toArray⟩ (.slice Aa al.length ca) bk bn ⟨sb.toArray⟩ (.slice Ab bl.length cb) (.slice Al l.length cl),.int .i64 ((d + 1 : Nat) : Int)] W fun e w' => e = .returned (.bool (vC varR nuP (d + 1) (.mk k (.mk ak an sa al) (.mk bk bn sb bl) l))) ∧ Below W.heap.size W w':=by
 intro ra rb rl b1 b2 b3 b4 b5
 have HB:=Lib.hid (below_alloc W (condC2 k ak an ⟨sa.toArray⟩ (.slice Aa al.length ca) bk bn ⟨sb.toArray⟩ (.slice Ab bl.length cb) (.slice Al l.length cl)))
 have HX:=Lib.hid (heap_of_alloc W (condC2 k ak an ⟨sa.toArray⟩ (.slice Aa al.length ca) bk bn ⟨sb.toArray⟩ (.slice Ab bl.length cb) (.slice Al l.length cl)))
 have HA : Hid (∀ W3,Below W.heap.size W W3 → Calls Tryz.prog 125 #[exprV ak an ⟨sa.toArray⟩ (.slice Aa al.length ca)] W3 fun e w' => e = .returned (.bool (vE varR nuP 30 (.mk ak an sa al))) ∧ Below W3.heap.size W3 w'):=Lib.hid (fun W3 hb => sexpr_any ak an sa al Aa ca W3 ((ra.stay hb (Nat.le_refl _)).more hb.size) b1 b2)
 have HC : Hid (∀ W3,Below W.heap.size W W3 → Calls Tryz.prog 125 #[exprV bk bn ⟨sb.toArray⟩ (.slice Ab bl.length cb)] W3 fun e w' => e = .returned (.bool (vE varR nuP 30 (.mk bk bn sb bl))) ∧ Below W3.heap.size W3 w'):=Lib.hid (fun W3 hb => sexpr_any bk bn sb bl Ab cb W3 ((rb.stay hb (Nat.le_refl _)).more hb.size) b3 b4)
 have HZA : Hid (∀ W3,Calls Tryz.prog 160 #[exprV ak an ⟨sa.toArray⟩ (.slice Aa al.length ca)] W3 fun e w' => e = .returned (.bool (zX (.mk ak an sa al))) ∧ Below W3.heap.size W3 w'):=Lib.hid (fun W3 => szero_any ak an sa al Aa ca W3 b2)
 have HZB : Hid (∀ W3,Calls Tryz.prog 160 #[exprV bk bn ⟨sb.toArray⟩ (.slice Ab bl.length cb)] W3 fun e w' => e = .returned (.bool (zX (.mk bk bn sb bl))) ∧ Below W3.heap.size W3 w'):=Lib.hid (fun W3 => szero_any bk bn sb bl Ab cb W3 b4)
 have HR:=Lib.hid (And.intro rl ih)
 have hm : ((d + 1 : Nat) : Int) = (d : Int) + 1:=by omega
 rw [hm]
 have hne : ¬ ((d : Int) + 1 < 1):=by omega
 have hd' : (d : Int) ≤ 1000:=by omega
 unfold vC
 generalize hvd : vC varR nuP d = vd at *
 generalize vE varR nuP 30 (.mk ak an sa al) = ea at *
 generalize vE varR nuP 30 (.mk bk bn sb bl) = eb at *
 generalize zX (.mk ak an sa al) = za at *
 generalize zX (.mk bk bn sb bl) = zb at *
 clear ih hvd ra rb rl hm
 unfold maxLen at b1 b2 b3 b4 b5
 subst hk
 rw [if_pos (by decide)]
 cases ea with
 | false =>
   go_enter Tryz.func186,Tryz.ntmps186
   go_wp2_with (first
    | (go_at_call 125;refine (HA.out _ HB.out).mono ?_;rintro e w3 ⟨rfl,hb3⟩;have HB3:=Lib.hid (HB.out.chain hb3);have hc:=kept_box hb3 HX.out;obtain ⟨y1,y2,y3,y4,y5,y6,y7,y8,y9⟩:=box10 hc;clear hb3;have HX3:=Lib.hid hc;clear hc)
    )
   go_ret
   exact ⟨rfl,HB3.out⟩
 | true =>
   cases eb with
   | false =>
     go_enter Tryz.func186,Tryz.ntmps186
     go_wp2_with (first
      | (go_at_call 125;refine (HA.out _ HB.out).mono ?_;rintro e w3 ⟨rfl,hb3⟩;have HB3:=Lib.hid (HB.out.chain hb3);have hc:=kept_box hb3 HX.out;obtain ⟨y1,y2,y3,y4,y5,y6,y7,y8,y9⟩:=box10 hc;clear hb3;have HX3:=Lib.hid hc;clear hc)
      | (go_at_call 125;refine (HC.out w3 HB3.out).mono ?_;rintro e w4 ⟨rfl,hb4⟩;have HB4:=Lib.hid (HB3.out.chain hb4);have hc:=kept_box hb4 HX3.out;have y99:=cell_of_block hc 9 (v:=.slice Al l.length cl) rfl;clear hb4 hc)
      )
     go_ret
     exact ⟨rfl,HB4.out⟩
   | true =>
     go_enter Tryz.func186,Tryz.ntmps186
     go_wp2_with (first
      | (go_at_call 125;refine (HA.out _ HB.out).mono ?_;rintro e w3 ⟨rfl,hb3⟩;have HB3:=Lib.hid (HB.out.chain hb3);have hc:=kept_box hb3 HX.out;obtain ⟨y1,y2,y3,y4,y5,y6,y7,y8,y9⟩:=box10 hc;clear hb3;have HX3:=Lib.hid hc;clear hc)
      | (go_at_call 125;refine (HC.out w3 HB3.out).mono ?_;rintro e w4 ⟨rfl,hb4⟩;have HB4:=Lib.hid (HB3.out.chain hb4);have hc:=kept_box hb4 HX3.out;have y99:=cell_of_block hc 9 (v:=.slice Al l.length cl) rfl;clear hb4 hc)
      )
     go_ret
     exact ⟨rfl,HB4.out⟩
theorem sc_3 (d : Nat) (hd : d + 1 ≤ 1000) (ih : ScOk d (vC varR nuP d)) (k ak an : Int) (sa : List UInt8) (al : List Ex) (bk bn : Int) (sb : List UInt8) (bl : List Ex) (l : List Cn) (Aa : Option Addr) (ca : Nat) (Ab : Option Addr) (cb : Nat) (Al : Option Addr) (cl : Nat) (W : World) (hk : k = 3) : ExRow W W.heap.size al Aa → ExRow W W.heap.size bl Ab → CnRow W W.heap.size l Al → sa.length ≤ maxLen → al.length ≤ maxLen → sb.length ≤ maxLen → bl.length ≤ maxLen → l.length ≤ maxLen →
 Calls Tryz.prog 186 #[condV2 k ak an ⟨sa.toArray⟩ (.slice Aa al.length ca) bk bn ⟨sb.toArray⟩ (.slice Ab bl.length cb) (.slice Al l.length cl),.int .i64 ((d + 1 : Nat) : Int)] W fun e w' => e = .returned (.bool (vC varR nuP (d + 1) (.mk k (.mk ak an sa al) (.mk bk bn sb bl) l))) ∧ Below W.heap.size W w':=by
 intro ra rb rl b1 b2 b3 b4 b5
 have HB:=Lib.hid (below_alloc W (condC2 k ak an ⟨sa.toArray⟩ (.slice Aa al.length ca) bk bn ⟨sb.toArray⟩ (.slice Ab bl.length cb) (.slice Al l.length cl)))
 have HX:=Lib.hid (heap_of_alloc W (condC2 k ak an ⟨sa.toArray⟩ (.slice Aa al.length ca) bk bn ⟨sb.toArray⟩ (.slice Ab bl.length cb) (.slice Al l.length cl)))
 have HA : Hid (∀ W3,Below W.heap.size W W3 → Calls Tryz.prog 125 #[exprV ak an ⟨sa.toArray⟩ (.slice Aa al.length ca)] W3 fun e w' => e = .returned (.bool (vE varR nuP 30 (.mk ak an sa al))) ∧ Below W3.heap.size W3 w'):=Lib.hid (fun W3 hb => sexpr_any ak an sa al Aa ca W3 ((ra.stay hb (Nat.le_refl _)).more hb.size) b1 b2)
 have HC : Hid (∀ W3,Below W.heap.size W W3 → Calls Tryz.prog 125 #[exprV bk bn ⟨sb.toArray⟩ (.slice Ab bl.length cb)] W3 fun e w' => e = .returned (.bool (vE varR nuP 30 (.mk bk bn sb bl))) ∧ Below W3.heap.size W3 w'):=Lib.hid (fun W3 hb => sexpr_any bk bn sb bl Ab cb W3 ((rb.stay hb (Nat.le_refl _)).more hb.size) b3 b4)
 have HZA : Hid (∀ W3,Calls Tryz.prog 160 #[exprV ak an ⟨sa.toArray⟩ (.slice Aa al.length ca)] W3 fun e w' => e = .returned (.bool (zX (.mk ak an sa al))) ∧ Below W3.heap.size W3 w'):=Lib.hid (fun W3 => szero_any ak an sa al Aa ca W3 b2)
 have HZB : Hid (∀ W3,Calls Tryz.prog 160 #[exprV bk bn ⟨sb.toArray⟩ (.slice Ab bl.length cb)] W3 fun e w' => e = .returned (.bool (zX (.mk bk bn sb bl))) ∧ Below W3.heap.size W3 w'):=Lib.hid (fun W3 => szero_any bk bn sb bl Ab cb W3 b4)
 have HR:=Lib.hid (And.intro rl ih)
 have hm : ((d + 1 : Nat) : Int) = (d : Int) + 1:=by omega
 rw [hm]
 have hne : ¬ ((d : Int) + 1 < 1):=by omega
 have hd' : (d : Int) ≤ 1000:=by omega
 unfold vC
 generalize hvd : vC varR nuP d = vd at *
 generalize vE varR nuP 30 (.mk ak an sa al) = ea at *
 generalize vE varR nuP 30 (.mk bk bn sb bl) = eb at *
 generalize zX (.mk ak an sa al) = za at *
 generalize zX (.mk bk bn sb bl) = zb at *
 clear ih hvd ra rb rl hm
 unfold maxLen at b1 b2 b3 b4 b5
 subst hk
 rw [if_pos (by decide)]
 cases ea with
 | false =>
   go_enter Tryz.func186,Tryz.ntmps186
   go_wp2_with (first
    | (go_at_call 125;refine (HA.out _ HB.out).mono ?_;rintro e w3 ⟨rfl,hb3⟩;have HB3:=Lib.hid (HB.out.chain hb3);have hc:=kept_box hb3 HX.out;obtain ⟨y1,y2,y3,y4,y5,y6,y7,y8,y9⟩:=box10 hc;clear hb3;have HX3:=Lib.hid hc;clear hc)
    )
   go_ret
   exact ⟨rfl,HB3.out⟩
 | true =>
   cases eb with
   | false =>
     go_enter Tryz.func186,Tryz.ntmps186
     go_wp2_with (first
      | (go_at_call 125;refine (HA.out _ HB.out).mono ?_;rintro e w3 ⟨rfl,hb3⟩;have HB3:=Lib.hid (HB.out.chain hb3);have hc:=kept_box hb3 HX.out;obtain ⟨y1,y2,y3,y4,y5,y6,y7,y8,y9⟩:=box10 hc;clear hb3;have HX3:=Lib.hid hc;clear hc)
      | (go_at_call 125;refine (HC.out w3 HB3.out).mono ?_;rintro e w4 ⟨rfl,hb4⟩;have HB4:=Lib.hid (HB3.out.chain hb4);have hc:=kept_box hb4 HX3.out;have y99:=cell_of_block hc 9 (v:=.slice Al l.length cl) rfl;clear hb4 hc)
      )
     go_ret
     exact ⟨rfl,HB4.out⟩
   | true =>
     go_enter Tryz.func186,Tryz.ntmps186
     go_wp2_with (first
      | (go_at_call 125;refine (HA.out _ HB.out).mono ?_;rintro e w3 ⟨rfl,hb3⟩;have HB3:=Lib.hid (HB.out.chain hb3);have hc:=kept_box hb3 HX.out;obtain ⟨y1,y2,y3,y4,y5,y6,y7,y8,y9⟩:=box10 hc;clear hb3;have HX3:=Lib.hid hc;clear hc)
      | (go_at_call 125;refine (HC.out w3 HB3.out).mono ?_;rintro e w4 ⟨rfl,hb4⟩;have HB4:=Lib.hid (HB3.out.chain hb4);have hc:=kept_box hb4 HX3.out;have y99:=cell_of_block hc 9 (v:=.slice Al l.length cl) rfl;clear hb4 hc)
      )
     go_ret
     exact ⟨rfl,HB4.out⟩
theorem sc_4 (d : Nat) (hd : d + 1 ≤ 1000) (ih : ScOk d (vC varR nuP d)) (k ak an : Int) (sa : List UInt8) (al : List Ex) (bk bn : Int) (sb : List UInt8) (bl : List Ex) (l : List Cn) (Aa : Option Addr) (ca : Nat) (Ab : Option Addr) (cb : Nat) (Al : Option Addr) (cl : Nat) (W : World) (hk : k = 4) : ExRow W W.heap.size al Aa → ExRow W W.heap.size bl Ab → CnRow W W.heap.size l Al → sa.length ≤ maxLen → al.length ≤ maxLen → sb.length ≤ maxLen → bl.length ≤ maxLen → l.length ≤ maxLen →
 Calls Tryz.prog 186 #[condV2 k ak an ⟨sa.toArray⟩ (.slice Aa al.length ca) bk bn ⟨sb.toArray⟩ (.slice Ab bl.length cb) (.slice Al l.length cl),.int .i64 ((d + 1 : Nat) : Int)] W fun e w' => e = .returned (.bool (vC varR nuP (d + 1) (.mk k (.mk ak an sa al) (.mk bk bn sb bl) l))) ∧ Below W.heap.size W w':=by
 intro ra rb rl b1 b2 b3 b4 b5
 have HB:=Lib.hid (below_alloc W (condC2 k ak an ⟨sa.toArray⟩ (.slice Aa al.length ca) bk bn ⟨sb.toArray⟩ (.slice Ab bl.length cb) (.slice Al l.length cl)))
 have HX:=Lib.hid (heap_of_alloc W (condC2 k ak an ⟨sa.toArray⟩ (.slice Aa al.length ca) bk bn ⟨sb.toArray⟩ (.slice Ab bl.length cb) (.slice Al l.length cl)))
 have HA : Hid (∀ W3,Below W.heap.size W W3 → Calls Tryz.prog 125 #[exprV ak an ⟨sa.toArray⟩ (.slice Aa al.length ca)] W3 fun e w' => e = .returned (.bool (vE varR nuP 30 (.mk ak an sa al))) ∧ Below W3.heap.size W3 w'):=Lib.hid (fun W3 hb => sexpr_any ak an sa al Aa ca W3 ((ra.stay hb (Nat.le_refl _)).more hb.size) b1 b2)
 have HC : Hid (∀ W3,Below W.heap.size W W3 → Calls Tryz.prog 125 #[exprV bk bn ⟨sb.toArray⟩ (.slice Ab bl.length cb)] W3 fun e w' => e = .returned (.bool (vE varR nuP 30 (.mk bk bn sb bl))) ∧ Below W3.heap.size W3 w'):=Lib.hid (fun W3 hb => sexpr_any bk bn sb bl Ab cb W3 ((rb.stay hb (Nat.le_refl _)).more hb.size) b3 b4)
 have HZA : Hid (∀ W3,Calls Tryz.prog 160 #[exprV ak an ⟨sa.toArray⟩ (.slice Aa al.length ca)] W3 fun e w' => e = .returned (.bool (zX (.mk ak an sa al))) ∧ Below W3.heap.size W3 w'):=Lib.hid (fun W3 => szero_any ak an sa al Aa ca W3 b2)
 have HZB : Hid (∀ W3,Calls Tryz.prog 160 #[exprV bk bn ⟨sb.toArray⟩ (.slice Ab bl.length cb)] W3 fun e w' => e = .returned (.bool (zX (.mk bk bn sb bl))) ∧ Below W3.heap.size W3 w'):=Lib.hid (fun W3 => szero_any bk bn sb bl Ab cb W3 b4)
 have HR:=Lib.hid (And.intro rl ih)
 have hm : ((d + 1 : Nat) : Int) = (d : Int) + 1:=by omega
 rw [hm]
 have hne : ¬ ((d : Int) + 1 < 1):=by omega
 have hd' : (d : Int) ≤ 1000:=by omega
 unfold vC
 generalize hvd : vC varR nuP d = vd at *
 generalize vE varR nuP 30 (.mk ak an sa al) = ea at *
 generalize vE varR nuP 30 (.mk bk bn sb bl) = eb at *
 generalize zX (.mk ak an sa al) = za at *
 generalize zX (.mk bk bn sb bl) = zb at *
 clear ih hvd ra rb rl hm
 unfold maxLen at b1 b2 b3 b4 b5
 subst hk
 rw [if_pos (by decide)]
 cases ea with
 | false =>
   go_enter Tryz.func186,Tryz.ntmps186
   go_wp2_with (first
    | (go_at_call 125;refine (HA.out _ HB.out).mono ?_;rintro e w3 ⟨rfl,hb3⟩;have HB3:=Lib.hid (HB.out.chain hb3);have hc:=kept_box hb3 HX.out;obtain ⟨y1,y2,y3,y4,y5,y6,y7,y8,y9⟩:=box10 hc;clear hb3;have HX3:=Lib.hid hc;clear hc)
    )
   go_ret
   exact ⟨rfl,HB3.out⟩
 | true =>
   cases eb with
   | false =>
     go_enter Tryz.func186,Tryz.ntmps186
     go_wp2_with (first
      | (go_at_call 125;refine (HA.out _ HB.out).mono ?_;rintro e w3 ⟨rfl,hb3⟩;have HB3:=Lib.hid (HB.out.chain hb3);have hc:=kept_box hb3 HX.out;obtain ⟨y1,y2,y3,y4,y5,y6,y7,y8,y9⟩:=box10 hc;clear hb3;have HX3:=Lib.hid hc;clear hc)
      | (go_at_call 125;refine (HC.out w3 HB3.out).mono ?_;rintro e w4 ⟨rfl,hb4⟩;have HB4:=Lib.hid (HB3.out.chain hb4);have hc:=kept_box hb4 HX3.out;have y99:=cell_of_block hc 9 (v:=.slice Al l.length cl) rfl;clear hb4 hc)
      )
     go_ret
     exact ⟨rfl,HB4.out⟩
   | true =>
     go_enter Tryz.func186,Tryz.ntmps186
     go_wp2_with (first
      | (go_at_call 125;refine (HA.out _ HB.out).mono ?_;rintro e w3 ⟨rfl,hb3⟩;have HB3:=Lib.hid (HB.out.chain hb3);have hc:=kept_box hb3 HX.out;obtain ⟨y1,y2,y3,y4,y5,y6,y7,y8,y9⟩:=box10 hc;clear hb3;have HX3:=Lib.hid hc;clear hc)
      | (go_at_call 125;refine (HC.out w3 HB3.out).mono ?_;rintro e w4 ⟨rfl,hb4⟩;have HB4:=Lib.hid (HB3.out.chain hb4);have hc:=kept_box hb4 HX3.out;have y99:=cell_of_block hc 9 (v:=.slice Al l.length cl) rfl;clear hb4 hc)
      )
     go_ret
     exact ⟨rfl,HB4.out⟩
end Go.Proofs.YtkopbfndfkibbaaGreatDoor
namespace Go.Proofs.YtkopbfndfkibbaaGreatDoor
set_option maxRecDepth 100000
set_option maxHeartbeats 20000000
open Go.RowKit
theorem sc_5 (d : Nat) (hd : d + 1 ≤ 1000) (ih : ScOk d (vC varR nuP d)) (k ak an : Int) (sa : List UInt8) (al : List Ex) (bk bn : Int) (sb : List UInt8) (bl : List Ex) (l : List Cn) (Aa : Option Addr) (ca : Nat) (Ab : Option Addr) (cb : Nat) (Al : Option Addr) (cl : Nat) (W : World) (hk : k = 5) : ExRow W W.heap.size al Aa → ExRow W W.heap.size bl Ab → CnRow W W.heap.size l Al → sa.length ≤ maxLen → al.length ≤ maxLen → sb.length ≤ maxLen → bl.length ≤ maxLen → l.length ≤ maxLen →
 Calls Tryz.prog 186 #[condV2 k ak an ⟨sa.toArray⟩ (.slice Aa al.length ca) bk bn ⟨sb.toArray⟩ (.slice Ab bl.length cb) (.slice Al l.length cl),.int .i64 ((d + 1 : Nat) : Int)] W fun e w' => e = .returned (.bool (vC varR nuP (d + 1) (.mk k (.mk ak an sa al) (.mk bk bn sb bl) l))) ∧ Below W.heap.size W w':=by
 intro ra rb rl b1 b2 b3 b4 b5
 have HB:=Lib.hid (below_alloc W (condC2 k ak an ⟨sa.toArray⟩ (.slice Aa al.length ca) bk bn ⟨sb.toArray⟩ (.slice Ab bl.length cb) (.slice Al l.length cl)))
 have HX:=Lib.hid (heap_of_alloc W (condC2 k ak an ⟨sa.toArray⟩ (.slice Aa al.length ca) bk bn ⟨sb.toArray⟩ (.slice Ab bl.length cb) (.slice Al l.length cl)))
 have HA : Hid (∀ W3,Below W.heap.size W W3 → Calls Tryz.prog 125 #[exprV ak an ⟨sa.toArray⟩ (.slice Aa al.length ca)] W3 fun e w' => e = .returned (.bool (vE varR nuP 30 (.mk ak an sa al))) ∧ Below W3.heap.size W3 w'):=Lib.hid (fun W3 hb => sexpr_any ak an sa al Aa ca W3 ((ra.stay hb (Nat.le_refl _)).more hb.size) b1 b2)
 have HC : Hid (∀ W3,Below W.heap.size W W3 → Calls Tryz.prog 125 #[exprV bk bn ⟨sb.toArray⟩ (.slice Ab bl.length cb)] W3 fun e w' => e = .returned (.bool (vE varR nuP 30 (.mk bk bn sb bl))) ∧ Below W3.heap.size W3 w'):=Lib.hid (fun W3 hb => sexpr_any bk bn sb bl Ab cb W3 ((rb.stay hb (Nat.le_refl _)).more hb.size) b3 b4)
 have HZA : Hid (∀ W3,Calls Tryz.prog 160 #[exprV ak an ⟨sa.toArray⟩ (.slice Aa al.length ca)] W3 fun e w' => e = .returned (.bool (zX (.mk ak an sa al))) ∧ Below W3.heap.size W3 w'):=Lib.hid (fun W3 => szero_any ak an sa al Aa ca W3 b2)
 have HZB : Hid (∀ W3,Calls Tryz.prog 160 #[exprV bk bn ⟨sb.toArray⟩ (.slice Ab bl.length cb)] W3 fun e w' => e = .returned (.bool (zX (.mk bk bn sb bl))) ∧ Below W3.heap.size W3 w'):=Lib.hid (fun W3 => szero_any bk bn sb bl Ab cb W3 b4)
 have HR:=Lib.hid (And.intro rl ih)
 have hm : ((d + 1 : Nat) : Int) = (d : Int) + 1:=by omega
 rw [hm]
 have hne : ¬ ((d : Int) + 1 < 1):=by omega
 have hd' : (d : Int) ≤ 1000:=by omega
 unfold vC
 generalize hvd : vC varR nuP d = vd at *
 generalize vE varR nuP 30 (.mk ak an sa al) = ea at *
 generalize vE varR nuP 30 (.mk bk bn sb bl) = eb at *
 generalize zX (.mk ak an sa al) = za at *
 generalize zX (.mk bk bn sb bl) = zb at *
 clear ih hvd ra rb rl hm
 unfold maxLen at b1 b2 b3 b4 b5
 subst hk
 rw [if_neg (by intro h;rw [Bool.and_eq_true,decide_eq_true_eq,decide_eq_true_eq] at h;omega)]
 rw [if_pos rfl]
 by_cases hlen : (l.length : Int) = 1
 ·cases za with
  | false =>
    rw [Bool.false_and,Bool.false_and]
    go_enter Tryz.func186,Tryz.ntmps186
    go_wp2_with (first
     | (go_at_call 160;with_reducible refine (HZA.out _).mono ?_;rintro e w3 ⟨rfl,hb3⟩;have HB3:=Lib.hid (HB.out.chain hb3);have hc:=kept_box hb3 HX.out;obtain ⟨y1,y2,y3,y4,y5,y6,y7,y8,y9⟩:=box10 hc;clear hb3;have HX3:=Lib.hid hc;clear hc)
     )
    go_ret
    exact ⟨rfl,HB3.out⟩
  | true =>
    cases zb with
    | false =>
      rw [Bool.and_false,Bool.false_and]
      go_enter Tryz.func186,Tryz.ntmps186
      go_wp2_with (first
       | (go_at_call 160;with_reducible refine (HZA.out _).mono ?_;rintro e w3 ⟨rfl,hb3⟩;have HB3:=Lib.hid (HB.out.chain hb3);have hc:=kept_box hb3 HX.out;obtain ⟨y1,y2,y3,y4,y5,y6,y7,y8,y9⟩:=box10 hc;clear hb3;have HX3:=Lib.hid hc;clear hc)
       | (go_at_call 160;with_reducible refine (HZB.out _).mono ?_;rintro e w4 ⟨rfl,hb4⟩;have HB4:=Lib.hid (HB3.out.chain hb4);have HX4:=Lib.hid (kept_box hb4 HX3.out);clear hb4)
       )
      go_ret
      exact ⟨rfl,HB4.out⟩
    | true =>
      have HLM : Hid (True ∧ l.length = 1):=Lib.hid ⟨trivial,by omega⟩
      rw [opsC_eq hlen]
      go_enter Tryz.func186,Tryz.ntmps186
      go_wp2_with (first
       | (go_at_call 160;with_reducible refine (HZA.out _).mono ?_;rintro e w3 ⟨rfl,hb3⟩;have HB3:=Lib.hid (HB.out.chain hb3);have hc:=kept_box hb3 HX.out;obtain ⟨y1,y2,y3,y4,y5,y6,y7,y8,y9⟩:=box10 hc;clear hb3;have HX3:=Lib.hid hc;clear hc)
       | (go_at_call 160;with_reducible refine (HZB.out _).mono ?_;rintro e w4 ⟨rfl,hb4⟩;have HB4:=Lib.hid (HB3.out.chain hb4);have HX4:=Lib.hid (kept_box hb4 HX3.out);clear hb4)
       )
      go_loopg [6] 1 (fun m j wr => ∃ i : Nat,m = 1 - i ∧ i ≤ 1 ∧ j = .int .i64 i ∧ Hid (Below W.heap.size W wr ∧ wr.heap[W.heap.size]? = some (condC2 5 ak an ⟨sa.toArray⟩ (.slice Aa al.length ca) bk bn ⟨sb.toArray⟩ (.slice Ab bl.length cb) (.slice Al l.length cl)) ∧ (l.take i).all vd = true))
      case atStart => exact ⟨0,rfl,Nat.zero_le _,rfl,Lib.hid ⟨HB4.out,HX4.out,rfl⟩⟩
      case round =>
       obtain ⟨i,rfl,hi,rfl,HIv⟩:=hrel
       by_cases hlt : i < 1
       ·have hki : (i : Int) < 1:=by omega
        have hlm:=HLM.out.2
        have hkl : (i : Int) < l.length:=by omega
        obtain ⟨⟨k',⟨ak',an',sa',al'⟩,⟨bk',bn',sb',bl'⟩,l'⟩,hx⟩ : ∃ x,l[i]? = some x:=⟨l[i]'(by omega),List.getElem?_eq_getElem _⟩
        obtain ⟨a,Aa',ca',Ab',cb',Al',cl',rfl,hab,hcc,p1,p2,p3,p4,p5,ra,rb,rl⟩:=(HR.out.1.stay HIv.out.1 (Nat.le_refl _)).at_ hx
        obtain ⟨c0,c1,c2,c3,c4,c5,c6,c7,c8,c9⟩:=hcc.flat
        have t9:=cell_of_block HIv.out.2.1 9 (v:=.slice (some a) l.length cl) rfl
        have HC2:=Lib.hid (HR.out.2 k' ak' an' sa' al' bk' bn' sb' bl' l' Aa' ca' Ab' cb' Al' cl' wr (ra.more HIv.out.1.size) (rb.more HIv.out.1.size) (rl.more HIv.out.1.size) p1 p2 p3 p4 p5)
        have HT:=Lib.hid (And.intro hx (all_take_succ vd l i _ hx))
        have hw1 : IntKind.i64.wrap (d : Int) = d:=by rw [IntKind.wrap_i64];omega
        clear hcc p1 p2 p3 p4 p5 ra rb rl hx hlm
        obtain ⟨okx,hokx⟩ : ∃ b,b = vd (.mk k' (.mk ak' an' sa' al') (.mk bk' bn' sb' bl') l'):=⟨_,rfl⟩
        rw [← hokx] at HC2 HT
        have HO:=Lib.hid hokx
        clear hokx
        cases okx with
        | false =>
          go_wp2_with (go_at_call 186;refine HC2.out.mono ?_;rintro e w5 ⟨rfl,hb⟩;have HB5:=Lib.hid (HIv.out.1.chain hb);clear hb)
          go_ret
          exact ⟨by rw [all_of_false vd l i _ HT.out.1 HO.out.symm];rfl,HB5.out⟩
        | true =>
          go_wp2_with (go_at_call 186;refine HC2.out.mono ?_;rintro e w5 ⟨rfl,hb⟩;have HB5:=Lib.hid (And.intro (HIv.out.1.chain hb) (kept_box hb HIv.out.2.1));clear hb)
          go_roundg (1 - (i + 1))
          case measure => omega
          case rel => exact ⟨i + 1,rfl,by omega,by go_num,Lib.hid ⟨HB5.out.1,HB5.out.2,by rw [HT.out.2,HIv.out.2.2];rfl⟩⟩
       ·obtain rfl : i = 1:=by omega
        go_wp2
        go_ret
        refine ⟨?_,HIv.out.1⟩
        have := HIv.out.2.2
        rw [List.take_of_length_le (by have := HLM.out.2;omega)] at this
        rw [this]
        rfl
 ·rw [opsC_ne hlen,Bool.and_false]
  go_enter Tryz.func186,Tryz.ntmps186
  go_wp2
  go_ret
  exact ⟨rfl,HB.out⟩
theorem sc_6 (d : Nat) (hd : d + 1 ≤ 1000) (ih : ScOk d (vC varR nuP d)) (k ak an : Int) (sa : List UInt8) (al : List Ex) (bk bn : Int) (sb : List UInt8) (bl : List Ex) (l : List Cn) (Aa : Option Addr) (ca : Nat) (Ab : Option Addr) (cb : Nat) (Al : Option Addr) (cl : Nat) (W : World) (hk : k = 6) : ExRow W W.heap.size al Aa → ExRow W W.heap.size bl Ab → CnRow W W.heap.size l Al → sa.length ≤ maxLen → al.length ≤ maxLen → sb.length ≤ maxLen → bl.length ≤ maxLen → l.length ≤ maxLen →
 Calls Tryz.prog 186 #[condV2 k ak an ⟨sa.toArray⟩ (.slice Aa al.length ca) bk bn ⟨sb.toArray⟩ (.slice Ab bl.length cb) (.slice Al l.length cl),.int .i64 ((d + 1 : Nat) : Int)] W fun e w' => e = .returned (.bool (vC varR nuP (d + 1) (.mk k (.mk ak an sa al) (.mk bk bn sb bl) l))) ∧ Below W.heap.size W w':=by
 intro ra rb rl b1 b2 b3 b4 b5
 have HB:=Lib.hid (below_alloc W (condC2 k ak an ⟨sa.toArray⟩ (.slice Aa al.length ca) bk bn ⟨sb.toArray⟩ (.slice Ab bl.length cb) (.slice Al l.length cl)))
 have HX:=Lib.hid (heap_of_alloc W (condC2 k ak an ⟨sa.toArray⟩ (.slice Aa al.length ca) bk bn ⟨sb.toArray⟩ (.slice Ab bl.length cb) (.slice Al l.length cl)))
 have HA : Hid (∀ W3,Below W.heap.size W W3 → Calls Tryz.prog 125 #[exprV ak an ⟨sa.toArray⟩ (.slice Aa al.length ca)] W3 fun e w' => e = .returned (.bool (vE varR nuP 30 (.mk ak an sa al))) ∧ Below W3.heap.size W3 w'):=Lib.hid (fun W3 hb => sexpr_any ak an sa al Aa ca W3 ((ra.stay hb (Nat.le_refl _)).more hb.size) b1 b2)
 have HC : Hid (∀ W3,Below W.heap.size W W3 → Calls Tryz.prog 125 #[exprV bk bn ⟨sb.toArray⟩ (.slice Ab bl.length cb)] W3 fun e w' => e = .returned (.bool (vE varR nuP 30 (.mk bk bn sb bl))) ∧ Below W3.heap.size W3 w'):=Lib.hid (fun W3 hb => sexpr_any bk bn sb bl Ab cb W3 ((rb.stay hb (Nat.le_refl _)).more hb.size) b3 b4)
 have HZA : Hid (∀ W3,Calls Tryz.prog 160 #[exprV ak an ⟨sa.toArray⟩ (.slice Aa al.length ca)] W3 fun e w' => e = .returned (.bool (zX (.mk ak an sa al))) ∧ Below W3.heap.size W3 w'):=Lib.hid (fun W3 => szero_any ak an sa al Aa ca W3 b2)
 have HZB : Hid (∀ W3,Calls Tryz.prog 160 #[exprV bk bn ⟨sb.toArray⟩ (.slice Ab bl.length cb)] W3 fun e w' => e = .returned (.bool (zX (.mk bk bn sb bl))) ∧ Below W3.heap.size W3 w'):=Lib.hid (fun W3 => szero_any bk bn sb bl Ab cb W3 b4)
 have HR:=Lib.hid (And.intro rl ih)
 have hm : ((d + 1 : Nat) : Int) = (d : Int) + 1:=by omega
 rw [hm]
 have hne : ¬ ((d : Int) + 1 < 1):=by omega
 have hd' : (d : Int) ≤ 1000:=by omega
 unfold vC
 generalize hvd : vC varR nuP d = vd at *
 generalize vE varR nuP 30 (.mk ak an sa al) = ea at *
 generalize vE varR nuP 30 (.mk bk bn sb bl) = eb at *
 generalize zX (.mk ak an sa al) = za at *
 generalize zX (.mk bk bn sb bl) = zb at *
 clear ih hvd ra rb rl hm
 unfold maxLen at b1 b2 b3 b4 b5
 subst hk
 rw [if_neg (by intro h;rw [Bool.and_eq_true,decide_eq_true_eq,decide_eq_true_eq] at h;omega)]
 rw [if_neg (by decide)]
 rw [if_pos (Or.inl rfl)]
 by_cases hlen : (l.length : Int) = 2
 ·cases za with
  | false =>
    rw [Bool.false_and,Bool.false_and]
    go_enter Tryz.func186,Tryz.ntmps186
    go_wp2_with (first
     | (go_at_call 160;with_reducible refine (HZA.out _).mono ?_;rintro e w3 ⟨rfl,hb3⟩;have HB3:=Lib.hid (HB.out.chain hb3);have hc:=kept_box hb3 HX.out;obtain ⟨y1,y2,y3,y4,y5,y6,y7,y8,y9⟩:=box10 hc;clear hb3;have HX3:=Lib.hid hc;clear hc)
     )
    go_ret
    exact ⟨rfl,HB3.out⟩
  | true =>
    cases zb with
    | false =>
      rw [Bool.and_false,Bool.false_and]
      go_enter Tryz.func186,Tryz.ntmps186
      go_wp2_with (first
       | (go_at_call 160;with_reducible refine (HZA.out _).mono ?_;rintro e w3 ⟨rfl,hb3⟩;have HB3:=Lib.hid (HB.out.chain hb3);have hc:=kept_box hb3 HX.out;obtain ⟨y1,y2,y3,y4,y5,y6,y7,y8,y9⟩:=box10 hc;clear hb3;have HX3:=Lib.hid hc;clear hc)
       | (go_at_call 160;with_reducible refine (HZB.out _).mono ?_;rintro e w4 ⟨rfl,hb4⟩;have HB4:=Lib.hid (HB3.out.chain hb4);have HX4:=Lib.hid (kept_box hb4 HX3.out);clear hb4)
       )
      go_ret
      exact ⟨rfl,HB4.out⟩
    | true =>
      have HLM : Hid (True ∧ l.length = 2):=Lib.hid ⟨trivial,by omega⟩
      rw [opsC_eq hlen]
      go_enter Tryz.func186,Tryz.ntmps186
      go_wp2_with (first
       | (go_at_call 160;with_reducible refine (HZA.out _).mono ?_;rintro e w3 ⟨rfl,hb3⟩;have HB3:=Lib.hid (HB.out.chain hb3);have hc:=kept_box hb3 HX.out;obtain ⟨y1,y2,y3,y4,y5,y6,y7,y8,y9⟩:=box10 hc;clear hb3;have HX3:=Lib.hid hc;clear hc)
       | (go_at_call 160;with_reducible refine (HZB.out _).mono ?_;rintro e w4 ⟨rfl,hb4⟩;have HB4:=Lib.hid (HB3.out.chain hb4);have HX4:=Lib.hid (kept_box hb4 HX3.out);clear hb4)
       )
      go_loopg [6] 2 (fun m j wr => ∃ i : Nat,m = 2 - i ∧ i ≤ 2 ∧ j = .int .i64 i ∧ Hid (Below W.heap.size W wr ∧ wr.heap[W.heap.size]? = some (condC2 6 ak an ⟨sa.toArray⟩ (.slice Aa al.length ca) bk bn ⟨sb.toArray⟩ (.slice Ab bl.length cb) (.slice Al l.length cl)) ∧ (l.take i).all vd = true))
      case atStart => exact ⟨0,rfl,Nat.zero_le _,rfl,Lib.hid ⟨HB4.out,HX4.out,rfl⟩⟩
      case round =>
       obtain ⟨i,rfl,hi,rfl,HIv⟩:=hrel
       by_cases hlt : i < 2
       ·have hki : (i : Int) < 2:=by omega
        have hlm:=HLM.out.2
        have hkl : (i : Int) < l.length:=by omega
        obtain ⟨⟨k',⟨ak',an',sa',al'⟩,⟨bk',bn',sb',bl'⟩,l'⟩,hx⟩ : ∃ x,l[i]? = some x:=⟨l[i]'(by omega),List.getElem?_eq_getElem _⟩
        obtain ⟨a,Aa',ca',Ab',cb',Al',cl',rfl,hab,hcc,p1,p2,p3,p4,p5,ra,rb,rl⟩:=(HR.out.1.stay HIv.out.1 (Nat.le_refl _)).at_ hx
        obtain ⟨c0,c1,c2,c3,c4,c5,c6,c7,c8,c9⟩:=hcc.flat
        have t9:=cell_of_block HIv.out.2.1 9 (v:=.slice (some a) l.length cl) rfl
        have HC2:=Lib.hid (HR.out.2 k' ak' an' sa' al' bk' bn' sb' bl' l' Aa' ca' Ab' cb' Al' cl' wr (ra.more HIv.out.1.size) (rb.more HIv.out.1.size) (rl.more HIv.out.1.size) p1 p2 p3 p4 p5)
        have HT:=Lib.hid (And.intro hx (all_take_succ vd l i _ hx))
        have hw1 : IntKind.i64.wrap (d : Int) = d:=by rw [IntKind.wrap_i64];omega
        clear hcc p1 p2 p3 p4 p5 ra rb rl hx hlm
        obtain ⟨okx,hokx⟩ : ∃ b,b = vd (.mk k' (.mk ak' an' sa' al') (.mk bk' bn' sb' bl') l'):=⟨_,rfl⟩
        rw [← hokx] at HC2 HT
        have HO:=Lib.hid hokx
        clear hokx
        cases okx with
        | false =>
          go_wp2_with (go_at_call 186;refine HC2.out.mono ?_;rintro e w5 ⟨rfl,hb⟩;have HB5:=Lib.hid (HIv.out.1.chain hb);clear hb)
          go_ret
          exact ⟨by rw [all_of_false vd l i _ HT.out.1 HO.out.symm];rfl,HB5.out⟩
        | true =>
          go_wp2_with (go_at_call 186;refine HC2.out.mono ?_;rintro e w5 ⟨rfl,hb⟩;have HB5:=Lib.hid (And.intro (HIv.out.1.chain hb) (kept_box hb HIv.out.2.1));clear hb)
          go_roundg (2 - (i + 1))
          case measure => omega
          case rel => exact ⟨i + 1,rfl,by omega,by go_num,Lib.hid ⟨HB5.out.1,HB5.out.2,by rw [HT.out.2,HIv.out.2.2];rfl⟩⟩
       ·obtain rfl : i = 2:=by omega
        go_wp2
        go_ret
        refine ⟨?_,HIv.out.1⟩
        have := HIv.out.2.2
        rw [List.take_of_length_le (by have := HLM.out.2;omega)] at this
        rw [this]
        rfl
 ·rw [opsC_ne hlen,Bool.and_false]
  go_enter Tryz.func186,Tryz.ntmps186
  go_wp2
  go_ret
  exact ⟨rfl,HB.out⟩
theorem sc_7 (d : Nat) (hd : d + 1 ≤ 1000) (ih : ScOk d (vC varR nuP d)) (k ak an : Int) (sa : List UInt8) (al : List Ex) (bk bn : Int) (sb : List UInt8) (bl : List Ex) (l : List Cn) (Aa : Option Addr) (ca : Nat) (Ab : Option Addr) (cb : Nat) (Al : Option Addr) (cl : Nat) (W : World) (hk : k = 7) : ExRow W W.heap.size al Aa → ExRow W W.heap.size bl Ab → CnRow W W.heap.size l Al → sa.length ≤ maxLen → al.length ≤ maxLen → sb.length ≤ maxLen → bl.length ≤ maxLen → l.length ≤ maxLen →
 Calls Tryz.prog 186 #[condV2 k ak an ⟨sa.toArray⟩ (.slice Aa al.length ca) bk bn ⟨sb.toArray⟩ (.slice Ab bl.length cb) (.slice Al l.length cl),.int .i64 ((d + 1 : Nat) : Int)] W fun e w' => e = .returned (.bool (vC varR nuP (d + 1) (.mk k (.mk ak an sa al) (.mk bk bn sb bl) l))) ∧ Below W.heap.size W w':=by
 intro ra rb rl b1 b2 b3 b4 b5
 have HB:=Lib.hid (below_alloc W (condC2 k ak an ⟨sa.toArray⟩ (.slice Aa al.length ca) bk bn ⟨sb.toArray⟩ (.slice Ab bl.length cb) (.slice Al l.length cl)))
 have HX:=Lib.hid (heap_of_alloc W (condC2 k ak an ⟨sa.toArray⟩ (.slice Aa al.length ca) bk bn ⟨sb.toArray⟩ (.slice Ab bl.length cb) (.slice Al l.length cl)))
 have HA : Hid (∀ W3,Below W.heap.size W W3 → Calls Tryz.prog 125 #[exprV ak an ⟨sa.toArray⟩ (.slice Aa al.length ca)] W3 fun e w' => e = .returned (.bool (vE varR nuP 30 (.mk ak an sa al))) ∧ Below W3.heap.size W3 w'):=Lib.hid (fun W3 hb => sexpr_any ak an sa al Aa ca W3 ((ra.stay hb (Nat.le_refl _)).more hb.size) b1 b2)
 have HC : Hid (∀ W3,Below W.heap.size W W3 → Calls Tryz.prog 125 #[exprV bk bn ⟨sb.toArray⟩ (.slice Ab bl.length cb)] W3 fun e w' => e = .returned (.bool (vE varR nuP 30 (.mk bk bn sb bl))) ∧ Below W3.heap.size W3 w'):=Lib.hid (fun W3 hb => sexpr_any bk bn sb bl Ab cb W3 ((rb.stay hb (Nat.le_refl _)).more hb.size) b3 b4)
 have HZA : Hid (∀ W3,Calls Tryz.prog 160 #[exprV ak an ⟨sa.toArray⟩ (.slice Aa al.length ca)] W3 fun e w' => e = .returned (.bool (zX (.mk ak an sa al))) ∧ Below W3.heap.size W3 w'):=Lib.hid (fun W3 => szero_any ak an sa al Aa ca W3 b2)
 have HZB : Hid (∀ W3,Calls Tryz.prog 160 #[exprV bk bn ⟨sb.toArray⟩ (.slice Ab bl.length cb)] W3 fun e w' => e = .returned (.bool (zX (.mk bk bn sb bl))) ∧ Below W3.heap.size W3 w'):=Lib.hid (fun W3 => szero_any bk bn sb bl Ab cb W3 b4)
 have HR:=Lib.hid (And.intro rl ih)
 have hm : ((d + 1 : Nat) : Int) = (d : Int) + 1:=by omega
 rw [hm]
 have hne : ¬ ((d : Int) + 1 < 1):=by omega
 have hd' : (d : Int) ≤ 1000:=by omega
 unfold vC
 generalize hvd : vC varR nuP d = vd at *
 generalize vE varR nuP 30 (.mk ak an sa al) = ea at *
 generalize vE varR nuP 30 (.mk bk bn sb bl) = eb at *
 generalize zX (.mk ak an sa al) = za at *
 generalize zX (.mk bk bn sb bl) = zb at *
 clear ih hvd ra rb rl hm
 unfold maxLen at b1 b2 b3 b4 b5
 subst hk
 rw [if_neg (by intro h;rw [Bool.and_eq_true,decide_eq_true_eq,decide_eq_true_eq] at h;omega)]
 rw [if_neg (by decide)]
 rw [if_pos (Or.inr rfl)]
 by_cases hlen : (l.length : Int) = 2
 ·cases za with
  | false =>
    rw [Bool.false_and,Bool.false_and]
    go_enter Tryz.func186,Tryz.ntmps186
    go_wp2_with (first
     | (go_at_call 160;with_reducible refine (HZA.out _).mono ?_;rintro e w3 ⟨rfl,hb3⟩;have HB3:=Lib.hid (HB.out.chain hb3);have hc:=kept_box hb3 HX.out;obtain ⟨y1,y2,y3,y4,y5,y6,y7,y8,y9⟩:=box10 hc;clear hb3;have HX3:=Lib.hid hc;clear hc)
     )
    go_ret
    exact ⟨rfl,HB3.out⟩
  | true =>
    cases zb with
    | false =>
      rw [Bool.and_false,Bool.false_and]
      go_enter Tryz.func186,Tryz.ntmps186
      go_wp2_with (first
       | (go_at_call 160;with_reducible refine (HZA.out _).mono ?_;rintro e w3 ⟨rfl,hb3⟩;have HB3:=Lib.hid (HB.out.chain hb3);have hc:=kept_box hb3 HX.out;obtain ⟨y1,y2,y3,y4,y5,y6,y7,y8,y9⟩:=box10 hc;clear hb3;have HX3:=Lib.hid hc;clear hc)
       | (go_at_call 160;with_reducible refine (HZB.out _).mono ?_;rintro e w4 ⟨rfl,hb4⟩;have HB4:=Lib.hid (HB3.out.chain hb4);have HX4:=Lib.hid (kept_box hb4 HX3.out);clear hb4)
       )
      go_ret
      exact ⟨rfl,HB4.out⟩
    | true =>
      have HLM : Hid (True ∧ l.length = 2):=Lib.hid ⟨trivial,by omega⟩
      rw [opsC_eq hlen]
      go_enter Tryz.func186,Tryz.ntmps186
      go_wp2_with (first
       | (go_at_call 160;with_reducible refine (HZA.out _).mono ?_;rintro e w3 ⟨rfl,hb3⟩;have HB3:=Lib.hid (HB.out.chain hb3);have hc:=kept_box hb3 HX.out;obtain ⟨y1,y2,y3,y4,y5,y6,y7,y8,y9⟩:=box10 hc;clear hb3;have HX3:=Lib.hid hc;clear hc)
       | (go_at_call 160;with_reducible refine (HZB.out _).mono ?_;rintro e w4 ⟨rfl,hb4⟩;have HB4:=Lib.hid (HB3.out.chain hb4);have HX4:=Lib.hid (kept_box hb4 HX3.out);clear hb4)
       )
      go_loopg [6] 2 (fun m j wr => ∃ i : Nat,m = 2 - i ∧ i ≤ 2 ∧ j = .int .i64 i ∧ Hid (Below W.heap.size W wr ∧ wr.heap[W.heap.size]? = some (condC2 7 ak an ⟨sa.toArray⟩ (.slice Aa al.length ca) bk bn ⟨sb.toArray⟩ (.slice Ab bl.length cb) (.slice Al l.length cl)) ∧ (l.take i).all vd = true))
      case atStart => exact ⟨0,rfl,Nat.zero_le _,rfl,Lib.hid ⟨HB4.out,HX4.out,rfl⟩⟩
      case round =>
       obtain ⟨i,rfl,hi,rfl,HIv⟩:=hrel
       by_cases hlt : i < 2
       ·have hki : (i : Int) < 2:=by omega
        have hlm:=HLM.out.2
        have hkl : (i : Int) < l.length:=by omega
        obtain ⟨⟨k',⟨ak',an',sa',al'⟩,⟨bk',bn',sb',bl'⟩,l'⟩,hx⟩ : ∃ x,l[i]? = some x:=⟨l[i]'(by omega),List.getElem?_eq_getElem _⟩
        obtain ⟨a,Aa',ca',Ab',cb',Al',cl',rfl,hab,hcc,p1,p2,p3,p4,p5,ra,rb,rl⟩:=(HR.out.1.stay HIv.out.1 (Nat.le_refl _)).at_ hx
        obtain ⟨c0,c1,c2,c3,c4,c5,c6,c7,c8,c9⟩:=hcc.flat
        have t9:=cell_of_block HIv.out.2.1 9 (v:=.slice (some a) l.length cl) rfl
        have HC2:=Lib.hid (HR.out.2 k' ak' an' sa' al' bk' bn' sb' bl' l' Aa' ca' Ab' cb' Al' cl' wr (ra.more HIv.out.1.size) (rb.more HIv.out.1.size) (rl.more HIv.out.1.size) p1 p2 p3 p4 p5)
        have HT:=Lib.hid (And.intro hx (all_take_succ vd l i _ hx))
        have hw1 : IntKind.i64.wrap (d : Int) = d:=by rw [IntKind.wrap_i64];omega
        clear hcc p1 p2 p3 p4 p5 ra rb rl hx hlm
        obtain ⟨okx,hokx⟩ : ∃ b,b = vd (.mk k' (.mk ak' an' sa' al') (.mk bk' bn' sb' bl') l'):=⟨_,rfl⟩
        rw [← hokx] at HC2 HT
        have HO:=Lib.hid hokx
        clear hokx
        cases okx with
        | false =>
          go_wp2_with (go_at_call 186;refine HC2.out.mono ?_;rintro e w5 ⟨rfl,hb⟩;have HB5:=Lib.hid (HIv.out.1.chain hb);clear hb)
          go_ret
          exact ⟨by rw [all_of_false vd l i _ HT.out.1 HO.out.symm];rfl,HB5.out⟩
        | true =>
          go_wp2_with (go_at_call 186;refine HC2.out.mono ?_;rintro e w5 ⟨rfl,hb⟩;have HB5:=Lib.hid (And.intro (HIv.out.1.chain hb) (kept_box hb HIv.out.2.1));clear hb)
          go_roundg (2 - (i + 1))
          case measure => omega
          case rel => exact ⟨i + 1,rfl,by omega,by go_num,Lib.hid ⟨HB5.out.1,HB5.out.2,by rw [HT.out.2,HIv.out.2.2];rfl⟩⟩
       ·obtain rfl : i = 2:=by omega
        go_wp2
        go_ret
        refine ⟨?_,HIv.out.1⟩
        have := HIv.out.2.2
        rw [List.take_of_length_le (by have := HLM.out.2;omega)] at this
        rw [this]
        rfl
 ·rw [opsC_ne hlen,Bool.and_false]
  go_enter Tryz.func186,Tryz.ntmps186
  go_wp2
  go_ret
  exact ⟨rfl,HB.out⟩
theorem sc_8 (d : Nat) (hd : d + 1 ≤ 1000) (ih : ScOk d (vC varR nuP d)) (k ak an : Int) (sa : List UInt8) (al : List Ex) (bk bn : Int) (sb : List UInt8) (bl : List Ex) (l : List Cn) (Aa : Option Addr) (ca : Nat) (Ab : Option Addr) (cb : Nat) (Al : Option Addr) (cl : Nat) (W : World) (h1 : ¬ (1 ≤ k ∧ k ≤ 4)) (k5 : ¬ k = 5) (k6 : ¬ k = 6) (k7 : ¬ k = 7) : ExRow W W.heap.size al Aa → ExRow W W.heap.size bl Ab → CnRow W W.heap.size l Al → sa.length ≤ maxLen → al.length ≤ maxLen → sb.length ≤ maxLen → bl.length ≤ maxLen → l.length ≤ maxLen →
 Calls Tryz.prog 186 #[condV2 k ak an ⟨sa.toArray⟩ (.slice Aa al.length ca) bk bn ⟨sb.toArray⟩ (.slice Ab bl.length cb) (.slice Al l.length cl),.int .i64 ((d + 1 : Nat) : Int)] W fun e w' => e = .returned (.bool (vC varR nuP (d + 1) (.mk k (.mk ak an sa al) (.mk bk bn sb bl) l))) ∧ Below W.heap.size W w':=by
 intro ra rb rl b1 b2 b3 b4 b5
 have HB:=Lib.hid (below_alloc W (condC2 k ak an ⟨sa.toArray⟩ (.slice Aa al.length ca) bk bn ⟨sb.toArray⟩ (.slice Ab bl.length cb) (.slice Al l.length cl)))
 have HX:=Lib.hid (heap_of_alloc W (condC2 k ak an ⟨sa.toArray⟩ (.slice Aa al.length ca) bk bn ⟨sb.toArray⟩ (.slice Ab bl.length cb) (.slice Al l.length cl)))
 have HA : Hid (∀ W3,Below W.heap.size W W3 → Calls Tryz.prog 125 #[exprV ak an ⟨sa.toArray⟩ (.slice Aa al.length ca)] W3 fun e w' => e = .returned (.bool (vE varR nuP 30 (.mk ak an sa al))) ∧ Below W3.heap.size W3 w'):=Lib.hid (fun W3 hb => sexpr_any ak an sa al Aa ca W3 ((ra.stay hb (Nat.le_refl _)).more hb.size) b1 b2)
 have HC : Hid (∀ W3,Below W.heap.size W W3 → Calls Tryz.prog 125 #[exprV bk bn ⟨sb.toArray⟩ (.slice Ab bl.length cb)] W3 fun e w' => e = .returned (.bool (vE varR nuP 30 (.mk bk bn sb bl))) ∧ Below W3.heap.size W3 w'):=Lib.hid (fun W3 hb => sexpr_any bk bn sb bl Ab cb W3 ((rb.stay hb (Nat.le_refl _)).more hb.size) b3 b4)
 have HZA : Hid (∀ W3,Calls Tryz.prog 160 #[exprV ak an ⟨sa.toArray⟩ (.slice Aa al.length ca)] W3 fun e w' => e = .returned (.bool (zX (.mk ak an sa al))) ∧ Below W3.heap.size W3 w'):=Lib.hid (fun W3 => szero_any ak an sa al Aa ca W3 b2)
 have HZB : Hid (∀ W3,Calls Tryz.prog 160 #[exprV bk bn ⟨sb.toArray⟩ (.slice Ab bl.length cb)] W3 fun e w' => e = .returned (.bool (zX (.mk bk bn sb bl))) ∧ Below W3.heap.size W3 w'):=Lib.hid (fun W3 => szero_any bk bn sb bl Ab cb W3 b4)
 have HR:=Lib.hid (And.intro rl ih)
 have hm : ((d + 1 : Nat) : Int) = (d : Int) + 1:=by omega
 rw [hm]
 have hne : ¬ ((d : Int) + 1 < 1):=by omega
 have hd' : (d : Int) ≤ 1000:=by omega
 unfold vC
 generalize hvd : vC varR nuP d = vd at *
 generalize vE varR nuP 30 (.mk ak an sa al) = ea at *
 generalize vE varR nuP 30 (.mk bk bn sb bl) = eb at *
 generalize zX (.mk ak an sa al) = za at *
 generalize zX (.mk bk bn sb bl) = zb at *
 clear ih hvd ra rb rl hm
 unfold maxLen at b1 b2 b3 b4 b5
 rw [if_neg (by intro h;rw [Bool.and_eq_true,decide_eq_true_eq,decide_eq_true_eq] at h;exact h1 h),if_neg k5]
 rw [if_neg (by rintro (h | h);exact k6 h;exact k7 h)]
 go_enter Tryz.func186,Tryz.ntmps186
 go_wp2
 go_ret
 exact ⟨rfl,HB.out⟩
end Go.Proofs.YtkopbfndfkibbaaGreatDoor
namespace Go.Proofs.YtkopbfndfkibbaaGreatDoor
set_option maxRecDepth 100000
set_option maxHeartbeats 20000000
open Go.RowKit
theorem sc_any : ∀ d : Nat,d ≤ 1000 → ScOk d (vC varR nuP d):=by
 intro d
 induction d with
 | zero =>
   intro _ k ak an sa al bk bn sb bl l Aa ca Ab cb Al cl W ra rb rl b1 b2 b3 b4 b5
   have HB:=Lib.hid (below_alloc W (condC2 k ak an ⟨sa.toArray⟩ (.slice Aa al.length ca) bk bn ⟨sb.toArray⟩ (.slice Ab bl.length cb) (.slice Al l.length cl)))
   clear ra rb rl
   go_enter Tryz.func186,Tryz.ntmps186
   go_wp2
   go_ret
   exact ⟨rfl,HB.out⟩
 | succ d ih =>
   intro hd k ak an sa al bk bn sb bl l Aa ca Ab cb Al cl W
   by_cases k1 : k = 1
   ·exact sc_1 d hd (ih (by omega)) k ak an sa al bk bn sb bl l Aa ca Ab cb Al cl W k1
   by_cases k2 : k = 2
   ·exact sc_2 d hd (ih (by omega)) k ak an sa al bk bn sb bl l Aa ca Ab cb Al cl W k2
   by_cases k3 : k = 3
   ·exact sc_3 d hd (ih (by omega)) k ak an sa al bk bn sb bl l Aa ca Ab cb Al cl W k3
   by_cases k4 : k = 4
   ·exact sc_4 d hd (ih (by omega)) k ak an sa al bk bn sb bl l Aa ca Ab cb Al cl W k4
   by_cases k5 : k = 5
   ·exact sc_5 d hd (ih (by omega)) k ak an sa al bk bn sb bl l Aa ca Ab cb Al cl W k5
   by_cases k6 : k = 6
   ·exact sc_6 d hd (ih (by omega)) k ak an sa al bk bn sb bl l Aa ca Ab cb Al cl W k6
   by_cases k7 : k = 7
   ·exact sc_7 d hd (ih (by omega)) k ak an sa al bk bn sb bl l Aa ca Ab cb Al cl W k7
   exact sc_8 d hd (ih (by omega)) k ak an sa al bk bn sb bl l Aa ca Ab cb Al cl W (by omega) k5 k6 k7
theorem scond_any (k ak an : Int) (sa : List UInt8) (al : List Ex) (bk bn : Int) (sb : List UInt8) (bl : List Ex) (l : List Cn) (Aa : Option Addr) (ca : Nat) (Ab : Option Addr) (cb : Nat) (Al : Option Addr) (cl : Nat) (w : World)
 (ra : ExRow w w.heap.size al Aa) (rb : ExRow w w.heap.size bl Ab) (rl : CnRow w w.heap.size l Al) (b1 : sa.length ≤ maxLen) (b2 : al.length ≤ maxLen) (b3 : sb.length ≤ maxLen) (b4 : bl.length ≤ maxLen) (b5 : l.length ≤ maxLen) :
 Calls Tryz.prog 161 #[condV2 k ak an ⟨sa.toArray⟩ (.slice Aa al.length ca) bk bn ⟨sb.toArray⟩ (.slice Ab bl.length cb) (.slice Al l.length cl)] w fun e w' => e = .returned (.bool (vC varR nuP 30 (.mk k (.mk ak an sa al) (.mk bk bn sb bl) l))) ∧ Below w.heap.size w w':=by
 have HB:=Lib.hid (below_alloc w (condC2 k ak an ⟨sa.toArray⟩ (.slice Aa al.length ca) bk bn ⟨sb.toArray⟩ (.slice Ab bl.length cb) (.slice Al l.length cl)))
 have HC:=Lib.hid (sc_any 30 (by omega) k ak an sa al bk bn sb bl l Aa ca Ab cb Al cl (w.alloc (condC2 k ak an ⟨sa.toArray⟩ (.slice Aa al.length ca) bk bn ⟨sb.toArray⟩ (.slice Ab bl.length cb) (.slice Al l.length cl))) ((ra.stay HB.out (Nat.le_refl _)).more HB.out.size) ((rb.stay HB.out (Nat.le_refl _)).more HB.out.size) ((rl.stay HB.out (Nat.le_refl _)).more HB.out.size) b1 b2 b3 b4 b5)
 generalize vC varR nuP 30 (.mk k (.mk ak an sa al) (.mk bk bn sb bl) l) = res at *
 unfold maxLen at b1 b2 b3 b4 b5
 clear ra rb rl
 go_enter Tryz.func161,Tryz.ntmps161
 go_wp2_with (go_at_call 186;refine HC.out.mono ?_;rintro e w3 ⟨rfl,hb⟩)
 go_ret
 exact ⟨rfl,HB.out.chain hb⟩
end Go.Proofs.YtkopbfndfkibbaaGreatDoor
