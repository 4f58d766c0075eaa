/-
  The reference's cond and Cond.
-/
import Derived.Test.YtijglomghlbhfaaGreatDoorTreeKw
namespace Go.Proofs.YtijglomghlbhfaaGreatDoor
open Go.RowKit

theorem opsC_eq {m : Int} {l : List Cn} (h : (l.length : Int) = m) (f : Cn → Bool) : opsC m l f = l.all f := by
  unfold opsC
  rw [show decide (m ≤ (l.length : Int)) = true from decide_eq_true (by omega), show decide ((l.length : Int) ≤ m) = true from decide_eq_true (by omega)]
  rfl

theorem opsC_ne {m : Int} {l : List Cn} (h : ¬ (l.length : Int) = m) (f : Cn → Bool) : opsC m l f = false := by
  unfold opsC
  by_cases h1 : m ≤ (l.length : Int)
  · rw [show decide ((l.length : Int) ≤ m) = false from decide_eq_false (by omega)]
    simp
  · rw [show decide (m ≤ (l.length : Int)) = false from decide_eq_false h1]
    rfl

/-- What the reference's cond does. -/
def ScOk (d : Nat) (f : Cn → Bool) : Prop :=
  ∀ (k ak an : Int) (sa : List UInt8) (al : List Ex) (bk bn : Int) (sb : List UInt8) (bl : List Ex) (l : List Cn) (Aa : Option Addr) (ca : Nat) (Ab : Option Addr) (cb : Nat) (Al : Option Addr) (cl : Nat) (W : World), ExRow W W.heap.size al Aa → ExRow W W.heap.size bl Ab → CnRow W W.heap.size l Al → sa.length ≤ maxLen → al.length ≤ maxLen → sb.length ≤ maxLen → bl.length ≤ maxLen → l.length ≤ maxLen →
    Calls Tryz.prog 52 #[condV2 k ak an ⟨sa.toArray⟩ (.slice Aa al.length ca) bk bn ⟨sb.toArray⟩ (.slice Ab bl.length cb) (.slice Al l.length cl), .int .i64 d] W fun e w' => e = .returned (.bool (f (.mk k (.mk ak an sa al) (.mk bk bn sb bl) l))) ∧ Below W.heap.size W w'

set_option maxRecDepth 100000 in
set_option maxHeartbeats 20000000 in
theorem sc_1 (d : Nat) (hd : d + 1 ≤ 1000) (ih : ScOk d (vC varR nuP d)) (k ak an : Int) (sa : List UInt8) (al : List Ex) (bk bn : Int) (sb : List UInt8) (bl : List Ex) (l : List Cn) (Aa : Option Addr) (ca : Nat) (Ab : Option Addr) (cb : Nat) (Al : Option Addr) (cl : Nat) (W : World) (hk : k = 1) : ExRow W W.heap.size al Aa → ExRow W W.heap.size bl Ab → CnRow W W.heap.size l Al → sa.length ≤ maxLen → al.length ≤ maxLen → sb.length ≤ maxLen → bl.length ≤ maxLen → l.length ≤ maxLen →
    Calls Tryz.prog 52 #[condV2 k ak an ⟨sa.toArray⟩ (.slice Aa al.length ca) bk bn ⟨sb.toArray⟩ (.slice Ab bl.length cb) (.slice Al l.length cl), .int .i64 ((d + 1 : Nat) : Int)] W fun e w' => e = .returned (.bool (vC varR nuP (d + 1) (.mk k (.mk ak an sa al) (.mk bk bn sb bl) l))) ∧ Below W.heap.size W w' := by
  intro ra rb rl b1 b2 b3 b4 b5
  have HB := Lib.hid (below_alloc W (condC2 k ak an ⟨sa.toArray⟩ (.slice Aa al.length ca) bk bn ⟨sb.toArray⟩ (.slice Ab bl.length cb) (.slice Al l.length cl)))
  have HX := Lib.hid (heap_of_alloc W (condC2 k ak an ⟨sa.toArray⟩ (.slice Aa al.length ca) bk bn ⟨sb.toArray⟩ (.slice Ab bl.length cb) (.slice Al l.length cl)))
  have HA : Hid (∀ W3, Below W.heap.size W W3 → Calls Tryz.prog 16 #[exprV ak an ⟨sa.toArray⟩ (.slice Aa al.length ca)] W3 fun e w' => e = .returned (.bool (vE varR nuP 30 (.mk ak an sa al))) ∧ Below W3.heap.size W3 w') := Lib.hid (fun W3 hb => sexpr_any ak an sa al Aa ca W3 ((ra.stay hb (Nat.le_refl _)).more hb.size) b1 b2)
  have HC : Hid (∀ W3, Below W.heap.size W W3 → Calls Tryz.prog 16 #[exprV bk bn ⟨sb.toArray⟩ (.slice Ab bl.length cb)] W3 fun e w' => e = .returned (.bool (vE varR nuP 30 (.mk bk bn sb bl))) ∧ Below W3.heap.size W3 w') := Lib.hid (fun W3 hb => sexpr_any bk bn sb bl Ab cb W3 ((rb.stay hb (Nat.le_refl _)).more hb.size) b3 b4)
  have HZA : Hid (∀ W3, Calls Tryz.prog 108 #[exprV ak an ⟨sa.toArray⟩ (.slice Aa al.length ca)] W3 fun e w' => e = .returned (.bool (zX (.mk ak an sa al))) ∧ Below W3.heap.size W3 w') := Lib.hid (fun W3 => szero_any ak an sa al Aa ca W3 b2)
  have HZB : Hid (∀ W3, Calls Tryz.prog 108 #[exprV bk bn ⟨sb.toArray⟩ (.slice Ab bl.length cb)] W3 fun e w' => e = .returned (.bool (zX (.mk bk bn sb bl))) ∧ Below W3.heap.size W3 w') := Lib.hid (fun W3 => szero_any bk bn sb bl Ab cb W3 b4)
  have HR := Lib.hid (And.intro rl ih)
  have hm : ((d + 1 : Nat) : Int) = (d : Int) + 1 := by omega
  rw [hm]
  have hne : ¬ ((d : Int) + 1 < 1) := by omega
  have hd' : (d : Int) ≤ 1000 := by omega
  unfold vC
  generalize hvd : vC varR nuP d = vd at *
  generalize vE varR nuP 30 (.mk ak an sa al) = ea at *
  generalize vE varR nuP 30 (.mk bk bn sb bl) = eb at *
  generalize zX (.mk ak an sa al) = za at *
  generalize zX (.mk bk bn sb bl) = zb at *
  clear ih hvd ra rb rl hm
  unfold maxLen at b1 b2 b3 b4 b5
  subst hk
  rw [if_pos (by decide)]
  cases ea with
  | false =>
    go_enter Tryz.func52, Tryz.ntmps52
    go_wp2_with (first
      | (go_at_call 16; refine (HA.out _ HB.out).mono ?_; rintro e w3 ⟨rfl, hb3⟩; have HB3 := Lib.hid (HB.out.chain hb3); have hc := kept_box hb3 HX.out; obtain ⟨y1, y2, y3, y4, y5, y6, y7, y8, y9⟩ := box10 hc; clear hb3; have HX3 := Lib.hid hc; clear hc)
      )
    go_ret
    exact ⟨rfl, HB3.out⟩
  | true =>
    cases eb with
    | false =>
      go_enter Tryz.func52, Tryz.ntmps52
      go_wp2_with (first
        | (go_at_call 16; refine (HA.out _ HB.out).mono ?_; rintro e w3 ⟨rfl, hb3⟩; have HB3 := Lib.hid (HB.out.chain hb3); have hc := kept_box hb3 HX.out; obtain ⟨y1, y2, y3, y4, y5, y6, y7, y8, y9⟩ := box10 hc; clear hb3; have HX3 := Lib.hid hc; clear hc)
        | (go_at_call 16; refine (HC.out w3 HB3.out).mono ?_; rintro e w4 ⟨rfl, hb4⟩; have HB4 := Lib.hid (HB3.out.chain hb4); have hc := kept_box hb4 HX3.out; have y99 := cell_of_block hc 9 (v := .slice Al l.length cl) rfl; clear hb4 hc)
        )
      go_ret
      exact ⟨rfl, HB4.out⟩
    | true =>
      go_enter Tryz.func52, Tryz.ntmps52
      go_wp2_with (first
        | (go_at_call 16; refine (HA.out _ HB.out).mono ?_; rintro e w3 ⟨rfl, hb3⟩; have HB3 := Lib.hid (HB.out.chain hb3); have hc := kept_box hb3 HX.out; obtain ⟨y1, y2, y3, y4, y5, y6, y7, y8, y9⟩ := box10 hc; clear hb3; have HX3 := Lib.hid hc; clear hc)
        | (go_at_call 16; refine (HC.out w3 HB3.out).mono ?_; rintro e w4 ⟨rfl, hb4⟩; have HB4 := Lib.hid (HB3.out.chain hb4); have hc := kept_box hb4 HX3.out; have y99 := cell_of_block hc 9 (v := .slice Al l.length cl) rfl; clear hb4 hc)
        )
      go_ret
      exact ⟨rfl, HB4.out⟩

set_option maxRecDepth 100000 in
set_option maxHeartbeats 20000000 in
theorem sc_2 (d : Nat) (hd : d + 1 ≤ 1000) (ih : ScOk d (vC varR nuP d)) (k ak an : Int) (sa : List UInt8) (al : List Ex) (bk bn : Int) (sb : List UInt8) (bl : List Ex) (l : List Cn) (Aa : Option Addr) (ca : Nat) (Ab : Option Addr) (cb : Nat) (Al : Option Addr) (cl : Nat) (W : World) (hk : k = 2) : ExRow W W.heap.size al Aa → ExRow W W.heap.size bl Ab → CnRow W W.heap.size l Al → sa.length ≤ maxLen → al.length ≤ maxLen → sb.length ≤ maxLen → bl.length ≤ maxLen → l.length ≤ maxLen →
    Calls Tryz.prog 52 #[condV2 k ak an ⟨sa.toArray⟩ (.slice Aa al.length ca) bk bn ⟨sb.toArray⟩ (.slice Ab bl.length cb) (.slice Al l.length cl), .int .i64 ((d + 1 : Nat) : Int)] W fun e w' => e = .returned (.bool (vC varR nuP (d + 1) (.mk k (.mk ak an sa al) (.mk bk bn sb bl) l))) ∧ Below W.heap.size W w' := by
  intro ra rb rl b1 b2 b3 b4 b5
  have HB := Lib.hid (below_alloc W (condC2 k ak an ⟨sa.toArray⟩ (.slice Aa al.length ca) bk bn ⟨sb.toArray⟩ (.slice Ab bl.length cb) (.slice Al l.length cl)))
  have HX := Lib.hid (heap_of_alloc W (condC2 k ak an ⟨sa.toArray⟩ (.slice Aa al.length ca) bk bn ⟨sb.toArray⟩ (.slice Ab bl.length cb) (.slice Al l.length cl)))
  have HA : Hid (∀ W3, Below W.heap.size W W3 → Calls Tryz.prog 16 #[exprV ak an ⟨sa.toArray⟩ (.slice Aa al.length ca)] W3 fun e w' => e = .returned (.bool (vE varR nuP 30 (.mk ak an sa al))) ∧ Below W3.heap.size W3 w') := Lib.hid (fun W3 hb => sexpr_any ak an sa al Aa ca W3 ((ra.stay hb (Nat.le_refl _)).more hb.size) b1 b2)
  have HC : Hid (∀ W3, Below W.heap.size W W3 → Calls Tryz.prog 16 #[exprV bk bn ⟨sb.toArray⟩ (.slice Ab bl.length cb)] W3 fun e w' => e = .returned (.bool (vE varR nuP 30 (.mk bk bn sb bl))) ∧ Below W3.heap.size W3 w') := Lib.hid (fun W3 hb => sexpr_any bk bn sb bl Ab cb W3 ((rb.stay hb (Nat.le_refl _)).more hb.size) b3 b4)
  have HZA : Hid (∀ W3, Calls Tryz.prog 108 #[exprV ak an ⟨sa.toArray⟩ (.slice Aa al.length ca)] W3 fun e w' => e = .returned (.bool (zX (.mk ak an sa al))) ∧ Below W3.heap.size W3 w') := Lib.hid (fun W3 => szero_any ak an sa al Aa ca W3 b2)
  have HZB : Hid (∀ W3, Calls Tryz.prog 108 #[exprV bk bn ⟨sb.toArray⟩ (.slice Ab bl.length cb)] W3 fun e w' => e = .returned (.bool (zX (.mk bk bn sb bl))) ∧ Below W3.heap.size W3 w') := Lib.hid (fun W3 => szero_any bk bn sb bl Ab cb W3 b4)
  have HR := Lib.hid (And.intro rl ih)
  have hm : ((d + 1 : Nat) : Int) = (d : Int) + 1 := by omega
  rw [hm]
  have hne : ¬ ((d : Int) + 1 < 1) := by omega
  have hd' : (d : Int) ≤ 1000 := by omega
  unfold vC
  generalize hvd : vC varR nuP d = vd at *
  generalize vE varR nuP 30 (.mk ak an sa al) = ea at *
  generalize vE varR nuP 30 (.mk bk bn sb bl) = eb at *
  generalize zX (.mk ak an sa al) = za at *
  generalize zX (.mk bk bn sb bl) = zb at *
  clear ih hvd ra rb rl hm
  unfold maxLen at b1 b2 b3 b4 b5
  subst hk
  rw [if_pos (by decide)]
  cases ea with
  | false =>
    go_enter Tryz.func52, Tryz.ntmps52
    go_wp2_with (first
      | (go_at_call 16; refine (HA.out _ HB.out).mono ?_; rintro e w3 ⟨rfl, hb3⟩; have HB3 := Lib.hid (HB.out.chain hb3); have hc := kept_box hb3 HX.out; obtain ⟨y1, y2, y3, y4, y5, y6, y7, y8, y9⟩ := box10 hc; clear hb3; have HX3 := Lib.hid hc; clear hc)
      )
    go_ret
    exact ⟨rfl, HB3.out⟩
  | true =>
    cases eb with
    | false =>
      go_enter Tryz.func52, Tryz.ntmps52
      go_wp2_with (first
        | (go_at_call 16; refine (HA.out _ HB.out).mono ?_; rintro e w3 ⟨rfl, hb3⟩; have HB3 := Lib.hid (HB.out.chain hb3); have hc := kept_box hb3 HX.out; obtain ⟨y1, y2, y3, y4, y5, y6, y7, y8, y9⟩ := box10 hc; clear hb3; have HX3 := Lib.hid hc; clear hc)
        | (go_at_call 16; refine (HC.out w3 HB3.out).mono ?_; rintro e w4 ⟨rfl, hb4⟩; have HB4 := Lib.hid (HB3.out.chain hb4); have hc := kept_box hb4 HX3.out; have y99 := cell_of_block hc 9 (v := .slice Al l.length cl) rfl; clear hb4 hc)
        )
      go_ret
      exact ⟨rfl, HB4.out⟩
    | true =>
      go_enter Tryz.func52, Tryz.ntmps52
      go_wp2_with (first
        | (go_at_call 16; refine (HA.out _ HB.out).mono ?_; rintro e w3 ⟨rfl, hb3⟩; have HB3 := Lib.hid (HB.out.chain hb3); have hc := kept_box hb3 HX.out; obtain ⟨y1, y2, y3, y4, y5, y6, y7, y8, y9⟩ := box10 hc; clear hb3; have HX3 := Lib.hid hc; clear hc)
        | (go_at_call 16; refine (HC.out w3 HB3.out).mono ?_; rintro e w4 ⟨rfl, hb4⟩; have HB4 := Lib.hid (HB3.out.chain hb4); have hc := kept_box hb4 HX3.out; have y99 := cell_of_block hc 9 (v := .slice Al l.length cl) rfl; clear hb4 hc)
        )
      go_ret
      exact ⟨rfl, HB4.out⟩

set_option maxRecDepth 100000 in
set_option maxHeartbeats 20000000 in
theorem sc_3 (d : Nat) (hd : d + 1 ≤ 1000) (ih : ScOk d (vC varR nuP d)) (k ak an : Int) (sa : List UInt8) (al : List Ex) (bk bn : Int) (sb : List UInt8) (bl : List Ex) (l : List Cn) (Aa : Option Addr) (ca : Nat) (Ab : Option Addr) (cb : Nat) (Al : Option Addr) (cl : Nat) (W : World) (hk : k = 3) : ExRow W W.heap.size al Aa → ExRow W W.heap.size bl Ab → CnRow W W.heap.size l Al → sa.length ≤ maxLen → al.length ≤ maxLen → sb.length ≤ maxLen → bl.length ≤ maxLen → l.length ≤ maxLen →
    Calls Tryz.prog 52 #[condV2 k ak an ⟨sa.toArray⟩ (.slice Aa al.length ca) bk bn ⟨sb.toArray⟩ (.slice Ab bl.length cb) (.slice Al l.length cl), .int .i64 ((d + 1 : Nat) : Int)] W fun e w' => e = .returned (.bool (vC varR nuP (d + 1) (.mk k (.mk ak an sa al) (.mk bk bn sb bl) l))) ∧ Below W.heap.size W w' := by
  intro ra rb rl b1 b2 b3 b4 b5
  have HB := Lib.hid (below_alloc W (condC2 k ak an ⟨sa.toArray⟩ (.slice Aa al.length ca) bk bn ⟨sb.toArray⟩ (.slice Ab bl.length cb) (.slice Al l.length cl)))
  have HX := Lib.hid (heap_of_alloc W (condC2 k ak an ⟨sa.toArray⟩ (.slice Aa al.length ca) bk bn ⟨sb.toArray⟩ (.slice Ab bl.length cb) (.slice Al l.length cl)))
  have HA : Hid (∀ W3, Below W.heap.size W W3 → Calls Tryz.prog 16 #[exprV ak an ⟨sa.toArray⟩ (.slice Aa al.length ca)] W3 fun e w' => e = .returned (.bool (vE varR nuP 30 (.mk ak an sa al))) ∧ Below W3.heap.size W3 w') := Lib.hid (fun W3 hb => sexpr_any ak an sa al Aa ca W3 ((ra.stay hb (Nat.le_refl _)).more hb.size) b1 b2)
  have HC : Hid (∀ W3, Below W.heap.size W W3 → Calls Tryz.prog 16 #[exprV bk bn ⟨sb.toArray⟩ (.slice Ab bl.length cb)] W3 fun e w' => e = .returned (.bool (vE varR nuP 30 (.mk bk bn sb bl))) ∧ Below W3.heap.size W3 w') := Lib.hid (fun W3 hb => sexpr_any bk bn sb bl Ab cb W3 ((rb.stay hb (Nat.le_refl _)).more hb.size) b3 b4)
  have HZA : Hid (∀ W3, Calls Tryz.prog 108 #[exprV ak an ⟨sa.toArray⟩ (.slice Aa al.length ca)] W3 fun e w' => e = .returned (.bool (zX (.mk ak an sa al))) ∧ Below W3.heap.size W3 w') := Lib.hid (fun W3 => szero_any ak an sa al Aa ca W3 b2)
  have HZB : Hid (∀ W3, Calls Tryz.prog 108 #[exprV bk bn ⟨sb.toArray⟩ (.slice Ab bl.length cb)] W3 fun e w' => e = .returned (.bool (zX (.mk bk bn sb bl))) ∧ Below W3.heap.size W3 w') := Lib.hid (fun W3 => szero_any bk bn sb bl Ab cb W3 b4)
  have HR := Lib.hid (And.intro rl ih)
  have hm : ((d + 1 : Nat) : Int) = (d : Int) + 1 := by omega
  rw [hm]
  have hne : ¬ ((d : Int) + 1 < 1) := by omega
  have hd' : (d : Int) ≤ 1000 := by omega
  unfold vC
  generalize hvd : vC varR nuP d = vd at *
  generalize vE varR nuP 30 (.mk ak an sa al) = ea at *
  generalize vE varR nuP 30 (.mk bk bn sb bl) = eb at *
  generalize zX (.mk ak an sa al) = za at *
  generalize zX (.mk bk bn sb bl) = zb at *
  clear ih hvd ra rb rl hm
  unfold maxLen at b1 b2 b3 b4 b5
  subst hk
  rw [if_pos (by decide)]
  cases ea with
  | false =>
    go_enter Tryz.func52, Tryz.ntmps52
    go_wp2_with (first
      | (go_at_call 16; refine (HA.out _ HB.out).mono ?_; rintro e w3 ⟨rfl, hb3⟩; have HB3 := Lib.hid (HB.out.chain hb3); have hc := kept_box hb3 HX.out; obtain ⟨y1, y2, y3, y4, y5, y6, y7, y8, y9⟩ := box10 hc; clear hb3; have HX3 := Lib.hid hc; clear hc)
      )
    go_ret
    exact ⟨rfl, HB3.out⟩
  | true =>
    cases eb with
    | false =>
      go_enter Tryz.func52, Tryz.ntmps52
      go_wp2_with (first
        | (go_at_call 16; refine (HA.out _ HB.out).mono ?_; rintro e w3 ⟨rfl, hb3⟩; have HB3 := Lib.hid (HB.out.chain hb3); have hc := kept_box hb3 HX.out; obtain ⟨y1, y2, y3, y4, y5, y6, y7, y8, y9⟩ := box10 hc; clear hb3; have HX3 := Lib.hid hc; clear hc)
        | (go_at_call 16; refine (HC.out w3 HB3.out).mono ?_; rintro e w4 ⟨rfl, hb4⟩; have HB4 := Lib.hid (HB3.out.chain hb4); have hc := kept_box hb4 HX3.out; have y99 := cell_of_block hc 9 (v := .slice Al l.length cl) rfl; clear hb4 hc)
        )
      go_ret
      exact ⟨rfl, HB4.out⟩
    | true =>
      go_enter Tryz.func52, Tryz.ntmps52
      go_wp2_with (first
        | (go_at_call 16; refine (HA.out _ HB.out).mono ?_; rintro e w3 ⟨rfl, hb3⟩; have HB3 := Lib.hid (HB.out.chain hb3); have hc := kept_box hb3 HX.out; obtain ⟨y1, y2, y3, y4, y5, y6, y7, y8, y9⟩ := box10 hc; clear hb3; have HX3 := Lib.hid hc; clear hc)
        | (go_at_call 16; refine (HC.out w3 HB3.out).mono ?_; rintro e w4 ⟨rfl, hb4⟩; have HB4 := Lib.hid (HB3.out.chain hb4); have hc := kept_box hb4 HX3.out; have y99 := cell_of_block hc 9 (v := .slice Al l.length cl) rfl; clear hb4 hc)
        )
      go_ret
      exact ⟨rfl, HB4.out⟩

set_option maxRecDepth 100000 in
set_option maxHeartbeats 20000000 in
theorem sc_4 (d : Nat) (hd : d + 1 ≤ 1000) (ih : ScOk d (vC varR nuP d)) (k ak an : Int) (sa : List UInt8) (al : List Ex) (bk bn : Int) (sb : List UInt8) (bl : List Ex) (l : List Cn) (Aa : Option Addr) (ca : Nat) (Ab : Option Addr) (cb : Nat) (Al : Option Addr) (cl : Nat) (W : World) (hk : k = 4) : ExRow W W.heap.size al Aa → ExRow W W.heap.size bl Ab → CnRow W W.heap.size l Al → sa.length ≤ maxLen → al.length ≤ maxLen → sb.length ≤ maxLen → bl.length ≤ maxLen → l.length ≤ maxLen →
    Calls Tryz.prog 52 #[condV2 k ak an ⟨sa.toArray⟩ (.slice Aa al.length ca) bk bn ⟨sb.toArray⟩ (.slice Ab bl.length cb) (.slice Al l.length cl), .int .i64 ((d + 1 : Nat) : Int)] W fun e w' => e = .returned (.bool (vC varR nuP (d + 1) (.mk k (.mk ak an sa al) (.mk bk bn sb bl) l))) ∧ Below W.heap.size W w' := by
  intro ra rb rl b1 b2 b3 b4 b5
  have HB := Lib.hid (below_alloc W (condC2 k ak an ⟨sa.toArray⟩ (.slice Aa al.length ca) bk bn ⟨sb.toArray⟩ (.slice Ab bl.length cb) (.slice Al l.length cl)))
  have HX := Lib.hid (heap_of_alloc W (condC2 k ak an ⟨sa.toArray⟩ (.slice Aa al.length ca) bk bn ⟨sb.toArray⟩ (.slice Ab bl.length cb) (.slice Al l.length cl)))
  have HA : Hid (∀ W3, Below W.heap.size W W3 → Calls Tryz.prog 16 #[exprV ak an ⟨sa.toArray⟩ (.slice Aa al.length ca)] W3 fun e w' => e = .returned (.bool (vE varR nuP 30 (.mk ak an sa al))) ∧ Below W3.heap.size W3 w') := Lib.hid (fun W3 hb => sexpr_any ak an sa al Aa ca W3 ((ra.stay hb (Nat.le_refl _)).more hb.size) b1 b2)
  have HC : Hid (∀ W3, Below W.heap.size W W3 → Calls Tryz.prog 16 #[exprV bk bn ⟨sb.toArray⟩ (.slice Ab bl.length cb)] W3 fun e w' => e = .returned (.bool (vE varR nuP 30 (.mk bk bn sb bl))) ∧ Below W3.heap.size W3 w') := Lib.hid (fun W3 hb => sexpr_any bk bn sb bl Ab cb W3 ((rb.stay hb (Nat.le_refl _)).more hb.size) b3 b4)
  have HZA : Hid (∀ W3, Calls Tryz.prog 108 #[exprV ak an ⟨sa.toArray⟩ (.slice Aa al.length ca)] W3 fun e w' => e = .returned (.bool (zX (.mk ak an sa al))) ∧ Below W3.heap.size W3 w') := Lib.hid (fun W3 => szero_any ak an sa al Aa ca W3 b2)
  have HZB : Hid (∀ W3, Calls Tryz.prog 108 #[exprV bk bn ⟨sb.toArray⟩ (.slice Ab bl.length cb)] W3 fun e w' => e = .returned (.bool (zX (.mk bk bn sb bl))) ∧ Below W3.heap.size W3 w') := Lib.hid (fun W3 => szero_any bk bn sb bl Ab cb W3 b4)
  have HR := Lib.hid (And.intro rl ih)
  have hm : ((d + 1 : Nat) : Int) = (d : Int) + 1 := by omega
  rw [hm]
  have hne : ¬ ((d : Int) + 1 < 1) := by omega
  have hd' : (d : Int) ≤ 1000 := by omega
  unfold vC
  generalize hvd : vC varR nuP d = vd at *
  generalize vE varR nuP 30 (.mk ak an sa al) = ea at *
  generalize vE varR nuP 30 (.mk bk bn sb bl) = eb at *
  generalize zX (.mk ak an sa al) = za at *
  generalize zX (.mk bk bn sb bl) = zb at *
  clear ih hvd ra rb rl hm
  unfold maxLen at b1 b2 b3 b4 b5
  subst hk
  rw [if_pos (by decide)]
  cases ea with
  | false =>
    go_enter Tryz.func52, Tryz.ntmps52
    go_wp2_with (first
      | (go_at_call 16; refine (HA.out _ HB.out).mono ?_; rintro e w3 ⟨rfl, hb3⟩; have HB3 := Lib.hid (HB.out.chain hb3); have hc := kept_box hb3 HX.out; obtain ⟨y1, y2, y3, y4, y5, y6, y7, y8, y9⟩ := box10 hc; clear hb3; have HX3 := Lib.hid hc; clear hc)
      )
    go_ret
    exact ⟨rfl, HB3.out⟩
  | true =>
    cases eb with
    | false =>
      go_enter Tryz.func52, Tryz.ntmps52
      go_wp2_with (first
        | (go_at_call 16; refine (HA.out _ HB.out).mono ?_; rintro e w3 ⟨rfl, hb3⟩; have HB3 := Lib.hid (HB.out.chain hb3); have hc := kept_box hb3 HX.out; obtain ⟨y1, y2, y3, y4, y5, y6, y7, y8, y9⟩ := box10 hc; clear hb3; have HX3 := Lib.hid hc; clear hc)
        | (go_at_call 16; refine (HC.out w3 HB3.out).mono ?_; rintro e w4 ⟨rfl, hb4⟩; have HB4 := Lib.hid (HB3.out.chain hb4); have hc := kept_box hb4 HX3.out; have y99 := cell_of_block hc 9 (v := .slice Al l.length cl) rfl; clear hb4 hc)
        )
      go_ret
      exact ⟨rfl, HB4.out⟩
    | true =>
      go_enter Tryz.func52, Tryz.ntmps52
      go_wp2_with (first
        | (go_at_call 16; refine (HA.out _ HB.out).mono ?_; rintro e w3 ⟨rfl, hb3⟩; have HB3 := Lib.hid (HB.out.chain hb3); have hc := kept_box hb3 HX.out; obtain ⟨y1, y2, y3, y4, y5, y6, y7, y8, y9⟩ := box10 hc; clear hb3; have HX3 := Lib.hid hc; clear hc)
        | (go_at_call 16; refine (HC.out w3 HB3.out).mono ?_; rintro e w4 ⟨rfl, hb4⟩; have HB4 := Lib.hid (HB3.out.chain hb4); have hc := kept_box hb4 HX3.out; have y99 := cell_of_block hc 9 (v := .slice Al l.length cl) rfl; clear hb4 hc)
        )
      go_ret
      exact ⟨rfl, HB4.out⟩

end Go.Proofs.YtijglomghlbhfaaGreatDoor
