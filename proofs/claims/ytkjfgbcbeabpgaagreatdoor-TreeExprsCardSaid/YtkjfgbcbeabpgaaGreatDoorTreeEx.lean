/-
  The law TreeExprs: its contract.
-/
import Derived.Test.YtkjfgbcbeabpgaaGreatDoorTreeAx
import Derived.Test.YtkjfgbcbeabpgaaGreatDoorTreeLc
import Derived.Test.YtkjfgbcbeabpgaaGreatDoorTreeKc
import Derived.Test.YtkjfgbcbeabpgaaGreatDoorTreeKs
import Derived.Test.YtkjfgbcbeabpgaaGreatDoorTreeVm
import Derived.Test.YtkjfgbcbeabpgaaGreatDoorTreeO
import Derived.Test.YtkjfgbcbeabpgaaGreatDoorTreeRp
namespace Go.Proofs.YtkjfgbcbeabpgaaGreatDoor
open Go.RowKit

/-- A new row of one expression. -/
theorem single_row {W : World} {g : Nat} {k n : Int} {s : List UInt8} {l : List Ex} {A : Option Addr} {c : Nat} (hg : W.heap[g]? = some (exprC k n ⟨s.toArray⟩ (.slice A l.length c))) (h1 : s.length ≤ maxLen) (h2 : l.length ≤ maxLen) (hr : ExRow W W.heap.size l A) : ExRow W W.heap.size [.mk k n s l] (some ⟨g, 0, none⟩) := by
  refine .row _ _ (fun _ => A) (fun _ => c) (Array.getElem?_eq_some_iff.1 hg).1 (fun i k n s l hi => ?_) (fun i k n s l hi => ?_)
  · match i, hi with
    | 0, hi =>
      injection hi with hi; injection hi with e1 e2 e3 e4; subst e1 e2 e3 e4
      simp only [add_block0]
      exact ⟨cell_of_block hg 0 rfl, cell_of_block hg 1 rfl, cell_of_block hg 2 rfl, cell_of_block hg 3 rfl, h1, h2⟩
    | i + 1, hi => simp at hi
  · match i, hi with
    | 0, hi => injection hi with hi; injection hi with e1 e2 e3 e4; subst e4; exact hr
    | i + 1, hi => simp at hi

/-- A new row of one condition. -/
theorem single_cond {W : World} {g : Nat} {k2 ak an : Int} {sa : List UInt8} {al : List Ex} {bk bn : Int} {sb : List UInt8} {bl : List Ex} {l2 : List Cn} {Aa : Option Addr} {ca : Nat} {Ab : Option Addr} {cb : Nat} {Al : Option Addr} {cl : Nat} (hg : W.heap[g]? = some (condC2 k2 ak an ⟨sa.toArray⟩ (.slice Aa al.length ca) bk bn ⟨sb.toArray⟩ (.slice Ab bl.length cb) (.slice Al l2.length cl)))
    (h1 : sa.length ≤ maxLen) (h2 : al.length ≤ maxLen) (h3 : sb.length ≤ maxLen) (h4 : bl.length ≤ maxLen) (h5 : l2.length ≤ maxLen) (ra : ExRow W W.heap.size al Aa) (rb : ExRow W W.heap.size bl Ab) (rl : CnRow W W.heap.size l2 Al) : CnRow W W.heap.size [.mk k2 (.mk ak an sa al) (.mk bk bn sb bl) l2] (some ⟨g, 0, none⟩) := by
  refine .row _ _ (fun _ => Aa) (fun _ => Ab) (fun _ => Al) (fun _ => ca) (fun _ => cb) (fun _ => cl) (Array.getElem?_eq_some_iff.1 hg).1 (fun i k ak an sa al bk bn sb bl l hi => ?_) (fun i k ak an sa al bk bn sb bl l hi => ?_)
  · match i, hi with
    | 0, hi =>
      injection hi with hi; injection hi with e1 e2 e3 e4
      injection e2 with f1 f2 f3 f4
      injection e3 with g1 g2 g3 g4
      subst e1 e4 f1 f2 f3 f4 g1 g2 g3 g4
      exact ⟨⟨by simp only [add_block0]; exact cell_of_block hg 0 rfl, by simp only [add_block0]; exact cell_of_block hg 1 rfl, by simp only [add_block0]; exact cell_of_block hg 2 rfl, by simp only [add_block0]; exact cell_of_block hg 3 rfl, by simp only [add_block0]; exact cell_of_block hg 4 rfl, by simp only [add_block0]; exact cell_of_block hg 5 rfl, by simp only [add_block0]; exact cell_of_block hg 6 rfl, by simp only [add_block0]; exact cell_of_block hg 7 rfl, by simp only [add_block0]; exact cell_of_block hg 8 rfl, by simp only [add_block0]; exact cell_of_block hg 9 rfl⟩, h1, h2, h3, h4, h5, ra, rb⟩
    | i + 1, hi => simp at hi
  · match i, hi with
    | 0, hi => injection hi with hi; injection hi with e1 e2 e3 e4; subst e4; exact rl
    | i + 1, hi => simp at hi

set_option maxRecDepth 100000 in
set_option maxHeartbeats 20000000 in
theorem exprs_law (k n : Int) (s : List UInt8) (l : List Ex) (A : Option Addr) (c : Nat) (k2 ak an : Int) (sa : List UInt8) (al : List Ex) (bk bn : Int) (sb : List UInt8) (bl : List Ex) (l2 : List Cn) (Aa : Option Addr) (ca : Nat) (Ab : Option Addr) (cb : Nat) (Al : Option Addr) (cl : Nat) (w : World)
    (hr : ExRow w w.heap.size l A) (hs : s.length ≤ maxLen) (hl : l.length ≤ maxLen) (ra : ExRow w w.heap.size al Aa) (rb : ExRow w w.heap.size bl Ab) (rl : CnRow w w.heap.size l2 Al) (b1 : sa.length ≤ maxLen) (b2 : al.length ≤ maxLen) (b3 : sb.length ≤ maxLen) (b4 : bl.length ≤ maxLen) (b5 : l2.length ≤ maxLen) :
    Calls Tryz.prog 3 #[exprV k n ⟨s.toArray⟩ (.slice A l.length c), condV2 k2 ak an ⟨sa.toArray⟩ (.slice Aa al.length ca) bk bn ⟨sb.toArray⟩ (.slice Ab bl.length cb) (.slice Al l2.length cl)] w fun e w' => e = .returned (.bool true) ∧ Below w.heap.size w w' := by
  obtain ⟨W1, hW1⟩ : ∃ W1, W1 = (w.alloc (exprC k n ⟨s.toArray⟩ (.slice A l.length c))).alloc (condC2 k2 ak an ⟨sa.toArray⟩ (.slice Aa al.length ca) bk bn ⟨sb.toArray⟩ (.slice Ab bl.length cb) (.slice Al l2.length cl)) := ⟨_, rfl⟩
  have HB : Hid (Below w.heap.size w W1) := Lib.hid (by rw [hW1]; exact (below_alloc w _).chain (below_alloc _ _))
  have q1 := heap_keep (o := condC2 k2 ak an ⟨sa.toArray⟩ (.slice Aa al.length ca) bk bn ⟨sb.toArray⟩ (.slice Ab bl.length cb) (.slice Al l2.length cl)) (heap_of_alloc w (exprC k n ⟨s.toArray⟩ (.slice A l.length c)))
  have q2 := heap_of_alloc (w.alloc (exprC k n ⟨s.toArray⟩ (.slice A l.length c))) (condC2 k2 ak an ⟨sa.toArray⟩ (.slice Aa al.length ca) bk bn ⟨sb.toArray⟩ (.slice Ab bl.length cb) (.slice Al l2.length cl))
  rw [size_of_alloc] at q2
  rw [← hW1] at q1 q2
  -- what holds in every later world
  obtain ⟨S, hS⟩ : ∃ S : World → Prop, S = (fun W => W.cell? ⟨w.heap.size, 0, none⟩ = some (.int .i64 k) ∧ W.cell? ⟨w.heap.size, 1, none⟩ = some (.int .i64 n) ∧ W.cell? ⟨w.heap.size, 2, none⟩ = some (.string ⟨s.toArray⟩) ∧ W.cell? ⟨w.heap.size, 3, none⟩ = some (.slice A l.length c) ∧ W.cell? ⟨w.heap.size + 1, 0, none⟩ = some (.int .i64 k2) ∧ W.cell? ⟨w.heap.size + 1, 1, none⟩ = some (.int .i64 ak) ∧ W.cell? ⟨w.heap.size + 1, 2, none⟩ = some (.int .i64 an) ∧ W.cell? ⟨w.heap.size + 1, 3, none⟩ = some (.string ⟨sa.toArray⟩) ∧ W.cell? ⟨w.heap.size + 1, 4, none⟩ = some (.slice Aa al.length ca) ∧ W.cell? ⟨w.heap.size + 1, 5, none⟩ = some (.int .i64 bk) ∧ W.cell? ⟨w.heap.size + 1, 6, none⟩ = some (.int .i64 bn) ∧ W.cell? ⟨w.heap.size + 1, 7, none⟩ = some (.string ⟨sb.toArray⟩) ∧ W.cell? ⟨w.heap.size + 1, 8, none⟩ = some (.slice Ab bl.length cb) ∧ W.cell? ⟨w.heap.size + 1, 9, none⟩ = some (.slice Al l2.length cl)) := ⟨_, rfl⟩
  have HS2 : Hid (∀ W, Below W1.heap.size W1 W → S W) := Lib.hid (fun W hb => by
    rw [hS]
    have g1 := kept_box hb q1
    have g2 := kept_box hb q2
    exact ⟨cell_of_block g1 0 rfl, cell_of_block g1 1 rfl, cell_of_block g1 2 rfl, cell_of_block g1 3 rfl, cell_of_block g2 0 rfl, box10 g2⟩)
  have HSo : Hid (∀ W, S W → W.cell? ⟨w.heap.size, 0, none⟩ = some (.int .i64 k) ∧ W.cell? ⟨w.heap.size, 1, none⟩ = some (.int .i64 n) ∧ W.cell? ⟨w.heap.size, 2, none⟩ = some (.string ⟨s.toArray⟩) ∧ W.cell? ⟨w.heap.size, 3, none⟩ = some (.slice A l.length c) ∧ W.cell? ⟨w.heap.size + 1, 0, none⟩ = some (.int .i64 k2) ∧ W.cell? ⟨w.heap.size + 1, 1, none⟩ = some (.int .i64 ak) ∧ W.cell? ⟨w.heap.size + 1, 2, none⟩ = some (.int .i64 an) ∧ W.cell? ⟨w.heap.size + 1, 3, none⟩ = some (.string ⟨sa.toArray⟩) ∧ W.cell? ⟨w.heap.size + 1, 4, none⟩ = some (.slice Aa al.length ca) ∧ W.cell? ⟨w.heap.size + 1, 5, none⟩ = some (.int .i64 bk) ∧ W.cell? ⟨w.heap.size + 1, 6, none⟩ = some (.int .i64 bn) ∧ W.cell? ⟨w.heap.size + 1, 7, none⟩ = some (.string ⟨sb.toArray⟩) ∧ W.cell? ⟨w.heap.size + 1, 8, none⟩ = some (.slice Ab bl.length cb) ∧ W.cell? ⟨w.heap.size + 1, 9, none⟩ = some (.slice Al l2.length cl)) := Lib.hid (fun W h => by rw [hS] at h; exact h)
  have HL1 : Hid (∀ W g, Below w.heap.size w W → W.heap[g]? = some (exprC k n ⟨s.toArray⟩ (.slice A l.length c)) → Calls Tryz.prog 11 #[.int .i64 200000, .slice (some ⟨g, 0, none⟩) 1 1] W fun e w' => ∃ r : Int, e = .returned (.int .i64 r) ∧ -1 ≤ r ∧ r ≤ 200000 ∧ Below W.heap.size W w') := Lib.hid (fun W g hb hg =>
    left_exprs _ [.mk k n s l] (Nat.lt_succ_self _) 200000 _ 1 W (by omega) (by omega) (single_row hg hs hl ((hr.stay hb (Nat.le_refl _)).more hb.size)) (show 1 ≤ maxLen by decide))
  have HL2 : Hid (∀ W g r, Below w.heap.size w W → -1 ≤ r → r ≤ 200000 → W.heap[g]? = some (condC2 k2 ak an ⟨sa.toArray⟩ (.slice Aa al.length ca) bk bn ⟨sb.toArray⟩ (.slice Ab bl.length cb) (.slice Al l2.length cl)) → Calls Tryz.prog 10 #[.int .i64 r, .slice (some ⟨g, 0, none⟩) 1 1] W fun e w' => ∃ r : Int, e = .returned (.int .i64 r) ∧ -1 ≤ r ∧ r ≤ 200000 ∧ Below W.heap.size W w') := Lib.hid (fun W g r hb p0 p1 hg =>
    left_conds _ [.mk k2 (.mk ak an sa al) (.mk bk bn sb bl) l2] (Nat.lt_succ_self _) r _ 1 W p0 p1 (single_cond hg b1 b2 b3 b4 b5 ((ra.stay hb (Nat.le_refl _)).more hb.size) ((rb.stay hb (Nat.le_refl _)).more hb.size) ((rl.stay hb (Nat.le_refl _)).more hb.size)) (show 1 ≤ maxLen by decide))
  obtain ⟨v1, hv1⟩ : ∃ v1, v1 = vE varR nuP 30 (.mk k n s l) := ⟨_, rfl⟩
  obtain ⟨v2, hv2⟩ : ∃ v2, v2 = vC varR nuP 30 (.mk k2 (.mk ak an sa al) (.mk bk bn sb bl) l2) := ⟨_, rfl⟩
  have HE1 : Hid (∀ W, Below w.heap.size w W → Calls Tryz.prog 12 #[exprV k n ⟨s.toArray⟩ (.slice A l.length c)] W fun e w' => e = .returned (.bool v1) ∧ Below W.heap.size W w') := Lib.hid (fun W hb => by
    have := texpr_any k n s l A c W ((hr.stay hb (Nat.le_refl _)).more hb.size) hs hl
    rw [varB_varR] at this
    rw [hv1]
    exact this)
  have HE2 : Hid (∀ W, Below w.heap.size w W → Calls Tryz.prog 13 #[exprV k n ⟨s.toArray⟩ (.slice A l.length c)] W fun e w' => e = .returned (.bool v1) ∧ Below W.heap.size W w') := Lib.hid (fun W hb => by
    rw [hv1]
    exact sexpr_any k n s l A c W ((hr.stay hb (Nat.le_refl _)).more hb.size) hs hl)
  have HC1 : Hid (∀ W, Below w.heap.size w W → Calls Tryz.prog 14 #[condV2 k2 ak an ⟨sa.toArray⟩ (.slice Aa al.length ca) bk bn ⟨sb.toArray⟩ (.slice Ab bl.length cb) (.slice Al l2.length cl)] W fun e w' => e = .returned (.bool v2) ∧ Below W.heap.size W w') := Lib.hid (fun W hb => by
    have := tcond_any k2 ak an sa al bk bn sb bl l2 Aa ca Ab cb Al cl W ((ra.stay hb (Nat.le_refl _)).more hb.size) ((rb.stay hb (Nat.le_refl _)).more hb.size) ((rl.stay hb (Nat.le_refl _)).more hb.size) b1 b2 b3 b4 b5
    rw [varB_varR] at this
    rw [hv2]
    exact this)
  have HC2 : Hid (∀ W, Below w.heap.size w W → Calls Tryz.prog 15 #[condV2 k2 ak an ⟨sa.toArray⟩ (.slice Aa al.length ca) bk bn ⟨sb.toArray⟩ (.slice Ab bl.length cb) (.slice Al l2.length cl)] W fun e w' => e = .returned (.bool v2) ∧ Below W.heap.size W w') := Lib.hid (fun W hb => by
    rw [hv2]
    exact scond_any k2 ak an sa al bk bn sb bl l2 Aa ca Ab cb Al cl W ((ra.stay hb (Nat.le_refl _)).more hb.size) ((rb.stay hb (Nat.le_refl _)).more hb.size) ((rl.stay hb (Nat.le_refl _)).more hb.size) b1 b2 b3 b4 b5)
  have HAw : Hid (∀ W, Calls Tryz.prog 9 #[] W fun e w' => e = .returned (.bool true) ∧ Below W.heap.size W w') := Lib.hid awake_any
  have hmx : Tryz.prog.follows .mixedOrders = true := by kernel_rfl
  unfold maxLen at hs hl b1 b2 b3 b4 b5
  clear hr ra rb rl hS q1 q2 hv1 hv2
  go_enter Tryz.func3, Tryz.ntmps3
  go_wp2_with (go_at_call 9; rw [← hW1]; refine (HAw.out _).mono ?_; rintro e w2 ⟨rfl, hb2⟩; have HB2 := Lib.hid hb2; clear hb2)
  clear hW1
  have HBw := Lib.hid (HB.out.chain HB2.out)
  obtain ⟨t0, t1, t2, t3, u0, u1, u2, u3, u4, u5, u6, u7, u8, u9⟩ := HSo.out _ (HS2.out _ HB2.out)
  go_region_held3 (fun W => W.cell? ⟨w.heap.size, 0, none⟩ = some (.int .i64 k) ∧ W.cell? ⟨w.heap.size, 1, none⟩ = some (.int .i64 n) ∧ W.cell? ⟨w.heap.size, 2, none⟩ = some (.string ⟨s.toArray⟩) ∧ W.cell? ⟨w.heap.size, 3, none⟩ = some (.slice A l.length c) ∧ W.cell? ⟨w.heap.size + 1, 0, none⟩ = some (.int .i64 k2) ∧ W.cell? ⟨w.heap.size + 1, 1, none⟩ = some (.int .i64 ak) ∧ W.cell? ⟨w.heap.size + 1, 2, none⟩ = some (.int .i64 an) ∧ W.cell? ⟨w.heap.size + 1, 3, none⟩ = some (.string ⟨sa.toArray⟩) ∧ W.cell? ⟨w.heap.size + 1, 4, none⟩ = some (.slice Aa al.length ca) ∧ W.cell? ⟨w.heap.size + 1, 5, none⟩ = some (.int .i64 bk) ∧ W.cell? ⟨w.heap.size + 1, 6, none⟩ = some (.int .i64 bn) ∧ W.cell? ⟨w.heap.size + 1, 7, none⟩ = some (.string ⟨sb.toArray⟩) ∧ W.cell? ⟨w.heap.size + 1, 8, none⟩ = some (.slice Ab bl.length cb) ∧ W.cell? ⟨w.heap.size + 1, 9, none⟩ = some (.slice Al l2.length cl))
    (first | go_keep | exact HSo.out _ (HS2.out _ HX3.out) | exact HSo.out _ (HS2.out _ HX4.out) | (trace_state; fail))
    (first
      | (go_at_call 11; refine (HL1.out _ _ (by first | exact (HBw.out.chain (below_alloc _ _)).drew | exact ((HBw.out.chain (below_alloc _ _)).chain (below_alloc _ _)).drew) (by first | exact heap_of_alloc w2 _ | exact heap_keep (heap_of_alloc w2 _) | (have := heap_of_alloc (w2.alloc (condC2 k2 ak an ⟨sa.toArray⟩ (.slice Aa al.length ca) bk bn ⟨sb.toArray⟩ (.slice Ab bl.length cb) (.slice Al l2.length cl))) (exprC k n ⟨s.toArray⟩ (.slice A l.length c)); rw [size_of_alloc] at this; exact this))).mono ?_; rintro e w3 ⟨r, rfl, p0, p1, hb3⟩; have HX3 := Lib.hid (HB2.out.chain (by first | exact ((below_alloc w2 _).drew).chain hb3 | exact (((below_alloc w2 _).chain (below_alloc _ _)).drew).chain hb3)); have HZ3 := Lib.hid (HBw.out.chain (by first | exact ((below_alloc w2 _).drew).chain hb3 | exact (((below_alloc w2 _).chain (below_alloc _ _)).drew).chain hb3)); have HY3 := Lib.hid hb3; clear hb3)
      | (go_at_call 10; refine (HL2.out _ _ _ (by first | exact HZ3.out.chain (below_alloc w3 _) | exact HZ3.out) p0 p1 (by first | exact heap_of_alloc w3 _ | exact kept_box HY3.out (heap_keep (heap_of_alloc w2 _)) | (have := heap_of_alloc (w2.alloc (exprC k n ⟨s.toArray⟩ (.slice A l.length c))) (condC2 k2 ak an ⟨sa.toArray⟩ (.slice Aa al.length ca) bk bn ⟨sb.toArray⟩ (.slice Ab bl.length cb) (.slice Al l2.length cl)); rw [size_of_alloc] at this; exact kept_box HY3.out this))).mono ?_; rintro e w4 ⟨r2, rfl, p2, p3, hb4⟩; have HX4 := Lib.hid (HX3.out.chain (by first | exact (below_alloc w3 _).chain hb4 | exact hb4)); have HZ4 := Lib.hid (HZ3.out.chain (by first | exact (below_alloc w3 _).chain hb4 | exact hb4)); clear hb4))
  all_goals go_wp2
  all_goals first
  | (go_ret; exact ⟨rfl, HZ4.out⟩)
  | (clear t0 t1 t2 t3 u0 u1 u2 u3 u4 u5 u6 u7 u8 u9
     try clear y0 y1 y2 y3 z0 z1 z2 z3 z4 z5 z6 z7 z8 z9
     refine wp_region_held (S := S) hmx ?_
     change wpAnyH _ _ _ _ _ 13 #[false, false, false, false, false, false, false, false, false, false, false, false, false] _ w4.drew
     have g0 := HS2.out _ HX4.out.drew
     refine anyH_take 0 (some 14) (v := exprV k n ⟨s.toArray⟩ (.slice A l.length c)) g0 rfl rfl (by kernel_rfl) (by kernel_rfl) (by kernel_rfl) (fun _ _ _ h => h) (by kernel_rfl) ?v0 ?_
     case v0 =>
       intro Wx hSx
       obtain ⟨x0, x1, x2, x3, y0, y1, y2, y3, y4, y5, y6, y7, y8, y9⟩ := HSo.out Wx hSx
       clear HSo
       go_simp
     try simp only [Act.put, List.setIfInBounds_toArray, List.set_cons_zero, List.set_cons_succ]
     refine anyH_take 2 (some 16) (v := exprV k n ⟨s.toArray⟩ (.slice A l.length c)) g0 rfl rfl (by kernel_rfl) (by kernel_rfl) (by kernel_rfl) (fun _ _ _ h => h) (by kernel_rfl) ?v2 ?_
     case v2 =>
       intro Wx hSx
       obtain ⟨x0, x1, x2, x3, y0, y1, y2, y3, y4, y5, y6, y7, y8, y9⟩ := HSo.out Wx hSx
       clear HSo
       go_simp
     try simp only [Act.put, List.setIfInBounds_toArray, List.set_cons_zero, List.set_cons_succ]
     refine anyH_one 1 (by kernel_rfl) rfl (by kernel_rfl) (fun K hK => ?_)
     go_simp
     refine (HE1.out _ HZ4.out.drew).mono ?_
     rintro e w5 ⟨rfl, hb⟩
     have HXw5 := Lib.hid (HX4.out.drew.chain hb)
     have HZw5 := Lib.hid (HZ4.out.drew.chain hb)
     clear hb
     have g1 := HS2.out _ HXw5.out
     refine hK _ _ g1 ?_
     clear hK K g0
     refine anyH_one 3 (by kernel_rfl) rfl (by kernel_rfl) (fun K hK => ?_)
     go_simp
     refine (HE2.out _ HZw5.out).mono ?_
     rintro e w6 ⟨rfl, hb⟩
     have HXw6 := Lib.hid (HXw5.out.chain hb)
     have HZw6 := Lib.hid (HZw5.out.chain hb)
     clear hb
     have g2 := HS2.out _ HXw6.out
     refine hK _ _ g2 ?_
     clear hK K g1
     refine anyH_take 4 (some 18) (v := .bool true) g2 rfl rfl (by kernel_rfl) (by kernel_rfl) (by kernel_rfl) (fun _ _ _ h => h) (by kernel_rfl) ?v4 ?_
     case v4 =>
       intro Wx hSx
       clear HSo
       go_simp
     try simp only [Act.put, List.setIfInBounds_toArray, List.set_cons_zero, List.set_cons_succ]
     refine anyH_take 5 (some 19) (v := .bool true) g2 rfl rfl (by kernel_rfl) (by kernel_rfl) (by kernel_rfl) (fun _ _ _ h => h) (by kernel_rfl) ?v5 ?_
     case v5 =>
       intro Wx hSx
       clear HSo
       go_simp
     try simp only [Act.put, List.setIfInBounds_toArray, List.set_cons_zero, List.set_cons_succ]
     refine anyH_take 6 (some 20) (v := condV2 k2 ak an ⟨sa.toArray⟩ (.slice Aa al.length ca) bk bn ⟨sb.toArray⟩ (.slice Ab bl.length cb) (.slice Al l2.length cl)) g2 rfl rfl (by kernel_rfl) (by kernel_rfl) (by kernel_rfl) (fun _ _ _ h => h) (by kernel_rfl) ?v6 ?_
     case v6 =>
       intro Wx hSx
       obtain ⟨x0, x1, x2, x3, y0, y1, y2, y3, y4, y5, y6, y7, y8, y9⟩ := HSo.out Wx hSx
       clear HSo
       go_simp
     try simp only [Act.put, List.setIfInBounds_toArray, List.set_cons_zero, List.set_cons_succ]
     refine anyH_take 8 (some 22) (v := condV2 k2 ak an ⟨sa.toArray⟩ (.slice Aa al.length ca) bk bn ⟨sb.toArray⟩ (.slice Ab bl.length cb) (.slice Al l2.length cl)) g2 rfl rfl (by kernel_rfl) (by kernel_rfl) (by kernel_rfl) (fun _ _ _ h => h) (by kernel_rfl) ?v8 ?_
     case v8 =>
       intro Wx hSx
       obtain ⟨x0, x1, x2, x3, y0, y1, y2, y3, y4, y5, y6, y7, y8, y9⟩ := HSo.out Wx hSx
       clear HSo
       go_simp
     try simp only [Act.put, List.setIfInBounds_toArray, List.set_cons_zero, List.set_cons_succ]
     refine anyH_one 7 (by kernel_rfl) rfl (by kernel_rfl) (fun K hK => ?_)
     go_simp
     refine (HC1.out _ HZw6.out).mono ?_
     rintro e w7 ⟨rfl, hb⟩
     have HXw7 := Lib.hid (HXw6.out.chain hb)
     have HZw7 := Lib.hid (HZw6.out.chain hb)
     clear hb
     have g3 := HS2.out _ HXw7.out
     refine hK _ _ g3 ?_
     clear hK K g2
     refine anyH_one 9 (by kernel_rfl) rfl (by kernel_rfl) (fun K hK => ?_)
     go_simp
     refine (HC2.out _ HZw7.out).mono ?_
     rintro e w8 ⟨rfl, hb⟩
     have HXw8 := Lib.hid (HXw7.out.chain hb)
     have HZw8 := Lib.hid (HZw7.out.chain hb)
     clear hb
     have g4 := HS2.out _ HXw8.out
     refine hK _ _ g4 ?_
     clear hK K g3
     refine anyH_take 10 (some 24) (v := .bool true) g4 rfl rfl (by kernel_rfl) (by kernel_rfl) (by kernel_rfl) (fun _ _ _ h => h) (by kernel_rfl) ?v10 ?_
     case v10 =>
       intro Wx hSx
       clear HSo
       go_simp
     try simp only [Act.put, List.setIfInBounds_toArray, List.set_cons_zero, List.set_cons_succ]
     refine anyH_take 11 (some 25) (v := .bool true) g4 rfl rfl (by kernel_rfl) (by kernel_rfl) (by kernel_rfl) (fun _ _ _ h => h) (by kernel_rfl) ?v11 ?_
     case v11 =>
       intro Wx hSx
       clear HSo
       go_simp
     try simp only [Act.put, List.setIfInBounds_toArray, List.set_cons_zero, List.set_cons_succ]
     refine anyH_take 12 (some 4) (v := .bool true) g4 rfl rfl (by kernel_rfl) (by kernel_rfl) (by kernel_rfl) (fun _ _ _ h => h) (by kernel_rfl) ?v12 ?_
     case v12 =>
       intro Wx hSx
       clear HSo
       go_simp
     try simp only [Act.put, List.setIfInBounds_toArray, List.set_cons_zero, List.set_cons_succ]
     refine wpAnyH_done (by kernel_rfl) ?_ _
     go_wp2
     go_ret
     exact ⟨rfl, HZw8.out⟩)

end Go.Proofs.YtkjfgbcbeabpgaaGreatDoor
