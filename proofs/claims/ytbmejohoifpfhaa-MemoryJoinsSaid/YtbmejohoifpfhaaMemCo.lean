/-
  slices.Grow at no block, slices.Concat of two rows of blocks.
-/
import Derived.Test.YtbmejohoifpfhaaMemI
import Derived.Test.YtbmejohoifpfhaaMemAd
namespace Go.Proofs.Ytbmejohoifpfhaa
open Go.RowKit Go.Lib

set_option maxRecDepth 100000 in
set_option maxHeartbeats 2000000 in
theorem grow_nil (n : Nat) (z : Int) (hz : z = (n : Int)) (hn : n ≤ 1000) (w : World) :
    Calls Try.prog 43 #[.slice none 0 0, .int .i64 z] w fun e w' => ∃ v, e = .returned v ∧ w'.ownsRow w.heap.size 42 3 v 0 [] ∧ Below w.heap.size w w' := by
  subst hz
  have hnn : ¬ (n : Int) < 0 := by omega
  by_cases h0 : n = 0
  · subst h0
    go_enter Try.func43, Try.ntmps43
    go_wp2
    go_ret
    exact ⟨_, rfl, World.ownsRow_nil w _ _ 3, Below.refl _ _⟩
  have hpos : 0 < n := by omega
  have hpos' : (0 : Int) < n := by omega
  obtain ⟨i0, hi, hiz, his, hib⟩ := info_parts infoBk
  have hold : (Builtin.firstCells i0.size 0 (.slice none 0 0)).run Try.prog w.drew = .ok #[] w.drew := by
    simp [Builtin.firstCells]
  obtain ⟨G, hG⟩ : ∃ G, G = grownCap w n 0 42 := ⟨_, rfl⟩
  have hGn : n ≤ G := by rw [hG]; exact grownCap_ge w _ _ _
  have hG63 : G ≤ 9223372036854775807 := by rw [hG]; exact grownCap_small (by omega)
  obtain ⟨ROW, hROW⟩ : ∃ ROW : Array Value, ROW = (#[] : Array Value) ++ Builtin.zeroCells (Value.agg #[.int .i64 0, .string ⟨#[]⟩, .slice none 0 0]).cells n ++ Builtin.zeroCells (Value.agg #[.int .i64 0, .string ⟨#[]⟩, .slice none 0 0]).cells (G - n) := ⟨_, rfl⟩
  have hrz : ∀ ty, (Builtin.append_ #[22, 3] ty #[.slice none 0 0, .int .i64 (n : Int)]).run Try.prog w = .ok (.slice (some ⟨w.heap.size, 0, none⟩) n G) (w.drew.alloc (.cells ROW 42)) := fun ty => by
    have h := Lib.run_append_grow_zeros (P := Try.prog) w 22 3 ty 42 i0 _ .i64 .i64 Try.underlying22 Try.underlying3 hi hiz none 0 0 [] hold n (by omega) (by rw [his]; decide) (by omega) (by omega) (by rw [hib]; omega) (by rw [hib, Nat.zero_add]; exact growslice_fits (by omega) (by omega))
    rw [Nat.zero_add, ← hG] at h
    rw [h, hROW]
  have hR : ROW.size = G * 3 := by
    rw [hROW, Array.size_append, Array.size_append, zeroCells_bk, zeroCells_bk]
    simp
    omega
  have HZ := Lib.hid hrz
  have HO := Lib.hid (And.intro hGn (And.intro hG63 hR))
  clear hrz hG hROW hi hiz his hib hold hGn hR
  go_enter Try.func43, Try.ntmps43
  go_wp2_with (at_builtin; refine Lib.wpList_append_run _ rfl _ _ _ _ rfl _ _ rfl rfl _ _ (HZ.out _) ?_)
  go_ret
  refine ⟨_, rfl, ⟨rfl, .inr ⟨w.heap.size, G, ROW, rfl, Nat.le_refl _, heap_of_alloc w.drew _, Nat.zero_le _, by unfold maxLen; omega, HO.out.2.2, by simp⟩⟩, (Below.refl _ _).drew1.al _⟩

set_option maxRecDepth 100000 in
set_option maxHeartbeats 4000000 in
theorem concat_any (A B : Option Addr) (n m ca cb S : Nat) (L M : List Bx) (hn : n ≤ 100) (hm : m ≤ 100) (w : World) (hA : Reads w w.heap.size 3 A n (cellsL L)) (hB : Reads w w.heap.size 3 B m (cellsL M)) (c0 : w.cell? ⟨S, 0, none⟩ = some (.slice A n ca)) (c1 : w.cell? ⟨S, 1, none⟩ = some (.slice B m cb)) (hS : S < w.heap.size) :
    Calls Try.prog 21 #[.slice (some ⟨S, 0, none⟩) 2 2] w fun e w' => ∃ v, e = .returned v ∧ w'.ownsRow w.heap.size 42 3 v (n + m) (cellsL L ++ cellsL M) ∧ Below w.heap.size w w' := by
  have HM := Lib.hid (And.intro hA (And.intro hB (And.intro c0 (And.intro c1 hS))))
  obtain ⟨i0, hi, hiz, his, hib⟩ := info_parts infoBk
  have HI0 := Lib.hid (And.intro hi (And.intro hiz (And.intro his hib)))
  have hw1 : IntKind.i64.wrap (0 + (n : Int)) = (n : Int) := by rw [IntKind.wrap_i64]; omega
  have hw1' : IntKind.i64.wrap (n : Int) = (n : Int) := by rw [IntKind.wrap_i64]; omega
  have hw2 : IntKind.i64.wrap ((n : Int) + m) = (n : Int) + m := by rw [IntKind.wrap_i64]; omega
  have hb1 : ¬ (n : Int) < 0 := by omega
  have hb2 : ¬ (n : Int) + m < 0 := by omega
  clear hA hB hi hiz his hib
  go_enter Try.func21, Try.ntmps21
  go_wp2
  refine wp_loop_rounds 3 ?_
  rw [rounds_succ]
  go_wp2
  rw [rounds_succ]
  go_wp2
  rw [rounds_succ]
  go_wp2_with (go_at_call 43; refine (grow_nil (n + m) _ (by omega) (by omega) _).mono ?_; rintro e w2 ⟨v0, rfl, q1, q2⟩; have H2 := Lib.hid (And.intro q1 q2); have d0 := (q2.cell (p := ⟨S, 0, none⟩) hS).trans c0; have d1 := (q2.cell (p := ⟨S, 1, none⟩) hS).trans c1; clear q1 q2)
  refine wp_loop_rounds 3 ?_
  rw [rounds_succ]
  go_wp2_with (at_builtin; refine wpList_append_any (o := ⟨some 33, _, _, _, _, _⟩) _ rfl _ _ 22 rfl w.heap.size 42 i0 _ 3 48 Try.underlying22 HI0.out.1 HI0.out.2.1 HI0.out.2.2.1 HI0.out.2.2.2 rfl (by decide) _ 0 [] rfl H2.out.1 w.heap.size A n _ (cellsL L) rfl (HM.out.1.below H2.out.2) (cellsL_one _) (by unfold maxLen; omega) (by omega) H2.out.2.size ?_; intro v1 w3 o1 g1 _; have H3 : Hid (Below w.heap.size w w3 ∧ w3.ownsRow w.heap.size 42 3 v1 n (cellsL L)) := Lib.hid ⟨H2.out.2.trans (below_grown H2.out.1 g1 H2.out.2.size), by simpa using o1⟩; have e1 := (H3.out.1.cell (p := ⟨S, 1, none⟩) hS).trans c1; clear o1 g1)
  rw [rounds_succ]
  go_wp2_with (at_builtin; refine wpList_append_any (o := ⟨some 33, _, _, _, _, _⟩) _ rfl _ _ 22 rfl w.heap.size 42 i0 _ 3 48 Try.underlying22 HI0.out.1 HI0.out.2.1 HI0.out.2.2.1 HI0.out.2.2.2 rfl (by decide) _ n (cellsL L) rfl H3.out.2 w.heap.size B m _ (cellsL M) rfl (HM.out.2.1.below H3.out.1) (cellsL_one _) (by unfold maxLen; omega) (by omega) H3.out.1.size ?_; intro v2 w4 o2 g2 _; have H4 : Hid (Below w.heap.size w w4 ∧ w4.ownsRow w.heap.size 42 3 v2 (n + m) (cellsL L ++ cellsL M)) := Lib.hid ⟨H3.out.1.trans (below_grown H3.out.2 g2 H3.out.1.size), o2⟩; clear o2 g2)
  rw [rounds_succ]
  go_wp2
  go_ret
  exact ⟨_, rfl, H4.out.2, H4.out.1⟩

end Go.Proofs.Ytbmejohoifpfhaa
