/-
  Contracts of sepallaw01.plain and of slices.Equal at the reference's tokens, where both lists are the same.
-/
import Derived.Test.YtjbbelmmnlohlaaDoorLexS
namespace Go.Proofs.YtjbbelmmnlohlaaDoor
open Go.RowKit

theorem tokRead_own {W : World} {B c : Nat} {e : TypeId} {A : Option Addr} {l : List Tok} (h : W.ownsRow B e 4 (.slice A l.length c) l.length (toksVals l)) : TokRead W A l := by
  intro hl
  rcases h.2 with ⟨_, hn⟩ | ⟨g, cap, cur, hv, hg, hb, hn, hc, hs, ht⟩
  · omega
  · injection hv with hA
    have hcell : ∀ i, i < l.length * 4 → W.cell? ⟨g, i, none⟩ = (toksVals l)[i]? := by
      intro i hi
      rw [← ht, List.getElem?_take_of_lt hi]
      simp [World.cell?, hb]
    refine ⟨g, hA, (Array.getElem?_eq_some_iff.1 hb).1, ?_, ?_, ?_, ?_⟩
    · intro k hk
      exact (hcell (k * 4 + 0) (by omega)).trans (toksVals_get l k 0 hk (by omega))
    · intro k hk
      exact (hcell (k * 4 + 1) (by omega)).trans (toksVals_get l k 1 hk (by omega))
    · intro k hk
      exact (hcell (k * 4 + 2) (by omega)).trans (toksVals_get l k 2 hk (by omega))
    · intro k hk
      exact (hcell (k * 4 + 3) (by omega)).trans (toksVals_get l k 3 hk (by omega))

set_option maxRecDepth 100000 in
set_option maxHeartbeats 1000000 in
theorem rtokEq_pos (g1 g2 c1 c2 : Nat) (l : List Tok) (W : World) (hl0 : 0 < l.length) (hl : l.length ≤ 100000) (h1 : TokCells W g1 l) (h2 : TokCells W g2 l) :
    Calls Tryd.prog 14 #[.slice (some ⟨g1, 0, none⟩) l.length c1, .slice (some ⟨g2, 0, none⟩) l.length c2] W fun e w' => e = .returned (.bool true) ∧ ∃ q, w' = W.drewN q := by
  have H1 := Lib.hid h1
  have H2 := Lib.hid h2
  clear h1 h2
  go_enter Tryd.func14, Tryd.ntmps14
  go_wp2
  go_loopg [13] l.length (fun n j wr => ∃ k q : Nat, n = l.length - k ∧ k ≤ l.length ∧ j = .int .i64 k ∧ wr = W.drewN q)
  case atStart => exact ⟨0, 0, rfl, Nat.zero_le _, rfl, rfl⟩
  case round =>
    obtain ⟨k, q, rfl, hk, rfl, rfl⟩ := hrel
    by_cases hlt : k < l.length
    · have hlt2 : (k : Int) < l.length := by omega
      have hk0 : (0 : Int) ≤ k := by omega
      have p0 := H1.out.c0 k hlt
      have p1 := H1.out.c1 k hlt
      have p2 := H1.out.c2 k hlt
      have p3 := H1.out.c3 k hlt
      have q0 := H2.out.c0 k hlt
      have q1 := H2.out.c1 k hlt
      have q2 := H2.out.c2 k hlt
      have q3 := H2.out.c3 k hlt
      generalize l.getD k ⟨0, [], 0, 0⟩ = x at *
      go_wp2
      go_quiet (fail)
      go_wp2
      go_roundg (l.length - (k + 1))
      case measure => omega
      case rel => exact ⟨k + 1, _, rfl, by omega, by go_num, rfl⟩
    · go_wp2
      go_ret
      exact ⟨rfl, q, rfl⟩

set_option maxHeartbeats 400000 in
theorem rtokEq_nil (A1 A2 : Option Addr) (c1 c2 : Nat) (W : World) :
    Calls Tryd.prog 14 #[.slice A1 0 c1, .slice A2 0 c2] W fun e w' => e = .returned (.bool true) ∧ ∃ q, w' = W.drewN q := by
  go_enter Tryd.func14, Tryd.ntmps14
  go_wp2
  refine wp_loop_rounds 1 ?_
  rw [rounds_succ]
  go_wp2
  go_ret
  exact ⟨rfl, 0, rfl⟩

theorem rtokEq_any (A1 A2 : Option Addr) (c1 c2 : Nat) (l : List Tok) (W : World) (hl : l.length ≤ 100000) (h1 : TokRead W A1 l) (h2 : TokRead W A2 l) :
    Calls Tryd.prog 14 #[.slice A1 l.length c1, .slice A2 l.length c2] W fun e w' => e = .returned (.bool true) ∧ ∃ q, w' = W.drewN q := by
  by_cases h0 : 0 < l.length
  · obtain ⟨g1, rfl, t1⟩ := h1 h0
    obtain ⟨g2, rfl, t2⟩ := h2 h0
    exact rtokEq_pos g1 g2 c1 c2 l W h0 hl t1 t2
  · rw [show l.length = 0 by omega]
    exact rtokEq_nil A1 A2 c1 c2 W

theorem plain_rel_le (l : List Tok) (k : Nat) (h : k < l.length) : toksVals (l.take (k + 1)) = toksVals (l.take k) ++ tokVals (l.getD k ⟨0, [], 0, 0⟩) := by
  rw [List.take_succ_eq_append_getElem h, List.getD_eq_getElem?_getD, List.getElem?_eq_getElem h]
  unfold toksVals
  rw [List.flatMap_append]
  simp

set_option maxRecDepth 100000 in
set_option maxHeartbeats 2000000 in
/-- plain: the tokens once more, as the reference's. -/
theorem plain_any (A : Option Addr) (c : Nat) (l : List Tok) (w : World) (hl : l.length ≤ 100000) (h : TokRead w A l) :
    Calls Tryd.prog 15 #[.slice A l.length c] w fun e w' => ∃ v, e = .returned v ∧ w'.ownsRow w.heap.size 34 4 v l.length (toksVals l) ∧ Below w.heap.size w w' := by
  have H := Lib.hid h
  clear h
  obtain ⟨i0, hi, hiz, his, hib⟩ := info_parts infoRTok
  have HI := Lib.hid (And.intro hi (And.intro hiz (And.intro his hib)))
  clear hi hiz his hib
  go_enter Tryd.func15, Tryd.ntmps15
  go_wp2
  go_loopg [3, 8] l.length (fun n v j wr => ∃ k : Nat, n = l.length - k ∧ k ≤ l.length ∧ j = .int .i64 k ∧ wr.ownsRow w.heap.size 34 4 v k (toksVals (l.take k)) ∧ Below w.heap.size w wr)
  case atStart => exact ⟨0, rfl, Nat.zero_le _, rfl, World.ownsRow_nil _ _ _ _, Below.refl _ _⟩
  case round =>
    obtain ⟨k, rfl, hk, rfl, hown, hbel⟩ := hrel
    have HO := Lib.hid hown
    have HB := Lib.hid hbel
    by_cases hlt : k < l.length
    · obtain ⟨g, rfl, hT⟩ := (H.out.later hbel) (by omega)
      have p0 := hT.c0 k hlt
      have p1 := hT.c1 k hlt
      have p2 := hT.c2 k hlt
      have p3 := hT.c3 k hlt
      have HS := Lib.hid (plain_rel_le l k hlt)
      generalize l.getD k ⟨0, [], 0, 0⟩ = x at *
      obtain ⟨hi, hiz, his, hib⟩ := HI.out
      clear hown hbel hT
      go_wp2_with (first
        | (at_builtin; refine wpList_append_own _ rfl _ _ 29 rfl w.heap.size 34 i0 _ 4 40 Tryd.underlying29 hi hiz his hib rfl (by decide) _ _ _ rfl ((HO.out.alloc _).alloc _) ⟨wr.heap.size + 1, 0, none⟩ 1 1 (tokVals x) rfl rfl ?c1 ?c2 ?c3 ?c4 ?c5 ?_))
      case c1 =>
        have hh := tok_cells (wr.alloc (.cells #[.int .i64 x.k, .string ⟨x.t.toArray⟩, .int .i64 x.l, .int .i64 x.c] 38)) x 34
        rw [size_of_alloc] at hh
        exact hh
      case c2 => exact tok_one _
      case c3 => unfold maxLen; omega
      case c4 => omega
      case c5 => rw [size_of_alloc, size_of_alloc]; have := HB.out.size; omega
      intro v' w2 hown' hgrow _
      have HB2 := Lib.hid (HB.out.trans ((((below_alloc wr _).trans (below_alloc _ _ |>.mono (by rw [size_of_alloc]; omega))).mono HB.out.size).trans (below_grown ((HO.out.alloc _).alloc _) hgrow (by rw [size_of_alloc, size_of_alloc]; have := HB.out.size; omega))))
      have HO2 : Hid (w2.ownsRow w.heap.size 34 4 v' (k + 1) (toksVals (l.take (k + 1)))) := Lib.hid (HS.out ▸ hown')
      clear hown' hgrow hi hiz his hib
      go_wp2
      go_roundg (l.length - (k + 1))
      case measure => omega
      case rel => exact ⟨k + 1, rfl, by omega, by go_num, HO2.out, HB2.out⟩
    · obtain rfl : k = l.length := by omega
      rw [List.take_of_length_le (Nat.le_refl _)] at hown
      have HO3 := Lib.hid hown
      clear hown hbel HO
      go_wp2
      go_ret
      exact ⟨_, rfl, HO3.out, HB.out⟩

end Go.Proofs.YtjbbelmmnlohlaaDoor
