/-
  Contract of sepallaw01.awake: true.
-/
import Derived.Test.YtjdcohfdanenlaaDoorLexH
namespace Go.Proofs.YtjdcohfdanenlaaDoor
open Go.RowKit

theorem infoInt : (Tryd.prog.info? 3).map (fun i => (i.zero, i.size, i.bytes)) = some (some (.int .i64 0), 1, 8) := by kernel_rfl

def cols (l : List Tok) (k : Nat) : List Value := (l.take k).map fun t => Value.int .i64 t.c

theorem cols_snoc (l : List Tok) (k : Nat) (h : k < l.length) : cols l (k + 1) = cols l k ++ [.int .i64 (l.getD k ⟨0, [], 0, 0⟩).c] := by
  unfold cols
  rw [List.take_succ_eq_append_getElem h, List.map_append, List.getD_eq_getElem?_getD, List.getElem?_eq_getElem h]
  rfl

theorem cols_length (l : List Tok) (k : Nat) (h : k ≤ l.length) : (cols l k).length = k := by
  unfold cols; rw [List.length_map, List.length_take]; omega

/-- An append to a row that the call owns leaves what lies below the row. -/
theorem below_grown {B : Nat} {W W' : World} {e : TypeId} {size n : Nat} {v : Value} {xs : List Value} (hown : W.ownsRow B e size v n xs) (hg : W.grownBy W' v.ownBlock) (hB : B ≤ W.heap.size) : Below B W W' :=
  ⟨hg.os, hg.tape, hg.output, hg.size, fun k hk => hg.block k (by omega) (fun e => by have := (hown.lt k e.symm).1; omega)⟩

theorem addr_add (b j : Nat) : (⟨b, 0, none⟩ : Addr).add j = ⟨b, j, none⟩ := by
  unfold Addr.add
  split
  · rename_i h; rw [h]
  · rw [Nat.zero_add]

theorem one_cells (W : World) (b : Nat) (hb : b = W.heap.size) (x : Value) (t : TypeId) : ∀ (j : Nat) (u : Value), [x][j]? = some u → (W.alloc (.cells #[x] t)).cell? ((⟨b, 0, none⟩ : Addr).add j) = some u := by
  intro j u hj
  subst hb
  have hb : (W.alloc (.cells #[x] t)).heap[W.heap.size]? = some (.cells #[x] t (0, 0)) := heap_of_alloc _ _
  have e : (#[x])[j]? = some u := by rw [← hj]; simp
  rw [addr_add]
  unfold World.cell?
  simp only [hb]
  exact e

theorem one_one (x : Value) : x.oneCell' = true → ∀ u ∈ [x], u.oneCell' = true := by
  intro h u hu
  simp at hu
  rw [hu]; exact h

theorem cols_ints (l : List Tok) (k : Nat) : cols l k = ((l.take k).map Tok.c).map (Value.int .i64) := by
  unfold cols; rw [List.map_map]; rfl

theorem ints_of_own {W : World} {B : Nat} {e : TypeId} {v : Value} {n : Nat} {xs : List Int} (h : W.ownsRow B e 1 v n (xs.map (Value.int .i64))) (hn : 0 < n) : ∃ g cap, v = .slice (some ⟨g, 0, none⟩) n cap ∧ B ≤ g ∧ g < W.heap.size ∧ ∀ j, j < n → W.cell? ⟨g, j, none⟩ = some (.int .i64 (xs.getD j 0)) := by
  have hlen := h.1
  rw [List.length_map] at hlen
  rcases h.2 with ⟨_, hn0⟩ | ⟨g, cap, cur, hv, hg, hb, hn, hc, hs, ht⟩
  · omega
  · refine ⟨g, cap, hv, hg, (Array.getElem?_eq_some_iff.1 hb).1, fun j hj => ?_⟩
    have e1 : W.cell? ⟨g, j, none⟩ = cur.toList[j]? := by simp [World.cell?, hb]
    rw [e1, ← List.getElem?_take_of_lt (show j < n * 1 by omega), ht, List.getElem?_map, List.getElem?_eq_getElem (by omega), List.getD_eq_getElem?_getD, List.getElem?_eq_getElem (by omega)]
    rfl

theorem int_cells (W : World) (xs : List Int) (t : TypeId) (j : Nat) (hj : j < xs.length) : (W.alloc (.cells (xs.map (Value.int .i64)).toArray t)).cell? ⟨W.heap.size, j, none⟩ = some (.int .i64 (xs.getD j 0)) := by
  have hb := heap_of_alloc W (.cells (xs.map (Value.int .i64)).toArray t)
  have e1 : (W.alloc (.cells (xs.map (Value.int .i64)).toArray t)).cell? ⟨W.heap.size, j, none⟩ = (xs.map (Value.int .i64))[j]? := by
    unfold World.cell?
    simp only [hb]
    simp
  rw [e1, List.getElem?_map, List.getElem?_eq_getElem hj, List.getD_eq_getElem?_getD, List.getElem?_eq_getElem hj]
  rfl

set_option maxRecDepth 100000 in
set_option maxHeartbeats 1000000 in
theorem awake_any (m : Int) (w : World) (hg : 0 < w.heap.size) (hm : w.cell? ⟨0, 0, none⟩ = some (.int .i64 m)) :
    Calls Tryd.prog 5 #[] w fun e w' => e = .returned (.bool true) ∧ Below w.heap.size w w' := by
  have HS : Hid (Calls Tryd.prog 11 #[.string ⟨#[120, 46, 110, 101, 120, 116, 61, 110, 117, 108, 108, 59]⟩] w (SplitIs ⟨awakeToks, 0, 0, 0⟩ w)) := Lib.hid (awake_split ▸ split_any ⟨awakeText.toArray⟩ m w (by decide) hg hm)
  clear hm
  obtain ⟨i0, hi, hiz, his, hib⟩ := info_parts infoInt
  have HI := Lib.hid (And.intro hi (And.intro hiz (And.intro his hib)))
  clear hi hiz his hib
  go_enter Tryd.func5, Tryd.ntmps5
  go_wp2_with (go_at_call 11; refine HS.out.mono ?_; rintro e w1 ⟨sv, rfl, ho, hb⟩; obtain ⟨g, cap, hT⟩ := tokRow_of_own ho (by decide); obtain rfl := hT.val; have HT := Lib.hid (And.intro hT hb); clear hT hb ho)
  clear HS
  have HT2 := Lib.hid (And.intro (HT.out.1.later HT.out.1.lt (below_alloc w1 (.cells #[.int .i64 0, .int .i64 0] 26)) (by rw [size_of_alloc]; omega)) (HT.out.2.trans ((below_alloc w1 (.cells #[.int .i64 0, .int .i64 0] 26)).mono HT.out.2.size)))
  have hgl := HT.out.1.lt
  have hW1 : w1.heap.size < (w1.alloc (.cells #[.int .i64 0, .int .i64 0] 26)).heap.size := by rw [size_of_alloc]; omega
  generalize w1.alloc (.cells #[.int .i64 0, .int .i64 0] 26) = W1 at *
  go_loopg [4, 14] 6 (fun n v j wr => ∃ k : Nat, n = 6 - k ∧ k ≤ 6 ∧ j = .int .i64 k ∧ wr.ownsRow W1.heap.size 3 1 v k (cols awakeToks k) ∧ Below W1.heap.size W1 wr)
  case atStart => exact ⟨0, rfl, by omega, rfl, World.ownsRow_nil _ _ _ _, Below.refl _ _⟩
  case round =>
    obtain ⟨k, rfl, hk, rfl, hown, hbel⟩ := hrel
    have HB := Lib.hid hbel
    have HO := Lib.hid hown
    have hl6 : ((awakeToks.length : Nat) : Int) = 6 := rfl
    have hl6n : awakeToks.length = 6 := rfl
    by_cases hlt : k < 6
    · have hR : TokRow wr _ g cap awakeToks w.heap.size := HT2.out.1.later (C := W1.heap.size) HT2.out.1.lt HB.out HB.out.size
      have h0 := hR.c0 k hlt
      have h1 := hR.c1 k hlt
      have h2 := hR.c2 k hlt
      have h3 := hR.c3 k hlt
      clear hR hbel hown
      obtain ⟨hi, hiz, his, hib⟩ := HI.out
      have HS : Hid (cols awakeToks (k + 1) = cols awakeToks k ++ [.int .i64 (awakeToks.getD k ⟨0, [], 0, 0⟩).c]) := Lib.hid (cols_snoc awakeToks k hlt)
      generalize awakeToks.getD k ⟨0, [], 0, 0⟩ = x at *
      go_wp2_with (first
        | (at_builtin; refine wpList_append_own _ rfl _ _ 46 rfl W1.heap.size 3 i0 _ 1 8 Tryd.underlying46 hi hiz his hib rfl (by decide) _ _ _ rfl ((HO.out.alloc _).alloc _) ⟨wr.heap.size + 1, 0, none⟩ 1 1 [.int .i64 x.c] rfl rfl ?c1 ?c2 ?c3 ?c4 ?c5 ?_))
      case c1 => exact one_cells _ _ (size_of_alloc _ _).symm _ _
      case c2 => exact one_one _ rfl
      case c3 => unfold maxLen; omega
      case c4 => omega
      case c5 => rw [size_of_alloc, size_of_alloc]; have := HB.out.size; omega
      intro v' w2 hown' hgrow _
      have HB2 := Lib.hid (HB.out.trans (((below_alloc wr _).trans (below_alloc _ _ |>.mono (by rw [size_of_alloc]; omega))).mono HB.out.size |>.trans (below_grown ((HO.out.alloc _).alloc _) hgrow (by rw [size_of_alloc, size_of_alloc]; have := HB.out.size; omega))))
      have HO2 : Hid (w2.ownsRow W1.heap.size 3 1 v' (k + 1) (cols awakeToks (k + 1))) := Lib.hid (HS.out ▸ hown')
      clear hown' hgrow hi hiz his hib
      go_wp2
      go_roundg (6 - (k + 1))
      case rel => exact ⟨k + 1, rfl, by omega, by go_num, HO2.out, HB2.out⟩
      case measure => omega
    · obtain rfl : k = 6 := by omega
      have h6 : ¬ (6 : Int) < 6 := by omega
      clear hbel
      rw [cols_ints] at hown
      obtain ⟨g2, cap2, rfl, hg2, hz2, hc2⟩ := ints_of_own hown (by omega)
      have HE : Hid (Calls Tryd.prog 17 #[.slice (some ⟨g2, 0, none⟩) 6 cap2, .slice (some ⟨wr.heap.size, 0, none⟩) 6 6] (wr.alloc (.cells #[.int .i64 1, .int .i64 2, .int .i64 3, .int .i64 7, .int .i64 8, .int .i64 12] 3)) fun e w' => e = .returned (.bool true) ∧ ∃ q, w' = (wr.alloc (.cells #[.int .i64 1, .int .i64 2, .int .i64 3, .int .i64 7, .int .i64 8, .int .i64 12] 3)).drewN q) :=
        Lib.hid (Tryd.slices_Equal_int g2 0 6 cap2 wr.heap.size 0 6 6 [1, 2, 3, 7, 8, 12] [1, 2, 3, 7, 8, 12] _ (by decide) (by decide) (by decide) (by decide)
          (fun j hj => by rw [Nat.zero_add]; exact ((below_alloc wr _).cell (p := ⟨g2, j, none⟩) hz2).trans (hc2 j hj))
          (fun j hj => by rw [Nat.zero_add]; exact int_cells wr [1, 2, 3, 7, 8, 12] 3 j hj))
      clear hown hc2
      go_wp2_with (go_at_call 17; refine HE.out.mono ?_; rintro e w3 ⟨rfl, q, rfl⟩)
      go_ret
      exact ⟨rfl, below_drewN ((HT2.out.2.trans (HB.out.mono HT2.out.2.size)).trans ((below_alloc wr _).mono (by have := HB.out.size; have := HT2.out.2.size; omega))) _⟩

end Go.Proofs.YtjdcohfdanenlaaDoor
