/-
  The world behind slices.SortFunc at blocks (the shelf's sortWorldK), in the words of rows of blocks.
-/
import Derived.Test.YtbmejohoifpfhaaMemWm
import Derived.Shelf.GgSortFunc.InsertionK
namespace Go.Proofs.Ytbmejohoifpfhaa
open Go.RowKit Go.Lib Go.Sort

instance : Inhabited Bx := ⟨Bx.zero⟩

theorem flat_cells (L : List Bx) : flatK cells3 3 L.toArray = (cellsL L).toArray := by
  apply Array.toList_inj.1
  apply List.ext_getElem?
  intro j
  rw [Array.getElem?_toList]
  by_cases hj : j < L.length * 3
  · have hk : j / 3 < L.length := by omega
    have hp : L[j / 3]? = some L[j / 3] := List.getElem?_eq_getElem hk
    have hg := cellsL_get hp (j % 3) (by omega)
    rw [show j / 3 * 3 + j % 3 = j by omega] at hg
    show _ = (cellsL L)[j]?
    rw [hg]
    have hs : j < (flatK cells3 3 L.toArray).size := by rw [size_flatK]; simpa using hj
    rw [Array.getElem?_eq_getElem hs, ← getElem!_pos _ j hs, get_flatK _ _ _ _ (by simpa using hj)]
    have h1 : L.toArray[j / 3]! = L[j / 3] := by rw [getElem!_pos L.toArray (j / 3) (by simpa using hk)]; simp
    rw [h1]
    have h3 : j % 3 < (cells3 L[j / 3]).length := by show j % 3 < 3; omega
    rw [getElem!_pos (cells3 L[j / 3]) (j % 3) h3, List.getElem?_eq_getElem h3]
  · rw [Array.getElem?_eq_none (by rw [size_flatK]; simp; omega)]
    show none = (cellsL L)[j]?
    rw [List.getElem?_eq_none (by rw [cellsL_len]; omega)]

theorem holds_row {w : World} {B0 g n : Nat} {L : List Bx} (hL : L.length = n) (h : RowMem w B0 (.slice (some ⟨g, 0, none⟩) n n) L) : HoldsK cells3 3 w g 0 L.toArray := by
  subst hL
  intro j hj
  unfold RowMem at h
  rw [size_flatK] at hj
  have hj' : j < L.length * 3 := by simpa using hj
  have hjc : j < (cellsL L).length := by rw [cellsL_len]; exact hj'
  refine ⟨?_, by rw [Nat.zero_add]; exact h.frozenAt _⟩
  rw [Nat.zero_add, h.cellAt _ hj', flat_cells, List.getElem?_eq_getElem hjc]
  rw [getElem!_pos (cellsL L).toArray j (by simpa using hjc)]
  simp

theorem sw_heap (w : World) (g m : Nat) (M : List Bx) (os : Array Obj) : (sortWorldK cells3 3 w g 0 m M.toArray os).heap = w.heap.modify g (onCells (putCells id 0 (cellsL M).toArray)) ++ os := by
  unfold sortWorldK putRowK
  rw [flat_cells]
  rfl

theorem sw_size (w : World) (g m : Nat) (M : List Bx) (os : Array Obj) : w.heap.size ≤ (sortWorldK cells3 3 w g 0 m M.toArray os).heap.size := by
  rw [sw_heap, Array.size_append, Array.size_modify]
  omega

theorem sw_other {w : World} {g m b : Nat} {M : List Bx} {os : Array Obj} (hb : b < w.heap.size) (hne : b ≠ g) : (sortWorldK cells3 3 w g 0 m M.toArray os).heap[b]? = w.heap[b]? := by
  rw [sw_heap, Array.getElem?_append_left (by rw [Array.size_modify]; exact hb), Array.getElem?_modify, if_neg (fun e => hne e.symm)]

theorem put_all (cur : Array Value) (F : Array Value) (h : F.size = cur.size) : putCells id 0 F cur = F := by
  apply Array.ext
  · simp [putCells, h]
  · intro j h1 h2
    simp only [putCells, Array.getElem_mapIdx]
    rw [if_pos ⟨Nat.zero_le _, by omega⟩, Nat.sub_zero, getElem!_pos F j h2]
    rfl

theorem sw_row {w : World} {B0 g n m : Nat} {L M : List Bx} {os : Array Obj} (_hL : L.length = n) (hM : M.length = n) (h : RowMem w B0 (.slice (some ⟨g, 0, none⟩) n n) L) : RowMem (sortWorldK cells3 3 w g 0 m M.toArray os) B0 (.slice (some ⟨g, 0, none⟩) n n) M := by
  unfold RowMem at h ⊢
  have hgl := (own_lt h g rfl).2
  rcases h.2 with ⟨hv, _⟩ | ⟨g', cap, cur, hv, hB, hg, hnc, hcm, hcs, _⟩
  · cases hv
  · injection hv with h1 h2 h3
    have h4 : g = g' := by injection h1 with h1; injection h1
    subst h4
    subst h3
    have hF : (cellsL M).toArray.size = cur.size := by rw [List.size_toArray, cellsL_len, hcs, hM]
    refine ⟨cellsL_len M, .inr ⟨g, n, (cellsL M).toArray, by rw [hM], hB, ?_, by omega, hcm, by rw [hF]; exact hcs, ?_⟩⟩
    · rw [sw_heap, Array.getElem?_append_left (by rw [Array.size_modify]; exact hgl), Array.getElem?_modify, if_pos rfl, hg]
      simp [onCells, put_all cur _ hF]
    · show List.take (M.length * 3) (cellsL M) = cellsL M
      rw [List.take_of_length_le (by rw [cellsL_len]; exact Nat.le_refl _)]

/-- A memory of one's own whose row is laid anew by a permutation of its blocks. -/
theorem sw_own {w : World} {B0 g n m : Nat} {L M : List Bx} {os : Array Obj} (hL : L.length = n) (hM : M.Perm L) (h : OwnMem w B0 (.slice (some ⟨g, 0, none⟩) n n) L) : OwnMem (sortWorldK cells3 3 w g 0 m M.toArray os) B0 (.slice (some ⟨g, 0, none⟩) n n) M := by
  refine ⟨sw_row hL (hM.length_eq.trans hL) h.1, fun p hp => ?_⟩
  obtain ⟨g1, g2⟩ := h.2 p (hM.mem_iff.1 hp)
  exact ⟨g1, g2.keep (sw_size w g m M os) (fun b _ hb hne => sw_other hb (fun e => hne (by rw [e]; rfl)))⟩

theorem sw_below {w : World} {B0 g n m : Nat} {L M : List Bx} {os : Array Obj} (h : RowMem w B0 (.slice (some ⟨g, 0, none⟩) n n) L) (hB : B0 ≤ w.heap.size) : Below B0 w (sortWorldK cells3 3 w g 0 m M.toArray os) := by
  have hg := (own_lt h g rfl).1
  exact ⟨rfl, rfl, rfl, sw_size w g m M os, fun b hb => sw_other (by omega) (by omega)⟩

end Go.Proofs.Ytbmejohoifpfhaa
