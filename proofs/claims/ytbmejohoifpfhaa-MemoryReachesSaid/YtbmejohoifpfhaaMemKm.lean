/-
  Copies appended block by block.
-/
import Derived.Test.YtbmejohoifpfhaaMemC
namespace Go.Proofs.Ytbmejohoifpfhaa
open Go.RowKit Go.Lib

/-- The copies so far. -/
structure Cloned (w : World) (l : List Bk) (k : Nat) (v : Value) (L : List Bx) (wr : World) : Prop where
  len : L.length = k
  eq : blocksOf L = l.take k
  own : OwnMem wr w.heap.size v L
  bel : Below w.heap.size w wr

/-- Behind sepallaw06.clone. -/
def LawClonePost (l : List Bk) (w : World) (e : Ending) (w' : World) : Prop := ∃ A L c, e = .returned (.slice A L.length c) ∧ blocksOf L = l ∧ OwnMem w' w.heap.size (.slice A L.length c) L ∧ Below w.heap.size w w'

theorem news_cells {w : World} (xa : Int) (xr : List UInt8) (F : Option Addr) (xn c : Nat) (t : TypeId) : ∀ j u, [Value.int .i64 xa, .string ⟨xr.toArray⟩, .slice F xn c][j]? = some u → (w.alloc (.cells #[.int .i64 xa, .string ⟨xr.toArray⟩, .slice F xn c] t)).cell? ((⟨w.heap.size, 0, none⟩ : Addr).add j) = some u := by
  intro j u hj
  rw [Addr.add_lit, Nat.zero_add]
  refine (cell_free (heap_of_alloc w _) j u ?_).1
  rw [← hj]; simp

theorem news_one (xa : Int) (xr : List UInt8) (F : Option Addr) (xn c : Nat) : ∀ u ∈ [Value.int .i64 xa, .string ⟨xr.toArray⟩, .slice F xn c], u.oneCell' = true := by
  intro u hu
  simp only [List.mem_cons, List.not_mem_nil, or_false] at hu
  rcases hu with rfl | rfl | rfl <;> rfl

theorem Cloned.next {w : World} {l : List Bk} {k : Nat} {v v' : Value} {L : List Bx} {wr W w2 : World} (h : Cloned w l k v L wr) (hb : Below wr.heap.size wr W) {x : Bk} (hx : l[k]? = some x) (hxl : BkLen x) {F : Option Addr} {c : Nat} (hF : FieldsOwn W wr.heap.size none F x.f)
    (hrow : w2.ownsRow w.heap.size 42 3 v' (k + 1) (cellsL L ++ cells3 ⟨x, F, c⟩)) (hgrow : W.grownBy w2 v.ownBlock) (hat : v'.ownBlock = v.ownBlock ∨ v'.ownBlock = some W.heap.size) :
    Cloned w l (k + 1) v' (L ++ [⟨x, F, c⟩]) w2 := by
  have hown := h.own.later hb
  have hk : ∀ (F' : Option Addr) (f' : List Int), FieldsOwn W w.heap.size v.ownBlock F' f' → FieldsOwn w2 w.heap.size v'.ownBlock F' f' := fun F' f' hf => by
    intro i u hi
    obtain ⟨a, h1, h2, h3, h4, h5, h6⟩ := hf i u hi
    have hbl := hgrow.block a.block h3 h4
    have hsz := hgrow.size
    refine ⟨a, h1, h2, by omega, ?_, (World.cell?_of_block (by rw [blk_add]; exact hbl)).trans h5, (World.frozen?_of_block (by rw [blk_add]; exact hbl)).trans h6⟩
    rcases hat with hv | hv
    · rw [hv]; exact h4
    · rw [hv]; intro e; have := Option.some.inj e; omega
  have hsz0 : w.heap.size ≤ wr.heap.size := h.bel.size
  refine ⟨by rw [List.length_append, h.len]; rfl, ?_, ⟨?_, fun p hp => ?_⟩, (h.bel.next hb).trans (below_grown hown.1 hgrow (Nat.le_trans hsz0 hb.size))⟩
  · have := h.eq
    unfold blocksOf at this ⊢
    rw [List.map_append, this, List.map_cons, List.map_nil, List.take_add_one, hx]
    rfl
  · unfold RowMem
    rw [cellsL_append, List.length_append, h.len]
    simpa [cellsL] using hrow
  · rcases List.mem_append.1 hp with hp | hp
    · have := hown.2 p hp
      exact ⟨this.1, hk _ _ this.2⟩
    · obtain rfl := List.mem_singleton.1 hp
      exact ⟨hxl, hk _ _ ((hF.avoid (fun b hb1 _ _ e => by have := (own_lt h.own.1 b e.symm).2; omega)).base hsz0)⟩

end Go.Proofs.Ytbmejohoifpfhaa
