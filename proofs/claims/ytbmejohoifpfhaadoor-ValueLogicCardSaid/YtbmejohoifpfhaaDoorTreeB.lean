/-
  Plain facts on worlds, boxes and cells (what the texts on expressions take from those on statements).
-/
import Derived.Test.YtbmejohoifpfhaaDoorRows
import Derived.WalkKit
import Derived.WalkSpells
import Derived.WalkLawsBesides
import Derived.Lib.Hide
import Derived.Deep.RegionWith
import Derived.Laws.Rows
import Derived.Laws.Tables
import Derived.Deep.WholeRow
import Derived.Deep.LoopGhost
import Derived.Deep.Draws
import Derived.Laws.CopyOwn
import Derived.Test.YtbmejohoifpfhaaDoorLexZ
namespace Go.Proofs.YtbmejohoifpfhaaDoor
open Go.RowKit

theorem eql_nil {P : Program} (w : World) (t e : TypeId) (h : P.underlying t = some (.slice e)) : (binOp .eql t (.slice none 0 0) (.slice none 0 0)).run P w = .ok (.bool true) w :=
  Lib.run_eql_slice_nil w t e none 0 0 0 0 h

theorem heap_keep {W : World} {o v : Obj} {k : Nat} (h : W.heap[k]? = some v) : (W.alloc o).heap[k]? = some v :=
  (Below.heap_alloc W o k (Array.getElem?_eq_some_iff.1 h).1).trans h

theorem heap_drew {W : World} {v : Obj} {k : Nat} (h : W.heap[k]? = some v) : W.drew.heap[k]? = some v := h

abbrev exprV (k n : Int) (s : ByteArray) (l : Value) : Value := .agg #[.int .i64 k, .int .i64 n, .string s, l]

theorem set_same {cs : Array Value} {i : Nat} {v : Value} (h : cs[i]? = some v) : cs.setIfInBounds i v = cs := by
  apply Array.ext_getElem?
  intro j
  rw [Array.getElem?_setIfInBounds]
  split
  · next e =>
    subst e
    have hlt := (Array.getElem?_eq_some_iff.1 h).1
    rw [if_pos hlt, h]
  · rfl

theorem heap_setCell_at {W : World} {b : Nat} {cs : Array Value} {t : TypeId} (h : W.heap[b]? = some (.cells cs t (0, 0))) (i : Nat) (u : Value) : (W.setCell ⟨b, i, none⟩ u).heap[b]? = some (.cells (cs.setIfInBounds i u) t (0, 0)) := by
  simp [World.setCell, Array.getElem?_modify, h]

theorem heap_setCell_off {W : World} {b g : Nat} {o : Obj} (h : W.heap[b]? = some o) (hg : b ≠ g) (i : Nat) (u : Value) : (W.setCell ⟨g, i, none⟩ u).heap[b]? = some o :=
  (Below.heap_setCell W ⟨g, i, none⟩ u b hg).trans h

theorem frozen_at {W : World} {b : Nat} {cs : Array Value} {t : TypeId} (h : W.heap[b]? = some (.cells cs t (0, 0))) (i : Nat) : W.frozen? ⟨b, i, none⟩ = false := by
  simp [World.frozen?, h]

theorem below_dn {B : Nat} {a w : World} (h : Below B a w) (n : Nat) : Below B a (w.drewN n) := h.trans ⟨rfl, rfl, rfl, Nat.le_refl _, fun _ _ => rfl⟩

theorem blw {w W : World} {o : Obj} (h : Below w.heap.size w W) : Below w.heap.size w (W.alloc o) := h.alloc h.size o

theorem heap_drewN {W : World} {v : Obj} {k q : Nat} (h : W.heap[k]? = some v) : (W.drewN q).heap[k]? = some v := h

theorem kept_box {W W' : World} (hb : Below W.heap.size W W') {b : Nat} {o : Obj} (h : W.heap[b]? = some o) : W'.heap[b]? = some o :=
  (hb.block b (Array.getElem?_eq_some_iff.1 h).1).trans h

theorem cell_of_block {W : World} {b : Nat} {cs : Array Value} {t : TypeId} (h : W.heap[b]? = some (.cells cs t (0, 0))) (j : Nat) {v : Value} (hv : cs[j]? = some v) : W.cell? ⟨b, j, none⟩ = some v := by
  simp [World.cell?, h, hv]

theorem add_add_plain (a : Addr) (i j : Nat) : (a.add i).add j = a.add (i + j) := by
  unfold Addr.add
  by_cases h1 : i = 0 <;> by_cases h2 : j = 0 <;> simp [h1, h2, Nat.add_assoc]

theorem add_block0 (b j : Nat) : (⟨b, 0, none⟩ : Addr).add j = ⟨b, j, none⟩ := by
  unfold Addr.add
  split
  · next h => subst h; rfl
  · simp

end Go.Proofs.YtbmejohoifpfhaaDoor
