/-
  Blocks in memory: rows of integers, a block's cells, a row of blocks.
-/
import Derived.Test.YtbmejohoifpfhaaMemM
import Derived.Below
import Derived.Deep.QuietTactic
import Derived.BigQuiet
namespace Go.Proofs.Ytbmejohoifpfhaa
open Go.RowKit

/-- The row at F holds these integers. -/
def FieldsAt (w : World) (B : Nat) (F : Option Addr) (f : List Int) : Prop := ∀ (i : Nat) v, f[i]? = some v → ∃ a, F = some a ∧ a.block < B ∧ w.cell? (a.add i) = some (.int .i64 v)

theorem blk_add (a : Addr) (n : Nat) : (a.add n).block = a.block := by unfold Addr.add; split <;> rfl

theorem FieldsAt.keep {w w' : World} {B B' : Nat} {F : Option Addr} {f : List Int} (h : FieldsAt w B F f) (hk : ∀ q : Addr, q.block < B → w'.cell? q = w.cell? q) (hB : B ≤ B') : FieldsAt w' B' F f := by
  intro i v hi
  obtain ⟨a, h1, h2, h3⟩ := h i v hi
  exact ⟨a, h1, by omega, (hk _ (by rw [blk_add]; exact h2)).trans h3⟩

theorem FieldsAt.later {w w' : World} {F : Option Addr} {f : List Int} (h : FieldsAt w w.heap.size F f) (hb : Below w.heap.size w w') : FieldsAt w' w'.heap.size F f := h.keep (fun _ hq => hb.cell hq) hb.size

/-- A block by value. -/
def bkV (x : Bk) (F : Option Addr) (c : Nat) : Array Value := #[.int .i64 x.a, .string ⟨x.r.toArray⟩, .slice F x.f.length c]

/-- A block's text and fields have a length. -/
def BkLen (x : Bk) : Prop := x.r.length ≤ maxLen ∧ x.f.length ≤ maxLen

/-- What is told of the block at index i of the row at A. -/
structure BkAt (w : World) (B : Nat) (a : Addr) (i : Nat) (x : Bk) (F : Option Addr) (c : Nat) : Prop where
  lt : a.block < B
  c0 : w.cell? (a.add (i * 3)) = some (.int .i64 x.a)
  c1 : w.cell? ((a.add (i * 3)).add 1) = some (.string ⟨x.r.toArray⟩)
  c2 : w.cell? ((a.add (i * 3)).add 2) = some (.slice F x.f.length c)
  len : BkLen x
  flds : FieldsAt w B F x.f

/-- The row at A holds these blocks. -/
def MemAt (w : World) (B : Nat) (A : Option Addr) (l : List Bk) : Prop := ∀ (i : Nat) x, l[i]? = some x → ∃ a F c, A = some a ∧ BkAt w B a i x F c

theorem BkAt.keep {w w' : World} {B B' : Nat} {a : Addr} {i : Nat} {x : Bk} {F : Option Addr} {c : Nat} (h : BkAt w B a i x F c) (hk : ∀ q : Addr, q.block < B → w'.cell? q = w.cell? q) (hB : B ≤ B') : BkAt w' B' a i x F c :=
  ⟨Nat.lt_of_lt_of_le h.lt hB, (hk _ (by rw [blk_add]; exact h.lt)).trans h.c0, (hk _ (by rw [blk_add, blk_add]; exact h.lt)).trans h.c1, (hk _ (by rw [blk_add, blk_add]; exact h.lt)).trans h.c2, h.len, h.flds.keep hk hB⟩

theorem MemAt.keep {w w' : World} {B B' : Nat} {A : Option Addr} {l : List Bk} (h : MemAt w B A l) (hk : ∀ q : Addr, q.block < B → w'.cell? q = w.cell? q) (hB : B ≤ B') : MemAt w' B' A l := by
  intro i x hi
  obtain ⟨a, F, c, h1, h2⟩ := h i x hi
  exact ⟨a, F, c, h1, h2.keep hk hB⟩

theorem MemAt.later {w w' : World} {A : Option Addr} {l : List Bk} (h : MemAt w w.heap.size A l) (hb : Below w.heap.size w w') : MemAt w' w'.heap.size A l := h.keep (fun _ hq => hb.cell hq) hb.size

theorem MemAt.nil (w : World) (B : Nat) (A : Option Addr) : MemAt w B A [] := fun i x h => by simp at h

theorem bcell {W w1 : World} (hb : Below W.heap.size W w1) : (∀ b o, b < W.heap.size → w1.cell? ⟨b, o, none⟩ = W.cell? ⟨b, o, none⟩) ∧ (∀ b o, b < W.heap.size → w1.frozen? ⟨b, o, none⟩ = W.frozen? ⟨b, o, none⟩) :=
  ⟨fun b o h => hb.cell (p := ⟨b, o, none⟩) h, fun b o h => hb.frozen (p := ⟨b, o, none⟩) h⟩

/-- Room for lists: what is read has fewer elements than this. -/
def Fits (l : List Bk) : Prop := l.length ≤ maxLen

theorem mem_ex {l : List Bk} {i : Nat} (h : i < l.length) : ∃ x, l[i]? = some x := ⟨l[i], List.getElem?_eq_getElem h⟩

/-- A Bool that says what a proposition says. -/
def Tells (b : Bool) (P : Prop) : Prop := b = true ↔ P

theorem says (P : Prop) : ∃ b : Bool, Tells b P := by
  by_cases h : P
  · exact ⟨true, by simp [Tells, h]⟩
  · exact ⟨false, by simp [Tells, h]⟩

theorem Tells.t {P : Prop} (h : Tells true P) : P := h.1 rfl
theorem Tells.f {P : Prop} (h : Tells false P) : ¬ P := fun hp => absurd (h.2 hp) (by simp)
theorem Tells.yes {r : Bool} {P : Prop} (h : Tells r P) (hp : P) : r = true := h.2 hp
theorem Tells.no {r : Bool} {P : Prop} (h : Tells r P) (hp : ¬ P) : r = false := by
  cases r with
  | false => rfl
  | true => exact absurd h.t hp

theorem ret_no {r : Bool} {P : Prop} (h : Tells r P) (hn : ¬ P) : Ending.returned (.bool false) = .returned (.bool r) := by rw [h.no hn]
theorem ret_yes {r : Bool} {P : Prop} (h : Tells r P) (hn : P) : Ending.returned (.bool true) = .returned (.bool r) := by rw [h.yes hn]

theorem _root_.Go.RowKit.Below.dn {B : Nat} {a w : World} (h : Below B a w) (n : Nat) : Below B a (w.drewN n) := h.trans ⟨rfl, rfl, rfl, Nat.le_refl _, fun _ _ => rfl⟩

theorem _root_.Go.RowKit.Below.drew1 {B : Nat} {a w : World} (h : Below B a w) : Below B a w.drew := h.trans ⟨rfl, rfl, rfl, Nat.le_refl _, fun _ _ => rfl⟩

/-- The cell of a box made just now, behind a draw and a call. -/
theorem box_cell {w w' : World} {cs : Array Value} {t : TypeId} (hb : Below (w.alloc (.cells cs t)).drew.heap.size (w.alloc (.cells cs t)).drew w') (j : Nat) (v : Value) (hv : cs[j]? = some v) : w'.cell? ⟨w.heap.size, j, none⟩ = some v := by
  have h0 : (w.alloc (.cells cs t)).drew.heap[w.heap.size]? = some (.cells cs t (0, 0)) := heap_of_alloc w _
  refine (hb.cell (p := ⟨w.heap.size, j, none⟩) (Array.getElem?_eq_some_iff.1 h0).1).trans ?_
  unfold World.cell?
  rw [show ((w.alloc (.cells cs t)).drew.heap[(⟨w.heap.size, j, none⟩ : Addr).block]?) = some (.cells cs t (0, 0)) from h0]
  exact hv

theorem _root_.Go.RowKit.Below.next {w W W' : World} (h : Below w.heap.size w W) (h2 : Below W.heap.size W W') : Below w.heap.size w W' := h.trans (h2.mono h.size)

theorem _root_.Go.RowKit.Below.al {w W : World} (h : Below w.heap.size w W) (o : Obj) : Below w.heap.size w (W.alloc o) := h.alloc h.size o

end Go.Proofs.Ytbmejohoifpfhaa
