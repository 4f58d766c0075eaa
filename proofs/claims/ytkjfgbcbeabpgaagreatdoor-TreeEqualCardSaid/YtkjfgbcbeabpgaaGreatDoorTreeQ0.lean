/-
  Equality of trees: plain words. Lists whose elements correspond; rows of memory whose elements are told by their cells; contracts of functions that compare.
-/
import Derived.Test.YtkjfgbcbeabpgaaGreatDoorTreeX
import Derived.Test.YtkjfgbcbeabpgaaGreatDoorTreeRp
import Derived.Deep.RegionHeld3
import Derived.Laws.Tables
import Derived.Deep.CutRange
namespace Go.Proofs.YtkjfgbcbeabpgaaGreatDoor
open Go.RowKit

section
variable {P : Program} {ops : Array Oper} {Q : Exit → Act → World → Prop} {md : Region.Mode} {S : World → Prop}

/-- anyH_take, its side conditions by the kernel. -/
theorem tk (i d : Nat) (v : Value) {oi : Oper} {k : Nat} {l : Array Bool} {a : Act} {w : World} (hS : S w) (hv : ∀ w, S w → (execOp a.eval oi).run P w = .ok (.value v) w)
    (h : wpAnyH P md ops Q S k (l.setIfInBounds i true) (a.put (some d) v) w) (hi : ops[i]? = some oi := by rfl) (hd : oi.dst = some d := by rfl)
    (hs : Region.noSelect ops = true := by kernel_rfl) (hf : Region.free md ops l i = true := by kernel_rfl) (hr : (Region.ready md ops l).contains i = true := by kernel_rfl)
    (hQ : ∀ c a w, Q (.panic c) (a.put (some d) v) w → Q (.panic c) a w := by exact fun _ _ _ h => h) (hw : Region.wanted oi (yielded ops a.tmps) = true := by kernel_rfl) : wpAnyH P md ops Q S (k + 1) l a w :=
  anyH_take i (some d) hS hi hd hs hf hr hQ hw hv h

/-- anyH_skip, its side conditions by the kernel. -/
theorem sk (i d : Nat) {oi : Oper} {k : Nat} {l : Array Bool} {a : Act} {w : World} (hS : S w)
    (h : wpAnyH P md ops Q S k (l.setIfInBounds i true) (a.put (some d) undef) w) (hi : ops[i]? = some oi := by rfl) (hd : oi.dst = some d := by rfl)
    (hs : Region.noSelect ops = true := by kernel_rfl) (hf : Region.free md ops l i = true := by kernel_rfl) (hr : (Region.ready md ops l).contains i = true := by kernel_rfl)
    (hQ : ∀ c a w, Q (.panic c) (a.put (some d) undef) w → Q (.panic c) a w := by exact fun _ _ _ h => h) (hw : Region.wanted oi (yielded ops a.tmps) = false := by kernel_rfl) : wpAnyH P md ops Q S (k + 1) l a w :=
  anyH_skip i (some d) hS hi hd hs hf hr hQ hw h

theorem o1 (i : Nat) {o : Oper} {k : Nat} {l : Array Bool} {a : Act} {w : World}
    (h : ∀ K : Act → World → Prop, (∀ a w, S w → wpAnyH P md ops Q S k (l.setIfInBounds i true) a w → K a w) → Oper.wp P o a w K Q)
    (hr : Region.ready md ops l = [i] := by kernel_rfl) (ho : ops[i]? = some o := by rfl) (hw : Region.wanted o (yielded ops a.tmps) = true := by kernel_rfl) : wpAnyH P md ops Q S (k + 1) l a w :=
  anyH_one i hr ho hw h

end

theorem boolOf (P : Prop) : ∃ b : Bool, b = true ↔ P := by
  by_cases h : P
  · exact ⟨true, by simp [h]⟩
  · exact ⟨false, by simp [h]⟩

/-- Both lists are as long, and their elements correspond. -/
def All2 {α : Type} (R : α → α → Prop) (l m : List α) : Prop := l.length = m.length ∧ ∀ (i : Nat) x y, l[i]? = some x → m[i]? = some y → R x y

theorem all2_eq {α : Type} (l m : List α) : All2 (fun x y => x = y) l m ↔ l = m := by
  constructor
  · rintro ⟨h1, h2⟩
    refine List.ext_getElem h1 (fun i h3 h4 => h2 i _ _ (List.getElem?_eq_getElem h3) (List.getElem?_eq_getElem h4))
  · rintro rfl
    exact ⟨rfl, fun i x y hx hy => Option.some.inj (hx.symm.trans hy)⟩

theorem all2_nil {α : Type} (R : α → α → Prop) : All2 R [] [] := ⟨rfl, fun i x y hx => by simp at hx⟩

theorem all2_cons {α : Type} (R : α → α → Prop) (x y : α) (l m : List α) : All2 R (x :: l) (y :: m) ↔ R x y ∧ All2 R l m := by
  constructor
  · rintro ⟨h1, h2⟩
    exact ⟨h2 0 x y rfl rfl, by simpa using h1, fun i x' y' hx hy => h2 (i + 1) x' y' hx hy⟩
  · rintro ⟨h0, h1, h2⟩
    refine ⟨by simpa using h1, fun i x' y' hx hy => ?_⟩
    match i, hx, hy with
    | 0, hx, hy =>
      obtain rfl := Option.some.inj hx
      obtain rfl := Option.some.inj hy
      exact h0
    | i + 1, hx, hy => exact h2 i x' y' hx hy

/-- What an element's cells say stays true where the memory below B stays. -/
def KeepsV {α : Type} (V : World → Nat → Array Value → α → Prop) : Prop :=
  ∀ (w w' : World) (B B' : Nat) (cs : Array Value) (x : α), (∀ q : Addr, q.block < B → w'.cell? q = w.cell? q) → B ≤ B' → V w B cs x → V w' B' cs x

/-- The row at A holds these elements, each of n cells, as V tells. -/
def RowV {α : Type} (V : World → Nat → Array Value → α → Prop) (n : Nat) (w : World) (B : Nat) (l : List α) (A : Option Addr) : Prop :=
  ∀ (i : Nat) x, l[i]? = some x → ∃ (a : Addr) (cs : Array Value), A = some a ∧ a.block < B ∧ cs.size = n ∧ (∀ (j : Nat) v, cs[j]? = some v → w.cell? ((a.add (i * n)).add j) = some v) ∧ V w B cs x

/-- F compares two elements, both by value, as R says. -/
def EqAt {α : Type} (F : Nat) (V : World → Nat → Array Value → α → Prop) (R : α → α → Prop) (x y : α) : Prop :=
  ∀ (cs ds : Array Value) (w : World) (r : Bool), V w w.heap.size cs x → V w w.heap.size ds y → (r = true ↔ R x y) → Calls Tryz.prog F #[.agg cs, .agg ds] w fun e w' => e = .returned (.bool r) ∧ Below w.heap.size w w'

/-- F compares two rows. -/
def EqRow {α : Type} (F : Nat) (ex : Array Value) (P : World → Nat → List α → Option Addr → Prop) (R : List α → List α → Prop) (l m : List α) : Prop :=
  ∀ (A B : Option Addr) (ca cb : Nat) (w : World) (r : Bool), l.length ≤ maxLen → m.length ≤ maxLen → P w w.heap.size l A → P w w.heap.size m B → (r = true ↔ R l m) →
    Calls Tryz.prog F (#[.slice A l.length ca, .slice B m.length cb] ++ ex) w fun e w' => e = .returned (.bool r) ∧ Below w.heap.size w w'

theorem kept {α : Type} {V : World → Nat → Array Value → α → Prop} (hV : KeepsV V) {w w' : World} (hb : Below w.heap.size w w') {cs : Array Value} {x : α} (h : V w w.heap.size cs x) : V w' w'.heap.size cs x :=
  hV _ _ _ _ _ _ (fun _ hq => hb.cell hq) hb.size h

end Go.Proofs.YtkjfgbcbeabpgaaGreatDoor

namespace Go.Proofs.YtkjfgbcbeabpgaaGreatDoor
open Go.RowKit

section
variable {P : Program} {ops : Array Oper} {Q : Exit → Act → World → Prop} {md : Region.Mode} {S : World → Prop}

theorem anyH_two (i j : Nat) {oi oj : Oper} {k : Nat} {l : Array Bool} {a : Act} {w : World} (hr : Region.ready md ops l = [i, j]) (hoi : ops[i]? = some oi) (hoj : ops[j]? = some oj)
    (hwi : Region.wanted oi (yielded ops a.tmps) = true) (hwj : Region.wanted oj (yielded ops a.tmps) = true)
    (hi : ∀ K : Act → World → Prop, (∀ a w, S w → wpAnyH P md ops Q S k (l.setIfInBounds i true) a w → K a w) → Oper.wp P oi a w K Q)
    (hj : ∀ K : Act → World → Prop, (∀ a w, S w → wpAnyH P md ops Q S k (l.setIfInBounds j true) a w → K a w) → Oper.wp P oj a w K Q) : wpAnyH P md ops Q S (k + 1) l a w := by
  refine ⟨fun h0 => (by rw [hr] at h0; cases h0), fun n hn => ?_⟩
  rw [hr] at hn
  simp only [List.mem_cons, List.not_mem_nil, or_false] at hn
  rcases hn with rfl | rfl
  · unfold wpOp
    rw [hoi]
    show if Region.wanted oi (yielded ops a.tmps) = true then _ else _
    rw [if_pos hwi]
    exact .inl (hi _ (fun _ _ h1 h2 => ⟨h1, h2⟩))
  · unfold wpOp
    rw [hoj]
    show if Region.wanted oj (yielded ops a.tmps) = true then _ else _
    rw [if_pos hwj]
    exact .inl (hj _ (fun _ _ h1 h2 => ⟨h1, h2⟩))

end

/-- Two boxes hold two structs. -/
def TwoBox (wr : World) (T : TypeId) (cs ds : Array Value) (v6 v7 : Value) (wx : World) : Prop :=
  ∃ (b c : Nat) (W : World), W = wx ∧ v6 = .pointer (some ⟨b, 0, none⟩) ∧ v7 = .pointer (some ⟨c, 0, none⟩) ∧ W.heap[b]? = some (.cells cs T (0, 0)) ∧ W.heap[c]? = some (.cells ds T (0, 0)) ∧ Below wr.heap.size wr W

theorem Below.setRow {B : Nat} {a w : World} (h : Below B a w) {g : Nat} (hg : B ≤ g) (cs : Array Value) : Below B a (w.setRow g cs) :=
  ⟨h.os, h.tape, h.output, by rw [size_setRow]; exact h.size, fun i hi => (setRow_other w g i cs (by omega)).trans (h.block i hi)⟩

theorem store_row {W : World} {b : Nat} {T : TypeId} {zc cs : Array Value} (hb : W.heap[b]? = some (.cells zc T (0, 0))) (hsz : zc.size = cs.size) (h1 : cs.all (·.oneCell') = true) :
    (storeCells ⟨b, 0, none⟩ cs.toList).run Tryz.prog W = .ok () (W.setRow b cs) := by
  have := run_storeCells_from (P := Tryz.prog) b T cs.toList 0 zc W hb (by simp [hsz]) (fun v hv => (Array.all_eq_true_iff_forall_mem.1 h1) v (by simpa using hv))
  simpa using this

theorem two_first {W : World} {T : TypeId} {zc cs ds : Array Value} {b c : Nat} (hb : W.heap[b]? = some (.cells zc T (0, 0))) (hc : W.heap[c]? = some (.cells zc T (0, 0))) (hbc : b ≠ c) :
    ((W.setRow b cs).setRow c ds).heap[b]? = some (.cells cs T (0, 0)) ∧ ((W.setRow b cs).setRow c ds).heap[c]? = some (.cells ds T (0, 0)) ∧ (W.setRow b cs).heap[c]? = some (.cells zc T (0, 0)) := by
  have h1 := setRow_heap W b zc cs T (0, 0) hb
  have h2 : (W.setRow b cs).heap[c]? = some (.cells zc T (0, 0)) := (setRow_other W b c cs (Ne.symm hbc)).trans hc
  exact ⟨(setRow_other _ c b ds hbc).trans h1, setRow_heap _ c zc ds T (0, 0) h2, h2⟩

end Go.Proofs.YtkjfgbcbeabpgaaGreatDoor
