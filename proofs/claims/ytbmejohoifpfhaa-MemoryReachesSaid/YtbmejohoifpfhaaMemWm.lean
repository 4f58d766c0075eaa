/-
  What Write answers; a field of a memory of one's own is written: mathematics.
-/
import Derived.Test.YtbmejohoifpfhaaMemN
import Derived.Test.YtbmejohoifpfhaaMemLm
namespace Go.Proofs.Ytbmejohoifpfhaa
open Go.RowKit Go.Lib

/-- What Write answers where the access at index i ended with er. -/
def WrIs (l : List Bk) (i : Nat) (fd val er : Int) (l' : List Bk) (e : Int) : Prop :=
  (er ≠ 0 ∧ l' = [] ∧ e = er) ∨ (er = 0 ∧ ¬ InR val ∧ l' = [] ∧ e = 10) ∨ (er = 0 ∧ InR val ∧ e = 0 ∧ ∃ x, l[i]? = some x ∧ l' = l.set i ⟨x.a, x.r, x.f.set fd.toNat val⟩)

theorem access_ok {l : List Bk} {t : Int} {rc : List UInt8} {fd : Int} {i : Nat} {v : Int} (h : Access l t rc fd i v 0) : ∃ x, MemOk l ∧ l[i]? = some x ∧ x.r = rc ∧ 0 ≤ fd ∧ x.f[fd.toNat]? = some v ∧ t ≠ 0 ∧ HasAt l t i := by
  rcases h with ⟨_, h, _⟩ | ⟨_, _, _, _, _, _, _, h⟩ | ⟨_, _, _, _, _, _, _, _, h⟩ | ⟨x, h1, hx, h2, h0, h3, _⟩
  · exact absurd rfl h
  · exact absurd h (by decide)
  · exact absurd h (by decide)
  · obtain ⟨g1, g2, g3⟩ := located_ok h1
    exact ⟨x, g1, hx, h2, h0, h3, g2, g3⟩

theorem wr_ex {l : List Bk} {t : Int} {rc : List UInt8} {fd : Int} {i : Nat} {v er : Int} (val : Int) (h : Access l t rc fd i v er) : ∃ l' e, WrIs l i fd val er l' e := by
  by_cases he : er = 0
  · subst he
    obtain ⟨x, _, hx, _⟩ := access_ok h
    by_cases hv : InR val
    · exact ⟨_, 0, .inr (.inr ⟨rfl, hv, rfl, x, hx, rfl⟩)⟩
    · exact ⟨_, 10, .inr (.inl ⟨rfl, hv, rfl, rfl⟩)⟩
  · exact ⟨[], er, .inl ⟨he, rfl, rfl⟩⟩

theorem set_size (w : World) (q : Addr) (u : Value) : (w.setCell q u).heap.size = w.heap.size := by simp [World.setCell]

theorem add_ne (a : Addr) {k i : Nat} (h : k ≠ i) : a.add k ≠ a.add i := by
  intro e
  unfold Addr.add at e
  split at e <;> split at e <;> (have := congrArg Addr.off e; simp at this; omega)

theorem RowMem.set_other {w : World} {B0 : Nat} {v : Value} {L : List Bx} (h : RowMem w B0 v L) {q : Addr} {u : Value} (hq : some q.block ≠ v.ownBlock) : RowMem (w.setCell q u) B0 v L := by
  unfold RowMem at h ⊢
  refine ⟨h.1, ?_⟩
  rcases h.2 with h2 | ⟨g, cap, cur, hv, hB, hg, hr⟩
  · exact .inl h2
  · refine .inr ⟨g, cap, cur, hv, hB, ?_, hr⟩
    rw [heap_set_other (by intro e; exact hq (by rw [hv, ← e]; rfl))]
    exact hg

theorem FieldsOwn.set_other {w : World} {B0 : Nat} {av : Option Nat} {F : Option Addr} {f : List Int} (h : FieldsOwn w B0 av F f) {q : Addr} {u : Value} (hq : ∀ a, F = some a → 0 < f.length → a.block ≠ q.block) : FieldsOwn (w.setCell q u) B0 av F f := by
  intro i v hi
  obtain ⟨a, h1, h2, h3, h4, h5, h6⟩ := h i v hi
  have hl := (List.getElem?_eq_some_iff.1 hi).1
  have hne := hq a h1 (by omega)
  exact ⟨a, h1, h2, by rw [set_size]; exact h3, h4, (World.cell?_of_block (by rw [blk_add]; exact heap_set_other hne)).trans h5, (World.frozen?_of_block (by rw [blk_add]; exact heap_set_other hne)).trans h6⟩

theorem FieldsOwn.store {w : World} {B0 : Nat} {av : Option Nat} {a : Addr} {f : List Int} (h : FieldsOwn w B0 av (some a) f) {k : Nat} (hk : k < f.length) (val : Int) : FieldsOwn (w.setCell (a.add k) (.int .i64 val)) B0 av (some a) (f.set k val) := by
  intro i v hi
  have hil : i < f.length := by have := (List.getElem?_eq_some_iff.1 hi).1; rwa [List.length_set] at this
  obtain ⟨a', h1, h2, h3, h4, h5, h6⟩ := h i _ (List.getElem?_eq_getElem hil)
  obtain rfl := Option.some.inj h1
  refine ⟨a, rfl, h2, by rw [set_size]; exact h3, h4, ?_, by rw [World.frozen?_setCell]; exact h6⟩
  by_cases e : k = i
  · subst e
    rw [List.getElem?_set_self hk] at hi
    obtain rfl := Option.some.inj hi
    exact World.cell?_setCell_same _ _ _ h5
  · rw [List.getElem?_set_ne e, List.getElem?_eq_getElem hil] at hi
    obtain rfl := Option.some.inj hi
    rw [World.cell?_setCell_other w _ _ _ (add_ne a e)]
    exact h5

theorem cellsL_same {L : List Bx} {i : Nat} {p q : Bx} (hp : L[i]? = some p) (h : cells3 q = cells3 p) : cellsL (L.set i q) = cellsL L := by
  have hi := (List.getElem?_eq_some_iff.1 hp).1
  have e : (L.set i q).map cells3 = L.map cells3 := by
    apply List.ext_getElem?
    intro j
    rw [List.getElem?_map, List.getElem?_map]
    by_cases e : i = j
    · subst e
      rw [List.getElem?_set_self hi, hp, Option.map_some, Option.map_some, h]
    · rw [List.getElem?_set_ne e]
  unfold cellsL
  rw [List.flatMap_def, List.flatMap_def, e]

/-- A block with a field written. -/
def Bx.put (p : Bx) (k : Nat) (val : Int) : Bx := ⟨⟨p.x.a, p.x.r, p.x.f.set k val⟩, p.F, p.c⟩

theorem put_cells (p : Bx) (k : Nat) (val : Int) : cells3 (p.put k val) = cells3 p := by
  unfold cells3 Bx.put
  simp

theorem put_len {p : Bx} (h : BkLen p.x) (k : Nat) (val : Int) : BkLen (p.put k val).x := ⟨h.1, by show (p.x.f.set k val).length ≤ maxLen; rw [List.length_set]; exact h.2⟩

/-- A field of a memory of one's own is written. -/
theorem OwnMem.write {w : World} {B0 : Nat} {v : Value} {L : List Bx} (h : OwnMem w B0 v L) (hap : Apart L) {i k : Nat} {p : Bx} {a : Addr} (hp : L[i]? = some p) (ha : p.F = some a) (hk : k < p.x.f.length) (val : Int) :
    OwnMem (w.setCell (a.add k) (.int .i64 val)) B0 v (L.set i (p.put k val)) := by
  obtain ⟨hl, hf⟩ := h.2 p (List.mem_of_getElem? hp)
  rw [ha] at hf
  obtain ⟨a', h1, _, _, h4, _, _⟩ := hf k _ (List.getElem?_eq_getElem hk)
  obtain rfl := Option.some.inj h1
  refine ⟨?_, fun r hr => ?_⟩
  · have := RowMem.set_other h.1 (q := a.add k) (u := .int .i64 val) (by rw [blk_add]; exact h4)
    unfold RowMem at this ⊢
    rw [cellsL_same hp (put_cells p k val), List.length_set]
    exact this
  · obtain ⟨j, hj⟩ := List.getElem?_of_mem hr
    by_cases e : i = j
    · subst e
      rw [List.getElem?_set_self (List.getElem?_eq_some_iff.1 hp).1] at hj
      obtain rfl := Option.some.inj hj
      refine ⟨put_len hl k val, ?_⟩
      show FieldsOwn _ _ _ p.F (p.x.f.set k val)
      rw [ha]
      exact hf.store hk val
    · rw [List.getElem?_set_ne e] at hj
      obtain ⟨g1, g2⟩ := h.2 r (List.mem_of_getElem? hj)
      refine ⟨g1, g2.set_other fun b hb h0 => ?_⟩
      rw [blk_add]
      exact hap.ne (fun e' => e e'.symm) hj hp h0 (by omega) hb ha

/-- Behind Write. -/
def WritePost (l' : List Bk) (er : Int) (w : World) (e : Ending) (w' : World) : Prop :=
  ∃ A L c, e = .returned (.tuple #[.slice A L.length c, .int .i64 er]) ∧ blocksOf L = l' ∧ OwnMem w' w.heap.size (.slice A L.length c) L ∧ Below w.heap.size w w'

theorem blocks_at {L : List Bx} {l : List Bk} (h : blocksOf L = l) {i : Nat} {x : Bk} (hx : l[i]? = some x) : ∃ p, L[i]? = some p ∧ p.x = x := by
  subst h
  unfold blocksOf at hx
  rw [List.getElem?_map] at hx
  cases e : L[i]? with
  | none => rw [e] at hx; cases hx
  | some p => rw [e] at hx; exact ⟨p, rfl, Option.some.inj hx⟩

theorem blocks_put {L : List Bx} {l : List Bk} (h : blocksOf L = l) (i : Nat) (p : Bx) : blocksOf (L.set i p) = l.set i p.x := by
  subst h
  unfold blocksOf
  rw [List.map_set]

/-- What the store into a field of the copy needs. -/
theorem copy_cells {w : World} {B0 g n : Nat} {L : List Bx} {l : List Bk} (hL : blocksOf L = l) (hn : L.length = n) (h : OwnMem w B0 (.slice (some ⟨g, 0, none⟩) n n) L) {i k : Nat} {x : Bk} {v : Int} (hx : l[i]? = some x) (hk : x.f[k]? = some v) :
    ∃ p f, L[i]? = some p ∧ p.x = x ∧ p.F = some f ∧ w.cell? ⟨g, i * 3 + 2, none⟩ = some (.slice (some f) x.f.length p.c) ∧ w.cell? (f.add k) = some (.int .i64 v) ∧ w.frozen? (f.add k) = false ∧ g < w.heap.size ∧ f.block < w.heap.size ∧ B0 ≤ f.block := by
  subst hn
  obtain ⟨p, hp, rfl⟩ := blocks_at hL hx
  have hlt := (List.getElem?_eq_some_iff.1 hp).1
  obtain ⟨hl, hf⟩ := h.2 p (List.mem_of_getElem? hp)
  obtain ⟨f, h1, h2, h3, h4, h5, h6⟩ := hf k v hk
  have hr := h.1
  unfold RowMem at hr
  refine ⟨p, f, hp, rfl, h1, ?_, h5, h6, (own_lt hr g rfl).2, h3, h2⟩
  rw [hr.cellAt _ (by omega), cellsL_get hp 2 (by omega)]
  show some (Value.slice p.F p.x.f.length p.c) = _
  rw [h1]

end Go.Proofs.Ytbmejohoifpfhaa
