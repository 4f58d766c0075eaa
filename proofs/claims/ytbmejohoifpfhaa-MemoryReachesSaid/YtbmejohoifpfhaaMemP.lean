/-
  Rows of blocks that a call owns: the blocks with the places of their fields, their cells, a row as a list.
-/
import Derived.Test.YtbmejohoifpfhaaMemO
import Derived.Deep.Slices
namespace Go.Proofs.Ytbmejohoifpfhaa
open Go.RowKit Go.Deep

/-- A block with the place and the capacity of its fields. -/
structure Bx where
  x : Bk
  F : Option Addr
  c : Nat

def Bx.zero : Bx := ⟨⟨0, [], []⟩, none, 0⟩

def cells3 (p : Bx) : List Value := [.int .i64 p.x.a, .string ⟨p.x.r.toArray⟩, .slice p.F p.x.f.length p.c]

def cellsL (L : List Bx) : List Value := L.flatMap cells3

theorem cellsL_nil : cellsL [] = [] := rfl
theorem cellsL_cons (p : Bx) (L : List Bx) : cellsL (p :: L) = cells3 p ++ cellsL L := rfl
theorem cellsL_append (L M : List Bx) : cellsL (L ++ M) = cellsL L ++ cellsL M := List.flatMap_append ..

theorem cellsL_len : ∀ (L : List Bx), (cellsL L).length = L.length * 3
  | [] => rfl
  | p :: L => by
    rw [cellsL_cons, List.length_append, cellsL_len L, List.length_cons, show (cells3 p).length = 3 from rfl]
    omega

theorem cellsL_take : ∀ (k : Nat) (L : List Bx), (cellsL L).take (k * 3) = cellsL (L.take k)
  | 0, L => by simp [cellsL]
  | k + 1, [] => by simp [cellsL]
  | k + 1, p :: L => by
    rw [cellsL_cons, List.take_succ_cons, cellsL_cons, List.take_append, ← cellsL_take k L, show (cells3 p).length = 3 from rfl, show (k + 1) * 3 - 3 = k * 3 by omega]
    rw [List.take_of_length_le (by rw [show (cells3 p).length = 3 from rfl]; omega)]

theorem cellsL_drop : ∀ (k : Nat) (L : List Bx), (cellsL L).drop (k * 3) = cellsL (L.drop k)
  | 0, L => by simp
  | k + 1, [] => by simp [cellsL]
  | k + 1, p :: L => by
    rw [cellsL_cons, List.drop_succ_cons, List.drop_append, ← cellsL_drop k L, show (cells3 p).length = 3 from rfl, show (k + 1) * 3 - 3 = k * 3 by omega]
    rw [List.drop_of_length_le (by rw [show (cells3 p).length = 3 from rfl]; omega), List.nil_append]

theorem cellsL_get {L : List Bx} {k : Nat} {p : Bx} (h : L[k]? = some p) (j : Nat) (hj : j < 3) : (cellsL L)[k * 3 + j]? = (cells3 p)[j]? := by
  have h1 : (cellsL L)[k * 3 + j]? = ((cellsL L).drop (k * 3))[j]? := by rw [List.getElem?_drop]
  rw [h1, cellsL_drop]
  have hk := (List.getElem?_eq_some_iff.1 h).1
  have h2 : L.drop k = p :: L.drop (k + 1) := by
    rw [List.drop_eq_getElem_cons hk]
    congr 1
    exact (List.getElem?_eq_some_iff.1 h).2
  rw [h2, cellsL_cons, List.getElem?_append_left (by rw [show (cells3 p).length = 3 from rfl]; exact hj)]

theorem cells3_one (p : Bx) : ∀ u ∈ cells3 p, u.oneCell' = true := by
  intro u hu
  simp only [cells3, List.mem_cons, List.not_mem_nil, or_false] at hu
  rcases hu with rfl | rfl | rfl <;> rfl

theorem cellsL_one (L : List Bx) : ∀ u ∈ cellsL L, u.oneCell' = true := by
  intro u hu
  obtain ⟨p, _, hp⟩ := List.mem_flatMap.1 hu
  exact cells3_one p u hp

theorem cellsL_set (L : List Bx) (k : Nat) (hk : k < L.length) (p : Bx) :
    (((cellsL L).set (k * 3) (.int .i64 p.x.a)).set (k * 3 + 1) (.string ⟨p.x.r.toArray⟩)).set (k * 3 + 2) (.slice p.F p.x.f.length p.c) = cellsL (L.set k p) := by
  have h2 : L = L.take k ++ L[k] :: L.drop (k + 1) := by
    rw [← List.drop_eq_getElem_cons hk, List.take_append_drop]
  have hl : (L.take k).length = k := by rw [List.length_take]; omega
  have hs : L.set k p = L.take k ++ p :: L.drop (k + 1) := by
    rw [List.set_eq_take_append_cons_drop, if_pos hk]
  have hc : (cellsL (L.take k)).length = k * 3 := by rw [cellsL_len, hl]
  have e : cellsL L = cellsL (L.take k) ++ (.int .i64 L[k].x.a :: .string ⟨L[k].x.r.toArray⟩ :: .slice L[k].F L[k].x.f.length L[k].c :: cellsL (L.drop (k + 1))) := by
    conv => lhs; rw [h2]
    rw [cellsL_append, cellsL_cons]; rfl
  rw [hs, cellsL_append, cellsL_cons, e]
  rw [← hc]
  simp [cells3]

/-- Row v of the call's own holds these blocks. -/
def RowMem (w : World) (B0 : Nat) (v : Value) (L : List Bx) : Prop := w.ownsRow B0 42 3 v L.length (cellsL L)

/-- Fields of the call's own, in another block than the row's. -/
def FieldsOwn (w : World) (B0 : Nat) (av : Option Nat) (F : Option Addr) (f : List Int) : Prop :=
  ∀ (i : Nat) v, f[i]? = some v → ∃ a, F = some a ∧ B0 ≤ a.block ∧ a.block < w.heap.size ∧ some a.block ≠ av ∧ w.cell? (a.add i) = some (.int .i64 v) ∧ w.frozen? (a.add i) = false

theorem FieldsOwn.at_ {w : World} {B0 : Nat} {av : Option Nat} {F : Option Addr} {f : List Int} (h : FieldsOwn w B0 av F f) : FieldsAt w w.heap.size F f := by
  intro i v hi
  obtain ⟨a, h1, _, h3, _, h5, _⟩ := h i v hi
  exact ⟨a, h1, h3, h5⟩

/-- The blocks of a row of the call's own own their fields too. -/
def OwnMem (w : World) (B0 : Nat) (v : Value) (L : List Bx) : Prop := RowMem w B0 v L ∧ ∀ p ∈ L, BkLen p.x ∧ FieldsOwn w B0 v.ownBlock p.F p.x.f

def blocksOf (L : List Bx) : List Bk := L.map (·.x)

theorem RowMem.reads {w : World} {B0 : Nat} {A : Option Addr} {c : Nat} {L : List Bx} (h : RowMem w B0 (.slice A L.length c) L) : Reads w w.heap.size 3 A L.length (cellsL L) := Reads.of_own h

/-- The cells of a slice read as these blocks. -/
theorem Reads.mem {w : World} {B : Nat} {A : Option Addr} {L : List Bx} (h : Reads w B 3 A L.length (cellsL L)) (hf : ∀ p ∈ L, BkLen p.x ∧ FieldsAt w B p.F p.x.f) : MemAt w B A (blocksOf L) := by
  intro i x hi
  unfold blocksOf at hi
  rw [List.getElem?_map] at hi
  obtain ⟨p, hp, rfl⟩ : ∃ p, L[i]? = some p ∧ p.x = x := by
    cases e : L[i]? with
    | none => rw [e] at hi; cases hi
    | some p => rw [e] at hi; exact ⟨p, rfl, Option.some.inj hi⟩
  have hlt := (List.getElem?_eq_some_iff.1 hp).1
  obtain ⟨a, rfl, hb, hc⟩ := h.2 (by omega)
  have hm := hf p (List.mem_of_getElem? hp)
  exact ⟨a, p.F, p.c, rfl, hb, hc (i * 3) _ (by rw [show i * 3 = i * 3 + 0 by omega, cellsL_get hp 0 (by omega)]; rfl), by rw [add_of_add]; exact hc _ _ (by rw [cellsL_get hp 1 (by omega)]; rfl), by rw [add_of_add]; exact hc _ _ (by rw [cellsL_get hp 2 (by omega)]; rfl), hm.1, hm.2⟩

/-- The places of a memory's fields. -/
theorem MemAt.places {w : World} {B : Nat} {A : Option Addr} {l : List Bk} (h : MemAt w B A l) : ∃ L, blocksOf L = l ∧ Reads w B 3 A L.length (cellsL L) ∧ ∀ p ∈ L, BkLen p.x ∧ FieldsAt w B p.F p.x.f := by
  have hx : ∀ i, i < l.length → ∃ p : Bx, l[i]? = some p.x ∧ ∃ a, A = some a ∧ BkAt w B a i p.x p.F p.c := fun i hi => by
    obtain ⟨x, hx⟩ := mem_ex hi
    obtain ⟨a, F, c, h1, h2⟩ := h i x hx
    exact ⟨⟨x, F, c⟩, hx, a, h1, h2⟩
  have : Inhabited Bx := ⟨Bx.zero⟩
  obtain ⟨f, hF⟩ := choose_lt hx
  have hlen : ((List.range l.length).map f).length = l.length := by simp
  have hget : ∀ k, k < l.length → ((List.range l.length).map f)[k]? = some (f k) := fun k hk => by
    rw [List.getElem?_map, List.getElem?_range hk]; rfl
  refine ⟨(List.range l.length).map f, ?_, ⟨by rw [cellsL_len], fun h0 => ?_⟩, ?_⟩
  · apply List.ext_getElem?
    intro k
    unfold blocksOf
    rw [List.getElem?_map]
    by_cases hk : k < l.length
    · rw [hget k hk, (hF k hk).1]; rfl
    · rw [List.getElem?_eq_none (by rw [hlen]; omega), List.getElem?_eq_none (by omega)]; rfl
  · rw [hlen] at h0
    obtain ⟨_, a, hA, h1⟩ := hF 0 h0
    refine ⟨a, hA, h1.lt, fun j u hu => ?_⟩
    have hj : j < l.length * 3 := by
      have := (List.getElem?_eq_some_iff.1 hu).1
      rwa [cellsL_len, hlen] at this
    have hk : j / 3 < l.length := by omega
    obtain ⟨_, a', hA', h2⟩ := hF (j / 3) hk
    obtain rfl : a = a' := Option.some.inj (hA.symm.trans hA')
    have hg := cellsL_get (hget (j / 3) hk) (j % 3) (by omega)
    rw [show j / 3 * 3 + j % 3 = j by omega, hu] at hg
    have h3 : j % 3 < 3 := by omega
    generalize f (j / 3) = q at h2 hg
    match hm : j % 3, h3, hg with
    | 0, _, hg => obtain rfl := Option.some.inj hg; rw [show j = j / 3 * 3 by omega]; exact h2.c0
    | 1, _, hg => obtain rfl := Option.some.inj hg; rw [show j = j / 3 * 3 + 1 by omega, ← add_of_add]; exact h2.c1
    | 2, _, hg => obtain rfl := Option.some.inj hg; rw [show j = j / 3 * 3 + 2 by omega, ← add_of_add]; exact h2.c2
  · intro p hp
    obtain ⟨k, hk, rfl⟩ := List.mem_map.1 hp
    obtain ⟨_, a, _, h2⟩ := hF k (by simpa using hk)
    exact ⟨h2.len, h2.flds⟩

theorem blocksOf_len (L : List Bx) : (blocksOf L).length = L.length := by unfold blocksOf; simp

/-- What lies elsewhere stays. -/
theorem FieldsOwn.keep {w w' : World} {B0 : Nat} {av : Option Nat} {F : Option Addr} {f : List Int} (h : FieldsOwn w B0 av F f) (hs : w.heap.size ≤ w'.heap.size) (hk : ∀ b, B0 ≤ b → b < w.heap.size → some b ≠ av → w'.heap[b]? = w.heap[b]?) : FieldsOwn w' B0 av F f := by
  intro i v hi
  obtain ⟨a, h1, h2, h3, h4, h5, h6⟩ := h i v hi
  exact ⟨a, h1, h2, by omega, h4, (World.cell?_of_block (by rw [blk_add]; exact hk _ h2 h3 h4)).trans h5, (World.frozen?_of_block (by rw [blk_add]; exact hk _ h2 h3 h4)).trans h6⟩

theorem FieldsOwn.avoid {w : World} {B0 : Nat} {av av' : Option Nat} {F : Option Addr} {f : List Int} (h : FieldsOwn w B0 av F f) (hne : ∀ b, B0 ≤ b → b < w.heap.size → some b ≠ av → some b ≠ av') : FieldsOwn w B0 av' F f := by
  intro i v hi
  obtain ⟨a, h1, h2, h3, h4, h5, h6⟩ := h i v hi
  exact ⟨a, h1, h2, h3, hne _ h2 h3 h4, h5, h6⟩

theorem FieldsOwn.base {w : World} {B0 B1 : Nat} {av : Option Nat} {F : Option Addr} {f : List Int} (h : FieldsOwn w B0 av F f) (hb : B1 ≤ B0) : FieldsOwn w B1 av F f := by
  intro i v hi
  obtain ⟨a, h1, h2, h3, h4, h5, h6⟩ := h i v hi
  exact ⟨a, h1, by omega, h3, h4, h5, h6⟩

theorem OwnMem.mem {w : World} {B0 : Nat} {A : Option Addr} {c : Nat} {L : List Bx} (h : OwnMem w B0 (.slice A L.length c) L) : MemAt w w.heap.size A (blocksOf L) :=
  h.1.reads.mem fun p hp => ⟨(h.2 p hp).1, (h.2 p hp).2.at_⟩

theorem OwnMem.form {w : World} {B0 : Nat} {v : Value} {L : List Bx} (h : OwnMem w B0 v L) : ∃ A c, v = .slice A L.length c := by
  rcases h.1.2 with ⟨hv, hn⟩ | ⟨g, cap, cur, hv, _⟩
  · exact ⟨none, 0, by rw [hv, hn]⟩
  · exact ⟨_, _, hv⟩

/-- Calls that turn nothing of what was there leave a memory of one's own as it was. -/
theorem OwnMem.later {w w' : World} {B0 : Nat} {v : Value} {L : List Bx} (h : OwnMem w B0 v L) (hb : Below w.heap.size w w') : OwnMem w' B0 v L :=
  ⟨own_below h.1 hb (fun g hg => (own_lt h.1 g hg).2), fun p hp => ⟨(h.2 p hp).1, (h.2 p hp).2.keep hb.size (fun b _ hb' _ => hb.block b hb')⟩⟩

theorem RowMem.later {w w' : World} {B0 : Nat} {v : Value} {L : List Bx} (h : RowMem w B0 v L) (hb : Below w.heap.size w w') : RowMem w' B0 v L :=
  own_below h hb (fun g hg => (own_lt h g hg).2)

theorem OwnMem.nil (w : World) (B0 : Nat) : OwnMem w B0 (.slice none 0 0) [] := ⟨World.ownsRow_nil w B0 _ 3, fun p hp => by cases hp⟩

end Go.Proofs.Ytbmejohoifpfhaa
