/-
  Copies: slices.Clone at []int, memory.copyBlock.
-/
import Derived.Test.YtbmejohoifpfhaaMemP
import Derived.WalkSpells
import Derived.Deep.LoopGhost
import Derived.Outline
namespace Go.Proofs.Ytbmejohoifpfhaa
open Go.RowKit

theorem infoInt : (Try.prog.info? 3).map (fun i => (i.zero, i.size, i.bytes)) = some (some (.int .i64 0), 1, 8) := by kernel_rfl
theorem infoBk : (Try.prog.info? 42).map (fun i => (i.zero, i.size, i.bytes)) = some (some (.agg #[.int .i64 0, .string ⟨#[]⟩, .slice none 0 0]), 3, 48) := by kernel_rfl

def intVals (f : List Int) : List Value := f.map (.int .i64)

theorem FieldsAt.reads {w : World} {B : Nat} {F : Option Addr} {f : List Int} (h : FieldsAt w B F f) : Reads w B 1 F f.length (intVals f) := by
  refine ⟨by simp [intVals], fun h0 => ?_⟩
  obtain ⟨a, rfl, hb, _⟩ := h 0 f[0] (List.getElem?_eq_getElem h0)
  refine ⟨a, rfl, hb, fun j u hu => ?_⟩
  unfold intVals at hu
  rw [List.getElem?_map] at hu
  cases e : f[j]? with
  | none => rw [e] at hu; cases hu
  | some v =>
    rw [e] at hu
    obtain rfl := Option.some.inj hu
    obtain ⟨a', ha, _, hc⟩ := h j v e
    obtain rfl := Option.some.inj ha
    exact hc

theorem intVals_one (f : List Int) : ∀ u ∈ intVals f, u.oneCell' = true := by
  intro u hu
  obtain ⟨v, _, rfl⟩ := List.mem_map.1 hu
  rfl

theorem fieldsOwn_row {w : World} {B0 : Nat} {v : Value} {f : List Int} (h : w.ownsRow B0 3 1 v f.length (intVals f)) : ∃ F c, v = .slice F f.length c ∧ FieldsOwn w B0 none F f := by
  rcases h.2 with ⟨rfl, hn⟩ | ⟨g, cap, cur, rfl, hB, hg, _⟩
  · exact ⟨none, 0, by rw [hn], fun i v hi => by have := (List.getElem?_eq_some_iff.1 hi).1; omega⟩
  · refine ⟨some ⟨g, 0, none⟩, cap, rfl, fun i v hi => ⟨⟨g, 0, none⟩, rfl, hB, (Array.getElem?_eq_some_iff.1 hg).1, by simp, ?_, ?_⟩⟩
    · exact h.cells (g := g) rfl i _ (by unfold intVals; rw [List.getElem?_map, hi]; rfl)
    · have := h.frozenAt i
      rwa [show (⟨g, 0, none⟩ : Addr).add i = ⟨g, i, none⟩ by unfold Addr.add; split <;> simp_all]

/-- Behind a copy of a row of integers. -/
def ClonePost (f : List Int) (n : Nat) (w : World) (e : Ending) (w' : World) : Prop := ∃ F c, e = .returned (.slice F n c) ∧ Below w.heap.size w w' ∧ FieldsOwn w' w.heap.size none F f

set_option maxRecDepth 100000 in
set_option maxHeartbeats 1000000 in
theorem cloneInts_any (F : Option Addr) (c n : Nat) (f : List Int) (hn : n = f.length) (hb : n * 8 ≤ 140737488355328) (w : World) (hf : FieldsAt w w.heap.size F f) :
    Calls Try.prog 59 #[.slice F n c] w (ClonePost f n w) := by
  have HF := Lib.hid (And.intro hf (And.intro hn hb))
  clear hf hn hb
  cases F with
  | none =>
    have h0 : n = 0 := by
      rcases Nat.eq_zero_or_pos n with h | h
      · exact h
      · obtain ⟨a, ha, _⟩ := HF.out.1 0 (f[0]'(by rw [← HF.out.2.1]; exact h)) (List.getElem?_eq_getElem _)
        cases ha
    subst h0
    have hq := Lib.run_eql_slice_nil (P := Try.prog) w 23 3 none 0 c 0 0 Try.underlying23
    go_enter Try.func59, Try.ntmps59
    go_wp2
    go_ret
    exact ⟨none, 0, rfl, Below.refl _ _, fun i v hi => by have := (List.getElem?_eq_some_iff.1 hi).1; have := HF.out.2.1; omega⟩
  | some a =>
    obtain ⟨i0, hi, hiz, his, hib⟩ := info_parts infoInt
    have HR := Lib.hid (And.intro (World.ownsRow_made w #[] 0 (base := w.heap.size) (e := 3) (size := 1) (Nat.le_refl _) (by unfold maxLen; omega) rfl) (HF.out.1.reads.alloc (Nat.le_refl _) (.cells #[] 3)))
    have HI := Lib.hid (And.intro hi (And.intro hiz (And.intro his hib)))
    clear hi hiz his hib
    have hq := Lib.run_eql_slice_nil (P := Try.prog) w 23 3 (some a) n c 0 0 Try.underlying23
    go_enter Try.func59, Try.ntmps59
    go_wp2_with (at_builtin; refine wpList_append_any _ rfl _ _ 23 rfl w.heap.size 3 i0 _ 1 8 Try.underlying23 HI.out.1 HI.out.2.1 HI.out.2.2.1 HI.out.2.2.2 rfl (by decide) _ 0 [] rfl HR.out.1 w.heap.size (some a) n c (intVals f) rfl (HF.out.2.1 ▸ HR.out.2) (intVals_one f) (by have := HF.out.2.2; unfold maxLen; omega) (by have := HF.out.2.2; omega) (by rw [size_of_alloc]; omega) ?_; intro v' w2 hown hgrow hat; have HO := Lib.hid (And.intro hown (And.intro hgrow hat)); clear hown hgrow hat)
    go_ret
    have hb : Below w.heap.size w w2 := ((below_alloc w _).trans (below_grown HR.out.1 HO.out.2.1 (by rw [size_of_alloc]; omega)))
    obtain ⟨F', c', hv, hF⟩ := fieldsOwn_row (by have := HO.out.1; rw [Nat.zero_add, List.nil_append, HF.out.2.1] at this; exact this)
    exact ⟨F', c', by rw [hv, HF.out.2.1] <;> rfl, hb, hF⟩

/-- Behind a copy of a block. -/
def CopyPost (x : Bk) (w : World) (e : Ending) (w' : World) : Prop := ∃ F c, e = .returned (.agg #[.int .i64 x.a, .string ⟨x.r.toArray⟩, .slice F x.f.length c]) ∧ Below w.heap.size w w' ∧ FieldsOwn w' w.heap.size none F x.f

theorem heap_set_other {W : World} {p : Addr} {u : Value} {b : Nat} (h : b ≠ p.block) : (W.setCell p u).heap[b]? = W.heap[b]? := Below.heap_setCell W p u b h

theorem two_boxes {w w' : World} {cs ds : Array Value} {t u : TypeId} (hb : Below ((w.alloc (.cells cs t)).alloc (.cells ds u)).heap.size ((w.alloc (.cells cs t)).alloc (.cells ds u)) w') :
    w'.heap[w.heap.size]? = some (.cells cs t (0, 0)) ∧ w'.heap[w.heap.size + 1]? = some (.cells ds u (0, 0)) := by
  have h1 := heap_of_alloc (w.alloc (.cells cs t)) (.cells ds u)
  rw [size_of_alloc] at h1
  have h0 : ((w.alloc (.cells cs t)).alloc (.cells ds u)).heap[w.heap.size]? = some (.cells cs t (0, 0)) := by
    exact ((below_alloc (w.alloc (.cells cs t)) (.cells ds u)).block _ (by rw [size_of_alloc]; omega)).trans (heap_of_alloc w _)
  exact ⟨(hb.block _ (by rw [size_of_alloc, size_of_alloc]; omega)).trans h0, (hb.block _ (by rw [size_of_alloc, size_of_alloc]; omega)).trans h1⟩

theorem cell_free {w : World} {b : Nat} {cs : Array Value} {t : TypeId} (h : w.heap[b]? = some (.cells cs t (0, 0))) (j : Nat) (v : Value) (hv : cs[j]? = some v) : w.cell? ⟨b, j, none⟩ = some v ∧ w.frozen? ⟨b, j, none⟩ = false := by
  refine ⟨?_, by simp [World.frozen?, h]⟩
  unfold World.cell?
  rw [show w.heap[(⟨b, j, none⟩ : Addr).block]? = some (.cells cs t (0, 0)) from h]
  exact hv

set_option maxRecDepth 100000 in
set_option maxHeartbeats 2000000 in
theorem copyBlock_any (x : Bk) (F : Option Addr) (c : Nat) (hb : x.f.length * 8 ≤ 140737488355328) (w : World) (hf : FieldsAt w w.heap.size F x.f) :
    Calls Try.prog 42 #[.agg #[.int .i64 x.a, .string ⟨x.r.toArray⟩, .slice F x.f.length c]] w (CopyPost x w) := by
  have HF := Lib.hid (And.intro hf hb)
  clear hf hb
  obtain ⟨xa, xr, xf⟩ := x
  simp only at HF ⊢
  have HC : Hid (∀ W, Below w.heap.size w W → Calls Try.prog 59 #[.slice F xf.length c] W (ClonePost xf xf.length W)) := Lib.hid (fun W hW => cloneInts_any F c _ xf rfl HF.out.2 W (HF.out.1.later hW))
  have HJ := Lib.hid (((below_alloc w (.cells #[.int .i64 xa, .string ⟨xr.toArray⟩, .slice F xf.length c] 42)).al (.cells #[.int .i64 0, .string ⟨#[]⟩, .slice none 0 0] 42)))
  generalize hxn : xf.length = n at *
  have HN := Lib.hid hxn
  clear hxn
  go_enter Try.func42, Try.ntmps42
  go_wp2_with (refine (HC.out _ HJ.out).mono ?_; rintro e w2 ⟨F', c', rfl, hb, hF⟩; obtain ⟨b1, b2⟩ := two_boxes hb; obtain ⟨d0, g0⟩ := cell_free b1 0 _ rfl; obtain ⟨d1, g1⟩ := cell_free b1 1 _ rfl; obtain ⟨d2, g2⟩ := cell_free b1 2 _ rfl; obtain ⟨d3, g3⟩ := cell_free b2 0 _ rfl; obtain ⟨d4, g4⟩ := cell_free b2 1 _ rfl; obtain ⟨d5, g5⟩ := cell_free b2 2 _ rfl; have hz : w.heap.size + 1 < w2.heap.size := (Array.getElem?_eq_some_iff.1 b2).1; have hz0 : w.heap.size < w2.heap.size := (Array.getElem?_eq_some_iff.1 b1).1; have HB := Lib.hid (And.intro hb hF); clear hb hF b1 b2)
  refine bodyPost_ret (v := .agg #[.int .i64 xa, .string ⟨xr.toArray⟩, .slice F' n c']) (by simp [results, Try.results42, go_sem, d3, d4, d5]) rfl ⟨F', c', by rw [HN.out], ?_, ?_⟩
  · exact ((((HJ.out.next HB.out.1).setCell (p := ⟨w.heap.size, 2, none⟩) (Nat.le_refl _) _).setCell (p := ⟨w.heap.size + 1, 0, none⟩) (Nat.le_succ _) _).setCell (p := ⟨w.heap.size + 1, 1, none⟩) (Nat.le_succ _) _).setCell (p := ⟨w.heap.size + 1, 2, none⟩) (Nat.le_succ _) _
  · refine (HB.out.2.keep (by simp [World.setCell]) (fun b hb1 hb2 _ => ?_)).base (by rw [size_of_alloc, size_of_alloc]; omega)
    rw [size_of_alloc, size_of_alloc] at hb1
    rw [heap_set_other (by show b ≠ w.heap.size + 1; omega), heap_set_other (by show b ≠ w.heap.size + 1; omega), heap_set_other (by show b ≠ w.heap.size + 1; omega), heap_set_other (by show b ≠ w.heap.size; omega)]

/-- The fields of different blocks lie in different objects. -/
def Apart (L : List Bx) : Prop := ∀ (i j : Nat) (p q : Bx) (a b : Addr), i < j → L[i]? = some p → L[j]? = some q → 0 < p.x.f.length → 0 < q.x.f.length → p.F = some a → q.F = some b → a.block ≠ b.block

theorem Apart.nil : Apart [] := fun i j p q a b _ hi => by simp at hi

theorem Apart.ne {L : List Bx} (h : Apart L) {i j : Nat} {p q : Bx} {a b : Addr} (hij : i ≠ j) (hi : L[i]? = some p) (hj : L[j]? = some q) (h0 : 0 < p.x.f.length) (h1 : 0 < q.x.f.length) (ha : p.F = some a) (hb : q.F = some b) : a.block ≠ b.block := by
  rcases Nat.lt_or_gt_of_ne hij with hl | hl
  · exact h i j p q a b hl hi hj h0 h1 ha hb
  · exact fun e => h j i q p b a hl hj hi h1 h0 hb ha e.symm

theorem Apart.snoc {L : List Bx} (h : Apart L) {q : Bx} {B : Nat} (hp : ∀ p ∈ L, 0 < p.x.f.length → ∀ a, p.F = some a → a.block < B) (hq : 0 < q.x.f.length → ∀ b, q.F = some b → B ≤ b.block) : Apart (L ++ [q]) := by
  intro i j p q' a b hij hi hj h0 h1 ha hb
  have hjl := (List.getElem?_eq_some_iff.1 hj).1
  rw [List.length_append, List.length_singleton] at hjl
  rw [List.getElem?_append_left (by omega)] at hi
  by_cases hjL : j < L.length
  · rw [List.getElem?_append_left hjL] at hj
    exact h i j p q' a b hij hi hj h0 h1 ha hb
  · obtain rfl : j = L.length := by omega
    rw [List.getElem?_append_right (Nat.le_refl _), Nat.sub_self] at hj
    obtain rfl : q = q' := Option.some.inj hj
    have := hp p (List.mem_of_getElem? hi) h0 a ha
    have := hq h1 b hb
    omega

theorem FieldsOwn.first {w : World} {B0 : Nat} {av : Option Nat} {F : Option Addr} {f : List Int} (h : FieldsOwn w B0 av F f) (h0 : 0 < f.length) {a : Addr} (ha : F = some a) : B0 ≤ a.block ∧ a.block < w.heap.size := by
  obtain ⟨a', h1, h2, h3, _⟩ := h 0 _ (List.getElem?_eq_getElem h0)
  rw [ha] at h1
  obtain rfl := Option.some.inj h1
  exact ⟨h2, h3⟩

/-- The row of a copy in the making: the copies so far, then zero blocks. -/
structure Half (w : World) (l : List Bk) (n k : Nat) (L : List Bx) (wr : World) : Prop where
  len : L.length = k
  row : RowMem wr w.heap.size (.slice (some ⟨w.heap.size, 0, none⟩) n n) (L ++ List.replicate (n - k) Bx.zero)
  eq : blocksOf L = l.take k
  own : ∀ p ∈ L, BkLen p.x ∧ FieldsOwn wr w.heap.size (some w.heap.size) p.F p.x.f
  bel : Below w.heap.size w wr
  ap : Apart L

theorem madeCells_zero (n : Nat) : (madeCells #[.int .i64 0, .string ⟨#[]⟩, .slice none 0 0] (n * 3)).toList = cellsL (List.replicate n Bx.zero) := by
  apply List.ext_getElem?
  intro j
  have hl : (cellsL (List.replicate n Bx.zero)).length = n * 3 := by rw [cellsL_len, List.length_replicate]
  by_cases hj : j < n * 3
  · have hk : j / 3 < n := by omega
    have hg := cellsL_get (L := List.replicate n Bx.zero) (k := j / 3) (p := Bx.zero) (by rw [List.getElem?_replicate, if_pos hk]) (j % 3) (by omega)
    rw [show j / 3 * 3 + j % 3 = j by omega] at hg
    rw [hg]
    have h3 : j % 3 < 3 := by omega
    simp only [madeCells, Array.toList_map, List.getElem?_map, Array.toList_range, List.getElem?_range hj, Option.map_some]
    show some ((#[Value.int .i64 0, .string ⟨#[]⟩, .slice none 0 0] : Array Value)[j % 3]!) = (cells3 Bx.zero)[j % 3]?
    match hm : j % 3, h3 with
    | 0, _ => rfl
    | 1, _ => rfl
    | 2, _ => rfl
  · rw [List.getElem?_eq_none (by rw [Array.length_toList, size_madeCells]; omega), List.getElem?_eq_none (by omega)]

theorem zeros_get (L : List Bx) (n k : Nat) (hl : L.length = k) (hk : k < n) : (L ++ List.replicate (n - k) Bx.zero)[k]? = some Bx.zero := by
  rw [List.getElem?_append_right (by omega), hl, Nat.sub_self, List.getElem?_replicate, if_pos (by omega)]

theorem zeros_set (L : List Bx) (n k : Nat) (hl : L.length = k) (hk : k < n) (p : Bx) : (L ++ List.replicate (n - k) Bx.zero).set k p = (L ++ [p]) ++ List.replicate (n - (k + 1)) Bx.zero := by
  rw [List.set_append_right _ _ (by omega), hl, Nat.sub_self, show n - k = (n - (k + 1)) + 1 by omega, List.replicate_succ, List.set_cons_zero]
  simp

/-- The cells of the row where the next block is stored. -/
theorem Half.zero_cells {w : World} {l : List Bk} {n k : Nat} {L : List Bx} {wr w3 : World} (h : Half w l n k L wr) (hk : k < n) (hb : Below wr.heap.size wr w3) :
    (w3.cell? ⟨w.heap.size, k * 3, none⟩ = some (.int .i64 0) ∧ w3.frozen? ⟨w.heap.size, k * 3, none⟩ = false) ∧ (w3.cell? ⟨w.heap.size, k * 3 + 1, none⟩ = some (.string ⟨#[]⟩) ∧ w3.frozen? ⟨w.heap.size, k * 3 + 1, none⟩ = false) ∧ (w3.cell? ⟨w.heap.size, k * 3 + 2, none⟩ = some (.slice none 0 0) ∧ w3.frozen? ⟨w.heap.size, k * 3 + 2, none⟩ = false) ∧ w.heap.size < w3.heap.size := by
  have hr := h.row.later hb
  have hsz : (L ++ List.replicate (n - k) Bx.zero).length = n := by rw [List.length_append, h.len, List.length_replicate]; omega
  unfold RowMem at hr
  rw [hsz] at hr
  have hg := zeros_get L n k h.len hk
  refine ⟨⟨?_, hr.frozenAt _⟩, ⟨?_, hr.frozenAt _⟩, ⟨?_, hr.frozenAt _⟩, (own_lt hr w.heap.size rfl).2⟩
  · rw [hr.cellAt _ (by omega), show k * 3 = k * 3 + 0 by omega, cellsL_get hg 0 (by omega)]; rfl
  · rw [hr.cellAt _ (by omega), cellsL_get hg 1 (by omega)]; rfl
  · rw [hr.cellAt _ (by omega), cellsL_get hg 2 (by omega)]; rfl

/-- What the store of the next block leaves. -/
theorem Half.next {w : World} {l : List Bk} {n k : Nat} {L : List Bx} {wr w3 : World} (h : Half w l n k L wr) (hk : k < n) (hb : Below wr.heap.size wr w3) {x : Bk} (hx : l[k]? = some x) (hxl : BkLen x) {F : Option Addr} {c B1 : Nat} (hF : FieldsOwn w3 B1 none F x.f) (hB1 : wr.heap.size ≤ B1) :
    Half w l n (k + 1) (L ++ [⟨x, F, c⟩]) (((w3.setCell ⟨w.heap.size, k * 3, none⟩ (.int .i64 x.a)).setCell ⟨w.heap.size, k * 3 + 1, none⟩ (.string ⟨x.r.toArray⟩)).setCell ⟨w.heap.size, k * 3 + 2, none⟩ (.slice F x.f.length c)) := by
  have hr := h.row.later hb
  have hlt := (own_lt h.row w.heap.size rfl).2
  have hsz : (L ++ List.replicate (n - k) Bx.zero).length = n := by rw [List.length_append, h.len, List.length_replicate]; omega
  have hkeep : ∀ (F' : Option Addr) (f' : List Int), FieldsOwn w3 w.heap.size (some w.heap.size) F' f' → FieldsOwn (((w3.setCell ⟨w.heap.size, k * 3, none⟩ (.int .i64 x.a)).setCell ⟨w.heap.size, k * 3 + 1, none⟩ (.string ⟨x.r.toArray⟩)).setCell ⟨w.heap.size, k * 3 + 2, none⟩ (.slice F x.f.length c)) w.heap.size (some w.heap.size) F' f' := fun F' f' hf =>
    hf.keep (by simp [World.setCell]) (fun b _ _ hne => by
      have hne' : b ≠ w.heap.size := fun e => hne (by rw [e])
      rw [heap_set_other hne', heap_set_other hne', heap_set_other hne'])
  refine ⟨by rw [List.length_append, h.len]; rfl, ?_, ?_, ?_, ?_, ?_⟩
  · have h1 := (World.ownsRow.stored (g := w.heap.size) (n := n) (cap := n) (by unfold RowMem at hr; rwa [hsz] at hr) (k * 3) (.int .i64 x.a)).1
    have h2 := (h1.stored (k * 3 + 1) (.string ⟨x.r.toArray⟩)).1
    have h3 := (h2.stored (k * 3 + 2) (.slice F x.f.length c)).1
    unfold RowMem
    have e := cellsL_set (L ++ List.replicate (n - k) Bx.zero) k (by rw [hsz]; exact hk) ⟨x, F, c⟩
    rw [zeros_set L n k h.len hk] at e
    rw [← e, show ((L ++ [(⟨x, F, c⟩ : Bx)]) ++ List.replicate (n - (k + 1)) Bx.zero).length = n by simp [h.len]; omega]
    exact h3
  · have := h.eq
    unfold blocksOf at this ⊢
    rw [List.map_append, this, List.map_cons, List.map_nil, List.take_add_one, hx]
    rfl
  · intro p hp
    rcases List.mem_append.1 hp with hp | hp
    · have := h.own p hp
      exact ⟨this.1, hkeep _ _ (this.2.keep hb.size (fun b _ hb' _ => hb.block b hb'))⟩
    · obtain rfl := List.mem_singleton.1 hp
      exact ⟨hxl, hkeep _ _ ((hF.avoid (fun b hb1 _ _ e => by have := Option.some.inj e; omega)).base (by omega))⟩
  · exact (((h.bel.next hb).setCell (p := ⟨w.heap.size, k * 3, none⟩) (Nat.le_refl _) _).setCell (p := ⟨w.heap.size, k * 3 + 1, none⟩) (Nat.le_refl _) _).setCell (p := ⟨w.heap.size, k * 3 + 2, none⟩) (Nat.le_refl _) _
  · exact h.ap.snoc (B := wr.heap.size) (fun p hp h0 a ha => ((h.own p hp).2.first h0 ha).2) (fun h0 b hb' => by have := (hF.first h0 hb').1; omega)

/-- Behind a copy of a memory. -/
def CopyAllPost (l : List Bk) (n : Nat) (w : World) (e : Ending) (w' : World) : Prop :=
  ∃ L, e = .returned (.slice (some ⟨w.heap.size, 0, none⟩) n n) ∧ blocksOf L = l ∧ L.length = n ∧ OwnMem w' w.heap.size (.slice (some ⟨w.heap.size, 0, none⟩) n n) L ∧ Below w.heap.size w w'

/-- Behind a copy of a memory; the copies of the fields are apart. -/
def CopyAllPost2 (l : List Bk) (n : Nat) (w : World) (e : Ending) (w' : World) : Prop :=
  ∃ L, e = .returned (.slice (some ⟨w.heap.size, 0, none⟩) n n) ∧ blocksOf L = l ∧ L.length = n ∧ OwnMem w' w.heap.size (.slice (some ⟨w.heap.size, 0, none⟩) n n) L ∧ Below w.heap.size w w' ∧ Apart L

set_option maxRecDepth 100000 in
set_option maxHeartbeats 4000000 in
theorem copyAll_two (A : Option Addr) (c n : Nat) (l : List Bk) (hn : n = l.length) (hl : n ≤ 1000) (hfl : ∀ x ∈ l, x.f.length * 8 ≤ 140737488355328) (w : World) (hm : MemAt w w.heap.size A l) :
    Calls Try.prog 20 #[.slice A n c] w (CopyAllPost2 l n w) := by
  have HM := Lib.hid (And.intro hm (And.intro hn hfl))
  clear hm hn hfl
  obtain ⟨i0, hi, hiz, his, hib⟩ := info_parts infoBk
  go_enter Try.func20, Try.ntmps20
  go_wp2_with (at_make; refine wpList_make_full _ rfl _ _ 22 rfl w.heap.size 42 i0 _ 3 Try.underlying22 hi hiz his _ _ _ _ n rfl rfl rfl rfl ?b2 ?b3 (Nat.le_refl _) ?_)
  case b2 => rw [hib]; omega
  case b3 => unfold maxLen; omega
  intro w2 hown hgrow
  have HS : Hid (Half w l n 0 [] w2) := Lib.hid (by
    refine ⟨rfl, ?_, rfl, fun p hp => (by cases hp), ⟨hgrow.os, hgrow.tape, hgrow.output, hgrow.size, fun k hk => hgrow.block k hk (by simp)⟩, Apart.nil⟩
    unfold RowMem
    rw [madeCells_zero] at hown
    simpa using hown)
  clear hown hgrow hi hiz his hib
  go_wp2
  go_loopg [11] n (fun m j wr => ∃ (k : Nat) (L : List Bx), m = n - k ∧ k ≤ n ∧ j = .int .i64 k ∧ Hid (Half w l n k L wr))
  case atStart => exact ⟨0, [], rfl, Nat.zero_le _, rfl, HS⟩
  case round =>
    obtain ⟨k, L, rfl, hk, rfl, HI⟩ := hrel
    by_cases hlt : k < n
    · have hlt' : (k : Int) < n := by omega
      obtain ⟨x, hx⟩ := mem_ex (l := l) (i := k) (by rw [← HM.out.2.1]; exact hlt)
      obtain ⟨a, F, c', rfl, hB⟩ := (HM.out.1.later HI.out.bel) k x hx
      have c0 := hB.c0
      have c1 : wr.cell? ⟨(a.add (k * 3)).block, (a.add (k * 3)).off + 1, none⟩ = _ := hB.c1
      have c2 : wr.cell? ⟨(a.add (k * 3)).block, (a.add (k * 3)).off + 2, none⟩ = _ := hB.c2
      have HX := Lib.hid (And.intro hx (And.intro hB.len hB.flds))
      have HJ := Lib.hid (below_alloc wr (.cells #[.int .i64 x.a, .string ⟨x.r.toArray⟩, .slice F x.f.length c'] 42))
      have HC : Hid (∀ W, Below wr.heap.size wr W → Calls Try.prog 42 #[.agg #[.int .i64 x.a, .string ⟨x.r.toArray⟩, .slice F x.f.length c']] W (CopyPost x W)) :=
        Lib.hid (fun W hW => copyBlock_any x F c' (HM.out.2.2 x (List.mem_of_getElem? HX.out.1)) W (HX.out.2.2.later hW))
      have HR := Lib.hid (own_lt HI.out.row w.heap.size rfl)
      have hgz : w.heap.size < wr.heap.size := HR.out.2
      clear hx hB
      obtain ⟨xa, hxa⟩ : ∃ xa, xa = x.a := ⟨_, rfl⟩
      obtain ⟨xr, hxr⟩ : ∃ xr, xr = x.r := ⟨_, rfl⟩
      obtain ⟨xn, hxn⟩ : ∃ xn, xn = x.f.length := ⟨_, rfl⟩
      have HE := Lib.hid (And.intro hxa (And.intro hxr hxn))
      rw [← hxa] at c0
      rw [← hxr] at c1
      rw [← hxn] at c2
      rw [← hxa, ← hxr, ← hxn] at HC
      rw [← hxa, ← hxr, ← hxn] at HJ
      clear hxa hxr hxn
      go_wp2_with (go_at_call 42; refine (HC.out _ HJ.out).mono ?_; rintro e w3 ⟨F', c'', rfl, hb, hF⟩; rw [← HE.out.1, ← HE.out.2.1, ← HE.out.2.2]; have hb2 := HJ.out.next hb; obtain ⟨⟨d0, g0⟩, ⟨d1, g1⟩, ⟨d2, g2⟩, hz⟩ := HI.out.zero_cells hlt hb2; have H3 := Lib.hid (HI.out.next hlt hb2 HX.out.1 HX.out.2.1 hF (by rw [size_of_alloc]; exact Nat.le_succ _) (c := c'')); clear hb hF hb2)
      rw [← HE.out.1, ← HE.out.2.1, ← HE.out.2.2] at H3
      go_roundg (n - (k + 1))
      case measure => omega
      case rel => exact ⟨k + 1, _, rfl, by omega, by go_num, H3⟩
    · obtain rfl : k = n := by omega
      go_wp2
      go_ret
      refine ⟨L, rfl, ?_, HI.out.len, ⟨?_, fun p hp => HI.out.own p hp⟩, HI.out.bel, HI.out.ap⟩
      · rw [HI.out.eq, List.take_of_length_le (by rw [← HM.out.2.1]; exact Nat.le_refl _)]
      · have := HI.out.row
        simpa using this

theorem copyAll_any (A : Option Addr) (c n : Nat) (l : List Bk) (hn : n = l.length) (hl : n ≤ 1000) (hfl : ∀ x ∈ l, x.f.length * 8 ≤ 140737488355328) (w : World) (hm : MemAt w w.heap.size A l) :
    Calls Try.prog 20 #[.slice A n c] w (CopyAllPost l n w) :=
  (copyAll_two A c n l hn hl hfl w hm).mono fun _ _ ⟨L, h1, h2, h3, h4, h5, _⟩ => ⟨L, h1, h2, h3, h4, h5⟩

end Go.Proofs.Ytbmejohoifpfhaa
