/-
  An argument of type []lex.Token, opened to its cells.
-/
import Derived.Test.YtjdcohfdanenlaaDoorLexM11
import Derived.Deep.Slices
import Derived.ChangeSame
import Derived.ChangeSlices
namespace Go.Proofs.YtjdcohfdanenlaaDoor
open Go.RowKit Go.ChangeShapes Go.WideShapes Go.Deep

/-- The slice at the address reads as these tokens. -/
structure ArgCells (W : World) (a : Addr) (l : List Tok) : Prop where
  lt : 0 < l.length → a.block < W.heap.size
  c0 : ∀ k, k < l.length → W.cell? (a.add (k * 4)) = some (.int .i64 (l.getD k ⟨0, [], 0, 0⟩).k)
  c1 : ∀ k, k < l.length → W.cell? (a.add (k * 4 + 1)) = some (.string ⟨(l.getD k ⟨0, [], 0, 0⟩).t.toArray⟩)
  c2 : ∀ k, k < l.length → W.cell? (a.add (k * 4 + 2)) = some (.int .i64 (l.getD k ⟨0, [], 0, 0⟩).l)
  c3 : ∀ k, k < l.length → W.cell? (a.add (k * 4 + 3)) = some (.int .i64 (l.getD k ⟨0, [], 0, 0⟩).c)

def ArgRead (W : World) (A : Option Addr) (l : List Tok) : Prop := 0 < l.length → ∃ a, A = some a ∧ ArgCells W a l

theorem block_add (a : Addr) (n : Nat) : (a.add n).block = a.block := by unfold Addr.add; split <;> rfl

theorem ArgCells.later {W W' : World} {a : Addr} {l : List Tok} (h : ArgCells W a l) (hb : Below W.heap.size W W') : ArgCells W' a l where
  lt := fun h0 => Nat.lt_of_lt_of_le (h.lt h0) hb.size
  c0 := fun k hk => (hb.cell (by rw [block_add]; exact h.lt (by omega))).trans (h.c0 k hk)
  c1 := fun k hk => (hb.cell (by rw [block_add]; exact h.lt (by omega))).trans (h.c1 k hk)
  c2 := fun k hk => (hb.cell (by rw [block_add]; exact h.lt (by omega))).trans (h.c2 k hk)
  c3 := fun k hk => (hb.cell (by rw [block_add]; exact h.lt (by omega))).trans (h.c3 k hk)

theorem ArgRead.later {W W' : World} {A : Option Addr} {l : List Tok} (h : ArgRead W A l) (hb : Below W.heap.size W W') : ArgRead W' A l :=
  fun hl => let ⟨a, hA, hT⟩ := h hl; ⟨a, hA, hT.later hb⟩

theorem cell_lt' {w : World} {a : Addr} {v : Value} (h : w.cell? a = some v) : a.block < w.heap.size := by
  unfold World.cell? at h
  cases e : w.heap[a.block]? with
  | none => simp [e] at h
  | some o => exact (Array.getElem?_eq_some_iff.1 e).1

variable {H : Type} {enc : TypeId × Value → H} {w : World} {base : Nat} {spare : Nat → Bool} {held : Bool}

theorem drop_take1 {cs : List Value} {j : Nat} (h : j < cs.length) : (cs.drop j).take 1 = [cs[j]] := by
  rw [List.drop_eq_getElem_cons h]; rfl

theorem open_pos {fuel : Nat} {cs : List Value} {x : DataW H × List MemPlace} (h : DataW.trod enc Tryd.prog w base spare held fuel 26 cs = some x) : ∃ l c, cs = [.int .i64 l, .int .i64 c] := by
  obtain ⟨ys, n, _, _, hlen, hyl, hf⟩ := DataW.trod_struct (fs := _) Tryd.underlying26 h
  have hlen2 : cs.length = 2 := hlen.trans (by kernel_rfl)
  have e0 := hf 0 _ rfl
  have e1 := hf 1 _ rfl
  match cs, hlen2 with
  | [u0, u1], _ =>
    match ys, hyl with
    | [y0, y1], _ =>
      have k1 : Tryd.prog.cellsOf 3 = 1 := by kernel_rfl
      obtain ⟨a, ha, _⟩ := DataW.trod_int (x := y0) (cs := [u0]) Tryd.underlying3 (by simpa [k1] using e0)
      obtain ⟨b, hb, _⟩ := DataW.trod_int (x := y1) (cs := [u1]) Tryd.underlying3 (by simpa [k1] using e1)
      injection ha with ha; injection hb with hb
      exact ⟨a, b, by rw [ha, hb]⟩

theorem open_tok {fuel : Nat} {cs : List Value} {x : DataW H × List MemPlace} (h : DataW.trod enc Tryd.prog w base spare held fuel 28 cs = some x) :
    ∃ t : Tok, cs = [.int .i64 t.k, .string ⟨t.t.toArray⟩, .int .i64 t.l, .int .i64 t.c] ∧ t.t.length ≤ maxLen := by
  obtain ⟨ys, n, _, _, hlen, hyl, hf⟩ := DataW.trod_struct (fs := _) Tryd.underlying28 h
  have hlen2 : cs.length = 4 := hlen.trans (by kernel_rfl)
  have e0 := hf 0 _ rfl
  have e1 := hf 1 _ rfl
  have e2 := hf 2 _ rfl
  match cs, hlen2 with
  | [u0, u1, u2, u3], _ =>
    match ys, hyl with
    | [y0, y1, y2], _ =>
      have k1 : Tryd.prog.cellsOf 3 = 1 := by kernel_rfl
      have k2 : Tryd.prog.cellsOf 9 = 1 := by kernel_rfl
      have k3 : Tryd.prog.cellsOf 26 = 2 := by kernel_rfl
      obtain ⟨a, ha, _⟩ := DataW.trod_int (x := y0) (cs := [u0]) Tryd.underlying3 (by simpa [k1] using e0)
      obtain ⟨s, hs, _, hz⟩ := DataW.trod_string (x := y1) (cs := [u1]) Tryd.underlying9 (by simpa [k2] using e1)
      obtain ⟨l, c, hlc⟩ := open_pos (x := y2) (cs := [u2, u3]) (by simpa [k3] using e2)
      injection ha with ha; injection hs with hs; injection hlc with h2 h3; injection h3 with h3
      exact ⟨⟨a, s.data.toList, l, c⟩, by rw [ha, hs, h2, h3], hz⟩

/-- A []lex.Token that came in. -/
theorem open_toks {b0 : Nat} {v : Value} {d : DataW H} {p : List MemPlace} (hv : Value.okWide Tryd.prog w .any b0 22 v) (h : DataW.Trod enc Tryd.prog w base spare held 22 v d p) :
    ∃ (A : Option Addr) (c : Nat) (l : List Tok), v = .slice A l.length c ∧ ArgRead w A l ∧ l.length ≤ maxLen ∧ ∀ x ∈ l, x.t.length ≤ maxLen := by
  obtain ⟨A, n0, c0, rfl⟩ := okWide_slice Tryd.underlying22 hv
  obtain ⟨fuel, hf⟩ := h
  have hf : DataW.trod enc Tryd.prog w base spare held fuel 22 [.slice A n0 c0] = some (d, p) := by simpa [Value.cells] using hf
  rcases open_slice Tryd.underlying22 hf with ⟨e0, _⟩ | ⟨a, len, cap, m, n, D, Pl, e0, hb, hl, hm, hmm, _, hi⟩
  · injection e0 with e0
    exact ⟨none, 0, [], e0, fun h => absurd h (by simp), Nat.zero_le _, fun _ h => by cases h⟩
  · have hlm : len ≤ m := by rw [hmm]; split <;> omega
    have k4 : Tryd.prog.cellsOf 28 = 4 := by kernel_rfl
    have hx : ∀ i, i < len → ∃ t : Tok, (w.cells? base (a.add (i * 4)) 4 = some [.int .i64 t.k, .string ⟨t.t.toArray⟩, .int .i64 t.l, .int .i64 t.c]) ∧ t.t.length ≤ maxLen := fun i hi' => by
      obtain ⟨cs', h1, h2⟩ := hi i (by omega)
      obtain ⟨t, rfl, ht⟩ := open_tok h2
      rw [k4] at h1
      exact ⟨t, h1, ht⟩
    have : Inhabited Tok := ⟨⟨0, [], 0, 0⟩⟩
    obtain ⟨f, hF⟩ := choose_lt hx
    have hlen : ((List.range len).map f).length = len := by simp
    have hget : ∀ k, k < len → ((List.range len).map f).getD k ⟨0, [], 0, 0⟩ = f k := fun k hk => by
      rw [List.getD_eq_getElem?_getD, List.getElem?_map, List.getElem?_range hk]; rfl
    have hcell : ∀ k, k < len → ∀ j, j < 4 → w.cell? (a.add (k * 4 + j)) = [Value.int .i64 (f k).k, .string ⟨(f k).t.toArray⟩, .int .i64 (f k).l, .int .i64 (f k).c][j]? := fun k hk j hj => by
      have := (World.cells?_some (hF k hk).1).2.2 j hj
      rw [add_add] at this
      exact this
    injection e0 with e0
    refine ⟨some a, cap, (List.range len).map f, by rw [hlen]; exact e0, fun _ => ⟨a, rfl, ?_⟩, by rw [hlen]; omega, ?_⟩
    · refine ⟨fun h0 => ?_, ?_, ?_, ?_, ?_⟩
      · rw [hlen] at h0
        have := cell_lt' (hcell 0 h0 0 (by omega))
        rwa [block_add] at this
      · intro k hk; rw [hlen] at hk; rw [hget k hk]; exact hcell k hk 0 (by omega)
      · intro k hk; rw [hlen] at hk; rw [hget k hk]; exact hcell k hk 1 (by omega)
      · intro k hk; rw [hlen] at hk; rw [hget k hk]; exact hcell k hk 2 (by omega)
      · intro k hk; rw [hlen] at hk; rw [hget k hk]; exact hcell k hk 3 (by omega)
    · intro x hx'
      obtain ⟨k, hk, rfl⟩ := List.mem_map.1 hx'
      exact (hF k (by simpa using hk)).2

/-- A []uint8 that came in. -/
theorem open_u8s {b0 : Nat} {v : Value} {d : DataW H} {p : List MemPlace} (hv : Value.okWide Tryd.prog w .any b0 40 v) (h : DataW.Trod enc Tryd.prog w base spare held 40 v d p) :
    ∃ (A : Option Addr) (n c : Nat) (zs : List Int), v = .slice A n c ∧ n ≤ maxLen ∧ ∀ k, k < n → ∃ a, A = some a ∧ a.block < w.heap.size ∧ w.cell? (a.add k) = some (.int .u8 (zs.getD k 0)) ∧ 0 ≤ zs.getD k 0 ∧ zs.getD k 0 ≤ 255 := by
  obtain ⟨A, n0, c0, rfl⟩ := okWide_slice Tryd.underlying40 hv
  obtain ⟨fuel, hf⟩ := h
  have hf : DataW.trod enc Tryd.prog w base spare held fuel 40 [.slice A n0 c0] = some (d, p) := by simpa [Value.cells] using hf
  rcases open_ints Tryd.underlying40 Tryd.underlying5 (by kernel_rfl) hf with ⟨e0, _⟩ | ⟨a, len, cap, zs, e0, hb, hl, hm, hz, _, hc, hwf⟩
  · injection e0 with e0; injection e0 with e1 e2 e3
    subst e1 e2 e3
    exact ⟨none, 0, 0, [], rfl, Nat.zero_le _, fun k hk => absurd hk (Nat.not_lt_zero k)⟩
  · injection e0 with e0; injection e0 with e1 e2 e3
    subst e1 e2 e3
    have hzl : n0 ≤ zs.length := by rw [hz]; split <;> omega
    refine ⟨some a, n0, c0, zs, rfl, by omega, fun k hk => ⟨a, rfl, ?_, hc k (by omega), ?_⟩⟩
    · have := cell_lt' (hc k (by omega))
      rwa [block_add] at this
    · have hmem : zs.getD k 0 ∈ zs := by
        rw [List.getD_eq_getElem?_getD, List.getElem?_eq_getElem (by omega)]
        exact List.getElem_mem _
      have := hwf _ hmem
      simpa [Lit.wf, IntKind.min, IntKind.max, IntKind.signed, IntKind.bits] using this

end Go.Proofs.YtjdcohfdanenlaaDoor
