/-
  Arguments of types api.Expr and api.Cond, opened to their trees.
-/
import Derived.Deep.Slices
import Derived.ChangeSame
import Derived.ChangeSlices
import Derived.Test.YtijglomghlbhfaaGreatDoorTreeL
namespace Go.Proofs.YtijglomghlbhfaaGreatDoor
open Go.RowKit Go.ChangeShapes Go.WideShapes Go.Deep

variable {H : Type} {enc : TypeId × Value → H} {w : World} {spare : Nat → Bool} {held : Bool}

theorem cells4_at {p : Addr} {b : Nat} {cs : List Value} {k : Nat} (h : w.cells? b p k = some cs) {j : Nat} (hj : j < k) : w.cell? (p.add j) = cs[j]? := (World.cells?_some h).2.2 j hj

theorem cell_ltO {w : World} {a : Addr} {v : Value} (h : w.cell? a = some v) : a.block < w.heap.size := World.block_lt_of_cell? w a h

/-- An expression's cells. -/
def ExCs (w : World) (cs : List Value) (e : Ex) (A : Option Addr) (c : Nat) : Prop :=
  ∃ k n s l, e = .mk k n s l ∧ cs = [.int .i64 k, .int .i64 n, .string ⟨s.toArray⟩, .slice A l.length c] ∧ s.length ≤ maxLen ∧ l.length ≤ maxLen ∧ ExRow w w.heap.size l A

set_option maxRecDepth 100000 in
theorem open_expr_by {N : Nat} (IH : ∀ (x : DataW H × List MemPlace), SizeOf.sizeOf x.1 < N → ∀ fuel cs, DataW.trod enc Tryz.prog w 0 spare held fuel 22 cs = some x → ∃ A c es, cs = [.slice A es.length c] ∧ ExRow w w.heap.size es A ∧ es.length ≤ maxLen)
    {x : DataW H × List MemPlace} (hx : SizeOf.sizeOf x.1 ≤ N) {fuel : Nat} {cs : List Value} (h : DataW.trod enc Tryz.prog w 0 spare held fuel 24 cs = some x) : ∃ e A c, ExCs w cs e A c := by
  obtain ⟨ys, n, _, hx1, hlen, hyl, hf⟩ := DataW.trod_struct (fs := _) Tryz.underlying24 h
  have hlen2 : cs.length = 4 := hlen.trans (by kernel_rfl)
  have e0 := hf 0 _ rfl
  have e1 := hf 1 _ rfl
  have e2 := hf 2 _ rfl
  have e3 := hf 3 _ rfl
  match cs, hlen2 with
  | [u0, u1, u2, u3], _ =>
    match ys, hyl with
    | [y0, y1, y2, y3], _ =>
      have k1 : Tryz.prog.cellsOf 3 = 1 := by kernel_rfl
      have k2 : Tryz.prog.cellsOf 9 = 1 := by kernel_rfl
      have k3 : Tryz.prog.cellsOf 22 = 1 := by kernel_rfl
      obtain ⟨a, ha, _⟩ := DataW.trod_int (x := y0) (cs := [u0]) Tryz.underlying3 (by simpa [k1] using e0)
      obtain ⟨b, hb, _⟩ := DataW.trod_int (x := y1) (cs := [u1]) Tryz.underlying3 (by simpa [k1] using e1)
      obtain ⟨s, hs, _, hz⟩ := DataW.trod_string (x := y2) (cs := [u2]) Tryz.underlying9 (by simpa [k2] using e2)
      have hsz : SizeOf.sizeOf y3.1 < N := by
        have h1 : SizeOf.sizeOf x.1 ≤ N := hx
        rw [hx1] at h1
        simp at h1
        omega
      obtain ⟨A, c, es, he, hr, hl⟩ := IH y3 hsz n [u3] (by simpa [k3] using e3)
      injection ha with ha; injection hb with hb; injection hs with hs; injection he with he
      exact ⟨.mk a b s.data.toList es, A, c, a, b, s.data.toList, es, rfl, by rw [ha, hb, hs, he], hz, hl, hr⟩

set_option maxRecDepth 100000 in
theorem open_exprs : ∀ (N : Nat) (x : DataW H × List MemPlace), SizeOf.sizeOf x.1 < N → ∀ fuel cs, DataW.trod enc Tryz.prog w 0 spare held fuel 22 cs = some x → ∃ A c es, cs = [.slice A es.length c] ∧ ExRow w w.heap.size es A ∧ es.length ≤ maxLen := by
  intro N
  induction N with
  | zero => intro x h; omega
  | succ N ih =>
    intro x hx fuel cs h
    rcases open_slice Tryz.underlying22 h with ⟨e0, _⟩ | ⟨a, len, cap, m, n, D, Pl, e0, hb, hl, hm, hmm, hxx, hi⟩
    · exact ⟨none, 0, [], e0, .nil _, Nat.zero_le _⟩
    · have hlm : len ≤ m := by rw [hmm]; split <;> omega
      have k4 : Tryz.prog.cellsOf 24 = 4 := by kernel_rfl
      have hq : ∀ i, i < len → ∃ t : Ex × Option Addr × Nat, ∃ cs', w.cells? 0 (a.add (i * 4)) 4 = some cs' ∧ ExCs w cs' t.1 t.2.1 t.2.2 := fun i hi' => by
        obtain ⟨cs', h1, h2⟩ := hi i (by omega)
        have hsz : SizeOf.sizeOf (D i) ≤ N := by
          have h1 := hx
          rw [hxx] at h1
          have hmem : D i ∈ (List.range len).map D := List.mem_map.2 ⟨i, List.mem_range.2 hi', rfl⟩
          have h2 := List.sizeOf_lt_of_mem hmem
          simp at h1
          omega
        obtain ⟨e, A, c, he⟩ := open_expr_by ih (x := (D i, Pl i)) hsz h2
        rw [k4] at h1
        exact ⟨(e, A, c), cs', h1, he⟩
      have : Inhabited (Ex × Option Addr × Nat) := ⟨(.mk 0 0 [] [], none, 0)⟩
      obtain ⟨f, hF⟩ := choose_lt hq
      have hlen : ((List.range len).map fun i => (f i).1).length = len := by simp
      refine ⟨some a, cap, (List.range len).map fun i => (f i).1, by rw [hlen]; exact e0, ?_, by rw [hlen]; omega⟩
      by_cases h0 : len = 0
      · subst h0; exact .nil _
      · have hab : a.block < w.heap.size := by
          obtain ⟨cs', h1, k, n', s, l, _, rfl, _⟩ := hF 0 (by omega)
          have := cell_ltO (show w.cell? ((a.add (0 * 4)).add 0) = some (.int .i64 k) from cells4_at h1 (by decide))
          rwa [block_adds, block_adds] at this
        have hget : ∀ i e, ((List.range len).map fun i => (f i).1)[i]? = some e → i < len ∧ (f i).1 = e := fun i e h => by
          have hi := (List.getElem?_eq_some_iff.1 h).1
          rw [hlen] at hi
          rw [List.getElem?_map, List.getElem?_range hi] at h
          exact ⟨hi, Option.some.inj h⟩
        refine .row a _ (fun i => (f i).2.1) (fun i => (f i).2.2) hab (fun i k n' s l h => ?_) (fun i k n' s l h => ?_)
        · obtain ⟨hi', he⟩ := hget i _ h
          obtain ⟨cs', h1, k', n'', s', l', h2, rfl, h3, h4, _⟩ := hF i hi'
          rw [he] at h2
          injection h2 with e1 e2 e3 e4
          subst e1 e2 e3 e4
          exact ⟨by simpa [Addr.add] using (cells4_at h1 (show 0 < 4 by decide)), cells4_at h1 (by decide), cells4_at h1 (by decide), cells4_at h1 (by decide), h3, h4⟩
        · obtain ⟨hi', he⟩ := hget i _ h
          obtain ⟨cs', h1, k', n'', s', l', h2, rfl, _, _, h5⟩ := hF i hi'
          rw [he] at h2
          injection h2 with e1 e2 e3 e4
          subst e4
          exact h5

set_option maxRecDepth 100000 in
theorem open_expr {x : DataW H × List MemPlace} {fuel : Nat} {cs : List Value} (h : DataW.trod enc Tryz.prog w 0 spare held fuel 24 cs = some x) : ∃ e A c, ExCs w cs e A c :=
  open_expr_by (N := SizeOf.sizeOf x.1) (fun y _ => open_exprs _ y (Nat.lt_succ_self _)) (Nat.le_refl _) h

set_option maxRecDepth 100000 in
/-- An argument of type api.Expr. -/
theorem open_exprA {b0 : Nat} {v : Value} {d : DataW H} {p : List MemPlace} (hv : Value.okWide Tryz.prog w .any b0 24 v) (h : DataW.Trod enc Tryz.prog w 0 spare held 24 v d p) :
    ∃ (k n : Int) (s : List UInt8) (l : List Ex) (A : Option Addr) (c : Nat), v = exprV k n ⟨s.toArray⟩ (.slice A l.length c) ∧ ExRow w w.heap.size l A ∧ s.length ≤ maxLen ∧ l.length ≤ maxLen := by
  obtain ⟨cs, rfl, _⟩ := okWide_struct Tryz.underlying24 hv
  obtain ⟨fuel, hf⟩ := h
  have hf : DataW.trod enc Tryz.prog w 0 spare held fuel 24 cs.toList = some (d, p) := by simpa [Value.cells] using hf
  obtain ⟨e, A, c, k, n, s, l, rfl, hcs, h1, h2, h3⟩ := open_expr hf
  refine ⟨k, n, s, l, A, c, ?_, h3, h1, h2⟩
  rw [show cs = #[.int .i64 k, .int .i64 n, .string ⟨s.toArray⟩, .slice A l.length c] from by apply Array.toList_inj.1; exact hcs]

end Go.Proofs.YtijglomghlbhfaaGreatDoor
