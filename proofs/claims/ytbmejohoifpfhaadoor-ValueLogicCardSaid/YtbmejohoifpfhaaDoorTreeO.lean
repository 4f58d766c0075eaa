/-
  Arguments of types api.Expr and api.Cond, opened to their trees. Arguments of type api.Cond. Arguments of type []api.Binding, opened to their rows.
-/
import Derived.Deep.Slices
import Derived.ChangeSame
import Derived.ChangeSlices
import Derived.Test.YtbmejohoifpfhaaDoorTreeL
import Derived.Test.YtbmejohoifpfhaaDoorTreeT
import Derived.Test.YtbmejohoifpfhaaDoorValW
namespace Go.Proofs.YtbmejohoifpfhaaDoor
open Go.RowKit Go.ChangeShapes Go.WideShapes Go.Deep

variable {H : Type} {enc : TypeId × Value → H} {w : World} {spare : Nat → Bool} {held : Bool}

theorem cells4_at {p : Addr} {b : Nat} {cs : List Value} {k : Nat} (h : w.cells? b p k = some cs) {j : Nat} (hj : j < k) : w.cell? (p.add j) = cs[j]? := (World.cells?_some h).2.2 j hj

theorem cell_ltO {w : World} {a : Addr} {v : Value} (h : w.cell? a = some v) : a.block < w.heap.size := World.block_lt_of_cell? w a h

/-- An expression's cells. -/
def ExCs (w : World) (cs : List Value) (e : Ex) (A : Option Addr) (c : Nat) : Prop :=
  ∃ k n s l, e = .mk k n s l ∧ cs = [.int .i64 k, .int .i64 n, .string ⟨s.toArray⟩, .slice A l.length c] ∧ s.length ≤ maxLen ∧ l.length ≤ maxLen ∧ ExRow w w.heap.size l A

set_option maxRecDepth 100000 in
theorem open_expr_by {N : Nat} (IH : ∀ (x : DataW H × List MemPlace), SizeOf.sizeOf x.1 < N → ∀ fuel cs, DataW.trod enc Tryd.prog w 0 spare held fuel 34 cs = some x → ∃ A c es, cs = [.slice A es.length c] ∧ ExRow w w.heap.size es A ∧ es.length ≤ maxLen)
    {x : DataW H × List MemPlace} (hx : SizeOf.sizeOf x.1 ≤ N) {fuel : Nat} {cs : List Value} (h : DataW.trod enc Tryd.prog w 0 spare held fuel 36 cs = some x) : ∃ e A c, ExCs w cs e A c := by
  obtain ⟨ys, n, _, hx1, hlen, hyl, hf⟩ := DataW.trod_struct (fs := _) Tryd.underlying36 h
  have hlen2 : cs.length = 4 := hlen.trans (by kernel_rfl)
  have e0 := hf 0 _ rfl
  have e1 := hf 1 _ rfl
  have e2 := hf 2 _ rfl
  have e3 := hf 3 _ rfl
  match cs, hlen2 with
  | [u0, u1, u2, u3], _ =>
    match ys, hyl with
    | [y0, y1, y2, y3], _ =>
      have k1 : Tryd.prog.cellsOf 3 = 1 := by kernel_rfl
      have k2 : Tryd.prog.cellsOf 9 = 1 := by kernel_rfl
      have k3 : Tryd.prog.cellsOf 34 = 1 := by kernel_rfl
      obtain ⟨a, ha, _⟩ := DataW.trod_int (x := y0) (cs := [u0]) Tryd.underlying3 (by simpa [k1] using e0)
      obtain ⟨b, hb, _⟩ := DataW.trod_int (x := y1) (cs := [u1]) Tryd.underlying3 (by simpa [k1] using e1)
      obtain ⟨s, hs, _, hz⟩ := DataW.trod_string (x := y2) (cs := [u2]) Tryd.underlying9 (by simpa [k2] using e2)
      have hsz : SizeOf.sizeOf y3.1 < N := by
        have h1 : SizeOf.sizeOf x.1 ≤ N := hx
        rw [hx1] at h1
        simp at h1
        omega
      obtain ⟨A, c, es, he, hr, hl⟩ := IH y3 hsz n [u3] (by simpa [k3] using e3)
      injection ha with ha; injection hb with hb; injection hs with hs; injection he with he
      exact ⟨.mk a b s.data.toList es, A, c, a, b, s.data.toList, es, rfl, by rw [ha, hb, hs, he], hz, hl, hr⟩

set_option maxRecDepth 100000 in
theorem open_exprs : ∀ (N : Nat) (x : DataW H × List MemPlace), SizeOf.sizeOf x.1 < N → ∀ fuel cs, DataW.trod enc Tryd.prog w 0 spare held fuel 34 cs = some x → ∃ A c es, cs = [.slice A es.length c] ∧ ExRow w w.heap.size es A ∧ es.length ≤ maxLen := by
  intro N
  induction N with
  | zero => intro x h; omega
  | succ N ih =>
    intro x hx fuel cs h
    rcases open_slice Tryd.underlying34 h with ⟨e0, _⟩ | ⟨a, len, cap, m, n, D, Pl, e0, hb, hl, hm, hmm, hxx, hi⟩
    · exact ⟨none, 0, [], e0, .nil _, Nat.zero_le _⟩
    · have hlm : len ≤ m := by rw [hmm]; split <;> omega
      have k4 : Tryd.prog.cellsOf 36 = 4 := by kernel_rfl
      have hq : ∀ i, i < len → ∃ t : Ex × Option Addr × Nat, ∃ cs', w.cells? 0 (a.add (i * 4)) 4 = some cs' ∧ ExCs w cs' t.1 t.2.1 t.2.2 := fun i hi' => by
        obtain ⟨cs', h1, h2⟩ := hi i (by omega)
        have hsz : SizeOf.sizeOf (D i) ≤ N := by
          have h1 := hx
          rw [hxx] at h1
          have hmem : D i ∈ (List.range len).map D := List.mem_map.2 ⟨i, List.mem_range.2 hi', rfl⟩
          have h2 := List.sizeOf_lt_of_mem hmem
          simp at h1
          omega
        obtain ⟨e, A, c, he⟩ := open_expr_by ih (x := (D i, Pl i)) hsz h2
        rw [k4] at h1
        exact ⟨(e, A, c), cs', h1, he⟩
      have : Inhabited (Ex × Option Addr × Nat) := ⟨(.mk 0 0 [] [], none, 0)⟩
      obtain ⟨f, hF⟩ := choose_lt hq
      have hlen : ((List.range len).map fun i => (f i).1).length = len := by simp
      refine ⟨some a, cap, (List.range len).map fun i => (f i).1, by rw [hlen]; exact e0, ?_, by rw [hlen]; omega⟩
      by_cases h0 : len = 0
      · subst h0; exact .nil _
      · have hab : a.block < w.heap.size := by
          obtain ⟨cs', h1, k, n', s, l, _, rfl, _⟩ := hF 0 (by omega)
          have := cell_ltO (show w.cell? ((a.add (0 * 4)).add 0) = some (.int .i64 k) from cells4_at h1 (by decide))
          rwa [block_adds, block_adds] at this
        have hget : ∀ i e, ((List.range len).map fun i => (f i).1)[i]? = some e → i < len ∧ (f i).1 = e := fun i e h => by
          have hi := (List.getElem?_eq_some_iff.1 h).1
          rw [hlen] at hi
          rw [List.getElem?_map, List.getElem?_range hi] at h
          exact ⟨hi, Option.some.inj h⟩
        refine .row a _ (fun i => (f i).2.1) (fun i => (f i).2.2) hab (fun i k n' s l h => ?_) (fun i k n' s l h => ?_)
        · obtain ⟨hi', he⟩ := hget i _ h
          obtain ⟨cs', h1, k', n'', s', l', h2, rfl, h3, h4, _⟩ := hF i hi'
          rw [he] at h2
          injection h2 with e1 e2 e3 e4
          subst e1 e2 e3 e4
          exact ⟨by simpa [Addr.add] using (cells4_at h1 (show 0 < 4 by decide)), cells4_at h1 (by decide), cells4_at h1 (by decide), cells4_at h1 (by decide), h3, h4⟩
        · obtain ⟨hi', he⟩ := hget i _ h
          obtain ⟨cs', h1, k', n'', s', l', h2, rfl, _, _, h5⟩ := hF i hi'
          rw [he] at h2
          injection h2 with e1 e2 e3 e4
          subst e4
          exact h5

set_option maxRecDepth 100000 in
theorem open_expr {x : DataW H × List MemPlace} {fuel : Nat} {cs : List Value} (h : DataW.trod enc Tryd.prog w 0 spare held fuel 36 cs = some x) : ∃ e A c, ExCs w cs e A c :=
  open_expr_by (N := SizeOf.sizeOf x.1) (fun y _ => open_exprs _ y (Nat.lt_succ_self _)) (Nat.le_refl _) h

set_option maxRecDepth 100000 in
/-- An argument of type api.Expr. -/
theorem open_exprA {b0 : Nat} {v : Value} {d : DataW H} {p : List MemPlace} (hv : Value.okWide Tryd.prog w .any b0 36 v) (h : DataW.Trod enc Tryd.prog w 0 spare held 36 v d p) :
    ∃ (k n : Int) (s : List UInt8) (l : List Ex) (A : Option Addr) (c : Nat), v = exprV k n ⟨s.toArray⟩ (.slice A l.length c) ∧ ExRow w w.heap.size l A ∧ s.length ≤ maxLen ∧ l.length ≤ maxLen := by
  obtain ⟨cs, rfl, _⟩ := okWide_struct Tryd.underlying36 hv
  obtain ⟨fuel, hf⟩ := h
  have hf : DataW.trod enc Tryd.prog w 0 spare held fuel 36 cs.toList = some (d, p) := by simpa [Value.cells] using hf
  obtain ⟨e, A, c, k, n, s, l, rfl, hcs, h1, h2, h3⟩ := open_expr hf
  refine ⟨k, n, s, l, A, c, ?_, h3, h1, h2⟩
  rw [show cs = #[.int .i64 k, .int .i64 n, .string ⟨s.toArray⟩, .slice A l.length c] from by apply Array.toList_inj.1; exact hcs]

end Go.Proofs.YtbmejohoifpfhaaDoor

namespace Go.Proofs.YtbmejohoifpfhaaDoor
open Go.RowKit Go.ChangeShapes Go.WideShapes Go.Deep

variable {H : Type} {enc : TypeId × Value → H} {w : World} {spare : Nat → Bool} {held : Bool}

/-- A condition's cells. -/
def CnCs (w : World) (cs : List Value) (e : Cn) (Aa : Option Addr) (ca : Nat) (Ab : Option Addr) (cb : Nat) (Al : Option Addr) (cl : Nat) : Prop :=
  ∃ (k ak an : Int) (sa : List UInt8) (al : List Ex) (bk bn : Int) (sb : List UInt8) (bl : List Ex) (l : List Cn), e = .mk k (.mk ak an sa al) (.mk bk bn sb bl) l ∧ cs = [.int .i64 k, .int .i64 ak, .int .i64 an, .string ⟨sa.toArray⟩, .slice Aa al.length ca, .int .i64 bk, .int .i64 bn, .string ⟨sb.toArray⟩, .slice Ab bl.length cb, .slice Al l.length cl] ∧
    (sa.length ≤ maxLen ∧ al.length ≤ maxLen ∧ sb.length ≤ maxLen ∧ bl.length ≤ maxLen ∧ l.length ≤ maxLen) ∧ ExRow w w.heap.size al Aa ∧ ExRow w w.heap.size bl Ab ∧ CnRow w w.heap.size l Al

set_option maxRecDepth 100000 in
theorem open_cond_by {N : Nat} (IH : ∀ (x : DataW H × List MemPlace), SizeOf.sizeOf x.1 < N → ∀ fuel cs, DataW.trod enc Tryd.prog w 0 spare held fuel 37 cs = some x → ∃ A c es, cs = [.slice A es.length c] ∧ CnRow w w.heap.size es A ∧ es.length ≤ maxLen)
    {x : DataW H × List MemPlace} (hx : SizeOf.sizeOf x.1 ≤ N) {fuel : Nat} {cs : List Value} (h : DataW.trod enc Tryd.prog w 0 spare held fuel 39 cs = some x) : ∃ e Aa ca Ab cb Al cl, CnCs w cs e Aa ca Ab cb Al cl := by
  obtain ⟨ys, n, _, hx1, hlen, hyl, hf⟩ := DataW.trod_struct (fs := _) Tryd.underlying39 h
  have hlen2 : cs.length = 10 := hlen.trans (by kernel_rfl)
  have e0 := hf 0 _ rfl
  have e1 := hf 1 _ rfl
  have e2 := hf 2 _ rfl
  have e3 := hf 3 _ rfl
  match cs, hlen2 with
  | [u0, u1, u2, u3, u4, u5, u6, u7, u8, u9], _ =>
    match ys, hyl with
    | [y0, y1, y2, y3], _ =>
      have k1 : Tryd.prog.cellsOf 3 = 1 := by kernel_rfl
      have k2 : Tryd.prog.cellsOf 36 = 4 := by kernel_rfl
      have k3 : Tryd.prog.cellsOf 37 = 1 := by kernel_rfl
      obtain ⟨a, ha, _⟩ := DataW.trod_int (x := y0) (cs := [u0]) Tryd.underlying3 (by simpa [k1] using e0)
      obtain ⟨ea, Aa, ca, ak, an, sa, al, rfl, hca, p1, p2, p3⟩ := open_expr (x := y1) (cs := [u1, u2, u3, u4]) (by simpa [k2] using e1)
      obtain ⟨eb, Ab, cb, bk, bn, sb, bl, rfl, hcb, q1, q2, q3⟩ := open_expr (x := y2) (cs := [u5, u6, u7, u8]) (by simpa [k2] using e2)
      have hsz : SizeOf.sizeOf y3.1 < N := by
        have h1 : SizeOf.sizeOf x.1 ≤ N := hx
        rw [hx1] at h1
        simp at h1
        omega
      obtain ⟨A, c, es, he, hr, hl⟩ := IH y3 hsz n [u9] (by simpa [k3] using e3)
      injection ha with ha
      injection he with he
      injection hca with a1 a2
      injection a2 with a2 a3
      injection a3 with a3 a4
      injection a4 with a4 _
      injection hcb with b1 b2
      injection b2 with b2 b3
      injection b3 with b3 b4
      injection b4 with b4 _
      exact ⟨.mk a (.mk ak an sa al) (.mk bk bn sb bl) es, Aa, ca, Ab, cb, A, c, a, ak, an, sa, al, bk, bn, sb, bl, es, rfl, by rw [ha, he, a1, a2, a3, a4, b1, b2, b3, b4], ⟨p1, p2, q1, q2, hl⟩, p3, q3, hr⟩

abbrev CTup : Type := Cn × (Option Addr × Nat) × (Option Addr × Nat) × (Option Addr × Nat)

set_option maxRecDepth 100000 in
theorem open_conds : ∀ (N : Nat) (x : DataW H × List MemPlace), SizeOf.sizeOf x.1 < N → ∀ fuel cs, DataW.trod enc Tryd.prog w 0 spare held fuel 37 cs = some x → ∃ A c es, cs = [.slice A es.length c] ∧ CnRow w w.heap.size es A ∧ es.length ≤ maxLen := by
  intro N
  induction N with
  | zero => intro x h; omega
  | succ N ih =>
    intro x hx fuel cs h
    rcases open_slice Tryd.underlying37 h with ⟨e0, _⟩ | ⟨a, len, cap, m, n, D, Pl, e0, hb, hl, hm, hmm, hxx, hi⟩
    · exact ⟨none, 0, [], e0, .nil _, Nat.zero_le _⟩
    · have hlm : len ≤ m := by rw [hmm]; split <;> omega
      have k4 : Tryd.prog.cellsOf 39 = 10 := by kernel_rfl
      have hq : ∀ i, i < len → ∃ t : CTup, ∃ cs', w.cells? 0 (a.add (i * 10)) 10 = some cs' ∧ CnCs w cs' t.1 t.2.1.1 t.2.1.2 t.2.2.1.1 t.2.2.1.2 t.2.2.2.1 t.2.2.2.2 := fun i hi' => by
        obtain ⟨cs', h1, h2⟩ := hi i (by omega)
        have hsz : SizeOf.sizeOf (D i) ≤ N := by
          have h1 := hx
          rw [hxx] at h1
          have hmem : D i ∈ (List.range len).map D := List.mem_map.2 ⟨i, List.mem_range.2 hi', rfl⟩
          have h2 := List.sizeOf_lt_of_mem hmem
          simp at h1
          omega
        obtain ⟨e, Aa, ca, Ab, cb, Al, cl, he⟩ := open_cond_by ih (x := (D i, Pl i)) hsz h2
        rw [k4] at h1
        exact ⟨(e, (Aa, ca), (Ab, cb), (Al, cl)), cs', h1, he⟩
      have : Inhabited CTup := ⟨(.mk 0 (.mk 0 0 [] []) (.mk 0 0 [] []) [], (none, 0), (none, 0), (none, 0))⟩
      obtain ⟨f, hF⟩ := choose_lt hq
      have hlen : ((List.range len).map fun i => (f i).1).length = len := by simp
      refine ⟨some a, cap, (List.range len).map fun i => (f i).1, by rw [hlen]; exact e0, ?_, by rw [hlen]; omega⟩
      by_cases h0 : len = 0
      · subst h0; exact .nil _
      · have hab : a.block < w.heap.size := by
          obtain ⟨cs', h1, k, ak, an, sa, al, bk, bn, sb, bl, l, _, rfl, _⟩ := hF 0 (by omega)
          have := cell_ltO (show w.cell? ((a.add (0 * 10)).add 0) = some (.int .i64 k) from cells4_at h1 (by decide))
          rwa [block_adds, block_adds] at this
        have hget : ∀ i e, ((List.range len).map fun i => (f i).1)[i]? = some e → i < len ∧ (f i).1 = e := fun i e h => by
          have hi := (List.getElem?_eq_some_iff.1 h).1
          rw [hlen] at hi
          rw [List.getElem?_map, List.getElem?_range hi] at h
          exact ⟨hi, Option.some.inj h⟩
        refine .row a _ (fun i => (f i).2.1.1) (fun i => (f i).2.2.1.1) (fun i => (f i).2.2.2.1) (fun i => (f i).2.1.2) (fun i => (f i).2.2.1.2) (fun i => (f i).2.2.2.2) hab (fun i k ak an sa al bk bn sb bl l h => ?_) (fun i k ak an sa al bk bn sb bl l h => ?_)
        · obtain ⟨hi', he⟩ := hget i _ h
          obtain ⟨cs', h1, k', ak', an', sa', al', bk', bn', sb', bl', l', h2, rfl, ⟨b1, b2, b3, b4, b5⟩, ra, rb, rl⟩ := hF i hi'
          rw [he] at h2
          injection h2 with e1 e2 e3 e4
          injection e2 with f1 f2 f3 f4
          injection e3 with g1 g2 g3 g4
          subst e1 e4 f1 f2 f3 f4 g1 g2 g3 g4
          exact ⟨⟨by simpa [Addr.add] using (cells4_at h1 (show 0 < 10 by decide)), cells4_at h1 (by decide), cells4_at h1 (by decide), cells4_at h1 (by decide), cells4_at h1 (by decide), cells4_at h1 (by decide), cells4_at h1 (by decide), cells4_at h1 (by decide), cells4_at h1 (by decide), cells4_at h1 (by decide)⟩, b1, b2, b3, b4, b5, ra, rb⟩
        · obtain ⟨hi', he⟩ := hget i _ h
          obtain ⟨cs', h1, k', ak', an', sa', al', bk', bn', sb', bl', l', h2, rfl, _, ra, rb, rl⟩ := hF i hi'
          rw [he] at h2
          injection h2 with e1 e2 e3 e4
          subst e4
          exact rl

set_option maxRecDepth 100000 in
/-- An argument of type api.Cond. -/
theorem open_condA {b0 : Nat} {v : Value} {d : DataW H} {p : List MemPlace} (hv : Value.okWide Tryd.prog w .any b0 39 v) (h : DataW.Trod enc Tryd.prog w 0 spare held 39 v d p) :
    ∃ (k ak an : Int) (sa : List UInt8) (al : List Ex) (bk bn : Int) (sb : List UInt8) (bl : List Ex) (l : List Cn) (Aa : Option Addr) (ca : Nat) (Ab : Option Addr) (cb : Nat) (Al : Option Addr) (cl : Nat), v = condV2 k ak an ⟨sa.toArray⟩ (.slice Aa al.length ca) bk bn ⟨sb.toArray⟩ (.slice Ab bl.length cb) (.slice Al l.length cl) ∧
      (sa.length ≤ maxLen ∧ al.length ≤ maxLen ∧ sb.length ≤ maxLen ∧ bl.length ≤ maxLen ∧ l.length ≤ maxLen) ∧ ExRow w w.heap.size al Aa ∧ ExRow w w.heap.size bl Ab ∧ CnRow w w.heap.size l Al := by
  obtain ⟨cs, rfl, _⟩ := okWide_struct Tryd.underlying39 hv
  obtain ⟨fuel, hf⟩ := h
  have hf : DataW.trod enc Tryd.prog w 0 spare held fuel 39 cs.toList = some (d, p) := by simpa [Value.cells] using hf
  obtain ⟨e, Aa, ca, Ab, cb, Al, cl, k, ak, an, sa, al, bk, bn, sb, bl, l, rfl, hcs, hb, ra, rb, rl⟩ := open_cond_by (N := SizeOf.sizeOf d) (fun y _ => open_conds _ y (Nat.lt_succ_self _)) (Nat.le_refl _) hf
  refine ⟨k, ak, an, sa, al, bk, bn, sb, bl, l, Aa, ca, Ab, cb, Al, cl, ?_, hb, ra, rb, rl⟩
  rw [show cs = #[.int .i64 k, .int .i64 ak, .int .i64 an, .string ⟨sa.toArray⟩, .slice Aa al.length ca, .int .i64 bk, .int .i64 bn, .string ⟨sb.toArray⟩, .slice Ab bl.length cb, .slice Al l.length cl] from by apply Array.toList_inj.1; exact hcs]

end Go.Proofs.YtbmejohoifpfhaaDoor

namespace Go.Proofs.YtbmejohoifpfhaaDoor
open Go.RowKit Go.ChangeShapes Go.WideShapes Go.Deep

variable {H : Type} {enc : TypeId × Value → H} {w : World} {spare : Nat → Bool} {held : Bool}

instance : Inhabited Bd := ⟨⟨[], 0⟩⟩

theorem open_rows {α : Type} [Inhabited α] {P : World → Nat → Addr → α → Prop} {n : Nat} (hn : 0 < n) {T E : TypeId} (hT : Tryd.prog.underlying T = some (.slice E)) (hE : Tryd.prog.cellsOf E = n)
    (hP : ∀ (x : DataW H × List MemPlace) fuel cs p, DataW.trod enc Tryd.prog w 0 spare held fuel E cs = some x → w.cells? 0 p n = some cs → ∃ e, P w w.heap.size p e)
    {x : DataW H × List MemPlace} {fuel : Nat} {cs : List Value} (h : DataW.trod enc Tryd.prog w 0 spare held fuel T cs = some x) : ∃ A c es, cs = [.slice A es.length c] ∧ RowX P n w w.heap.size es A ∧ es.length ≤ maxLen := by
  rcases open_slice hT h with ⟨e0, _⟩ | ⟨a, len, cap, m, n', D, Pl, e0, hb, hl, hm, hmm, hxx, hi⟩
  · exact ⟨none, 0, [], e0, .nil _, Nat.zero_le _⟩
  · have hlm : len ≤ m := by rw [hmm]; split <;> omega
    rw [hE] at hi
    have hq : ∀ i, i < len → ∃ t : α, P w w.heap.size (a.add (i * n)) t := fun i hi' => by
      obtain ⟨cs', h1, h2⟩ := hi i (by omega)
      exact hP (D i, Pl i) _ cs' _ h2 h1
    obtain ⟨f, hF⟩ := choose_lt hq
    have hlen : ((List.range len).map f).length = len := by simp
    refine ⟨some a, cap, (List.range len).map f, by rw [hlen]; exact e0, ?_, by rw [hlen]; omega⟩
    by_cases h0 : len = 0
    · subst h0; exact .nil _
    · have hab : a.block < w.heap.size := by
        obtain ⟨cs', h1, _⟩ := hi 0 (by omega)
        have hl' := (World.cells?_some h1).2.1
        have h3 := cells4_at h1 hn
        rw [List.getElem?_eq_getElem (by omega)] at h3
        have := cell_ltO h3
        rwa [block_adds, block_adds] at this
      refine .row a _ hab (fun i x h => ?_)
      have hi' := (List.getElem?_eq_some_iff.1 h).1
      rw [hlen] at hi'
      rw [List.getElem?_map, List.getElem?_range hi'] at h
      obtain rfl := Option.some.inj h
      exact hF i hi'

theorem cell_at0 {p : Addr} {b : Nat} {cs : List Value} {k : Nat} (h : w.cells? b p k = some cs) (hk : 0 < k) : w.cell? p = cs[0]? := by
  simpa [Addr.add] using cells4_at h hk


set_option maxRecDepth 100000 in
theorem open_binding {x : DataW H × List MemPlace} {fuel : Nat} {cs : List Value} (p : Addr) (h : DataW.trod enc Tryd.prog w 0 spare held fuel 26 cs = some x) (hc : w.cells? 0 p 2 = some cs) : ∃ e, BdAt w w.heap.size p e := by
  obtain ⟨ys, n, _, hx1, hlen, hyl, hf⟩ := DataW.trod_struct (fs := _) Tryd.underlying26 h
  have hlen2 : cs.length = 2 := hlen.trans (by kernel_rfl)
  have e0 := hf 0 _ rfl
  have e1 := hf 1 _ rfl
  match cs, hlen2 with
  | [u0, u1], _ =>
    match ys, hyl with
    | [y0, y1], _ =>
      have k1 : Tryd.prog.cellsOf 3 = 1 := by kernel_rfl
      have k2 : Tryd.prog.cellsOf 9 = 1 := by kernel_rfl
      obtain ⟨s, hs, _, hz⟩ := DataW.trod_string (x := y0) (cs := [u0]) Tryd.underlying9 (by simpa [k2] using e0)
      obtain ⟨a, ha, _⟩ := DataW.trod_int (x := y1) (cs := [u1]) Tryd.underlying3 (by simpa [k1] using e1)
      injection hs with hs; injection ha with ha
      subst hs ha
      exact ⟨⟨s.data.toList, a⟩, cell_at0 hc (by decide), cells4_at hc (by decide), hz⟩

set_option maxRecDepth 100000 in
/-- An argument of type []api.Binding. -/
theorem open_storeA {b0 : Nat} {v : Value} {d : DataW H} {p : List MemPlace} (hv : Value.okWide Tryd.prog w .any b0 22 v) (h : DataW.Trod enc Tryd.prog w 0 spare held 22 v d p) :
    ∃ (A : Option Addr) (c : Nat) (l : List Bd), v = .slice A l.length c ∧ BdRow w w.heap.size l A ∧ l.length ≤ maxLen ∧ (l.length ≤ c ∧ c ≤ maxLen ∧ (A = none → c = 0)) := by
  obtain ⟨A, n0, c0, rfl⟩ := okWide_slice Tryd.underlying22 hv
  obtain ⟨fuel, hf⟩ := h
  have hf : DataW.trod enc Tryd.prog w 0 spare held fuel 22 [.slice A n0 c0] = some (d, p) := by simpa [Value.cells] using hf
  obtain ⟨A', c', es, he, hr, hl⟩ := open_rows (P := BdAt) (n := 2) (by decide) Tryd.underlying22 (by kernel_rfl) (fun x fuel cs p h1 h2 => open_binding p h1 h2) hf
  injection he with he
  injection he with e1 e2 e3
  subst e1 e2 e3
  refine ⟨A, c0, es, rfl, hr, hl, ?_⟩
  rcases open_slice Tryd.underlying22 hf with ⟨e0, _⟩ | ⟨a, len, cap, m, n, D, Pl, e0, hb, hll, hm, hmm, hx, hi⟩
  · injection e0 with e0
    injection e0 with e1 e2 e3
    subst e1 e3
    exact ⟨by omega, Nat.zero_le _, fun _ => rfl⟩
  · injection e0 with e0
    injection e0 with e1 e2 e3
    subst e1 e2 e3
    exact ⟨hll, by omega, fun h => by cases h⟩

end Go.Proofs.YtbmejohoifpfhaaDoor
