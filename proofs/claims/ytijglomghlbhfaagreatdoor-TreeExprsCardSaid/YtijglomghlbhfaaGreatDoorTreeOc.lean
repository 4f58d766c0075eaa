/-
  Arguments of type api.Cond.
-/
import Derived.Test.YtijglomghlbhfaaGreatDoorTreeO
import Derived.Test.YtijglomghlbhfaaGreatDoorTreeK
namespace Go.Proofs.YtijglomghlbhfaaGreatDoor
open Go.RowKit Go.ChangeShapes Go.WideShapes Go.Deep

variable {H : Type} {enc : TypeId × Value → H} {w : World} {spare : Nat → Bool} {held : Bool}

/-- A condition's cells. -/
def CnCs (w : World) (cs : List Value) (e : Cn) (Aa : Option Addr) (ca : Nat) (Ab : Option Addr) (cb : Nat) (Al : Option Addr) (cl : Nat) : Prop :=
  ∃ (k ak an : Int) (sa : List UInt8) (al : List Ex) (bk bn : Int) (sb : List UInt8) (bl : List Ex) (l : List Cn), e = .mk k (.mk ak an sa al) (.mk bk bn sb bl) l ∧ cs = [.int .i64 k, .int .i64 ak, .int .i64 an, .string ⟨sa.toArray⟩, .slice Aa al.length ca, .int .i64 bk, .int .i64 bn, .string ⟨sb.toArray⟩, .slice Ab bl.length cb, .slice Al l.length cl] ∧
    (sa.length ≤ maxLen ∧ al.length ≤ maxLen ∧ sb.length ≤ maxLen ∧ bl.length ≤ maxLen ∧ l.length ≤ maxLen) ∧ ExRow w w.heap.size al Aa ∧ ExRow w w.heap.size bl Ab ∧ CnRow w w.heap.size l Al

set_option maxRecDepth 100000 in
theorem open_cond_by {N : Nat} (IH : ∀ (x : DataW H × List MemPlace), SizeOf.sizeOf x.1 < N → ∀ fuel cs, DataW.trod enc Tryz.prog w 0 spare held fuel 25 cs = some x → ∃ A c es, cs = [.slice A es.length c] ∧ CnRow w w.heap.size es A ∧ es.length ≤ maxLen)
    {x : DataW H × List MemPlace} (hx : SizeOf.sizeOf x.1 ≤ N) {fuel : Nat} {cs : List Value} (h : DataW.trod enc Tryz.prog w 0 spare held fuel 27 cs = some x) : ∃ e Aa ca Ab cb Al cl, CnCs w cs e Aa ca Ab cb Al cl := by
  obtain ⟨ys, n, _, hx1, hlen, hyl, hf⟩ := DataW.trod_struct (fs := _) Tryz.underlying27 h
  have hlen2 : cs.length = 10 := hlen.trans (by kernel_rfl)
  have e0 := hf 0 _ rfl
  have e1 := hf 1 _ rfl
  have e2 := hf 2 _ rfl
  have e3 := hf 3 _ rfl
  match cs, hlen2 with
  | [u0, u1, u2, u3, u4, u5, u6, u7, u8, u9], _ =>
    match ys, hyl with
    | [y0, y1, y2, y3], _ =>
      have k1 : Tryz.prog.cellsOf 3 = 1 := by kernel_rfl
      have k2 : Tryz.prog.cellsOf 24 = 4 := by kernel_rfl
      have k3 : Tryz.prog.cellsOf 25 = 1 := by kernel_rfl
      obtain ⟨a, ha, _⟩ := DataW.trod_int (x := y0) (cs := [u0]) Tryz.underlying3 (by simpa [k1] using e0)
      obtain ⟨ea, Aa, ca, ak, an, sa, al, rfl, hca, p1, p2, p3⟩ := open_expr (x := y1) (cs := [u1, u2, u3, u4]) (by simpa [k2] using e1)
      obtain ⟨eb, Ab, cb, bk, bn, sb, bl, rfl, hcb, q1, q2, q3⟩ := open_expr (x := y2) (cs := [u5, u6, u7, u8]) (by simpa [k2] using e2)
      have hsz : SizeOf.sizeOf y3.1 < N := by
        have h1 : SizeOf.sizeOf x.1 ≤ N := hx
        rw [hx1] at h1
        simp at h1
        omega
      obtain ⟨A, c, es, he, hr, hl⟩ := IH y3 hsz n [u9] (by simpa [k3] using e3)
      injection ha with ha
      injection he with he
      injection hca with a1 a2
      injection a2 with a2 a3
      injection a3 with a3 a4
      injection a4 with a4 _
      injection hcb with b1 b2
      injection b2 with b2 b3
      injection b3 with b3 b4
      injection b4 with b4 _
      exact ⟨.mk a (.mk ak an sa al) (.mk bk bn sb bl) es, Aa, ca, Ab, cb, A, c, a, ak, an, sa, al, bk, bn, sb, bl, es, rfl, by rw [ha, he, a1, a2, a3, a4, b1, b2, b3, b4], ⟨p1, p2, q1, q2, hl⟩, p3, q3, hr⟩

abbrev CTup : Type := Cn × (Option Addr × Nat) × (Option Addr × Nat) × (Option Addr × Nat)

set_option maxRecDepth 100000 in
theorem open_conds : ∀ (N : Nat) (x : DataW H × List MemPlace), SizeOf.sizeOf x.1 < N → ∀ fuel cs, DataW.trod enc Tryz.prog w 0 spare held fuel 25 cs = some x → ∃ A c es, cs = [.slice A es.length c] ∧ CnRow w w.heap.size es A ∧ es.length ≤ maxLen := by
  intro N
  induction N with
  | zero => intro x h; omega
  | succ N ih =>
    intro x hx fuel cs h
    rcases open_slice Tryz.underlying25 h with ⟨e0, _⟩ | ⟨a, len, cap, m, n, D, Pl, e0, hb, hl, hm, hmm, hxx, hi⟩
    · exact ⟨none, 0, [], e0, .nil _, Nat.zero_le _⟩
    · have hlm : len ≤ m := by rw [hmm]; split <;> omega
      have k4 : Tryz.prog.cellsOf 27 = 10 := by kernel_rfl
      have hq : ∀ i, i < len → ∃ t : CTup, ∃ cs', w.cells? 0 (a.add (i * 10)) 10 = some cs' ∧ CnCs w cs' t.1 t.2.1.1 t.2.1.2 t.2.2.1.1 t.2.2.1.2 t.2.2.2.1 t.2.2.2.2 := fun i hi' => by
        obtain ⟨cs', h1, h2⟩ := hi i (by omega)
        have hsz : SizeOf.sizeOf (D i) ≤ N := by
          have h1 := hx
          rw [hxx] at h1
          have hmem : D i ∈ (List.range len).map D := List.mem_map.2 ⟨i, List.mem_range.2 hi', rfl⟩
          have h2 := List.sizeOf_lt_of_mem hmem
          simp at h1
          omega
        obtain ⟨e, Aa, ca, Ab, cb, Al, cl, he⟩ := open_cond_by ih (x := (D i, Pl i)) hsz h2
        rw [k4] at h1
        exact ⟨(e, (Aa, ca), (Ab, cb), (Al, cl)), cs', h1, he⟩
      have : Inhabited CTup := ⟨(.mk 0 (.mk 0 0 [] []) (.mk 0 0 [] []) [], (none, 0), (none, 0), (none, 0))⟩
      obtain ⟨f, hF⟩ := choose_lt hq
      have hlen : ((List.range len).map fun i => (f i).1).length = len := by simp
      refine ⟨some a, cap, (List.range len).map fun i => (f i).1, by rw [hlen]; exact e0, ?_, by rw [hlen]; omega⟩
      by_cases h0 : len = 0
      · subst h0; exact .nil _
      · have hab : a.block < w.heap.size := by
          obtain ⟨cs', h1, k, ak, an, sa, al, bk, bn, sb, bl, l, _, rfl, _⟩ := hF 0 (by omega)
          have := cell_ltO (show w.cell? ((a.add (0 * 10)).add 0) = some (.int .i64 k) from cells4_at h1 (by decide))
          rwa [block_adds, block_adds] at this
        have hget : ∀ i e, ((List.range len).map fun i => (f i).1)[i]? = some e → i < len ∧ (f i).1 = e := fun i e h => by
          have hi := (List.getElem?_eq_some_iff.1 h).1
          rw [hlen] at hi
          rw [List.getElem?_map, List.getElem?_range hi] at h
          exact ⟨hi, Option.some.inj h⟩
        refine .row a _ (fun i => (f i).2.1.1) (fun i => (f i).2.2.1.1) (fun i => (f i).2.2.2.1) (fun i => (f i).2.1.2) (fun i => (f i).2.2.1.2) (fun i => (f i).2.2.2.2) hab (fun i k ak an sa al bk bn sb bl l h => ?_) (fun i k ak an sa al bk bn sb bl l h => ?_)
        · obtain ⟨hi', he⟩ := hget i _ h
          obtain ⟨cs', h1, k', ak', an', sa', al', bk', bn', sb', bl', l', h2, rfl, ⟨b1, b2, b3, b4, b5⟩, ra, rb, rl⟩ := hF i hi'
          rw [he] at h2
          injection h2 with e1 e2 e3 e4
          injection e2 with f1 f2 f3 f4
          injection e3 with g1 g2 g3 g4
          subst e1 e4 f1 f2 f3 f4 g1 g2 g3 g4
          exact ⟨⟨by simpa [Addr.add] using (cells4_at h1 (show 0 < 10 by decide)), cells4_at h1 (by decide), cells4_at h1 (by decide), cells4_at h1 (by decide), cells4_at h1 (by decide), cells4_at h1 (by decide), cells4_at h1 (by decide), cells4_at h1 (by decide), cells4_at h1 (by decide), cells4_at h1 (by decide)⟩, b1, b2, b3, b4, b5, ra, rb⟩
        · obtain ⟨hi', he⟩ := hget i _ h
          obtain ⟨cs', h1, k', ak', an', sa', al', bk', bn', sb', bl', l', h2, rfl, _, ra, rb, rl⟩ := hF i hi'
          rw [he] at h2
          injection h2 with e1 e2 e3 e4
          subst e4
          exact rl

set_option maxRecDepth 100000 in
/-- An argument of type api.Cond. -/
theorem open_condA {b0 : Nat} {v : Value} {d : DataW H} {p : List MemPlace} (hv : Value.okWide Tryz.prog w .any b0 27 v) (h : DataW.Trod enc Tryz.prog w 0 spare held 27 v d p) :
    ∃ (k ak an : Int) (sa : List UInt8) (al : List Ex) (bk bn : Int) (sb : List UInt8) (bl : List Ex) (l : List Cn) (Aa : Option Addr) (ca : Nat) (Ab : Option Addr) (cb : Nat) (Al : Option Addr) (cl : Nat), v = condV2 k ak an ⟨sa.toArray⟩ (.slice Aa al.length ca) bk bn ⟨sb.toArray⟩ (.slice Ab bl.length cb) (.slice Al l.length cl) ∧
      (sa.length ≤ maxLen ∧ al.length ≤ maxLen ∧ sb.length ≤ maxLen ∧ bl.length ≤ maxLen ∧ l.length ≤ maxLen) ∧ ExRow w w.heap.size al Aa ∧ ExRow w w.heap.size bl Ab ∧ CnRow w w.heap.size l Al := by
  obtain ⟨cs, rfl, _⟩ := okWide_struct Tryz.underlying27 hv
  obtain ⟨fuel, hf⟩ := h
  have hf : DataW.trod enc Tryz.prog w 0 spare held fuel 27 cs.toList = some (d, p) := by simpa [Value.cells] using hf
  obtain ⟨e, Aa, ca, Ab, cb, Al, cl, k, ak, an, sa, al, bk, bn, sb, bl, l, rfl, hcs, hb, ra, rb, rl⟩ := open_cond_by (N := SizeOf.sizeOf d) (fun y _ => open_conds _ y (Nat.lt_succ_self _)) (Nat.le_refl _) hf
  refine ⟨k, ak, an, sa, al, bk, bn, sb, bl, l, Aa, ca, Ab, cb, Al, cl, ?_, hb, ra, rb, rl⟩
  rw [show cs = #[.int .i64 k, .int .i64 ak, .int .i64 an, .string ⟨sa.toArray⟩, .slice Aa al.length ca, .int .i64 bk, .int .i64 bn, .string ⟨sb.toArray⟩, .slice Ab bl.length cb, .slice Al l.length cl] from by apply Array.toList_inj.1; exact hcs]

end Go.Proofs.YtijglomghlbhfaaGreatDoor
