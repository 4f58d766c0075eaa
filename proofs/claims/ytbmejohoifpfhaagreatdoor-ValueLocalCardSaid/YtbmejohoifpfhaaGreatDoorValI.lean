/-
  slices.Insert at bindings: one binding into a row of the call's own.
-/
import Derived.Test.YtbmejohoifpfhaaGreatDoorValSm
import Derived.Test.YtbmejohoifpfhaaGreatDoorValO
import Derived.Shelf.Spec.SlicesInsert
namespace Go.Proofs.YtbmejohoifpfhaaGreatDoor
open Go.RowKit Go.Lib

theorem zeroCells_bd (k : Nat) : (Builtin.zeroCells (Value.agg #[.string ⟨#[]⟩, .int .i64 0]).cells k).size = k * 2 := by simp [Builtin.zeroCells, Value.cells]

theorem cell_of_row {w : World} {b : Nat} {l : List Value} {t : TypeId} (h : w.heap[b]? = some (.cells l.toArray t (0, 0))) (j : Nat) (v : Value) (hv : l[j]? = some v) : w.cell? ((⟨b, 0, none⟩ : Addr).add j) = some v := by
  rw [Addr.add_lit, Nat.zero_add]
  unfold World.cell?
  rw [show w.heap[(⟨b, j, none⟩ : Addr).block]? = some (.cells l.toArray t (0, 0)) from h]
  simpa using hv

theorem ownB_append {w w2 : World} {B0 n : Nat} {v v' : Value} {L : List Bd} {p : Bd} (hown : OwnB w B0 v L) (hL : L.length = n) (hp : p.n.length ≤ maxLen) (hrow : w2.ownsRow B0 38 2 v' (n + 1) (cellsB L ++ cells2 p)) : OwnB w2 B0 v' (L ++ [p]) := by
  refine ⟨?_, fun x hx => ?_⟩
  · rw [cellsB_append, List.length_append, hL]
    simpa [cellsB] using hrow
  · rcases List.mem_append.1 hx with hx | hx
    · exact hown.2 x hx
    · obtain rfl := List.mem_singleton.1 hx
      exact hp

set_option maxRecDepth 100000 in
set_option maxHeartbeats 2000000 in
theorem insertB_end (B0 vb n c vc : Nat) (A : Option Addr) (L : List Bd) (p : Bd) (hL : L.length = n) (hn : n ≤ 1000) (hA : (A = none ∧ n = 0 ∧ c = 0) ∨ ∃ g, A = some ⟨g, 0, none⟩) (w : World) (hB : B0 ≤ w.heap.size) (hown : OwnB w B0 (.slice A n c) L) (_hvb : vb < w.heap.size) (hcells : ∀ j u, (cells2 p)[j]? = some u → w.cell? ((⟨vb, 0, none⟩ : Addr).add j) = some u)
    (hpl : p.n.length ≤ maxLen) (hnc : n ≤ c) (hc63 : c ≤ 9223372036854775807) :
    Calls Tryz.prog 23 #[.slice A n c, .int .i64 n, .slice (some ⟨vb, 0, none⟩) 1 vc] w (RowPost B0 (L ++ [p]) w) := by
  obtain ⟨i0, hi, hiz, his, hib⟩ := info_parts infoBd
  have HI := Lib.hid (And.intro hi (And.intro hiz (And.intro his hib)))
  have HO := Lib.hid (And.intro hown (And.intro hcells (And.intro hpl (And.intro hB hL))))
  have hrow : Hid (w.ownsRow B0 38 2 (.slice A n c) n (cellsB L)) := Lib.hid (by have := hown.1; rwa [hL] at this)
  clear hi hiz his hib hown hcells hpl hB hL
  rcases hA with ⟨rfl, rfl, rfl⟩ | ⟨g, rfl⟩
  · go_enter Tryz.func23, Tryz.ntmps23
    go_wp2_with (at_builtin; refine wpList_append_own_at _ rfl _ _ 22 rfl B0 38 i0 _ 2 24 Tryz.underlying22 HI.out.1 HI.out.2.1 HI.out.2.2.1 HI.out.2.2.2 rfl (by decide) _ _ _ rfl hrow.out ⟨vb, 0, none⟩ 1 vc (cells2 p) rfl rfl HO.out.2.1 (cells2_one p) (by unfold maxLen; omega) (by omega) HO.out.2.2.2.1 ?_; intro v' w2 hown' hgrow _ hat; have H2 := Lib.hid (And.intro hown' (And.intro hgrow hat)); clear hown' hgrow hat)
    go_ret
    exact ⟨_, rfl, ownB_append HO.out.1 HO.out.2.2.2.2 HO.out.2.2.1 H2.out.1, below_grown hrow.out H2.out.2.1 HO.out.2.2.2.1⟩
  · by_cases hcn : c = n
    · subst hcn
      clear hnc
      go_enter Tryz.func23, Tryz.ntmps23
      go_wp2_with (at_builtin; refine wpList_append_own_at _ rfl _ _ 22 rfl B0 38 i0 _ 2 24 Tryz.underlying22 HI.out.1 HI.out.2.1 HI.out.2.2.1 HI.out.2.2.2 rfl (by decide) _ _ _ rfl hrow.out ⟨vb, 0, none⟩ 1 vc (cells2 p) rfl rfl HO.out.2.1 (cells2_one p) (by unfold maxLen; omega) (by omega) HO.out.2.2.2.1 ?_; intro v' w2 hown' hgrow _ hat; have H2 := Lib.hid (And.intro hown' (And.intro hgrow hat)); clear hown' hgrow hat)
      go_ret
      exact ⟨_, rfl, ownB_append HO.out.1 HO.out.2.2.2.2 HO.out.2.2.1 H2.out.1, below_grown hrow.out H2.out.2.1 HO.out.2.2.2.1⟩
    · clear hnc
      go_enter Tryz.func23, Tryz.ntmps23
      go_wp2_with (at_builtin; refine wpList_append_own_at _ rfl _ _ 22 rfl B0 38 i0 _ 2 24 Tryz.underlying22 HI.out.1 HI.out.2.1 HI.out.2.2.1 HI.out.2.2.2 rfl (by decide) _ _ _ rfl hrow.out ⟨vb, 0, none⟩ 1 vc (cells2 p) rfl rfl HO.out.2.1 (cells2_one p) (by unfold maxLen; omega) (by omega) HO.out.2.2.2.1 ?_; intro v' w2 hown' hgrow _ hat; have H2 := Lib.hid (And.intro hown' (And.intro hgrow hat)); clear hown' hgrow hat)
      go_ret
      exact ⟨_, rfl, ownB_append HO.out.1 HO.out.2.2.2.2 HO.out.2.2.1 H2.out.1, below_grown hrow.out H2.out.2.1 HO.out.2.2.2.1⟩

/-- The row behind an insertion. -/
theorem insB_own (B0 g n i G : Nat) (L : List Bd) (p : Bd) (hL : L.length = n) (hin : i < n) (W : World) {R2 : Array Value} {Z : List Value} (hg : B0 ≤ g) (hrow : W.heap[g]? = some (.cells R2 38 (0, 0)))
    (hR2 : R2 = (((cellsB (L.take i) ++ cells2 p) ++ cellsB (L.drop i)) ++ Z).toArray) (hGn : n + 1 ≤ G) (hG63 : G ≤ maxLen) (hown : ∀ x ∈ L, x.n.length ≤ maxLen) (hpl : p.n.length ≤ maxLen) (hZ : Z.length = (G - (n + 1)) * 2) :
    OwnB W B0 (.slice (some ⟨g, 0, none⟩) (n + 1) G) (L.take i ++ p :: L.drop i) := by
  have hlen : (L.take i ++ p :: L.drop i).length = n + 1 := by rw [List.length_append, List.length_take, List.length_cons, List.length_drop]; omega
  have hc : cellsB (L.take i ++ p :: L.drop i) = (cellsB (L.take i) ++ cells2 p) ++ cellsB (L.drop i) := by rw [cellsB_append, cellsB_cons, List.append_assoc]
  have hcl : ((cellsB (L.take i) ++ cells2 p) ++ cellsB (L.drop i)).length = (n + 1) * 2 := by rw [← hc, cellsB_len, hlen]
  refine ⟨?_, fun x hx => ?_⟩
  · rw [hlen]
    refine ⟨by rw [cellsB_len, hlen], .inr ⟨g, G, R2, rfl, hg, hrow, hGn, hG63, ?_, ?_⟩⟩
    · rw [hR2, List.size_toArray, List.length_append, hcl, hZ]
      omega
    · rw [hR2, hc]
      show List.take ((n + 1) * 2) (((cellsB (L.take i) ++ cells2 p) ++ cellsB (L.drop i)) ++ _) = _
      rw [List.take_left' hcl]
  · rcases List.mem_append.1 hx with hx | hx
    · exact hown x (List.mem_of_mem_take hx)
    · rcases List.mem_cons.1 hx with rfl | hx
      · exact hpl
      · exact hown x (List.mem_of_mem_drop hx)

set_option maxRecDepth 100000 in
set_option maxHeartbeats 4000000 in
/-- No room: a new row. -/
theorem insertB_grow (B0 g vb n i vc : Nat) (L : List Bd) (p : Bd) (hL : L.length = n) (hin : i < n) (hn : n ≤ 1000) (w : World) (hB : B0 ≤ w.heap.size) (hown : OwnB w B0 (.slice (some ⟨g, 0, none⟩) n n) L) (hvb : vb < w.heap.size) (hcells : ∀ j u, (cells2 p)[j]? = some u → w.cell? ((⟨vb, 0, none⟩ : Addr).add j) = some u)
    (hpl : p.n.length ≤ maxLen) :
    Calls Tryz.prog 23 #[.slice (some ⟨g, 0, none⟩) n n, .int .i64 i, .slice (some ⟨vb, 0, none⟩) 1 vc] w (RowPost B0 (L.take i ++ p :: L.drop i) w) := by
  obtain ⟨i0, hi, hiz, his, hib⟩ := info_parts infoBd
  have hrow : w.ownsRow B0 38 2 (.slice (some ⟨g, 0, none⟩) n n) n (cellsB L) := by have := hown.1; rwa [hL] at this
  have hlt := own_lt hrow g rfl
  have hgw : g < w.heap.size := hlt.2
  have hold : (Builtin.firstCells i0.size i (.slice (some ⟨g, 0, none⟩) i n)).run Tryz.prog w.drew = .ok (cellsB (L.take i)).toArray w.drew := by
    rw [his]
    refine run_firstCells_some w.drew 2 i ⟨g, 0, none⟩ i n (cellsB (L.take i)) (by rw [cellsB_len, List.length_take]; omega) (fun j v hj => ?_)
    rw [← cellsB_take, List.getElem?_take] at hj
    split at hj
    · exact hrow.cells (g := g) rfl j v hj
    · cases hj
  have hik : i + (n + 1 - i) = n + 1 := by omega
  obtain ⟨G, hG⟩ : ∃ G, G = grownCap w (n + 1) n 38 := ⟨_, rfl⟩
  obtain ⟨zs, hzs⟩ : ∃ zs : List Value, zs = (Builtin.zeroCells (Value.agg #[.string ⟨#[]⟩, .int .i64 0]).cells (n + 1 - i)).toList ++ (Builtin.zeroCells (Value.agg #[.string ⟨#[]⟩, .int .i64 0]).cells (G - (n + 1))).toList := ⟨_, rfl⟩
  have hGn : n + 1 ≤ G := by rw [hG]; exact grownCap_ge w _ _ _
  have hzl : zs.length = (n + 1 - i) * 2 + (G - (n + 1)) * 2 := by rw [hzs, List.length_append, Array.length_toList, Array.length_toList, zeroCells_bd, zeroCells_bd]
  obtain ⟨ROW, hROW⟩ : ∃ ROW : Array Value, ROW = (cellsB (L.take i) ++ zs).toArray := ⟨_, rfl⟩
  have hkk : (n : Int) + 1 - (i : Int) = ((n + 1 - i : Nat) : Int) := by omega
  have hrz : ∀ ty, (Builtin.append_ #[22, 3] ty #[.slice (some ⟨g, 0, none⟩) i n, .int .i64 ((n : Int) + 1 - (i : Int))]).run Tryz.prog w = .ok (.slice (some ⟨w.heap.size, 0, none⟩) (n + 1) G) (w.drew.alloc (.cells ROW 38)) := fun ty => by
    have h := Lib.run_append_grow_zeros (P := Tryz.prog) w 22 3 ty 38 i0 _ .i64 .i64 Tryz.underlying22 Tryz.underlying3 hi hiz (some ⟨g, 0, none⟩) i n (cellsB (L.take i)) hold (n + 1 - i) (by omega) (by rw [his]; decide) (by omega) (by omega) (by rw [hib]; omega) (by rw [hib, hik]; exact growslice_fits (by omega) (by omega))
    rw [hik, ← hG] at h
    rw [hkk, h, show (cellsB (L.take i)).toArray ++ Builtin.zeroCells (Value.agg #[.string ⟨#[]⟩, .int .i64 0]).cells (n + 1 - i) ++ Builtin.zeroCells (Value.agg #[.string ⟨#[]⟩, .int .i64 0]).cells (G - (n + 1)) = ROW from by rw [hROW, hzs]; apply Array.toList_inj.1; simp]
  have hRl : ROW.size = G * 2 := by
    rw [hROW, List.size_toArray, List.length_append, cellsB_len, List.length_take, hzl]
    omega
  obtain ⟨R1, hR1⟩ : ∃ R1 : Array Value, R1 = ((cellsB (L.take i) ++ cells2 p) ++ zs.drop 2).toArray := ⟨_, rfl⟩
  obtain ⟨R2, hR2⟩ : ∃ R2 : Array Value, R2 = (((cellsB (L.take i) ++ cells2 p) ++ cellsB (L.drop i)) ++ (zs.drop 2).drop (cellsB (L.drop i)).length).toArray := ⟨_, rfl⟩
  have hX1 : (cellsB (L.take i)).length = i * 2 := by rw [cellsB_len, List.length_take]; omega
  have hX2 : (cellsB (L.take i) ++ cells2 p).length = (i + 1) * 2 := by rw [List.length_append, hX1]; show i * 2 + 2 = _; omega
  have hD : (cellsB (L.drop i)).length = (n - i) * 2 := by rw [cellsB_len, List.length_drop, hL]
  have hcpA : ∀ (W : World), W.heap[w.heap.size]? = some (.cells ROW 38 (0, 0)) → (∀ b, b < w.heap.size → W.heap[b]? = w.heap[b]?) → ∀ ty dc, (Builtin.copy_ #[22, 22] ty #[.slice (some ⟨w.heap.size, i * 2, none⟩) (n + 1 - i) dc, .slice (some ⟨vb, 0, none⟩) 1 vc]).run Tryz.prog W = .ok (goInt 1) (W.setRow w.heap.size R1) := fun W h1 h2 ty dc => by
    have h := run_copy_rows (P := Tryz.prog) W 22 22 ty 38 i0 w.heap.size (i * 2) (n + 1 - i) dc ⟨vb, 0, none⟩ 1 vc 1 ROW 38 (cells2 p) Tryz.underlying22 hi h1 (by simp only [Nat.min_def]; split <;> omega) (by rw [his]; rfl)
      (fun j v hj => (World.cell?_of_block (by rw [blk_add]; exact h2 vb hvb)).trans (hcells j v hj)) (by rw [hRl]; show i * 2 + 2 ≤ _; omega) (cells2_one p)
    rw [h, hROW, hR1]
    show Result.ok _ (W.setRow _ ((cellsB (L.take i) ++ zs).take (i * 2) ++ _).toArray) = _
    rw [splice_at _ _ _ _ hX1]
    rfl
  have hcpB : ∀ (W : World), W.heap[w.heap.size]? = some (.cells R1 38 (0, 0)) → (∀ b, b < w.heap.size → W.heap[b]? = w.heap[b]?) → ∀ ty dc sc, (Builtin.copy_ #[22, 22] ty #[.slice (some ⟨w.heap.size, (i + 1) * 2, none⟩) (n + 1 - (i + 1)) dc, .slice (some ⟨g, i * 2, none⟩) (n - i) sc]).run Tryz.prog W = .ok (goInt ((n - i : Nat) : Int)) (W.setRow w.heap.size R2) := fun W h1 h2 ty dc sc => by
    have h := run_copy_rows (P := Tryz.prog) W 22 22 ty 38 i0 w.heap.size ((i + 1) * 2) (n + 1 - (i + 1)) dc ⟨g, i * 2, none⟩ (n - i) sc (n - i) R1 38 (cellsB (L.drop i)) Tryz.underlying22 hi h1 (by simp only [Nat.min_def]; split <;> omega) (by rw [his, hD])
      (fun j v hj => by
        have hc := hrow.cells (g := g) rfl (i * 2 + j) v (by rw [← List.getElem?_drop, cellsB_drop]; exact hj)
        have e1 : (⟨g, 0, none⟩ : Addr).add (i * 2 + j) = ⟨g, i * 2 + j, none⟩ := by rw [Addr.add_lit, Nat.zero_add]
        have e2 : (⟨g, i * 2, none⟩ : Addr).add j = ⟨g, i * 2 + j, none⟩ := Addr.add_lit ..
        rw [e1] at hc
        rw [e2]
        exact (World.cell?_of_block (a := ⟨g, i * 2 + j, none⟩) (h2 g hgw)).trans hc)
      (by rw [hR1, List.size_toArray, List.length_append, hX2, List.length_drop, hzl, hD]; omega) (cellsB_one _)
    rw [h, hR1, hR2]
    show Result.ok _ (W.setRow _ (((cellsB (L.take i) ++ cells2 p) ++ zs.drop 2).take ((i + 1) * 2) ++ _).toArray) = _
    rw [splice_at _ _ _ _ hX2]
  have hO1 : ∀ b, b < w.heap.size → (w.drew.alloc (.cells ROW 38)).heap[b]? = w.heap[b]? := fun b hb => (below_alloc w.drew _).block b hb
  have hN1 : (w.drew.alloc (.cells ROW 38)).heap[w.heap.size]? = some (.cells ROW 38 (0, 0)) := heap_of_alloc w.drew _
  have HA : Hid (∀ (W : World), W.heap = (w.alloc (.cells ROW 38)).heap → ∀ ty dc, (Builtin.copy_ #[22, 22] ty #[.slice (some ⟨w.heap.size, i * 2, none⟩) (n + 1 - i) dc, .slice (some ⟨vb, 0, none⟩) 1 vc]).run Tryz.prog W = .ok (goInt 1) (W.setRow w.heap.size R1)) := Lib.hid (fun W hW => hcpA W (by rw [hW]; exact hN1) (fun b hb => by rw [hW]; exact hO1 b hb))
  have HB2 : Hid (∀ (W : World), W.heap = ((w.alloc (.cells ROW 38)).setRow w.heap.size R1).heap → ∀ ty dc sc, (Builtin.copy_ #[22, 22] ty #[.slice (some ⟨w.heap.size, (i + 1) * 2, none⟩) (n + 1 - (i + 1)) dc, .slice (some ⟨g, i * 2, none⟩) (n - i) sc]).run Tryz.prog W = .ok (goInt ((n - i : Nat) : Int)) (W.setRow w.heap.size R2)) := Lib.hid (fun W hW => hcpB W (by rw [hW]; exact setRow_heap _ _ ROW _ _ _ hN1) (fun b hb => by rw [hW]; exact (setRow_other _ _ b _ (by omega)).trans (hO1 b hb)))
  have HA1 := Lib.hid (HA.out ((w.alloc (.cells ROW 38)).drew) rfl)
  have HB1 := Lib.hid (HB2.out (((w.alloc (.cells ROW 38)).drew.setRow w.heap.size R1).drew) rfl)
  have HZ := Lib.hid hrz
  have HX := Lib.hid (And.intro hGn (And.intro hR2 (And.intro hown (And.intro hpl (And.intro hL (And.intro hB (And.intro hN1 (And.intro hD hzl))))))))
  have hG63 : G ≤ 9223372036854775807 := by rw [hG]; exact grownCap_small (by omega)
  have HGm : Hid (G ≤ maxLen) := Lib.hid (by rw [hG]; exact grownCap_le_maxLen w _ _ _ (by unfold maxLen; omega))
  have hGi : ¬ (G = i) := by omega
  have hGim : ¬ (G = i + 1) := by omega
  have hci : ¬ (n = i) := by omega
  have hz2 : ¬ ((i : Int) = (n : Int)) := by omega
  have hz3 : (n : Int) < (n : Int) + 1 := by omega
  have hw1 : IntKind.i64.wrap ((i : Int) + 1) = (i : Int) + 1 := by rw [IntKind.wrap_i64]; omega
  have hb1 : (0 : Int) ≤ (i : Int) + 1 := by omega
  have hin2 : i ≤ n := by omega
  have htn : ((i : Int) + 1).toNat = i + 1 := by omega
  have hb3 : (i : Int) ≤ (n : Int) := by omega
  clear hrz hcpA hcpB hrow hold hGn hR1 hR2 hROW hRl hzs hown hpl hL hB hlt hN1 hO1 hD hX1 hX2 hzl hcells hi hiz his hib hik hkk hG hgw hvb
  go_enter Tryz.func23, Tryz.ntmps23
  go_wp2_with (first
    | (at_builtin; refine Lib.wpList_append_run _ rfl _ _ _ _ rfl _ _ rfl rfl _ _ (HZ.out _) ?_)
    | (refine wpList_copy_runI (o := ⟨some 45, _, _, _, _, _⟩) _ rfl _ _ 22 22 rfl _ _ rfl rfl (HA1.out _ _) ?_))
  go_region_law (refine step_copy_runI rfl _ _ 22 22 rfl (.slice (some ⟨w.heap.size, (i + 1) * 2, none⟩) (n + 1 - (i + 1)) (G - (i + 1))) (.slice (some ⟨g, i * 2, none⟩) (n - i) (n - i)) (by simp [Act.eval, Act.put]) (by simp [Act.eval, Act.put]) (HB1.out _ _ _) ?_)
  go_wp2
  go_ret
  obtain ⟨hGn, hR2, hown, hpl, hL, hB, hN1, hD, hzl⟩ := HX.out
  have hbel : Below w.heap.size w ((((w.alloc (.cells ROW 38)).drew.setRow w.heap.size R1).drew).setRow w.heap.size R2) := Go.below_setRow ((Go.below_setRow ((below_alloc w _).drew1) (Nat.le_refl _) R1).drew1) (Nat.le_refl _) R2
  have hrow2 : ((((w.alloc (.cells ROW 38)).drew.setRow w.heap.size R1).drew).setRow w.heap.size R2).heap[w.heap.size]? = some (.cells R2 38 (0, 0)) := setRow_heap _ _ R1 _ _ _ (setRow_heap _ _ ROW _ _ _ hN1)
  exact ⟨.slice (some ⟨w.heap.size, 0, none⟩) (n + 1) G, rfl, insB_own B0 w.heap.size n i G L p hL hin _ hB hrow2 hR2 hGn HGm.out hown.2 hpl (by rw [List.length_drop, List.length_drop, hzl, hD]; omega), hbel.mono hB⟩

theorem shift_rows {α : Type} (X D Z Y : List α) (b : Nat) (hY : Y.length = b) (hZ : b ≤ Z.length) :
    ((X ++ (D ++ Z)).take (X.length + b) ++ (D ++ (X ++ (D ++ Z)).drop (X.length + b + D.length))).take X.length ++ (Y ++ ((X ++ (D ++ Z)).take (X.length + b) ++ (D ++ (X ++ (D ++ Z)).drop (X.length + b + D.length))).drop (X.length + Y.length)) = ((X ++ Y) ++ D) ++ Z.drop b := by
  have h1 : ((X ++ (D ++ Z)).take (X.length + b)).length = X.length + b := by rw [List.length_take, List.length_append, List.length_append]; omega
  have h2 : ((X ++ (D ++ Z)).take (X.length + b)).take X.length = X := by rw [List.take_take, Nat.min_eq_left (by omega), List.take_left]
  have h3 : (X ++ (D ++ Z)).drop (X.length + b + D.length) = Z.drop b := by
    rw [List.drop_append, List.drop_of_length_le (by omega), List.nil_append, List.drop_append, List.drop_of_length_le (by omega), List.nil_append]
    congr 1; omega
  rw [List.take_append_of_le_length (by omega), h2, h3, hY, List.drop_left' h1]
  simp [List.append_assoc]

set_option maxRecDepth 100000 in
set_option maxHeartbeats 4000000 in
/-- There is room: in place. -/
theorem insertB_room (B0 g vb n i c vc : Nat) (L : List Bd) (p : Bd) (hL : L.length = n) (hin : i < n) (hn : n ≤ 1000) (hroom : n + 1 ≤ c) (w : World) (hB : B0 ≤ w.heap.size) (hown : OwnB w B0 (.slice (some ⟨g, 0, none⟩) n c) L) (hvb : w.heap[vb]? = some (.cells (cells2 p).toArray 38 (0, 0))) (hvg : vb ≠ g)
    (hpl : p.n.length ≤ maxLen) :
    Calls Tryz.prog 23 #[.slice (some ⟨g, 0, none⟩) n c, .int .i64 i, .slice (some ⟨vb, 0, none⟩) 1 vc] w (RowPost B0 (L.take i ++ p :: L.drop i) w) := by
  obtain ⟨i0, hi, hiz, his, hib⟩ := info_parts infoBd
  have hrow : w.ownsRow B0 38 2 (.slice (some ⟨g, 0, none⟩) n c) n (cellsB L) := by have := hown.1; rwa [hL] at this
  have hlt := own_lt hrow g rfl
  obtain ⟨cur, hg, hc63, hcs, htk⟩ : ∃ cur : Array Value, w.heap[g]? = some (.cells cur 38 (0, 0)) ∧ c ≤ maxLen ∧ cur.size = c * 2 ∧ cur.toList.take (n * 2) = cellsB L := by
    rcases hrow.2 with ⟨hv, _⟩ | ⟨g', cap, cur, hv, _, hh, _, hcm, hcs, ht⟩
    · cases hv
    · injection hv with h1 _ h3
      injection h1 with h1
      injection h1 with h1
      subst h1 h3
      exact ⟨cur, hh, hcm, hcs, ht⟩
  obtain ⟨Z, hZ⟩ : ∃ Z, Z = cur.toList.drop (n * 2) := ⟨_, rfl⟩
  have hZl : Z.length = (c - n) * 2 := by rw [hZ, List.length_drop, Array.length_toList, hcs]; omega
  have hX1 : (cellsB (L.take i)).length = i * 2 := by rw [cellsB_len, List.length_take]; omega
  have hD : (cellsB (L.drop i)).length = (n - i) * 2 := by rw [cellsB_len, List.length_drop, hL]
  have hcur : cur.toList = cellsB (L.take i) ++ (cellsB (L.drop i) ++ Z) := by
    rw [← List.append_assoc, ← cellsB_append, List.take_append_drop, ← htk, hZ, List.take_append_drop]
  obtain ⟨R1, hR1⟩ : ∃ R1 : Array Value, R1 = (cur.toList.take ((i + 1) * 2) ++ (cellsB (L.drop i) ++ cur.toList.drop ((i + 1) * 2 + (cellsB (L.drop i)).length))).toArray := ⟨_, rfl⟩
  obtain ⟨R2, hR2⟩ : ∃ R2 : Array Value, R2 = (R1.toList.take (i * 2) ++ (cells2 p ++ R1.toList.drop (i * 2 + (cells2 p).length))).toArray := ⟨_, rfl⟩
  have hR2' : R2 = (((cellsB (L.take i) ++ cells2 p) ++ cellsB (L.drop i)) ++ Z.drop 2).toArray := by
    have := shift_rows (cellsB (L.take i)) (cellsB (L.drop i)) Z (cells2 p) 2 rfl (by omega)
    rw [hX1] at this
    rw [hR2, hR1, hcur, show (i + 1) * 2 = i * 2 + 2 by omega]
    exact congrArg List.toArray this
  have hR1l : R1.size = c * 2 := by
    rw [hR1, List.size_toArray, List.length_append, List.length_append, List.length_take, List.length_drop, Array.length_toList, hcs, hD]; omega
  have hsz : ∀ w : World, (Go.sizeOf 38).run Tryz.prog w = .ok 2 w := fun w => by simp [Go.sizeOf, typeInfo, hi, his]
  have hov : Hid (∀ lb cb, (callFunc 35 #[.slice (some ⟨vb, 0, none⟩) 1 vc, .slice (some ⟨g, (i + 1) * 2, none⟩) lb cb]).run Tryz.prog w = .ok (.value (.bool false)) w) := Lib.hid (fun lb cb => by
    rw [run_callFunc_extern Tryz.func35 (by kernel_rfl) (by kernel_rfl) (by kernel_rfl) (e := Extern.SlicesOverlaps.overlaps #[22, 22] #[4]) (by kernel_rfl),
      Lib.run_overlaps_apart w 22 4 38 Tryz.underlying22 2 hsz ⟨vb, 0, none⟩ ⟨g, (i + 1) * 2, none⟩ 1 vc lb cb hvg 38 38 2 (c * 2) (by simp [World.shape?, hvb, cells2]) (by simp [World.shape?, hg, hcs]) (by omega) (by simp [World.frozen?, hvb]) (by simp [World.frozen?, hvb])]
    rfl)
  have hcpA : ∀ ty dc sc, (Builtin.copy_ #[22, 22] ty #[.slice (some ⟨g, (i + 1) * 2, none⟩) (n + 1 - (i + 1)) dc, .slice (some ⟨g, i * 2, none⟩) (n + 1 - i) sc]).run Tryz.prog w.drew = .ok (goInt ((n - i : Nat) : Int)) (w.drew.setRow g R1) := fun ty dc sc => by
    have h := run_copy_rows (P := Tryz.prog) w.drew 22 22 ty 38 i0 g ((i + 1) * 2) (n + 1 - (i + 1)) dc ⟨g, i * 2, none⟩ (n + 1 - i) sc (n - i) cur 38 (cellsB (L.drop i)) Tryz.underlying22 hi hg (by simp only [Nat.min_def]; split <;> omega) (by rw [his, hD])
      (fun j v hj => by
        have hc := hrow.cells (g := g) rfl (i * 2 + j) v (by rw [← List.getElem?_drop, cellsB_drop]; exact hj)
        have e1 : (⟨g, 0, none⟩ : Addr).add (i * 2 + j) = ⟨g, i * 2 + j, none⟩ := by rw [Addr.add_lit, Nat.zero_add]
        have e2 : (⟨g, i * 2, none⟩ : Addr).add j = ⟨g, i * 2 + j, none⟩ := Addr.add_lit ..
        rw [e1] at hc
        rw [e2]
        exact hc)
      (by rw [hcs, hD]; omega) (cellsB_one _)
    rw [h, hR1]
  have hcpB : ∀ ty dc, (Builtin.copy_ #[22, 22] ty #[.slice (some ⟨g, i * 2, none⟩) (n + 1 - i) dc, .slice (some ⟨vb, 0, none⟩) 1 vc]).run Tryz.prog (w.drew.setRow g R1) = .ok (goInt 1) ((w.drew.setRow g R1).setRow g R2) := fun ty dc => by
    have h := run_copy_rows (P := Tryz.prog) (w.drew.setRow g R1) 22 22 ty 38 i0 g (i * 2) (n + 1 - i) dc ⟨vb, 0, none⟩ 1 vc 1 R1 38 (cells2 p) Tryz.underlying22 hi (setRow_heap _ _ cur _ _ _ hg) (by simp only [Nat.min_def]; split <;> omega) (by rw [his]; rfl)
      (fun j v hj => (World.cell?_of_block (w := w) (by rw [blk_add]; exact setRow_other _ _ vb _ hvg)).trans (cell_of_row hvb j v hj)) (by rw [hR1l]; show i * 2 + 2 ≤ _; omega) (cells2_one p)
    rw [h, hR2]
    rfl
  have HA := Lib.hid hcpA
  have HB2 := Lib.hid hcpB
  have HX := Lib.hid (And.intro hR2' (And.intro hown (And.intro hpl (And.intro hL (And.intro hB (And.intro hlt (And.intro hg (And.intro hZl hc63))))))))
  have hc63' : c ≤ 9223372036854775807 := by unfold maxLen at hc63; omega
  have hz2 : ¬ ((i : Int) = (n : Int)) := by omega
  have hw1 : IntKind.i64.wrap ((i : Int) + 1) = (i : Int) + 1 := by rw [IntKind.wrap_i64]; omega
  have hb1 : (0 : Int) ≤ (i : Int) + 1 := by omega
  have hin2 : i ≤ n := by omega
  have htn : ((i : Int) + 1).toNat = i + 1 := by omega
  have hb2 : ¬ (c = i + 1) := by omega
  have hb3 : (i : Int) ≤ (n : Int) + 1 := by omega
  have hb4 : ¬ (c = i) := by omega
  clear hcpA hcpB hrow hR1 hR2 hR2' hR1l hown hpl hL hB hlt hD hX1 hZ hZl hcur hcs htk hg hvb hi hiz his hib hsz hc63
  go_enter Tryz.func23, Tryz.ntmps23
  go_wp2_with (simp only [hov.out])
  go_region_law (refine step_copy_runI rfl _ _ 22 22 rfl (.slice (some ⟨g, (i + 1) * 2, none⟩) (n + 1 - (i + 1)) (c - (i + 1))) (.slice (some ⟨g, i * 2, none⟩) (n + 1 - i) (c - i)) (by simp [Act.eval, Act.put]) (by simp [Act.eval, Act.put]) (HA.out _ _ _) ?_)
  go_wp2_with (simp only [HB2.out])
  go_ret
  obtain ⟨hR2, hown, hpl, hL, hB, hlt, hg, hZl, hcm⟩ := HX.out
  exact ⟨.slice (some ⟨g, 0, none⟩) (n + 1) c, rfl, insB_own B0 g n i c L p hL hin _ hlt.1 (setRow_heap _ _ R1 _ _ _ (setRow_heap _ _ cur _ _ _ hg)) hR2 hroom hcm hown.2 hpl (by rw [List.length_drop, hZl]; omega), Go.below_setRow (Go.below_setRow ((Below.refl _ _).drew1) hlt.1 R1) hlt.1 R2⟩

theorem insertB_any (B0 vb n c vc i : Nat) (A : Option Addr) (L : List Bd) (p : Bd) (hL : L.length = n) (hin : i ≤ n) (hn : n ≤ 1000) (w : World) (hB : B0 ≤ w.heap.size) (hown : OwnB w B0 (.slice A n c) L) (hvb : w.heap[vb]? = some (.cells (cells2 p).toArray 38 (0, 0))) (hvg : ∀ g, A = some ⟨g, 0, none⟩ → vb ≠ g)
    (hpl : p.n.length ≤ maxLen) :
    Calls Tryz.prog 23 #[.slice A n c, .int .i64 i, .slice (some ⟨vb, 0, none⟩) 1 vc] w (RowPost B0 (L.take i ++ p :: L.drop i) w) := by
  have hv := (Array.getElem?_eq_some_iff.1 hvb).1
  have hcells : ∀ j u, (cells2 p)[j]? = some u → w.cell? ((⟨vb, 0, none⟩ : Addr).add j) = some u := fun j u hj => cell_of_row hvb j u hj
  have hform : (A = none ∧ n = 0 ∧ c = 0) ∨ ∃ g, A = some ⟨g, 0, none⟩ ∧ n ≤ c ∧ c ≤ 9223372036854775807 := by
    have := hown.1
    rw [hL] at this
    rcases this.2 with ⟨hv, hn⟩ | ⟨g, cap, cur, hv, _, _, hnc, hcm, _⟩
    · injection hv with h1 h2 h3
      exact .inl ⟨h1, h2, h3⟩
    · injection hv with h1 h2 h3
      subst h3
      unfold maxLen at hcm
      exact .inr ⟨g, h1, hnc, by omega⟩
  by_cases he : i = n
  · subst he
    have e : L.take i ++ p :: L.drop i = L ++ [p] := by rw [List.take_of_length_le (by omega), List.drop_of_length_le (by omega)]
    rw [e]
    rcases hform with ⟨h1, h2, h3⟩ | ⟨g, h1, h2, h3⟩
    · exact insertB_end B0 vb i c vc A L p hL hn (.inl ⟨h1, h2, h3⟩) w hB hown hv hcells hpl (by omega) (by omega)
    · exact insertB_end B0 vb i c vc A L p hL hn (.inr ⟨g, h1⟩) w hB hown hv hcells hpl h2 h3
  · rcases hform with ⟨h1, h2, h3⟩ | ⟨g, h1, h2, h3⟩
    · omega
    · subst h1
      by_cases hr : n + 1 ≤ c
      · exact insertB_room B0 g vb n i c vc L p hL (by omega) hn hr w hB hown hvb (hvg g rfl) hpl
      · obtain rfl : c = n := by omega
        exact insertB_grow B0 g vb c i vc L p hL (by omega) hn w hB hown hv hcells hpl

end Go.Proofs.YtbmejohoifpfhaaGreatDoor
