/-
  slices.Insert at blocks: one block into a row of the call's own that has no room.
-/
import Derived.Test.YtbmejohoifpfhaaMemC
import Derived.Test.YtbmejohoifpfhaaMemIg
namespace Go.Proofs.Ytbmejohoifpfhaa
open Go.RowKit Go.Lib

theorem zeroCells_bk (k : Nat) : (Builtin.zeroCells (Value.agg #[.int .i64 0, .string ⟨#[]⟩, .slice none 0 0]).cells k).size = k * 3 := by simp [Builtin.zeroCells, Value.cells]

/-- Behind an insertion into a row of the call's own. -/
def InsPost (B0 : Nat) (L : List Bx) (w : World) (e : Ending) (w' : World) : Prop := ∃ v, e = .returned v ∧ OwnMem w' B0 v L ∧ Below B0 w w'

set_option maxRecDepth 100000 in
set_option maxHeartbeats 2000000 in
theorem insert_end (B0 g vb n vc : Nat) (L : List Bx) (p : Bx) (hL : L.length = n) (hn : n ≤ 1000) (w : World) (hB : B0 ≤ w.heap.size) (hown : OwnMem w B0 (.slice (some ⟨g, 0, none⟩) n n) L) (_hvb : vb < w.heap.size) (hcells : ∀ j u, (cells3 p)[j]? = some u → w.cell? ((⟨vb, 0, none⟩ : Addr).add j) = some u)
    (hpl : BkLen p.x) (hpf : FieldsOwn w B0 (some g) p.F p.x.f) :
    Calls Try.prog 38 #[.slice (some ⟨g, 0, none⟩) n n, .int .i64 n, .slice (some ⟨vb, 0, none⟩) 1 vc] w (InsPost B0 (L ++ [p]) w) := by
  obtain ⟨i0, hi, hiz, his, hib⟩ := info_parts infoBk
  have HI := Lib.hid (And.intro hi (And.intro hiz (And.intro his hib)))
  have HO := Lib.hid (And.intro hown (And.intro hcells (And.intro hpl (And.intro hpf (And.intro hB hL)))))
  have hrow : Hid (w.ownsRow B0 42 3 (.slice (some ⟨g, 0, none⟩) n n) n (cellsL L)) := Lib.hid (by have := hown.1; unfold RowMem at this; rwa [hL] at this)
  clear hi hiz his hib hown hcells hpl hpf hB hL
  go_enter Try.func38, Try.ntmps38
  go_wp2_with (at_builtin; refine wpList_append_own_at _ rfl _ _ 22 rfl B0 42 i0 _ 3 48 Try.underlying22 HI.out.1 HI.out.2.1 HI.out.2.2.1 HI.out.2.2.2 rfl (by decide) _ n _ rfl hrow.out ⟨vb, 0, none⟩ 1 vc (cells3 p) rfl rfl HO.out.2.1 (cells3_one p) (by unfold maxLen; omega) (by omega) HO.out.2.2.2.2.1 ?_; intro v' w2 hown' hgrow _ hat; have H2 := Lib.hid (And.intro hown' (And.intro hgrow hat)); clear hown' hgrow hat)
  go_ret
  have hlt := own_lt HO.out.1.1 g rfl
  have hsz := H2.out.2.1.size
  refine ⟨_, rfl, ⟨?_, ?_⟩, below_grown_at H2.out.2.1 hlt.1 HO.out.2.2.2.2.1⟩
  · have := H2.out.1
    unfold RowMem
    rw [cellsL_append, List.length_append, HO.out.2.2.2.2.2]
    simpa [cellsL] using this
  · have hk : ∀ (F' : Option Addr) (f' : List Int), FieldsOwn w B0 (some g) F' f' → FieldsOwn w2 B0 v'.ownBlock F' f' := fun F' f' hf => by
      intro i v hi
      obtain ⟨a, h1, h2, h3, h4, h5, h6⟩ := hf i v hi
      have hbl := H2.out.2.1.block a.block h3 h4
      refine ⟨a, h1, h2, by omega, ?_, (World.cell?_of_block (by rw [blk_add]; exact hbl)).trans h5, (World.frozen?_of_block (by rw [blk_add]; exact hbl)).trans h6⟩
      rcases H2.out.2.2 with hv | hv
      · rw [hv]; exact h4
      · rw [hv]; intro e; have := Option.some.inj e; omega
    intro q hq
    rcases List.mem_append.1 hq with hq | hq
    · have := HO.out.1.2 q hq
      exact ⟨this.1, hk _ _ this.2⟩
    · obtain rfl := List.mem_singleton.1 hq
      exact ⟨HO.out.2.2.1, hk _ _ HO.out.2.2.2.1⟩

theorem ins_own (B0 g n i G : Nat) (L : List Bx) (p : Bx) (hL : L.length = n) (hin : i < n) (w W : World) {R2 : Array Value} {zs : List Value} (hbel : Below w.heap.size w W) (hrow : W.heap[w.heap.size]? = some (.cells R2 42 (0, 0)))
    (hR2 : R2 = (((cellsL (L.take i) ++ cells3 p) ++ cellsL (L.drop i)) ++ (zs.drop 3).drop (cellsL (L.drop i)).length).toArray) (hGn : n + 1 ≤ G) (hG63 : G ≤ 9223372036854775807) (hB : B0 ≤ w.heap.size) (_hlt : B0 ≤ g ∧ g < w.heap.size)
    (hown : OwnMem w B0 (.slice (some ⟨g, 0, none⟩) n n) L) (hpl : BkLen p.x) (hpf : FieldsOwn w B0 (some g) p.F p.x.f) (hX2 : (cellsL (L.take i) ++ cells3 p).length = (i + 1) * 3) (hD : (cellsL (L.drop i)).length = (n - i) * 3) (hzl : zs.length = (n + 1 - i) * 3 + (G - (n + 1)) * 3) :
    OwnMem W B0 (.slice (some ⟨w.heap.size, 0, none⟩) (n + 1) G) (L.take i ++ p :: L.drop i) := by
  have hlen : (L.take i ++ p :: L.drop i).length = n + 1 := by rw [List.length_append, List.length_take, List.length_cons, List.length_drop]; omega
  have hc : cellsL (L.take i ++ p :: L.drop i) = (cellsL (L.take i) ++ cells3 p) ++ cellsL (L.drop i) := by rw [cellsL_append, cellsL_cons, List.append_assoc]
  refine ⟨?_, ?_⟩
  · unfold RowMem
    rw [hlen]
    refine ⟨by rw [cellsL_len, hlen], .inr ⟨w.heap.size, G, R2, rfl, hB, hrow, hGn, by unfold maxLen; omega, ?_, ?_⟩⟩
    · rw [hR2, List.size_toArray, List.length_append, List.length_append, hX2, hD, List.length_drop, List.length_drop, hzl]
      omega
    · rw [hR2, hc]
      show List.take ((n + 1) * 3) (((cellsL (L.take i) ++ cells3 p) ++ cellsL (L.drop i)) ++ _) = _
      rw [List.take_left' (by rw [List.length_append, hX2, hD]; omega)]
  · have hk : ∀ (F' : Option Addr) (f' : List Int), FieldsOwn w B0 (some g) F' f' → FieldsOwn W B0 (some w.heap.size) F' f' := fun F' f' hf => by
      intro j v hj
      obtain ⟨a, h1, h2, h3, _, h5, h6⟩ := hf j v hj
      have hbl := hbel.block a.block h3
      have := hbel.size
      exact ⟨a, h1, h2, by omega, fun e => by have := Option.some.inj e; omega, (World.cell?_of_block (by rw [blk_add]; exact hbl)).trans h5, (World.frozen?_of_block (by rw [blk_add]; exact hbl)).trans h6⟩
    intro q hq
    rcases List.mem_append.1 hq with hq | hq
    · have := hown.2 q (List.mem_of_mem_take hq)
      exact ⟨this.1, hk _ _ this.2⟩
    · rcases List.mem_cons.1 hq with rfl | hq
      · exact ⟨hpl, hk _ _ hpf⟩
      · have := hown.2 q (List.mem_of_mem_drop hq)
        exact ⟨this.1, hk _ _ this.2⟩

set_option maxRecDepth 100000 in
set_option maxHeartbeats 4000000 in
theorem insert_mid (B0 g vb n i vc : Nat) (L : List Bx) (p : Bx) (hL : L.length = n) (hin : i < n) (hn : n ≤ 1000) (w : World) (hB : B0 ≤ w.heap.size) (hown : OwnMem w B0 (.slice (some ⟨g, 0, none⟩) n n) L) (hvb : vb < w.heap.size) (hcells : ∀ j u, (cells3 p)[j]? = some u → w.cell? ((⟨vb, 0, none⟩ : Addr).add j) = some u)
    (hpl : BkLen p.x) (hpf : FieldsOwn w B0 (some g) p.F p.x.f) :
    Calls Try.prog 38 #[.slice (some ⟨g, 0, none⟩) n n, .int .i64 i, .slice (some ⟨vb, 0, none⟩) 1 vc] w (InsPost B0 (L.take i ++ p :: L.drop i) w) := by
  obtain ⟨i0, hi, hiz, his, hib⟩ := info_parts infoBk
  have hrow : w.ownsRow B0 42 3 (.slice (some ⟨g, 0, none⟩) n n) n (cellsL L) := by have := hown.1; unfold RowMem at this; rwa [hL] at this
  have hlt := own_lt hown.1 g rfl
  have hgw : g < w.heap.size := hlt.2
  have hold : (Builtin.firstCells i0.size i (.slice (some ⟨g, 0, none⟩) i n)).run Try.prog w.drew = .ok (cellsL (L.take i)).toArray w.drew := by
    rw [his]
    refine run_firstCells_some w.drew 3 i ⟨g, 0, none⟩ i n (cellsL (L.take i)) (by rw [cellsL_len, List.length_take]; omega) (fun j v hj => ?_)
    rw [← cellsL_take, List.getElem?_take] at hj
    split at hj
    · exact hrow.cells (g := g) rfl j v hj
    · cases hj
  have hik : i + (n + 1 - i) = n + 1 := by omega
  obtain ⟨G, hG⟩ : ∃ G, G = grownCap w (n + 1) n 42 := ⟨_, rfl⟩
  obtain ⟨zs, hzs⟩ : ∃ zs : List Value, zs = (Builtin.zeroCells (Value.agg #[.int .i64 0, .string ⟨#[]⟩, .slice none 0 0]).cells (n + 1 - i)).toList ++ (Builtin.zeroCells (Value.agg #[.int .i64 0, .string ⟨#[]⟩, .slice none 0 0]).cells (G - (n + 1))).toList := ⟨_, rfl⟩
  have hGn : n + 1 ≤ G := by rw [hG]; exact grownCap_ge w _ _ _
  have hzl : zs.length = (n + 1 - i) * 3 + (G - (n + 1)) * 3 := by rw [hzs, List.length_append, Array.length_toList, Array.length_toList, zeroCells_bk, zeroCells_bk]
  obtain ⟨ROW, hROW⟩ : ∃ ROW : Array Value, ROW = (cellsL (L.take i) ++ zs).toArray := ⟨_, rfl⟩
  have hkk : (n : Int) + 1 - (i : Int) = ((n + 1 - i : Nat) : Int) := by omega
  have hrz : ∀ ty, (Builtin.append_ #[22, 3] ty #[.slice (some ⟨g, 0, none⟩) i n, .int .i64 ((n : Int) + 1 - (i : Int))]).run Try.prog w = .ok (.slice (some ⟨w.heap.size, 0, none⟩) (n + 1) G) (w.drew.alloc (.cells ROW 42)) := fun ty => by
    have h := Lib.run_append_grow_zeros (P := Try.prog) w 22 3 ty 42 i0 _ .i64 .i64 Try.underlying22 Try.underlying3 hi hiz (some ⟨g, 0, none⟩) i n (cellsL (L.take i)) hold (n + 1 - i) (by omega) (by rw [his]; decide) (by omega) (by omega) (by rw [hib]; omega) (by rw [hib, hik]; exact growslice_fits (by omega) (by omega))
    rw [hik, ← hG] at h
    rw [hkk, h, show (cellsL (L.take i)).toArray ++ Builtin.zeroCells (Value.agg #[.int .i64 0, .string ⟨#[]⟩, .slice none 0 0]).cells (n + 1 - i) ++ Builtin.zeroCells (Value.agg #[.int .i64 0, .string ⟨#[]⟩, .slice none 0 0]).cells (G - (n + 1)) = ROW from by rw [hROW, hzs]; apply Array.toList_inj.1; simp]
  have hRl : ROW.size = G * 3 := by
    rw [hROW, List.size_toArray, List.length_append, cellsL_len, List.length_take, hzl]
    omega
  obtain ⟨R1, hR1⟩ : ∃ R1 : Array Value, R1 = ((cellsL (L.take i) ++ cells3 p) ++ zs.drop 3).toArray := ⟨_, rfl⟩
  obtain ⟨R2, hR2⟩ : ∃ R2 : Array Value, R2 = (((cellsL (L.take i) ++ cells3 p) ++ cellsL (L.drop i)) ++ (zs.drop 3).drop (cellsL (L.drop i)).length).toArray := ⟨_, rfl⟩
  have hX1 : (cellsL (L.take i)).length = i * 3 := by rw [cellsL_len, List.length_take]; omega
  have hX2 : (cellsL (L.take i) ++ cells3 p).length = (i + 1) * 3 := by rw [List.length_append, hX1]; show i * 3 + 3 = _; omega
  have hD : (cellsL (L.drop i)).length = (n - i) * 3 := by rw [cellsL_len, List.length_drop, hL]
  have hcpA : ∀ (W : World), W.heap[w.heap.size]? = some (.cells ROW 42 (0, 0)) → (∀ b, b < w.heap.size → W.heap[b]? = w.heap[b]?) → ∀ ty dc, (Builtin.copy_ #[22, 22] ty #[.slice (some ⟨w.heap.size, i * 3, none⟩) (n + 1 - i) dc, .slice (some ⟨vb, 0, none⟩) 1 vc]).run Try.prog W = .ok (goInt 1) (W.setRow w.heap.size R1) := fun W h1 h2 ty dc => by
    have h := run_copy_rows (P := Try.prog) W 22 22 ty 42 i0 w.heap.size (i * 3) (n + 1 - i) dc ⟨vb, 0, none⟩ 1 vc 1 ROW 42 (cells3 p) Try.underlying22 hi h1 (by simp only [Nat.min_def]; split <;> omega) (by rw [his]; rfl)
      (fun j v hj => (World.cell?_of_block (by rw [blk_add]; exact h2 vb hvb)).trans (hcells j v hj)) (by rw [hRl]; show i * 3 + 3 ≤ _; omega) (cells3_one p)
    rw [h, hROW, hR1]
    show Result.ok _ (W.setRow _ ((cellsL (L.take i) ++ zs).take (i * 3) ++ _).toArray) = _
    rw [splice_at _ _ _ _ hX1]
    rfl
  have hcpB : ∀ (W : World), W.heap[w.heap.size]? = some (.cells R1 42 (0, 0)) → (∀ b, b < w.heap.size → W.heap[b]? = w.heap[b]?) → ∀ ty dc sc, (Builtin.copy_ #[22, 22] ty #[.slice (some ⟨w.heap.size, (i + 1) * 3, none⟩) (n + 1 - (i + 1)) dc, .slice (some ⟨g, i * 3, none⟩) (n - i) sc]).run Try.prog W = .ok (goInt ((n - i : Nat) : Int)) (W.setRow w.heap.size R2) := fun W h1 h2 ty dc sc => by
    have h := run_copy_rows (P := Try.prog) W 22 22 ty 42 i0 w.heap.size ((i + 1) * 3) (n + 1 - (i + 1)) dc ⟨g, i * 3, none⟩ (n - i) sc (n - i) R1 42 (cellsL (L.drop i)) Try.underlying22 hi h1 (by simp only [Nat.min_def]; split <;> omega) (by rw [his, hD])
      (fun j v hj => by
        have hc := hrow.cells (g := g) rfl (i * 3 + j) v (by rw [← List.getElem?_drop, cellsL_drop]; exact hj)
        have e1 : (⟨g, 0, none⟩ : Addr).add (i * 3 + j) = ⟨g, i * 3 + j, none⟩ := by rw [Addr.add_lit, Nat.zero_add]
        have e2 : (⟨g, i * 3, none⟩ : Addr).add j = ⟨g, i * 3 + j, none⟩ := Addr.add_lit ..
        rw [e1] at hc
        rw [e2]
        exact (World.cell?_of_block (a := ⟨g, i * 3 + j, none⟩) (h2 g hgw)).trans hc)
      (by rw [hR1, List.size_toArray, List.length_append, hX2, List.length_drop, hzl, hD]; omega) (cellsL_one _)
    rw [h, hR1, hR2]
    show Result.ok _ (W.setRow _ (((cellsL (L.take i) ++ cells3 p) ++ zs.drop 3).take ((i + 1) * 3) ++ _).toArray) = _
    rw [splice_at _ _ _ _ hX2]
  have hO1 : ∀ b, b < w.heap.size → (w.drew.alloc (.cells ROW 42)).heap[b]? = w.heap[b]? := fun b hb => (below_alloc w.drew _).block b hb
  have hN1 : (w.drew.alloc (.cells ROW 42)).heap[w.heap.size]? = some (.cells ROW 42 (0, 0)) := heap_of_alloc w.drew _
  have HA : Hid (∀ (W : World), W.heap = (w.alloc (.cells ROW 42)).heap → ∀ ty dc, (Builtin.copy_ #[22, 22] ty #[.slice (some ⟨w.heap.size, i * 3, none⟩) (n + 1 - i) dc, .slice (some ⟨vb, 0, none⟩) 1 vc]).run Try.prog W = .ok (goInt 1) (W.setRow w.heap.size R1)) := Lib.hid (fun W hW => hcpA W (by rw [hW]; exact hN1) (fun b hb => by rw [hW]; exact hO1 b hb))
  have HB2 : Hid (∀ (W : World), W.heap = ((w.alloc (.cells ROW 42)).setRow w.heap.size R1).heap → ∀ ty dc sc, (Builtin.copy_ #[22, 22] ty #[.slice (some ⟨w.heap.size, (i + 1) * 3, none⟩) (n + 1 - (i + 1)) dc, .slice (some ⟨g, i * 3, none⟩) (n - i) sc]).run Try.prog W = .ok (goInt ((n - i : Nat) : Int)) (W.setRow w.heap.size R2)) := Lib.hid (fun W hW => hcpB W (by rw [hW]; exact setRow_heap _ _ ROW _ _ _ hN1) (fun b hb => by rw [hW]; exact (setRow_other _ _ b _ (by omega)).trans (hO1 b hb)))
  have HA1 := Lib.hid (HA.out ((w.alloc (.cells ROW 42)).drew) rfl)
  have HB1 := Lib.hid (HB2.out (((w.alloc (.cells ROW 42)).drew.setRow w.heap.size R1).drew) rfl)
  have HZ := Lib.hid hrz
  have HX := Lib.hid (And.intro hGn (And.intro hR2 (And.intro hown (And.intro hpl (And.intro hpf (And.intro hL (And.intro hB (And.intro hlt (And.intro hN1 (And.intro hO1 (And.intro hD (And.intro hX2 hzl))))))))))))
  have hG63 : G ≤ 9223372036854775807 := by rw [hG]; exact grownCap_small (by omega)
  have hGi : ¬ (G = i) := by omega
  have hGim : ¬ (G = i + 1) := by omega
  have hci : ¬ (n = i) := by omega
  have hz2 : ¬ ((i : Int) = (n : Int)) := by omega
  have hz3 : (n : Int) < (n : Int) + 1 := by omega
  have hw1 : IntKind.i64.wrap ((i : Int) + 1) = (i : Int) + 1 := by rw [IntKind.wrap_i64]; omega
  have hb1 : (0 : Int) ≤ (i : Int) + 1 := by omega
  have hin2 : i ≤ n := by omega
  have htn : ((i : Int) + 1).toNat = i + 1 := by omega
  have hb3 : (i : Int) ≤ (n : Int) := by omega
  clear hrz hcpA hcpB hrow hold hGn hR1 hR2 hROW hRl hzs hown hpl hpf hL hB hlt hN1 hO1 hD hX1 hX2 hzl hcells hi hiz his hib hik hkk hG hgw hvb
  go_enter Try.func38, Try.ntmps38
  go_wp2_with (first
    | (at_builtin; refine Lib.wpList_append_run _ rfl _ _ _ _ rfl _ _ rfl rfl _ _ (HZ.out _) ?_)
    | (refine wpList_copy_runI (o := ⟨some 45, _, _, _, _, _⟩) _ rfl _ _ 22 22 rfl _ _ rfl rfl (HA1.out _ _) ?_))
  go_region_law (refine step_copy_runI rfl _ _ 22 22 rfl (.slice (some ⟨w.heap.size, (i + 1) * 3, none⟩) (n + 1 - (i + 1)) (G - (i + 1))) (.slice (some ⟨g, i * 3, none⟩) (n - i) (n - i)) (by simp [Act.eval, Act.put]) (by simp [Act.eval, Act.put]) (HB1.out _ _ _) ?_)
  go_wp2
  go_ret
  obtain ⟨hGn, hR2, hown, hpl, hpf, hL, hB, hlt, hN1, hO1, hD, hX2, hzl⟩ := HX.out
  have hbel : Below w.heap.size w ((((w.alloc (.cells ROW 42)).drew.setRow w.heap.size R1).drew).setRow w.heap.size R2) := Go.below_setRow ((Go.below_setRow ((below_alloc w _).drew1) (Nat.le_refl _) R1).drew1) (Nat.le_refl _) R2
  have hrow2 : ((((w.alloc (.cells ROW 42)).drew.setRow w.heap.size R1).drew).setRow w.heap.size R2).heap[w.heap.size]? = some (.cells R2 42 (0, 0)) := setRow_heap _ _ R1 _ _ _ (setRow_heap _ _ ROW _ _ _ hN1)
  exact ⟨.slice (some ⟨w.heap.size, 0, none⟩) (n + 1) G, rfl, ins_own B0 g n i G L p hL hin w _ hbel hrow2 hR2 hGn hG63 hB hlt hown hpl hpf hX2 hD hzl, hbel.mono hB⟩

end Go.Proofs.Ytbmejohoifpfhaa
