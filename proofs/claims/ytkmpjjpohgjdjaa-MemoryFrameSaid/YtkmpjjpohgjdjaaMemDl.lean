/-
  slices.Delete at blocks: one block out of a row of the call's own. memory.Free.
-/
import Derived.Test.YtkmpjjpohgjdjaaMemWr
import Derived.Deep.RegionLaw
import Derived.Lib.SliceRun
namespace Go.Proofs.Ytkmpjjpohgjdjaa
open Go.RowKit Go.Lib

theorem sc_size {g : Nat} : ∀ (vs : List Value) (o : Nat) (w : World), (w.setCells g o vs).heap.size = w.heap.size
  | [], _, _ => rfl
  | v :: r, o, w => (sc_size r (o + 1) (w.setCell ⟨g, o, none⟩ v)).trans (set_size _ _ _)

theorem sc_other {g b : Nat} (h : b ≠ g) : ∀ (vs : List Value) (o : Nat) (w : World), (w.setCells g o vs).heap[b]? = w.heap[b]?
  | [], _, _ => rfl
  | v :: r, o, w => (sc_other h r (o + 1) (w.setCell ⟨g, o, none⟩ v)).trans (heap_set_other h)

theorem sc_below {B g : Nat} {a : World} (hB : B ≤ g) : ∀ (vs : List Value) (o : Nat) (w : World), Below B a w → Below B a (w.setCells g o vs)
  | [], _, _, h => h
  | v :: r, o, w, h => sc_below hB r (o + 1) (w.setCell ⟨g, o, none⟩ v) (h.setCell (p := ⟨g, o, none⟩) hB v)

/-- Stores one after another into a row of one's own. -/
theorem own_setCells {B g c size n : Nat} {e : TypeId} : ∀ (news : List Value) (o : Nat) (xs : List Value) (W : World), W.ownsRow B e size (.slice (some ⟨g, 0, none⟩) n c) n xs →
    ∃ ys, (W.setCells g o news).ownsRow B e size (.slice (some ⟨g, 0, none⟩) n c) n ys ∧ ∀ j : Nat, ys[j]? = if o ≤ j ∧ j < o + news.length ∧ j < xs.length then news[j - o]? else xs[j]?
  | [], o, xs, W, h => ⟨xs, h, fun j => by rw [if_neg (by simp only [List.length_nil]; omega)]⟩
  | u :: us, o, xs, W, h => by
    obtain ⟨ys, h1, h2⟩ := own_setCells us (o + 1) (xs.set o u) _ (h.stored o u).1
    refine ⟨ys, h1, fun j => ?_⟩
    rw [h2 j, List.length_set]
    by_cases hj : j = o
    · subst hj
      rw [if_neg (by omega)]
      by_cases hl : j < xs.length
      · rw [if_pos ⟨Nat.le_refl _, by simp only [List.length_cons]; omega, hl⟩, List.getElem?_set_self hl, Nat.sub_self]; rfl
      · rw [if_neg (by omega), List.getElem?_eq_none (by rw [List.length_set]; omega), List.getElem?_eq_none (by omega)]
    · rw [List.getElem?_set_ne (fun e => hj e.symm)]
      by_cases hin : o + 1 ≤ j ∧ j < o + 1 + us.length ∧ j < xs.length
      · rw [if_pos hin, if_pos ⟨by omega, by simp only [List.length_cons]; omega, hin.2.2⟩, show j - o = (j - (o + 1)) + 1 by omega]; rfl
      · rw [if_neg hin, if_neg (by simp only [List.length_cons]; omega)]

theorem own_short {W : World} {B g c size n n' : Nat} {e : TypeId} {xs : List Value} (h : W.ownsRow B e size (.slice (some ⟨g, 0, none⟩) n c) n xs) (hn : n' ≤ n) : W.ownsRow B e size (.slice (some ⟨g, 0, none⟩) n' c) n' (xs.take (n' * size)) := by
  have hl := h.1
  have hle : n' * size ≤ n * size := Nat.mul_le_mul_right _ hn
  refine ⟨by rw [List.length_take]; omega, ?_⟩
  rcases h.2 with ⟨hv, _⟩ | ⟨g', cap, cur, hv, hB, hh, hnc, hcm, hsz, ht⟩
  · cases hv
  · injection hv with h1 h2 h3
    have h4 : g = g' := by injection h1 with h1; injection h1
    subst h4
    subst h3
    exact .inr ⟨g, _, cur, rfl, hB, hh, by omega, hcm, hsz, by rw [← ht, List.take_take, Nat.min_eq_left hle]⟩

def zero3 : List Value := [.int .i64 0, .string ⟨#[]⟩, .slice none 0 0]

theorem run_clear_bk (w : World) (ty : TypeId) (b o m c : Nat) (hm : m = 1) (hc : ∀ j, j < 3 → (w.cell? ⟨b, o + j, none⟩).isSome = true) (hf : ∀ j, j < 3 → w.frozen? ⟨b, o + j, none⟩ = false) :
    (Builtin.clear_ #[22] ty #[.slice (some ⟨b, o, none⟩) m c]).run Try.prog w = .ok (.tuple #[]) (w.setCells b o zero3) := by
  subst hm
  have hv : ∀ w : World, (zeroValue 43).run Try.prog w = .ok (.agg #[.int .i64 0, .string ⟨#[]⟩, .slice none 0 0]) w := fun _ => by kernel_rfl
  have hst := run_storeCells_cells (P := Try.prog) b o zero3 0 w (by simpa [zero3] using hc) (by simpa [zero3] using hf) (by intro v hv'; simp only [zero3, List.mem_cons, List.not_mem_nil, or_false] at hv'; rcases hv' with rfl | rfl | rfl <;> rfl)
  simp only [Nat.add_zero] at hst
  have hzc : (Builtin.zeroCells (Value.agg #[.int .i64 0, .string ⟨#[]⟩, .slice none 0 0]).cells 1).toList = zero3 := by kernel_rfl
  simp [Builtin.clear_, run_underlying Try.underlying22, hv, hzc, hst]

/-- Behind a deletion. -/
def DelPost (B0 g n m : Nat) (L : List Bx) (w : World) (e : Ending) (w' : World) : Prop := e = .returned (.slice (some ⟨g, 0, none⟩) m n) ∧ OwnMem w' B0 (.slice (some ⟨g, 0, none⟩) m n) L ∧ L.length = m ∧ Below B0 w w'

theorem del_own {B0 g n i j : Nat} {L : List Bx} {w : World} (hL : L.length = n) (hij : i ≤ j) (hj : j ≤ n) (hown : OwnMem w B0 (.slice (some ⟨g, 0, none⟩) n n) L) :
    OwnMem ((w.drew.setCells g (0 + i * 3) (cellsL (L.drop j))).setCells g ((i + (n - j)) * 3) zero3) B0 (.slice (some ⟨g, 0, none⟩) (i + (n - j)) n) (L.take i ++ L.drop j) ∧
    Below B0 w ((w.drew.setCells g (0 + i * 3) (cellsL (L.drop j))).setCells g ((i + (n - j)) * 3) zero3) := by
  have hrow : w.ownsRow B0 43 3 (.slice (some ⟨g, 0, none⟩) n n) n (cellsL L) := by have := hown.1; unfold RowMem at this; rwa [hL] at this
  have hlt := own_lt hrow g rfl
  have h0 : w.drew.ownsRow B0 43 3 (.slice (some ⟨g, 0, none⟩) n n) n (cellsL L) := own_below hrow ((Below.refl w.heap.size w).drew1) (fun g' hg' => (own_lt hrow g' hg').2)
  obtain ⟨ys, h1, hy⟩ := own_setCells (cellsL (L.drop j)) (0 + i * 3) _ _ h0
  obtain ⟨zs, h2, hz⟩ := own_setCells zero3 ((i + (n - j)) * 3) _ _ h1
  have h3 := own_short h2 (n' := i + (n - j)) (by omega)
  have hlen : (L.take i ++ L.drop j).length = i + (n - j) := by rw [List.length_append, List.length_take, List.length_drop]; omega
  have hD : (cellsL (L.drop j)).length = (n - j) * 3 := by rw [cellsL_len, List.length_drop, hL]
  have hC : (cellsL L).length = n * 3 := by rw [cellsL_len, hL]
  have hT : (cellsL (L.take i)).length = i * 3 := by rw [cellsL_len, List.length_take]; omega
  have e : zs.take ((i + (n - j)) * 3) = cellsL (L.take i ++ L.drop j) := by
    apply List.ext_getElem?
    intro q
    by_cases hq : q < (i + (n - j)) * 3
    · rw [List.getElem?_take_of_lt hq, hz q, if_neg (by omega), hy q, cellsL_append]
      by_cases hqi : q < i * 3
      · rw [if_neg (by omega), List.getElem?_append_left (by omega), ← cellsL_take, List.getElem?_take_of_lt hqi]
      · rw [if_pos ⟨by omega, by omega, by omega⟩, List.getElem?_append_right (by omega), hT, Nat.zero_add]
    · rw [List.getElem?_eq_none (by rw [List.length_take]; omega), List.getElem?_eq_none (by rw [cellsL_len, hlen]; omega)]
  refine ⟨⟨?_, fun p hp => ?_⟩, sc_below hlt.1 _ _ _ (sc_below hlt.1 _ _ _ ((Below.refl B0 w).drew1))⟩
  · unfold RowMem
    rw [hlen, ← e]
    exact h3
  · have hpL : p ∈ L := by
      rcases List.mem_append.1 hp with hp | hp
      · exact List.mem_of_mem_take hp
      · exact List.mem_of_mem_drop hp
    obtain ⟨g1, g2⟩ := hown.2 p hpL
    refine ⟨g1, g2.keep (by rw [sc_size, sc_size]; exact Nat.le_refl _) (fun b _ _ hne => ?_)⟩
    have hb : b ≠ g := fun e => hne (by rw [e]; rfl)
    rw [sc_other hb, sc_other hb]
    rfl

set_option maxRecDepth 100000 in
set_option maxHeartbeats 4000000 in
theorem delete_any (B0 g n i j : Nat) (jj : Int) (hjj : jj = (j : Int)) (L : List Bx) (hL : L.length = n) (hij : j = i + 1) (hin : i < n) (hn : n ≤ 1000) (w : World) (hown : OwnMem w B0 (.slice (some ⟨g, 0, none⟩) n n) L) :
    Calls Try.prog 39 #[.slice (some ⟨g, 0, none⟩) n n, .int .i64 i, .int .i64 jj] w (DelPost B0 g n (i + (n - j)) (L.take i ++ L.drop j) w) := by
  subst hjj
  have hlt : i < j := by omega
  have hj : j ≤ n := by omega
  have hfin := Lib.hid (del_own hL (Nat.le_of_lt hlt) hj hown)
  have hrow : w.ownsRow B0 43 3 (.slice (some ⟨g, 0, none⟩) n n) n (cellsL L) := by have := hown.1; unfold RowMem at this; rwa [hL] at this
  have hC : (cellsL L).length = n * 3 := by rw [cellsL_len, hL]
  obtain ⟨i0, hi, hiz, his, hib⟩ := info_parts infoBk
  have HI := Lib.hid (And.intro hi (And.intro hiz (And.intro his hib)))
  obtain ⟨news, hnews⟩ : ∃ news, news = cellsL (L.drop j) := ⟨_, rfl⟩
  have hlen : news.length = (n - j) * 3 := by rw [hnews, cellsL_len, List.length_drop, hL]
  have hcell : ∀ q, q < n * 3 → w.drew.cell? ⟨g, q, none⟩ = (cellsL L)[q]? := fun q hq => hrow.cellAt q hq
  have hfroz : ∀ q, w.drew.frozen? ⟨g, q, none⟩ = false := fun q => hrow.frozenAt q
  obtain ⟨A, hA, hsrc⟩ : ∃ A : Addr, (if n = j then some (⟨g, 0, none⟩ : Addr) else some ⟨g, j * 3, none⟩) = some A ∧ Hid (∀ t u, news[t]? = some u → w.drew.cell? (A.add t) = some u) := by
    by_cases h : n = j
    · refine ⟨⟨g, 0, none⟩, by simp [h], fun t u hu => ?_⟩
      rw [List.eq_nil_of_length_eq_zero (show news.length = 0 by rw [hlen]; omega)] at hu
      simp at hu
    · refine ⟨⟨g, j * 3, none⟩, by simp [h], fun t u hu => ?_⟩
      have ht := (List.getElem?_eq_some_iff.1 hu).1
      rw [hlen] at ht
      rw [Addr.add_lit, hcell _ (by omega), ← List.getElem?_drop, cellsL_drop, ← hnews]
      exact hu
  have s1 : Hid (news.length = (n - j) * 3) := hlen
  have s2 : Hid (∀ u ∈ news, u.oneCell' = true) := by rw [hnews]; exact cellsL_one _
  have s3 : Hid (∀ t, t < news.length → (w.drew.cell? ⟨g, 0 + i * 3 + t, none⟩).isSome = true ∧ w.drew.frozen? ⟨g, 0 + i * 3 + t, none⟩ = false) := by
    intro t ht
    rw [hlen] at ht
    refine ⟨?_, hfroz _⟩
    rw [hcell _ (by omega), List.getElem?_eq_getElem (by omega)]
    rfl
  obtain ⟨W1, hW1⟩ : ∃ W1, W1 = w.drew.setCells g (0 + i * 3) news := ⟨_, rfl⟩
  have hW : Hid (W1 = w.drew.setCells g (0 + i * 3) news) := hW1
  have hcl : ∀ ty, (Builtin.clear_ #[22] ty #[.slice (some ⟨g, (i + (n - j)) * 3, none⟩) (n - (i + (n - j))) (n - (i + (n - j)))]).run Try.prog W1 = .ok (.tuple #[]) (W1.setCells g ((i + (n - j)) * 3) zero3) := fun ty =>
    run_clear_bk W1 ty g _ _ _ (by omega) (fun q hq => by
      rw [hW1]
      obtain ⟨ys, h1, hy⟩ := own_setCells news (0 + i * 3) (cellsL L) w.drew (own_below hrow ((Below.refl w.heap.size w).drew1) (fun g' hg' => (own_lt hrow g' hg').2))
      have hyl := h1.1
      rw [h1.cellAt _ (by omega), List.getElem?_eq_getElem (by omega)]
      rfl) (fun q hq => by rw [hW1, World.frozen?_setCells]; exact hfroz _)
  have hic : i ≤ n := by omega
  rw [← hnews] at hfin
  have HN := Lib.hid (And.intro hnews (And.intro hL trivial))
  clear hW1 hnews hrow hC hcell hfroz hown hi hiz his hib hlen hij
  go_enter Try.func39, Try.ntmps39
  go_wp2_with fail
  go_region_law (refine step_append_room rfl (.tmp 22) (.tmp 25) 22 rfl 43 i0 3 Try.underlying22 HI.out.1 HI.out.2.2.1 g 0 i n (by simp [Act.eval, Act.put]) A (n - j) (n - j) news (by simp [Act.eval, Act.put]) s1.out hsrc.out s2.out (by omega) s3.out ?_; rw [← hW.out])
  go_wp2
  go_ret
  rw [← hW.out] at hfin
  exact ⟨rfl, hfin.out.1, by rw [List.length_append, List.length_take, List.length_drop, HN.out.2.1]; omega, hfin.out.2⟩

/-- What Free answers where the block is at index i, or er is the error of looking for it. -/
def FrIs (l : List Bk) (i : Nat) (er : Int) (l' : List Bk) : Prop := (er ≠ 0 ∧ l' = []) ∨ (er = 0 ∧ l' = l.take i ++ l.drop (i + 1))

theorem fr_ex (l : List Bk) (i : Nat) (er : Int) : ∃ l', FrIs l i er l' := by
  by_cases h : er = 0
  · exact ⟨_, .inr ⟨h, rfl⟩⟩
  · exact ⟨[], .inl ⟨h, rfl⟩⟩

set_option maxRecDepth 100000 in
set_option maxHeartbeats 4000000 in
theorem free_any (A : Option Addr) (c n : Nat) (l : List Bk) (hn : n = l.length) (hl : n ≤ maxLen) (t : Int) (w : World) (hm : MemAt w w.heap.size A l) (i : Nat) (er : Int) (hL : Located l t i er) (l' : List Bk) (hF : FrIs l i er l') :
    Calls Try.prog 15 #[.slice A n c, .int .i64 t] w (WritePost l' er w) := by
  have HA : Hid (Calls Try.prog 38 #[.slice A n c, .int .i64 t] w fun e w' => e = .returned (.tuple #[.int .i64 i, .int .i64 er]) ∧ Below w.heap.size w w') := Lib.hid (locate_any _ _ _ l hn hl _ _ hm _ _ hL)
  have HM := Lib.hid (And.intro hm (And.intro hn hL))
  unfold maxLen at hl
  clear hm hL
  rcases hF with ⟨he, rfl⟩ | ⟨rfl, rfl⟩
  · have h2' : (er == 0) = false := beq_eq_false_iff_ne.2 he
    have h2'' : (er != 0) = true := by rw [bne_iff_ne]; exact he
    clear he hn
    go_enter Try.func15, Try.ntmps15
    go_wp2_with (go_at_call 38; refine HA.out.mono ?_; rintro e w1 ⟨rfl, hb⟩; have HB := Lib.hid hb; clear hb)
    go_ret2
    exact ⟨none, [], 0, rfl, rfl, OwnMem.nil _ _, HB.out⟩
  · obtain ⟨hok, _, hat⟩ := located_ok HM.out.2.2
    have hin : i < n := by have := hat.lt; omega
    have hin' : (i : Int) < n := by omega
    have hi0 : (0 : Int) ≤ i := by omega
    have h100 : n ≤ 100 := by have := hok.1; omega
    have hw1 : IntKind.i64.wrap ((i : Int) + 1) = (i : Int) + 1 := by rw [IntKind.wrap_i64]; omega
    have HC : Hid (∀ W, Below w.heap.size w W → Calls Try.prog 25 #[.slice A n c] W (CopyAllPost2 l n W)) := Lib.hid (fun W hW => copyAll_two A c n l HM.out.2.1 (by omega) (fun y hy => by
      obtain ⟨q, hq⟩ := List.getElem?_of_mem hy
      have := (hok.2 q y hq).1.2.2.1.2
      omega) W (HM.out.1.later hW))
    clear hn hok hat
    go_enter Try.func15, Try.ntmps15
    go_wp2_with (first
      | (go_at_call 38; refine HA.out.mono ?_; rintro e w1 ⟨rfl, hb⟩; have HB := Lib.hid hb; clear hb)
      | (go_at_call 25; refine (HC.out _ (by first | exact HB.out | exact HB.out.drew1)).mono ?_; rintro e w3 ⟨L, rfl, q1, q2, q3, q4, _⟩; have H3 := Lib.hid (And.intro q1 (And.intro q2 (And.intro q3 q4))); clear q1 q2 q3 q4)
      | (go_at_call 39; refine (delete_any w1.heap.size w1.heap.size n i (i + 1) ((i : Int) + 1) (by omega) L H3.out.2.1 rfl hin (by omega) _ H3.out.2.2.1).mono ?_; rintro e w4 ⟨rfl, q1, q2, q3⟩; have H4 := Lib.hid (And.intro q1 (And.intro q2 ((HB.out.next H3.out.2.2.2).trans (q3.mono HB.out.size)))); clear q1 q2 q3))
    go_ret2
    refine ⟨some ⟨w1.heap.size, 0, none⟩, L.take i ++ L.drop (i + 1), n, (by rw [H4.out.2.1]; rfl), ?_, ?_, H4.out.2.2⟩
    · have h1 := H3.out.1
      unfold blocksOf at h1 ⊢
      rw [List.map_append, List.map_take, List.map_drop, h1]
    · rw [H4.out.2.1]
      exact H4.out.1.base HB.out.size

end Go.Proofs.Ytkmpjjpohgjdjaa
