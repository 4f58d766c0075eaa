/-
  sepallaw06.clone: a copy of a memory, appended block by block.
-/
import Derived.Test.YtocgbooackofiaaMemC
namespace Go.Proofs.Ytocgbooackofiaa
open Go.RowKit Go.Lib

/-- The copies so far. -/
structure Cloned (w : World) (l : List Bk) (k : Nat) (v : Value) (L : List Bx) (wr : World) : Prop where
  len : L.length = k
  eq : blocksOf L = l.take k
  own : OwnMem wr w.heap.size v L
  bel : Below w.heap.size w wr

/-- Behind sepallaw06.clone. -/
def LawClonePost (l : List Bk) (w : World) (e : Ending) (w' : World) : Prop := ∃ A L c, e = .returned (.slice A L.length c) ∧ blocksOf L = l ∧ OwnMem w' w.heap.size (.slice A L.length c) L ∧ Below w.heap.size w w'

theorem news_cells {w : World} (xa : Int) (xr : List UInt8) (F : Option Addr) (xn c : Nat) (t : TypeId) : ∀ j u, [Value.int .i64 xa, .string ⟨xr.toArray⟩, .slice F xn c][j]? = some u → (w.alloc (.cells #[.int .i64 xa, .string ⟨xr.toArray⟩, .slice F xn c] t)).cell? ((⟨w.heap.size, 0, none⟩ : Addr).add j) = some u := by
  intro j u hj
  rw [Addr.add_lit, Nat.zero_add]
  refine (cell_free (heap_of_alloc w _) j u ?_).1
  rw [← hj]; simp

theorem news_one (xa : Int) (xr : List UInt8) (F : Option Addr) (xn c : Nat) : ∀ u ∈ [Value.int .i64 xa, .string ⟨xr.toArray⟩, .slice F xn c], u.oneCell' = true := by
  intro u hu
  simp only [List.mem_cons, List.not_mem_nil, or_false] at hu
  rcases hu with rfl | rfl | rfl <;> rfl

theorem Cloned.next {w : World} {l : List Bk} {k : Nat} {v v' : Value} {L : List Bx} {wr W w2 : World} (h : Cloned w l k v L wr) (hb : Below wr.heap.size wr W) {x : Bk} (hx : l[k]? = some x) (hxl : BkLen x) {F : Option Addr} {c : Nat} (hF : FieldsOwn W wr.heap.size none F x.f)
    (hrow : w2.ownsRow w.heap.size 27 3 v' (k + 1) (cellsL L ++ cells3 ⟨x, F, c⟩)) (hgrow : W.grownBy w2 v.ownBlock) (hat : v'.ownBlock = v.ownBlock ∨ v'.ownBlock = some W.heap.size) :
    Cloned w l (k + 1) v' (L ++ [⟨x, F, c⟩]) w2 := by
  have hown := h.own.later hb
  have hk : ∀ (F' : Option Addr) (f' : List Int), FieldsOwn W w.heap.size v.ownBlock F' f' → FieldsOwn w2 w.heap.size v'.ownBlock F' f' := fun F' f' hf => by
    intro i u hi
    obtain ⟨a, h1, h2, h3, h4, h5, h6⟩ := hf i u hi
    have hbl := hgrow.block a.block h3 h4
    have hsz := hgrow.size
    refine ⟨a, h1, h2, by omega, ?_, (World.cell?_of_block (by rw [blk_add]; exact hbl)).trans h5, (World.frozen?_of_block (by rw [blk_add]; exact hbl)).trans h6⟩
    rcases hat with hv | hv
    · rw [hv]; exact h4
    · rw [hv]; intro e; have := Option.some.inj e; omega
  have hsz0 : w.heap.size ≤ wr.heap.size := h.bel.size
  refine ⟨by rw [List.length_append, h.len]; rfl, ?_, ⟨?_, fun p hp => ?_⟩, (h.bel.next hb).trans (below_grown hown.1 hgrow (Nat.le_trans hsz0 hb.size))⟩
  · have := h.eq
    unfold blocksOf at this ⊢
    rw [List.map_append, this, List.map_cons, List.map_nil, List.take_add_one, hx]
    rfl
  · unfold RowMem
    rw [cellsL_append, List.length_append, h.len]
    simpa [cellsL] using hrow
  · rcases List.mem_append.1 hp with hp | hp
    · have := hown.2 p hp
      exact ⟨this.1, hk _ _ this.2⟩
    · obtain rfl := List.mem_singleton.1 hp
      exact ⟨hxl, hk _ _ ((hF.avoid (fun b hb1 _ _ e => by have := (own_lt h.own.1 b e.symm).2; omega)).base hsz0)⟩

set_option maxRecDepth 100000 in
set_option maxHeartbeats 4000000 in
theorem lawclone_any (A : Option Addr) (c n : Nat) (l : List Bk) (hn : n = l.length) (hl : n * 48 ≤ 140737488351232) (hfl : ∀ x ∈ l, x.f.length * 8 ≤ 140737488351232) (w : World) (hm : MemAt w w.heap.size A l) :
    Calls Try.prog 20 #[.slice A n c] w (LawClonePost l w) := by
  have HM := Lib.hid (And.intro hm (And.intro hn (And.intro hfl (And.intro trivial hl))))
  have hl2 : n ≤ 2932031007318 := by omega
  clear hm hn hfl hl
  obtain ⟨i0, hi, hiz, his, hib⟩ := info_parts infoBk
  have HI0 := Lib.hid (And.intro hi (And.intro hiz (And.intro his hib)))
  clear hi hiz his hib
  go_enter Try.func20, Try.ntmps20
  go_wp2
  go_loopg [3, 8] n (fun m v j wr => ∃ (k : Nat) (L : List Bx), m = n - k ∧ k ≤ n ∧ j = .int .i64 k ∧ Hid (Cloned w l k v L wr))
  case atStart => exact ⟨0, [], rfl, Nat.zero_le _, rfl, Lib.hid ⟨rfl, rfl, OwnMem.nil _ _, Below.refl _ _⟩⟩
  case round =>
    obtain ⟨k, L, rfl, hk, rfl, HI⟩ := hrel
    by_cases hlt : k < n
    · have hlt' : (k : Int) < n := by omega
      obtain ⟨x, hx⟩ := mem_ex (l := l) (i := k) (by rw [← HM.out.2.1]; exact hlt)
      obtain ⟨a, F, c', rfl, hB⟩ := (HM.out.1.later HI.out.bel) k x hx
      have c0 := hB.c0
      have c1 : wr.cell? ⟨(a.add (k * 3)).block, (a.add (k * 3)).off + 1, none⟩ = _ := hB.c1
      have c2 : wr.cell? ⟨(a.add (k * 3)).block, (a.add (k * 3)).off + 2, none⟩ = _ := hB.c2
      have HX := Lib.hid (And.intro hx (And.intro hB.len hB.flds))
      clear hx hB
      obtain ⟨xa, hxa⟩ : ∃ xa, xa = x.a := ⟨_, rfl⟩
      obtain ⟨xr, hxr⟩ : ∃ xr, xr = x.r := ⟨_, rfl⟩
      obtain ⟨xn, hxn⟩ : ∃ xn, xn = x.f.length := ⟨_, rfl⟩
      have HE := Lib.hid (And.intro hxa (And.intro hxr hxn))
      have HJ := Lib.hid (below_alloc wr (.cells #[.int .i64 xa, .string ⟨xr.toArray⟩, .slice F xn c'] 27))
      have HC : Hid (∀ W, Below wr.heap.size wr W → Calls Try.prog 44 #[.slice F xn c'] W (ClonePost x.f xn W)) :=
        Lib.hid (fun W hW => cloneInts_any F c' xn x.f hxn (by rw [hxn]; have := HM.out.2.2.1 x (List.mem_of_getElem? HX.out.1); omega) W (HX.out.2.2.later hW))
      rw [← hxa] at c0
      rw [← hxr] at c1
      rw [← hxn] at c2
      clear hxa hxr hxn
      go_wp2_with (first
        | (go_at_call 44; refine (HC.out _ HJ.out).mono ?_; rintro e w3 ⟨F', c'', rfl, hb, hF⟩; have hbx := (hb.block wr.heap.size (by rw [size_of_alloc]; exact Nat.lt_succ_self _)).trans (heap_of_alloc wr _); obtain ⟨d0, g0⟩ := cell_free hbx 0 (.int .i64 xa) rfl; obtain ⟨d1, g1⟩ := cell_free hbx 1 (.string ⟨xr.toArray⟩) rfl; obtain ⟨d2, g2⟩ := cell_free hbx 2 (.slice F xn c') rfl; have hz := (Array.getElem?_eq_some_iff.1 hbx).1; have HW := Lib.hid ((((HJ.out.next hb).setCell (p := ⟨wr.heap.size, 2, none⟩) (Nat.le_refl _) (.slice F' xn c'')).al (.cells #[.int .i64 xa, .string ⟨xr.toArray⟩, .slice F' xn c''] 27))); have HF3 := Lib.hid (((hF.keep (w' := (w3.setCell ⟨wr.heap.size, 2, none⟩ (.slice F' xn c'')).alloc (.cells #[.int .i64 xa, .string ⟨xr.toArray⟩, .slice F' xn c''] 27)) (by rw [size_of_alloc]; simp [World.setCell]) (fun b hb1 hb2 _ => ((below_alloc _ _).block b (by simpa [World.setCell] using hb2)).trans (heap_set_other (by rw [size_of_alloc] at hb1; show b ≠ wr.heap.size; omega)))).base (by rw [size_of_alloc]; exact Nat.le_succ _) : FieldsOwn _ wr.heap.size none F' x.f)); have HR := Lib.hid (HI.out.own.1.later HW.out); have hs3 : (w3.setCell ⟨wr.heap.size, 2, none⟩ (.slice F' xn c'')).heap.size = w3.heap.size := (by simp [World.setCell]); have HC3 := Lib.hid (news_cells (w := w3.setCell ⟨wr.heap.size, 2, none⟩ (.slice F' xn c'')) xa xr F' xn c'' 27); rw [hs3] at HC3; clear hb hF hbx hs3)
        | (at_builtin; refine wpList_append_own_at _ rfl _ _ 22 rfl w.heap.size 27 i0 _ 3 48 Try.underlying22 HI0.out.1 HI0.out.2.1 HI0.out.2.2.1 HI0.out.2.2.2 rfl (by decide) _ L.length (cellsL L) rfl HR.out ⟨w3.heap.size, 0, none⟩ 1 1 [.int .i64 xa, .string ⟨xr.toArray⟩, .slice F' xn c''] rfl rfl HC3.out (news_one _ _ _ _ _) (by rw [HI.out.len]; unfold maxLen; omega) (by rw [HI.out.len]; omega) (Nat.le_trans HI.out.bel.size HW.out.size) ?_))
      intro v' w5 hown hgrow _ hat
      rw [HI.out.len] at hown
      have HX5 := Lib.hid (HI.out.next HW.out HX.out.1 HX.out.2.1 HF3.out (by rw [show cells3 ⟨x, F', c''⟩ = [.int .i64 xa, .string ⟨xr.toArray⟩, .slice F' xn c''] from by rw [HE.out.1, HE.out.2.1, HE.out.2.2]; rfl]; exact hown) hgrow (by rw [size_of_alloc]; simpa [World.setCell] using hat))
      clear hown hgrow hat
      go_wp2
      go_roundg (n - (k + 1))
      case measure => omega
      case rel => exact ⟨k + 1, _, rfl, by omega, by go_num, HX5⟩
    · obtain rfl : k = n := by omega
      go_wp2
      go_ret
      obtain ⟨A', c', hv⟩ := HI.out.own.form
      subst hv
      exact ⟨A', L, c', rfl, by rw [HI.out.eq, List.take_of_length_le (by rw [← HM.out.2.1]; exact Nat.le_refl _)], HI.out.own, HI.out.bel⟩

end Go.Proofs.Ytocgbooackofiaa
