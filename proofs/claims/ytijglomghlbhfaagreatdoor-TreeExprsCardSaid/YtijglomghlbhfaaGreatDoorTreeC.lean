/-
  copyStmts' literal: a copy of a statement, a level further in.
-/
import Derived.Test.YtijglomghlbhfaaGreatDoorTreeB
namespace Go.Proofs.YtijglomghlbhfaaGreatDoor
open Go.RowKit

/-- What holds of a copy: it speaks of blocks from B on, whatever turns below. -/
structure Stays (R : Nat → Array Value → World → Prop) : Prop where
  part : ∀ B v W W', R B v W → Part (fun b => b < B) W W' → R B v W'
  mono : ∀ B B' v W, R B v W → B' ≤ B → R B' v W

theorem load_new {W : World} {cs : Array Value} {t : TypeId} {N b : Nat} (h : W.heap[b]? = some (.cells cs t (0, 0))) (hN : cs.size = N) : (loadCellsFrom ⟨b, 0, none⟩ 0 N #[]).run Tryz.prog W = .ok cs W :=
  load_list (a := ⟨b, 0, none⟩) (fun j v hv => by rw [add_block0]; exact cell_of_block h j hv) hN

theorem part_row {W : World} {b B : Nat} (cs : Array Value) (hb : b < B) : Part (fun k => k < B) W (W.setRow b cs) :=
  ⟨rfl, rfl, rfl, by simp, fun k hk hn => by
    have hne : k ≠ b := by omega
    simp only [World.setRow, Array.getElem?_modify]
    rw [if_neg (by omega)]⟩

set_option maxRecDepth 100000 in
set_option maxHeartbeats 4000000 in
theorem cs1_any (R : Nat → Array Value → World → Prop) (hR : Stays R) (cs : Array Value) (h24 : cs.size = 24) (lv : Int) (p : Nat) (w : World) (hp : w.cell? ⟨p, 0, none⟩ = some (.int .i64 lv)) (hpl : p < w.heap.size) (h : 1 ≤ lv) (h2 : lv ≤ 9223372036854775807)
    (hC : ∀ W, Below w.heap.size w W → Calls Tryz.prog 97 #[.agg cs, .int .i64 (lv - 1)] W fun e w' => ∃ cs' : Array Value, e = .returned (.agg cs') ∧ cs'.size = 24 ∧ cs'.all (·.oneCell') = true ∧ R W.heap.size cs' w' ∧ Below W.heap.size W w') :
    Calls Tryz.prog 145 #[.agg cs, .pointer (some ⟨p, 0, none⟩)] w fun e w' => ∃ cs' : Array Value, e = .returned (.agg cs') ∧ cs'.size = 24 ∧ cs'.all (·.oneCell') = true ∧ R w.heap.size cs' w' ∧ Below w.heap.size w w' := by
  obtain ⟨T, N, zc, hT, hN, hzc, hag, hsz, hzv⟩ := stmt_hidden2
  have e1 : ∀ y : Operand, Op.load 69 y = Op.load T y := fun y => by rw [hT]
  have e2 : ∀ y z : Operand, Op.store 69 y z = Op.store T y z := fun y z => by rw [hT]
  have e3 : Op.alloc 69 = Op.alloc T := by rw [hT]
  have e4 : ∀ y : Operand, Op.box 69 y = Op.box T y := fun y => by rw [hT]
  have hszc : cs.size = N := h24.trans hN.symm
  have hb1 := heap_of_alloc w (.cells cs T)
  have hb2 := heap_keep (o := .cells zc T) hb1
  have hb3 := heap_alloc2_new w (.cells cs T) (.cells zc T)
  have hld := load_new hb2 hszc
  have hld1 := load_new hb1 hszc
  have hlb := blw (o := .cells zc T) (blw (o := .cells cs T) (Below.refl w.heap.size w))
  have HH := Lib.hid (And.intro hC (And.intro hR (And.intro hN (And.intro hT (And.intro hb3 hlb)))))
  have hl1 : lv - 1 ≤ 9223372036854775807 := by omega
  have hl0 : -9223372036854775808 ≤ lv - 1 := by omega
  clear hC hR hN hb1 hb2 hb3 hlb h24
  go_enter Tryz.func145, Tryz.ntmps145
  simp only [e1, e2, e3, e4]
  clear e1 e2 e3 e4 hT
  go_wp2_with (go_at_call 97; refine (HH.out.1 _ HH.out.2.2.2.2.2).mono ?_; rintro e w3 ⟨cs2, rfl, h24', h1', hr, hb⟩; have hres := kept_box (b := w.heap.size + 1) (o := .cells zc T (0, 0)) hb HH.out.2.2.2.2.1; have hst := store_cells (cs := cs2) hres (hzc.trans (h24'.trans HH.out.2.2.1.symm).symm) h1'; have hsz2 : cs2.size = N := h24'.trans HH.out.2.2.1.symm; have HBR := Lib.hid (And.intro hres (And.intro hr (And.intro hb (And.intro h24' h1')))); clear hres hr hb h24' h1')
  refine bodyPost_ret (results_cell_row rfl _ _ (w.heap.size + 1) T cs2 (0, 0) _ rfl (setRow_heap _ _ zc _ _ _ HBR.out.1) Tryz.underlying69 rfl (by rw [hsz2, HH.out.2.2.1]; kernel_rfl)) rfl ?_
  have hz2 : w.heap.size + 1 < ((w.alloc (.cells cs T)).alloc (.cells zc T)).heap.size := (Array.getElem?_eq_some_iff.1 HH.out.2.2.2.2.1).1
  refine ⟨cs2, rfl, HBR.out.2.2.2.1, HBR.out.2.2.2.2, ?_, below_setRow (HH.out.2.2.2.2.2.chain HBR.out.2.2.1) (Nat.le_succ _) cs2⟩
  refine HH.out.2.1.mono _ _ _ _ (HH.out.2.1.part _ _ _ _ HBR.out.2.1 (part_row cs2 hz2)) (by omega)

end Go.Proofs.YtijglomghlbhfaaGreatDoor
