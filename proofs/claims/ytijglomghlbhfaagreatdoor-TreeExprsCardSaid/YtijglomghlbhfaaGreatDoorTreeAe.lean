/-
  awake's expression: tree.Expr and tree.Vars at it.
-/
import Derived.Test.YtijglomghlbhfaaGreatDoorTreeXe
import Derived.Test.YtijglomghlbhfaaGreatDoorTreeVs
namespace Go.Proofs.YtijglomghlbhfaaGreatDoor
open Go.RowKit
open Go.Sort

abbrev rowTwo : Array Value := #[.int .i64 2, .int .i64 0, .string ⟨#[121]⟩, .slice none 0 0, .int .i64 2, .int .i64 0, .string ⟨#[120]⟩, .slice none 0 0]
abbrev rowOne (r2 : Nat) : Array Value := #[.int .i64 4, .int .i64 0, .string ⟨#[]⟩, .slice (some ⟨r2, 0, none⟩) 2 2]

/-- Where the expression's rows lie. -/
structure EAt (W : World) (r1 r2 : Nat) : Prop where
  h1 : W.heap[r1]? = some (.cells (rowOne r2) 24 (0, 0))
  h2 : W.heap[r2]? = some (.cells rowTwo 24 (0, 0))

abbrev exTwo : List Ex := [.mk 2 0 [121] [], .mk 2 0 [120] []]
abbrev exOne : List Ex := [.mk 4 0 [] exTwo]

theorem EAt.lt1 {W : World} {r1 r2 : Nat} (h : EAt W r1 r2) : r1 < W.heap.size := (Array.getElem?_eq_some_iff.1 h.h1).1
theorem EAt.lt2 {W : World} {r1 r2 : Nat} (h : EAt W r1 r2) : r2 < W.heap.size := (Array.getElem?_eq_some_iff.1 h.h2).1

theorem EAt.stay {W W' : World} {r1 r2 : Nat} (h : EAt W r1 r2) (hb : Below W.heap.size W W') : EAt W' r1 r2 := ⟨kept_box hb h.h1, kept_box hb h.h2⟩

theorem EAt.two {W : World} {r1 r2 : Nat} (h : EAt W r1 r2) : ExRow W W.heap.size exTwo (some ⟨r2, 0, none⟩) := by
  refine .row _ _ (fun _ => none) (fun _ => 0) h.lt2 (fun i k n s l hi => ?_) (fun i k n s l hi => ?_)
  · match i, hi with
    | 0, hi =>
      injection hi with hi; injection hi with e1 e2 e3 e4; subst e1 e2 e3 e4
      simp only [add_block0]
      exact ⟨cell_of_block h.h2 0 rfl, cell_of_block h.h2 1 rfl, cell_of_block h.h2 2 rfl, cell_of_block h.h2 3 rfl, by decide, by decide⟩
    | 1, hi =>
      injection hi with hi; injection hi with e1 e2 e3 e4; subst e1 e2 e3 e4
      simp only [add_add_plain, add_block0]
      exact ⟨cell_of_block h.h2 4 rfl, cell_of_block h.h2 5 rfl, cell_of_block h.h2 6 rfl, cell_of_block h.h2 7 rfl, by decide, by decide⟩
    | i + 2, hi => simp at hi
  · match i, hi with
    | 0, hi => injection hi with hi; injection hi with e1 e2 e3 e4; subst e4; exact .nil _
    | 1, hi => injection hi with hi; injection hi with e1 e2 e3 e4; subst e4; exact .nil _
    | i + 2, hi => simp at hi

theorem EAt.one {W : World} {r1 r2 : Nat} (h : EAt W r1 r2) : ExRow W W.heap.size exOne (some ⟨r1, 0, none⟩) := by
  refine .row _ _ (fun _ => some ⟨r2, 0, none⟩) (fun _ => 2) h.lt1 (fun i k n s l hi => ?_) (fun i k n s l hi => ?_)
  · match i, hi with
    | 0, hi =>
      injection hi with hi; injection hi with e1 e2 e3 e4; subst e1 e2 e3 e4
      simp only [add_block0]
      exact ⟨cell_of_block h.h1 0 rfl, cell_of_block h.h1 1 rfl, cell_of_block h.h1 2 rfl, cell_of_block h.h1 3 rfl, by decide, by decide⟩
    | i + 1, hi => simp at hi
  · match i, hi with
    | 0, hi => injection hi with hi; injection hi with e1 e2 e3 e4; subst e4; exact h.two
    | i + 1, hi => simp at hi

set_option maxRecDepth 100000 in
theorem vE_awake : vE varB 1125899906842624 30 (.mk 6 2 [] exOne) = true := by kernel_rfl

theorem e_expr (r1 r2 : Nat) (W : World) (h : EAt W r1 r2) :
    Calls Tryz.prog 15 #[exprV 6 2 ⟨#[]⟩ (.slice (some ⟨r1, 0, none⟩) 1 1)] W fun e w' => e = .returned (.bool true) ∧ Below W.heap.size W w' := by
  have := texpr_any 6 2 [] exOne (some ⟨r1, 0, none⟩) 1 W h.one (by decide) (by decide)
  rw [vE_awake] at this
  exact this

theorem sort_yx : [[121], [120]].mergeSort (fun (x y : List UInt8) => decide (x ≤ y)) = [[120], [121]] := by
  simp [List.mergeSort, List.merge, List.MergeSort.Internal.splitInTwo]
  decide
theorem sort_xy : [[120], [121]].mergeSort (fun (x y : List UInt8) => decide (x ≤ y)) = [[120], [121]] := by
  simp [List.mergeSort, List.merge, List.MergeSort.Internal.splitInTwo]
  decide

theorem putted_perm (ss : List (List UInt8)) (h : ss.Perm [[121], [120]]) : (ss.mergeSort (fun x y => decide (x ≤ y))).map encStr = [.string ⟨#[120]⟩, .string ⟨#[121]⟩] := by
  have hl := h.length_eq
  match ss, hl with
  | [a, b], _ =>
    have h1 := h.mem_iff (a := a)
    have h2 := h.mem_iff (a := b)
    have h3 := h.mem_iff (a := [121])
    have h4 := h.mem_iff (a := [120])
    simp only [List.mem_cons, List.not_mem_nil, or_false, true_or, or_true, true_iff, iff_true] at h1 h2 h3 h4
    rcases h1 with rfl | rfl
    · rcases h2 with rfl | rfl
      · simp at h4
      · rw [sort_yx]; rfl
    · rcases h2 with rfl | rfl
      · rw [sort_xy]; rfl
      · simp at h3

/-- tree.Vars at it: a new row of x and y. -/
theorem e_vars (r1 r2 : Nat) (W : World) (h : EAt W r1 r2) :
    Calls Tryz.prog 47 #[exprV 6 2 ⟨#[]⟩ (.slice (some ⟨r1, 0, none⟩) 1 1)] W fun e w' => ∃ g c, e = .returned (.slice (some ⟨g, 0, none⟩) 2 c) ∧ w'.cell? ⟨g, 0, none⟩ = some (.string ⟨#[120]⟩) ∧ w'.cell? ⟨g, 1, none⟩ = some (.string ⟨#[121]⟩) ∧ Below W.heap.size W w' := by
  have hk : (strKeys (((DataW.map [] : DataW Unit).put (.string [121]) (.lit (.bool true))).put (.string [120]) (.lit (.bool true)))).Perm [[121], [120]] := by
    first
      | exact (show _ = [[121], [120]] by kernel_rfl) ▸ List.Perm.refl _
      | exact (show _ = [[120], [121]] by kernel_rfl) ▸ List.Perm.swap _ _ _
      | decide
  refine (vars_any 6 2 ⟨#[]⟩ (some ⟨r1, 0, none⟩) 1 1 2 (((DataW.map []).put (.string [121]) (.lit (.bool true))).put (.string [120]) (.lit (.bool true))) W (by decide) (by decide) (fun W2 b hb hB hN => ?_)).mono fun e w' ⟨v, ss, B, he, hp, hB, hrow, hnil, hbl⟩ => ?_
  · have h2 := h.stay hb
    exact collect_nest 6 2 4 0 (by decide) (by decide) ⟨#[]⟩ ⟨#[]⟩ ⟨#[121]⟩ ⟨#[120]⟩ (by decide) (by decide) ⟨r1, 0, none⟩ ⟨r2, 0, none⟩ 1 2 b 0 (.map []) W2 h2.lt1 (by have := h.lt1; show r1 ≠ b; omega) h2.lt2 (by have := h.lt2; show r2 ≠ b; omega) hN (by decide)
      ⟨by rw [add_block0]; exact cell_of_block h2.h1 0 rfl, by rw [add_add_plain, add_block0]; exact cell_of_block h2.h1 1 rfl, by rw [add_add_plain, add_block0]; exact cell_of_block h2.h1 2 rfl, by rw [add_add_plain, add_block0]; exact cell_of_block h2.h1 3 rfl⟩
      ⟨by rw [add_block0]; exact cell_of_block h2.h2 0 rfl, by rw [add_add_plain, add_block0]; exact cell_of_block h2.h2 1 rfl, by rw [add_add_plain, add_block0]; exact cell_of_block h2.h2 2 rfl, by rw [add_add_plain, add_block0]; exact cell_of_block h2.h2 3 rfl⟩
      ⟨by rw [add_block0]; exact cell_of_block h2.h2 4 rfl, by rw [add_add_plain, add_block0]; exact cell_of_block h2.h2 5 rfl, by rw [add_add_plain, add_block0]; exact cell_of_block h2.h2 6 rfl, by rw [add_add_plain, add_block0]; exact cell_of_block h2.h2 7 rfl⟩
  · replace hp := hp.trans hk
    have hl : ss.length = 2 := hp.length_eq
    rw [putted_perm ss hp, hl] at hrow
    obtain ⟨_, ⟨hv, h0⟩ | ⟨g, cap, cur, hv, hg, hc, h1, h2, h3, h4⟩⟩ := hrow
    · cases h0
    · subst hv
      have hcell : ∀ j x, ([.string ⟨#[120]⟩, .string ⟨#[121]⟩] : List Value)[j]? = some x → w'.cell? ⟨g, j, none⟩ = some x := fun j x hx => by
        refine cell_of_block hc j ?_
        rw [← h4, List.getElem?_take] at hx
        split at hx
        · simpa using hx
        · cases hx
      exact ⟨g, cap, he, hcell 0 _ rfl, hcell 1 _ rfl, hbl⟩

end Go.Proofs.YtijglomghlbhfaaGreatDoor
