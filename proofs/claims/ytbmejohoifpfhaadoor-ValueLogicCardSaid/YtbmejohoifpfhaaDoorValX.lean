/-
  The value of an expression: the code's store.expr.
-/
import Derived.Test.YtbmejohoifpfhaaDoorValV
import Derived.Test.YtbmejohoifpfhaaDoorTreeVm
import Derived.LoopN
namespace Go.Proofs.YtbmejohoifpfhaaDoor
open Go.RowKit

theorem opsB_len {m : Int} {l : List Ex} {f : Ex → Bool} (h : opsB m l f = true) : (l.length : Int) = m ∧ l.all f = true := by
  unfold opsB at h
  have h1 := Bool.and_eq_true_iff.1 h
  have h2 := Bool.and_eq_true_iff.1 h1.1
  have h3 := of_decide_eq_true h2.1
  have h4 := of_decide_eq_true h2.2
  exact ⟨by omega, h1.2⟩

theorem len0 {l : List Ex} (h : (l.length : Int) = 0) : l = [] := List.eq_nil_of_length_eq_zero (by omega)
theorem len1 {l : List Ex} (h : (l.length : Int) = 1) : ∃ a, l = [a] := by
  match l, h with
  | [a], _ => exact ⟨a, rfl⟩
  | [], h => simp at h
  | _ :: _ :: _, h => simp only [List.length_cons] at h; omega
theorem len2 {l : List Ex} (h : (l.length : Int) = 2) : ∃ a b, l = [a, b] := by
  match l, h with
  | [a, b], _ => exact ⟨a, b, rfl⟩
  | [], h => simp at h
  | [_], h => simp at h
  | _ :: _ :: _ :: _, h => simp only [List.length_cons] at h; omega

/-- The forms of a valid expression. -/
theorem vE_forms {var : List UInt8 → Bool} {nu : Int} {d : Nat} {k n : Int} {s : List UInt8} {l : List Ex} (h : vE var nu (d + 1) (.mk k n s l) = true) :
    (k = 1 ∧ l = []) ∨ (k = 2 ∧ l = []) ∨ (k = 3 ∧ l = []) ∨ ((k = 4 ∨ k = 5) ∧ ∃ a b, l = [a, b] ∧ vE var nu d a = true ∧ vE var nu d b = true) ∨ (k = 6 ∧ ∃ a, l = [a] ∧ vE var nu d a = true) := by
  rw [vE] at h
  split at h
  · next hk => exact .inl ⟨hk, len0 (opsB_len (Bool.and_eq_true_iff.1 h).2).1⟩
  · split at h
    · next hk => exact .inr (.inl ⟨hk, len0 (opsB_len (Bool.and_eq_true_iff.1 h).2).1⟩)
    · split at h
      · next hk => exact .inr (.inr (.inl ⟨hk, len0 (opsB_len (Bool.and_eq_true_iff.1 h).2).1⟩))
      · split at h
        · next hk =>
          obtain ⟨h1, h2⟩ := opsB_len (Bool.and_eq_true_iff.1 h).2
          obtain ⟨a, b, rfl⟩ := len2 h1
          simp only [List.all_cons, List.all_nil, Bool.and_true, Bool.and_eq_true] at h2
          exact .inr (.inr (.inr (.inl ⟨hk, a, b, rfl, h2⟩)))
        · split at h
          · next hk =>
            obtain ⟨h1, h2⟩ := opsB_len (Bool.and_eq_true_iff.1 h).2
            obtain ⟨a, rfl⟩ := len1 h1
            simp only [List.all_cons, List.all_nil, Bool.and_true] at h2
            exact .inr (.inr (.inr (.inr ⟨hk, a, rfl, h2⟩)))
          · cases h

theorem mul_small {m x : Int} (hm : InR m) (hx : InR x) : IntKind.i64.wrap (m * x) = m * x := by
  have h1 : m.natAbs ≤ 1048576 := by unfold InR at hm; omega
  have h2 : x.natAbs ≤ 1048576 := by unfold InR at hx; omega
  have h3 : (m * x).natAbs ≤ 1048576 * 1048576 := by rw [Int.natAbs_mul]; exact Nat.mul_le_mul h1 h2
  generalize m * x = p at h3 ⊢
  rw [IntKind.wrap_i64]
  omega

theorem add_small {m x : Int} (hm : InR m) (hx : InR x) : IntKind.i64.wrap (m + x) = m + x := by
  unfold InR at hm hx
  rw [IntKind.wrap_i64]
  omega

theorem sub_small {m x : Int} (hm : InR m) (hx : InR x) : IntKind.i64.wrap (m - x) = m - x := by
  unfold InR at hm hx
  rw [IntKind.wrap_i64]
  omega

/-- The cells of the element at index i, as a walk spells them. -/
theorem ex_cells {w : World} {B : Nat} {es : List Ex} {A : Option Addr} (h : ExRow w B es A) {i : Nat} {k n : Int} {s : List UInt8} {l : List Ex} (hi : es[i]? = some (.mk k n s l)) :
    ∃ a A' c', A = some a ∧ a.block < B ∧ w.cell? (a.add (i * 4)) = some (.int .i64 k) ∧ w.cell? ⟨(a.add (i * 4)).block, (a.add (i * 4)).off + 1, none⟩ = some (.int .i64 n) ∧ w.cell? ⟨(a.add (i * 4)).block, (a.add (i * 4)).off + 2, none⟩ = some (.string ⟨s.toArray⟩) ∧
      w.cell? ⟨(a.add (i * 4)).block, (a.add (i * 4)).off + 3, none⟩ = some (.slice A' l.length c') ∧ s.length ≤ maxLen ∧ l.length ≤ maxLen ∧ ExRow w B l A' := by
  obtain ⟨a, A', c', h1, h2, h3, h4, h5, h6, h7, h8, h9⟩ := h.at_ hi
  exact ⟨a, A', c', h1, h2, h3, h4, h5, h6, h7, h8, h9⟩

/-- What the code's expr does at depth d. -/
def VxOk (S : List Bd) (d : Nat) : Prop :=
  ∀ (A : Option Addr) (c n : Nat), n = S.length → n ≤ 100 → ∀ (k m : Int) (s : List UInt8) (l : List Ex) (B : Option Addr) (cB : Nat) (W : World), BdRow W W.heap.size S A → ExRow W W.heap.size l B → s.length ≤ maxLen → l.length ≤ maxLen → vE varR nuP d (.mk k m s l) = true →
    Calls Tryd.prog 30 #[.slice A n c, exprV k m ⟨s.toArray⟩ (.slice B l.length cB)] W fun e w' => e = .returned (.tuple #[.int .i64 (ev S d (.mk k m s l)).1, .int .i64 (ev S d (.mk k m s l)).2]) ∧ Below W.heap.size W w'

set_option maxRecDepth 100000 in
set_option maxHeartbeats 4000000 in
theorem vx_leaf (S : List Bd) (hS : StOk S) (A : Option Addr) (c n : Nat) (hn : n = S.length) (h100 : n ≤ 100) (k m : Int) (s : List UInt8) (B : Option Addr) (cB : Nat) (W : World) (hA : BdRow W W.heap.size S A) (_hs : s.length ≤ maxLen) (hk : k = 1 ∨ k = 2 ∨ k = 3) (r : Int × Int) (hr : r = if k = 1 then bnd m else if k = 2 then getS S s else (0, 0)) :
    Calls Tryd.prog 30 #[.slice A n c, exprV k m ⟨s.toArray⟩ (.slice B 0 cB)] W fun e w' => e = .returned (.tuple #[.int .i64 r.1, .int .i64 r.2]) ∧ Below W.heap.size W w' := by
  have HJ := Lib.hid ((below_alloc W (exprC k m ⟨s.toArray⟩ (.slice B 0 cB))).al (.cells #[.int .i64 0, .int .i64 0] 69))
  have HG : Hid (∀ W', Below W.heap.size W W' → Calls Tryd.prog 24 #[.slice A n c, .string ⟨s.toArray⟩] W' fun e w' => e = .returned (.tuple #[.int .i64 (getS S s).1, .int .i64 (getS S s).2]) ∧ Below W'.heap.size W' w') := Lib.hid (fun W' hb => vget_any A c n S hn h100 s W' hS (bd_later hA hb))
  have HBd : Hid (∀ W', Calls Tryd.prog 42 #[.int .i64 m] W' fun e w' => e = .returned (.tuple #[.int .i64 (bnd m).1, .int .i64 (bnd m).2]) ∧ W' = w') := Lib.hid (bounded_any m)
  clear hA hn
  rcases hk with rfl | rfl | rfl
  · obtain rfl : r = bnd m := hr
    go_enter Tryd.func30, Tryd.ntmps30
    go_wp2
    refine wp_loop_rounds 1 ?_
    rw [rounds_succ]
    go_wp2_with (go_at_call 42; refine (HBd.out _).mono ?_; rintro e w1 ⟨rfl, rfl⟩)
    go_ret2
    exact ⟨rfl, HJ.out⟩
  · obtain rfl : r = getS S s := hr
    go_enter Tryd.func30, Tryd.ntmps30
    go_wp2
    refine wp_loop_rounds 1 ?_
    rw [rounds_succ]
    go_wp2_with (go_at_call 24; refine (HG.out _ HJ.out).mono ?_; rintro e w1 ⟨rfl, hb⟩; have H1 := Lib.hid (HJ.out.next hb); clear hb)
    go_ret2
    exact ⟨rfl, H1.out⟩
  · obtain rfl : r = (0, 0) := hr
    go_enter Tryd.func30, Tryd.ntmps30
    go_wp2
    refine wp_loop_rounds 1 ?_
    rw [rounds_succ]
    go_wp2
    go_ret2
    exact ⟨rfl, HJ.out⟩

set_option maxRecDepth 100000 in
set_option maxHeartbeats 8000000 in
theorem vx_two (S : List Bd) (hS : StOk S) (d : Nat) (ih : VxOk S d) (A : Option Addr) (c n : Nat) (hn : n = S.length) (h100 : n ≤ 100) (k m : Int) (s : List UInt8) (x y : Ex) (B : Option Addr) (cB : Nat) (W : World) (hA : BdRow W W.heap.size S A) (hB : ExRow W W.heap.size [x, y] B) (_hs : s.length ≤ maxLen)
    (hx : vE varR nuP d x = true) (hy : vE varR nuP d y = true) (hk : k = 4 ∨ k = 5) (r : Int × Int) (hr : r = ev2 (ev S d x) (ev S d y) (if k = 4 then (ev S d x).1 + (ev S d y).1 else (ev S d x).1 - (ev S d y).1)) :
    Calls Tryd.prog 30 #[.slice A n c, exprV k m ⟨s.toArray⟩ (.slice B 2 cB)] W fun e w' => e = .returned (.tuple #[.int .i64 r.1, .int .i64 r.2]) ∧ Below W.heap.size W w' := by
  obtain ⟨W0, hW0⟩ : ∃ W0, W0 = (W.alloc (exprC k m ⟨s.toArray⟩ (.slice B 2 cB))).alloc (.cells #[.int .i64 0, .int .i64 0] 69) := ⟨_, rfl⟩
  have HJ : Hid (Below W.heap.size W W0) := Lib.hid (by rw [hW0]; exact (below_alloc W _).al _)
  have HZ : Hid (W0.heap.size = W.heap.size + 2) := Lib.hid (by rw [hW0]; exact (size_of_alloc _ _).trans (congrArg (· + 1) (size_of_alloc _ _)))
  obtain ⟨k1, n1, s1, l1⟩ := x
  obtain ⟨k2, n2, s2, l2⟩ := y
  obtain ⟨v1, hv1⟩ : ∃ v, v = ev S d (.mk k1 n1 s1 l1) := ⟨_, rfl⟩
  obtain ⟨v2, hv2⟩ : ∃ v, v = ev S d (.mk k2 n2 s2 l2) := ⟨_, rfl⟩
  rw [← hv1, ← hv2] at hr
  have HO : Hid (VOk v1 ∧ VOk v2) := Lib.hid ⟨hv1 ▸ ev_ok hS d _, hv2 ▸ ev_ok hS d _⟩
  have HC1 : Hid (∀ W' A' c', Below W.heap.size W W' → ExRow W' W'.heap.size l1 A' → s1.length ≤ maxLen → l1.length ≤ maxLen → Calls Tryd.prog 30 #[.slice A n c, exprV k1 n1 ⟨s1.toArray⟩ (.slice A' l1.length c')] W' fun e w' => e = .returned (.tuple #[.int .i64 v1.1, .int .i64 v1.2]) ∧ Below W'.heap.size W' w') :=
    Lib.hid (fun W' A' c' hb hr hs hl => by rw [hv1]; exact ih A c n hn h100 k1 n1 s1 l1 A' c' W' (bd_later hA hb) hr hs hl hx)
  have HC2 : Hid (∀ W' A' c', Below W.heap.size W W' → ExRow W' W'.heap.size l2 A' → s2.length ≤ maxLen → l2.length ≤ maxLen → Calls Tryd.prog 30 #[.slice A n c, exprV k2 n2 ⟨s2.toArray⟩ (.slice A' l2.length c')] W' fun e w' => e = .returned (.tuple #[.int .i64 v2.1, .int .i64 v2.2]) ∧ Below W'.heap.size W' w') :=
    Lib.hid (fun W' A' c' hb hr hs hl => by rw [hv2]; exact ih A c n hn h100 k2 n2 s2 l2 A' c' W' (bd_later hA hb) hr hs hl hy)
  have HBd : Hid (∀ m W', Calls Tryd.prog 42 #[.int .i64 m] W' fun e w' => e = .returned (.tuple #[.int .i64 (bnd m).1, .int .i64 (bnd m).2]) ∧ W' = w') := Lib.hid bounded_any
  have HW : Hid (IntKind.i64.wrap (v1.1 + v2.1) = v1.1 + v2.1 ∧ IntKind.i64.wrap (v1.1 - v2.1) = v1.1 - v2.1) := Lib.hid ⟨add_small HO.out.1.rng HO.out.2.rng, sub_small HO.out.1.rng HO.out.2.rng⟩
  have HR := Lib.hid hr
  obtain ⟨a, Ax, cx, ha, hab, _⟩ := ex_cells (i := 0) hB rfl
  subst ha
  have HM : Hid (∀ W', Below W.heap.size W W' → ∃ A1 c1 A2 c2, W'.cell? a = some (.int .i64 k1) ∧ W'.cell? ⟨a.block, a.off + 1, none⟩ = some (.int .i64 n1) ∧ W'.cell? ⟨a.block, a.off + 2, none⟩ = some (.string ⟨s1.toArray⟩) ∧ W'.cell? ⟨a.block, a.off + 3, none⟩ = some (.slice A1 l1.length c1) ∧
      W'.cell? ⟨a.block, a.off + 4, none⟩ = some (.int .i64 k2) ∧ W'.cell? ⟨a.block, a.off + 4 + 1, none⟩ = some (.int .i64 n2) ∧ W'.cell? ⟨a.block, a.off + 4 + 2, none⟩ = some (.string ⟨s2.toArray⟩) ∧ W'.cell? ⟨a.block, a.off + 4 + 3, none⟩ = some (.slice A2 l2.length c2) ∧
      (s1.length ≤ maxLen ∧ l1.length ≤ maxLen ∧ ExRow W' W'.heap.size l1 A1) ∧ (s2.length ≤ maxLen ∧ l2.length ≤ maxLen ∧ ExRow W' W'.heap.size l2 A2)) := Lib.hid (fun W' hb => by
    have hB' := hB.on hb
    obtain ⟨a1, A1, c1, e1, _, p0, p1, p2, p3, p4⟩ := ex_cells (i := 0) hB' rfl
    obtain ⟨a2, A2, c2, e2, _, q0, q1, q2, q3, q4⟩ := ex_cells (i := 1) hB' rfl
    obtain rfl := Option.some.inj e1
    obtain rfl := Option.some.inj e2
    rw [show a.add (0 * 4) = a from by simp [Addr.add]] at p0 p1 p2 p3
    exact ⟨A1, c1, A2, c2, p0, p1, p2, p3, q0, q1, q2, q3, p4, q4⟩)
  have HH0 : Hid (W0.heap[W.heap.size]? = some (exprC k m ⟨s.toArray⟩ (.slice (some a) 2 cB)) ∧ W0.heap[W.heap.size + 1]? = some (.cells #[.int .i64 0, .int .i64 0] 69)) := Lib.hid (by
    have z := size_of_alloc W (exprC k m ⟨s.toArray⟩ (.slice (some a) 2 cB))
    have h1 := heap_keep (o := .cells #[.int .i64 0, .int .i64 0] 69) (heap_of_alloc W (exprC k m ⟨s.toArray⟩ (.slice (some a) 2 cB)))
    have h2 := heap_of_alloc (W.alloc (exprC k m ⟨s.toArray⟩ (.slice (some a) 2 cB))) (.cells #[.int .i64 0, .int .i64 0] 69)
    rw [z] at h2
    rw [← hW0] at h1 h2
    exact ⟨h1, h2⟩)
  obtain ⟨x1, e1⟩ := v1
  obtain ⟨x2, e2⟩ := v2
  simp only at HC1 HC2 HW hr
  have HR := Lib.hid hr
  clear hA hB hn hx hy hv1 hv2 hr ih
  obtain ⟨A1, c1, A2, c2, p0, p1, p2, p3, q0, q1, q2, q3, P4, Q4⟩ := HM.out W0 HJ.out
  have HP4 := Lib.hid P4
  clear P4 Q4 q0 q1 q2 q3
  go_enter Tryd.func30, Tryd.ntmps30
  go_wp2
  rw [← hW0]
  clear hW0
  refine wp_loop_rounds 3 ?_
  rw [rounds_succ]
  have HX1 : Hid (Calls Tryd.prog 30 #[.slice A n c, exprV k1 n1 ⟨s1.toArray⟩ (.slice A1 l1.length c1)] (W0.alloc (exprC k1 n1 ⟨s1.toArray⟩ (.slice A1 l1.length c1))) fun e w' => e = .returned (.tuple #[.int .i64 x1, .int .i64 e1]) ∧ Below W0.heap.size W0 w') := Lib.hid
    ((HC1.out _ A1 c1 (HJ.out.al _) (HP4.out.2.2.on (below_alloc _ _)) HP4.out.1 HP4.out.2.1).mono fun e w' ⟨he, hb⟩ => ⟨he, (below_alloc _ _).next hb⟩)
  by_cases he1 : e1 = 0
  rotate_left
  · have he1' : (e1 == 0) = false := beq_eq_false_iff_ne.2 he1
    have he1'' : (e1 != 0) = true := by rw [bne_iff_ne]; exact he1
    have HRR : Hid (r = (0, e1)) := Lib.hid (by rw [HR.out, ev2, if_neg he1])
    clear he1
    go_wp2_with (refine HX1.out.mono ?_; rintro e w3 ⟨rfl, hb⟩; have H3 := Lib.hid (HJ.out.next hb); clear hb)
    go_ret2
    exact ⟨by rw [HRR.out] <;> rfl, H3.out⟩
  subst he1
  go_wp2_with (refine HX1.out.mono ?_; rintro e w3 ⟨rfl, hb⟩; have H3 := Lib.hid (And.intro hb (And.intro (kept_box hb HH0.out.1) (kept_box hb HH0.out.2))); have b0 := cell_of_block H3.out.2.2 0 rfl; have b1 := frozen_at H3.out.2.2 0; clear hb)
  obtain ⟨W4, hW4⟩ : ∃ W4, W4 = w3.setCell ⟨W.heap.size + 1, 0, none⟩ (.int .i64 x1) := ⟨_, rfl⟩
  rw [← hW4]
  have H4 : Hid (Below W.heap.size W W4 ∧ W4.heap[W.heap.size]? = some (exprC k m ⟨s.toArray⟩ (.slice (some a) 2 cB)) ∧ W4.heap[W.heap.size + 1]? = some (.cells #[.int .i64 x1, .int .i64 0] 69)) := Lib.hid (by
    rw [hW4]
    exact ⟨(HJ.out.next H3.out.1).setCell (by show W.heap.size ≤ W.heap.size + 1; omega) _, heap_setCell_off H3.out.2.1 (by omega) _ _, heap_setCell_at H3.out.2.2 0 _⟩)
  clear hW4 b0 b1 p0 p1 p2 p3
  obtain ⟨A1', c1', A2', c2', p0, p1, p2, p3, q0, q1, q2, q3, P4, Q4⟩ := HM.out W4 H4.out.1
  have HQ4 := Lib.hid Q4
  clear P4 Q4 p0 p1 p2 p3
  have HX2 : Hid (Calls Tryd.prog 30 #[.slice A n c, exprV k2 n2 ⟨s2.toArray⟩ (.slice A2' l2.length c2')] (W4.alloc (exprC k2 n2 ⟨s2.toArray⟩ (.slice A2' l2.length c2'))) fun e w' => e = .returned (.tuple #[.int .i64 x2, .int .i64 e2]) ∧ Below W4.heap.size W4 w') := Lib.hid
    ((HC2.out _ A2' c2' (H4.out.1.al _) (HQ4.out.2.2.on (below_alloc _ _)) HQ4.out.1 HQ4.out.2.1).mono fun e w' ⟨he, hb⟩ => ⟨he, (below_alloc _ _).next hb⟩)
  rw [rounds_succ]
  by_cases he2 : e2 = 0
  rotate_left
  · have he1' : (e2 == 0) = false := beq_eq_false_iff_ne.2 he2
    have he1'' : (e2 != 0) = true := by rw [bne_iff_ne]; exact he2
    have HRR : Hid (r = (0, e2)) := Lib.hid (by rw [HR.out, ev2, if_pos rfl, if_neg he2])
    clear he2
    go_wp2_with (refine HX2.out.mono ?_; rintro e w5 ⟨rfl, hb⟩; have H5 := Lib.hid (H4.out.1.next hb); clear hb)
    go_ret2
    exact ⟨by rw [HRR.out] <;> rfl, H5.out⟩
  subst he2
  go_wp2_with (refine HX2.out.mono ?_; rintro e w5 ⟨rfl, hb⟩; have H5 := Lib.hid (And.intro hb (And.intro (kept_box hb H4.out.2.1) (kept_box hb H4.out.2.2))); have b0 := cell_of_block H5.out.2.2 1 rfl; have b1 := frozen_at H5.out.2.2 1; clear hb)
  obtain ⟨W6, hW6⟩ : ∃ W6, W6 = w5.setCell ⟨W.heap.size + 1, 1, none⟩ (.int .i64 x2) := ⟨_, rfl⟩
  rw [← hW6]
  have H6 : Hid (Below W.heap.size W W6 ∧ W6.heap[W.heap.size]? = some (exprC k m ⟨s.toArray⟩ (.slice (some a) 2 cB)) ∧ W6.heap[W.heap.size + 1]? = some (.cells #[.int .i64 x1, .int .i64 x2] 69)) := Lib.hid (by
    rw [hW6]
    exact ⟨(H4.out.1.next H5.out.1).setCell (by show W.heap.size ≤ W.heap.size + 1; omega) _, heap_setCell_off H5.out.2.1 (by omega) _ _, heap_setCell_at H5.out.2.2 1 _⟩)
  clear hW6 b0 b1 q0 q1 q2 q3
  have z0 := cell_of_block H6.out.2.1 0 rfl
  have z1 := cell_of_block H6.out.2.2 0 rfl
  have z2 := cell_of_block H6.out.2.2 1 rfl
  obtain ⟨hw1, hw2⟩ := HW.out
  rw [rounds_succ]
  rcases hk with rfl | rfl
  · have HRR : Hid (r = bnd (x1 + x2)) := Lib.hid (by rw [HR.out, ev2, if_pos rfl, if_pos rfl, if_pos rfl])
    go_wp2_with (go_at_call 42; refine (HBd.out _ _).mono ?_; rintro e w7 ⟨rfl, rfl⟩)
    go_ret2
    exact ⟨by rw [HRR.out] <;> rfl, H6.out.1⟩
  · have HRR : Hid (r = bnd (x1 - x2)) := Lib.hid (by rw [HR.out, ev2, if_pos rfl, if_pos rfl, if_neg (by decide)])
    go_wp2_with (go_at_call 42; refine (HBd.out _ _).mono ?_; rintro e w7 ⟨rfl, rfl⟩)
    go_ret2
    exact ⟨by rw [HRR.out] <;> rfl, H6.out.1⟩

set_option maxRecDepth 100000 in
set_option maxHeartbeats 8000000 in
theorem vx_one (S : List Bd) (hS : StOk S) (d : Nat) (ih : VxOk S d) (A : Option Addr) (c n : Nat) (hn : n = S.length) (h100 : n ≤ 100) (m : Int) (s : List UInt8) (x : Ex) (B : Option Addr) (cB : Nat) (W : World) (hA : BdRow W W.heap.size S A) (hB : ExRow W W.heap.size [x] B) (_hs : s.length ≤ maxLen)
    (hx : vE varR nuP d x = true) (r : Int × Int) (hr : r = ev1 m (ev S d x)) :
    Calls Tryd.prog 30 #[.slice A n c, exprV 6 m ⟨s.toArray⟩ (.slice B 1 cB)] W fun e w' => e = .returned (.tuple #[.int .i64 r.1, .int .i64 r.2]) ∧ Below W.heap.size W w' := by
  obtain ⟨W0, hW0⟩ : ∃ W0, W0 = (W.alloc (exprC 6 m ⟨s.toArray⟩ (.slice B 1 cB))).alloc (.cells #[.int .i64 0, .int .i64 0] 69) := ⟨_, rfl⟩
  have HJ : Hid (Below W.heap.size W W0) := Lib.hid (by rw [hW0]; exact (below_alloc W _).al _)
  obtain ⟨k1, n1, s1, l1⟩ := x
  obtain ⟨v1, hv1⟩ : ∃ v, v = ev S d (.mk k1 n1 s1 l1) := ⟨_, rfl⟩
  rw [← hv1] at hr
  have HO : Hid (VOk v1) := Lib.hid (hv1 ▸ ev_ok hS d _)
  have HC1 : Hid (∀ W' A' c', Below W.heap.size W W' → ExRow W' W'.heap.size l1 A' → s1.length ≤ maxLen → l1.length ≤ maxLen → Calls Tryd.prog 30 #[.slice A n c, exprV k1 n1 ⟨s1.toArray⟩ (.slice A' l1.length c')] W' fun e w' => e = .returned (.tuple #[.int .i64 v1.1, .int .i64 v1.2]) ∧ Below W'.heap.size W' w') :=
    Lib.hid (fun W' A' c' hb hr hs hl => by rw [hv1]; exact ih A c n hn h100 k1 n1 s1 l1 A' c' W' (bd_later hA hb) hr hs hl hx)
  have HBd : Hid (∀ m W', Calls Tryd.prog 42 #[.int .i64 m] W' fun e w' => e = .returned (.tuple #[.int .i64 (bnd m).1, .int .i64 (bnd m).2]) ∧ W' = w') := Lib.hid bounded_any
  have HIn : Hid (∀ W', Calls Tryd.prog 21 #[.int .i64 m] W' fun e w' => e = .returned (.bool (inB m)) ∧ W' = w') := Lib.hid (vin_any m)
  obtain ⟨a, Ax, cx, ha, hab, _⟩ := ex_cells (i := 0) hB rfl
  subst ha
  have HM : Hid (∀ W', Below W.heap.size W W' → ∃ A1 c1, W'.cell? a = some (.int .i64 k1) ∧ W'.cell? ⟨a.block, a.off + 1, none⟩ = some (.int .i64 n1) ∧ W'.cell? ⟨a.block, a.off + 2, none⟩ = some (.string ⟨s1.toArray⟩) ∧ W'.cell? ⟨a.block, a.off + 3, none⟩ = some (.slice A1 l1.length c1) ∧
      (s1.length ≤ maxLen ∧ l1.length ≤ maxLen ∧ ExRow W' W'.heap.size l1 A1)) := Lib.hid (fun W' hb => by
    have hB' := hB.on hb
    obtain ⟨a1, A1, c1, e1, _, p0, p1, p2, p3, p4⟩ := ex_cells (i := 0) hB' rfl
    obtain rfl := Option.some.inj e1
    rw [show a.add (0 * 4) = a from by simp [Addr.add]] at p0 p1 p2 p3
    exact ⟨A1, c1, p0, p1, p2, p3, p4⟩)
  have HH0 : Hid (W0.heap[W.heap.size]? = some (exprC 6 m ⟨s.toArray⟩ (.slice (some a) 1 cB)) ∧ W0.heap[W.heap.size + 1]? = some (.cells #[.int .i64 0, .int .i64 0] 69)) := Lib.hid (by
    have z := size_of_alloc W (exprC 6 m ⟨s.toArray⟩ (.slice (some a) 1 cB))
    have h1 := heap_keep (o := .cells #[.int .i64 0, .int .i64 0] 69) (heap_of_alloc W (exprC 6 m ⟨s.toArray⟩ (.slice (some a) 1 cB)))
    have h2 := heap_of_alloc (W.alloc (exprC 6 m ⟨s.toArray⟩ (.slice (some a) 1 cB))) (.cells #[.int .i64 0, .int .i64 0] 69)
    rw [z] at h2
    rw [← hW0] at h1 h2
    exact ⟨h1, h2⟩)
  obtain ⟨x1, e1⟩ := v1
  simp only at HC1 hr
  have HR := Lib.hid hr
  obtain ⟨ib, hib⟩ : ∃ b, b = inB m := ⟨_, rfl⟩
  rw [← hib] at HIn
  have HIB := Lib.hid hib
  have HWr : Hid (inB m = true → IntKind.i64.wrap (m * x1) = m * x1) := Lib.hid (fun h => mul_small ((inB_tells m).1 h) HO.out.rng)
  clear hA hB hn hx hv1 hr ih hib
  obtain ⟨A1, c1, p0, p1, p2, p3, P4⟩ := HM.out W0 HJ.out
  have HP4 := Lib.hid P4
  clear P4
  go_enter Tryd.func30, Tryd.ntmps30
  go_wp2
  rw [← hW0]
  clear hW0
  refine wp_loop_rounds 2 ?_
  rw [rounds_succ]
  have HX1 : Hid (Calls Tryd.prog 30 #[.slice A n c, exprV k1 n1 ⟨s1.toArray⟩ (.slice A1 l1.length c1)] (W0.alloc (exprC k1 n1 ⟨s1.toArray⟩ (.slice A1 l1.length c1))) fun e w' => e = .returned (.tuple #[.int .i64 x1, .int .i64 e1]) ∧ Below W0.heap.size W0 w') := Lib.hid
    ((HC1.out _ A1 c1 (HJ.out.al _) (HP4.out.2.2.on (below_alloc _ _)) HP4.out.1 HP4.out.2.1).mono fun e w' ⟨he, hb⟩ => ⟨he, (below_alloc _ _).next hb⟩)
  by_cases he1 : e1 = 0
  rotate_left
  · have he1' : (e1 == 0) = false := beq_eq_false_iff_ne.2 he1
    have he1'' : (e1 != 0) = true := by rw [bne_iff_ne]; exact he1
    have HRR : Hid (r = (0, e1)) := Lib.hid (by rw [HR.out, ev1, if_neg he1])
    clear he1
    go_wp2_with (refine HX1.out.mono ?_; rintro e w3 ⟨rfl, hb⟩; have H3 := Lib.hid (HJ.out.next hb); clear hb)
    go_ret2
    exact ⟨by rw [HRR.out] <;> rfl, H3.out⟩
  subst he1
  go_wp2_with (refine HX1.out.mono ?_; rintro e w3 ⟨rfl, hb⟩; have H3 := Lib.hid (And.intro hb (And.intro (kept_box hb HH0.out.1) (kept_box hb HH0.out.2))); have b0 := cell_of_block H3.out.2.2 0 rfl; have b1 := frozen_at H3.out.2.2 0; clear hb)
  obtain ⟨W4, hW4⟩ : ∃ W4, W4 = w3.setCell ⟨W.heap.size + 1, 0, none⟩ (.int .i64 x1) := ⟨_, rfl⟩
  rw [← hW4]
  have H4 : Hid (Below W.heap.size W W4 ∧ W4.heap[W.heap.size]? = some (exprC 6 m ⟨s.toArray⟩ (.slice (some a) 1 cB)) ∧ W4.heap[W.heap.size + 1]? = some (.cells #[.int .i64 x1, .int .i64 0] 69)) := Lib.hid (by
    rw [hW4]
    exact ⟨(HJ.out.next H3.out.1).setCell (by show W.heap.size ≤ W.heap.size + 1; omega) _, heap_setCell_off H3.out.2.1 (by omega) _ _, heap_setCell_at H3.out.2.2 0 _⟩)
  clear hW4 b0 b1 p0 p1 p2 p3
  have z0 := cell_of_block H4.out.2.1 0 rfl
  have z0' := cell_of_block H4.out.2.1 1 rfl
  have z1 := cell_of_block H4.out.2.2 0 rfl
  rw [rounds_succ]
  cases ib
  · have HRR : Hid (r = (0, 10)) := Lib.hid (by rw [HR.out, ev1, if_pos rfl, ← HIB.out]; rfl)
    go_wp2_with (go_at_call 21; refine (HIn.out _).mono ?_; rintro e w7 ⟨rfl, rfl⟩)
    go_ret2
    exact ⟨by rw [HRR.out] <;> rfl, H4.out.1⟩
  · have HRR : Hid (r = bnd (m * x1)) := Lib.hid (by rw [HR.out, ev1, if_pos rfl, ← HIB.out]; rfl)
    have hw1 := HWr.out HIB.out.symm
    go_wp2_with (first | (go_at_call 21; refine (HIn.out _).mono ?_; rintro e w7 ⟨rfl, rfl⟩) | (go_at_call 42; refine (HBd.out _ _).mono ?_; rintro e w8 ⟨rfl, rfl⟩))
    go_ret2
    exact ⟨by rw [HRR.out] <;> rfl, H4.out.1⟩

/-- The code's expr says what ev says. -/
theorem vx_any (S : List Bd) (hS : StOk S) : ∀ d : Nat, VxOk S d
  | 0 => fun A c n hn h100 k m s l B cB W hA hB hs hl hv => by
    rw [vE] at hv
    cases hv
  | d + 1 => fun A c n hn h100 k m s l B cB W hA hB hs hl hv => by
    rcases vE_forms hv with ⟨rfl, rfl⟩ | ⟨rfl, rfl⟩ | ⟨rfl, rfl⟩ | ⟨hk, x, y, rfl, hx, hy⟩ | ⟨rfl, x, rfl, hx⟩
    · exact vx_leaf S hS A c n hn h100 1 m s B cB W hA hs (.inl rfl) _ (by rw [ev, if_pos rfl, if_pos rfl])
    · exact vx_leaf S hS A c n hn h100 2 m s B cB W hA hs (.inr (.inl rfl)) _ (by rw [ev, if_neg (by decide), if_pos rfl, if_neg (by decide), if_pos rfl])
    · exact vx_leaf S hS A c n hn h100 3 m s B cB W hA hs (.inr (.inr rfl)) _ (by rw [ev, if_neg (by decide), if_neg (by decide), if_neg (by decide), if_neg (by decide), if_neg (by decide), if_neg (by decide)])
    · exact vx_two S hS d (vx_any S hS d) A c n hn h100 k m s x y B cB W hA hB hs hx hy hk _ (by rw [ev, if_neg (by rcases hk with rfl | rfl <;> decide), if_neg (by rcases hk with rfl | rfl <;> decide), if_pos hk]; rfl)
    · exact vx_one S hS d (vx_any S hS d) A c n hn h100 m s x B cB W hA hB hs hx _ (by rw [ev, if_neg (by decide), if_neg (by decide), if_neg (by decide), if_pos rfl]; rfl)

end Go.Proofs.YtbmejohoifpfhaaDoor
