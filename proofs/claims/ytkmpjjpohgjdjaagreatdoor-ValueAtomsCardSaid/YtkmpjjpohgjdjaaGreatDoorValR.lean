/-
  The value of an expression: the reference's Value.
-/
import Derived.Test.YtkmpjjpohgjdjaaGreatDoorValX
namespace Go.Proofs.YtkmpjjpohgjdjaaGreatDoor
open Go.RowKit

theorem inB_of {v : Int} (h : InR v) : inB v = true := (inB_tells v).2 h

theorem getS_cases {l : List Bd} (hl : StOk l) (t : List UInt8) : (∃ v, getS l t = (v, 0) ∧ InR v) ∨ getS l t = (0, 7) := by
  rcases hasN_or_not l t with ⟨i, x, hx, rfl⟩ | h
  · exact .inl ⟨x.v, getS_has hl hx, (hl i x hx).1.2⟩
  · exact .inr (getS_no h)

/-- What the reference's Value does at depth d. -/
def RxOk (S : List Bd) (d : Nat) : Prop :=
  ∀ (A : Option Addr) (c n : Nat), n = S.length → n ≤ 100 → ∀ (k m : Int) (s : List UInt8) (l : List Ex) (B : Option Addr) (cB : Nat) (W : World), BdRow W W.heap.size S A → ExRow W W.heap.size l B → s.length ≤ maxLen → l.length ≤ maxLen → vE varR nuP d (.mk k m s l) = true →
    Calls Tryz.prog 42 #[.slice A n c, exprV k m ⟨s.toArray⟩ (.slice B l.length cB)] W fun e w' => e = .returned (.tuple #[.int .i64 (ev S d (.mk k m s l)).1, .int .i64 (ev S d (.mk k m s l)).2]) ∧ Below W.heap.size W w'

set_option maxRecDepth 100000 in
set_option maxHeartbeats 4000000 in
theorem rx_leaf (S : List Bd) (hS : StOk S) (A : Option Addr) (c n : Nat) (hn : n = S.length) (h100 : n ≤ 100) (k m : Int) (s : List UInt8) (B : Option Addr) (cB : Nat) (W : World) (hA : BdRow W W.heap.size S A) (_hs : s.length ≤ maxLen) (hk : k = 1 ∨ k = 2 ∨ k = 3) (r : Int × Int) (hr : r = if k = 1 then bnd m else if k = 2 then getS S s else (0, 0)) :
    Calls Tryz.prog 42 #[.slice A n c, exprV k m ⟨s.toArray⟩ (.slice B 0 cB)] W fun e w' => e = .returned (.tuple #[.int .i64 r.1, .int .i64 r.2]) ∧ Below W.heap.size W w' := by
  have HJ := Lib.hid (below_alloc W (exprC k m ⟨s.toArray⟩ (.slice B 0 cB)))
  have HG : Hid (∀ W', Below W.heap.size W W' → Calls Tryz.prog 55 #[.slice A n c, .string ⟨s.toArray⟩] W' fun e w' => e = .returned (.tuple #[.int .i64 (getS S s).1, .bool (getB S s)]) ∧ W' = w') := Lib.hid (fun W' hb => rgetv_any A c n S hn (by unfold maxLen; omega) s W' (bd_later hA hb))
  have HIn : Hid (∀ m W', Calls Tryz.prog 18 #[.int .i64 m] W' fun e w' => e = .returned (.bool (inB m)) ∧ W' = w') := Lib.hid rin_any
  have HGo := Lib.hid (getS_cases hS s)
  clear hA hn
  rcases hk with rfl | rfl | rfl
  · obtain rfl : r = bnd m := hr
    have HIm : Hid (∀ W', Calls Tryz.prog 18 #[.int .i64 m] W' fun e w' => e = .returned (.bool (inB m)) ∧ W' = w') := Lib.hid (rin_any m)
    unfold bnd
    cases h : inB m
    all_goals
      rw [h] at HIm
      clear h
      go_enter Tryz.func42, Tryz.ntmps42
      go_wp2_with fail
      refine (HIm.out _).mono ?_
      rintro e w1 ⟨rfl, rfl⟩
      go_wp2
      go_ret2
      exact ⟨rfl, HJ.out⟩
  · obtain rfl : r = getS S s := hr
    unfold getB at HG
    rcases HGo.out with ⟨gv, hg, h2⟩ | hg
    · rw [hg] at HG ⊢
      clear hg
      have HIv : Hid (∀ W', Calls Tryz.prog 18 #[.int .i64 gv] W' fun e w' => e = .returned (.bool true) ∧ W' = w') := Lib.hid (fun W' => by have := rin_any gv W'; rwa [inB_of h2] at this)
      clear h2
      go_enter Tryz.func42, Tryz.ntmps42
      go_wp2_with (first
        | (go_at_call 55; refine (HG.out _ HJ.out).mono ?_; rintro e w1 ⟨rfl, rfl⟩)
        | (go_at_call 18; refine (HIv.out _).mono ?_; rintro e w1 ⟨rfl, rfl⟩))
      go_ret2
      exact ⟨rfl, HJ.out⟩
    · rw [hg] at HG ⊢
      clear hg
      go_enter Tryz.func42, Tryz.ntmps42
      go_wp2_with (go_at_call 55; refine (HG.out _ HJ.out).mono ?_; rintro e w1 ⟨rfl, rfl⟩)
      go_ret2
      exact ⟨rfl, HJ.out⟩
  · obtain rfl : r = (0, 0) := hr
    have HI0 : Hid (∀ W', Calls Tryz.prog 18 #[.int .i64 0] W' fun e w' => e = .returned (.bool true) ∧ W' = w') := Lib.hid (fun W' => by have := rin_any 0 W'; rwa [inB_of ⟨by decide, by decide⟩] at this)
    go_enter Tryz.func42, Tryz.ntmps42
    go_wp2_with (go_at_call 18; refine (HI0.out _).mono ?_; rintro e w1 ⟨rfl, rfl⟩)
    go_ret2
    exact ⟨rfl, HJ.out⟩

set_option maxRecDepth 100000 in
set_option maxHeartbeats 8000000 in
theorem rx_two (S : List Bd) (hS : StOk S) (d : Nat) (ih : RxOk S d) (A : Option Addr) (c n : Nat) (hn : n = S.length) (h100 : n ≤ 100) (k m : Int) (s : List UInt8) (x y : Ex) (B : Option Addr) (cB : Nat) (W : World) (hA : BdRow W W.heap.size S A) (hB : ExRow W W.heap.size [x, y] B) (_hs : s.length ≤ maxLen)
    (hx : vE varR nuP d x = true) (hy : vE varR nuP d y = true) (hk : k = 4 ∨ k = 5) (r : Int × Int) (hr : r = ev2 (ev S d x) (ev S d y) (if k = 4 then (ev S d x).1 + (ev S d y).1 else (ev S d x).1 - (ev S d y).1)) :
    Calls Tryz.prog 42 #[.slice A n c, exprV k m ⟨s.toArray⟩ (.slice B 2 cB)] W fun e w' => e = .returned (.tuple #[.int .i64 r.1, .int .i64 r.2]) ∧ Below W.heap.size W w' := by
  obtain ⟨W0, hW0⟩ : ∃ W0, W0 = W.alloc (exprC k m ⟨s.toArray⟩ (.slice B 2 cB)) := ⟨_, rfl⟩
  have HJ : Hid (Below W.heap.size W W0) := Lib.hid (by rw [hW0]; exact below_alloc W _)
  obtain ⟨k1, n1, s1, l1⟩ := x
  obtain ⟨k2, n2, s2, l2⟩ := y
  obtain ⟨v1, hv1⟩ : ∃ v, v = ev S d (.mk k1 n1 s1 l1) := ⟨_, rfl⟩
  obtain ⟨v2, hv2⟩ : ∃ v, v = ev S d (.mk k2 n2 s2 l2) := ⟨_, rfl⟩
  rw [← hv1, ← hv2] at hr
  have HO : Hid (VOk v1 ∧ VOk v2) := Lib.hid ⟨hv1 ▸ ev_ok hS d _, hv2 ▸ ev_ok hS d _⟩
  have HC1 : Hid (∀ W' A' c', Below W.heap.size W W' → ExRow W' W'.heap.size l1 A' → s1.length ≤ maxLen → l1.length ≤ maxLen → Calls Tryz.prog 42 #[.slice A n c, exprV k1 n1 ⟨s1.toArray⟩ (.slice A' l1.length c')] W' fun e w' => e = .returned (.tuple #[.int .i64 v1.1, .int .i64 v1.2]) ∧ Below W'.heap.size W' w') :=
    Lib.hid (fun W' A' c' hb hr hs hl => by rw [hv1]; exact ih A c n hn h100 k1 n1 s1 l1 A' c' W' (bd_later hA hb) hr hs hl hx)
  have HC2 : Hid (∀ W' A' c', Below W.heap.size W W' → ExRow W' W'.heap.size l2 A' → s2.length ≤ maxLen → l2.length ≤ maxLen → Calls Tryz.prog 42 #[.slice A n c, exprV k2 n2 ⟨s2.toArray⟩ (.slice A' l2.length c')] W' fun e w' => e = .returned (.tuple #[.int .i64 v2.1, .int .i64 v2.2]) ∧ Below W'.heap.size W' w') :=
    Lib.hid (fun W' A' c' hb hr hs hl => by rw [hv2]; exact ih A c n hn h100 k2 n2 s2 l2 A' c' W' (bd_later hA hb) hr hs hl hy)
  have HIn : Hid (∀ m W', Calls Tryz.prog 18 #[.int .i64 m] W' fun e w' => e = .returned (.bool (inB m)) ∧ W' = w') := Lib.hid rin_any
  have HW : Hid (IntKind.i64.wrap (v1.1 + v2.1) = v1.1 + v2.1 ∧ IntKind.i64.wrap (v1.1 - v2.1) = v1.1 - v2.1) := Lib.hid ⟨add_small HO.out.1.rng HO.out.2.rng, sub_small HO.out.1.rng HO.out.2.rng⟩
  obtain ⟨a, Ax, cx, ha, hab, _⟩ := ex_cells (i := 0) hB rfl
  subst ha
  have HM : Hid (∀ W', Below W.heap.size W W' → ∃ A1 c1 A2 c2, W'.cell? a = some (.int .i64 k1) ∧ W'.cell? ⟨a.block, a.off + 1, none⟩ = some (.int .i64 n1) ∧ W'.cell? ⟨a.block, a.off + 2, none⟩ = some (.string ⟨s1.toArray⟩) ∧ W'.cell? ⟨a.block, a.off + 3, none⟩ = some (.slice A1 l1.length c1) ∧
      W'.cell? ⟨a.block, a.off + 4, none⟩ = some (.int .i64 k2) ∧ W'.cell? ⟨a.block, a.off + 4 + 1, none⟩ = some (.int .i64 n2) ∧ W'.cell? ⟨a.block, a.off + 4 + 2, none⟩ = some (.string ⟨s2.toArray⟩) ∧ W'.cell? ⟨a.block, a.off + 4 + 3, none⟩ = some (.slice A2 l2.length c2) ∧
      (s1.length ≤ maxLen ∧ l1.length ≤ maxLen ∧ ExRow W' W'.heap.size l1 A1) ∧ (s2.length ≤ maxLen ∧ l2.length ≤ maxLen ∧ ExRow W' W'.heap.size l2 A2)) := Lib.hid (fun W' hb => by
    have hB' := hB.on hb
    obtain ⟨a1, A1, c1, e1, _, p0, p1, p2, p3, p4⟩ := ex_cells (i := 0) hB' rfl
    obtain ⟨a2, A2, c2, e2, _, q0, q1, q2, q3, q4⟩ := ex_cells (i := 1) hB' rfl
    obtain rfl := Option.some.inj e1
    obtain rfl := Option.some.inj e2
    rw [show a.add (0 * 4) = a from by simp [Addr.add]] at p0 p1 p2 p3
    exact ⟨A1, c1, A2, c2, p0, p1, p2, p3, q0, q1, q2, q3, p4, q4⟩)
  have HH0 : Hid (W0.heap[W.heap.size]? = some (exprC k m ⟨s.toArray⟩ (.slice (some a) 2 cB))) := Lib.hid (by
    rw [hW0]
    exact heap_of_alloc W _)
  obtain ⟨x1, e1⟩ := v1
  obtain ⟨x2, e2⟩ := v2
  simp only at HC1 HC2 HW hr
  have HR := Lib.hid hr
  clear hA hB hn hx hy hv1 hv2 hr ih
  obtain ⟨A1, c1, A2, c2, p0, p1, p2, p3, q0, q1, q2, q3, P4, Q4⟩ := HM.out W0 HJ.out
  have HP4 := Lib.hid P4
  clear P4 Q4 q0 q1 q2 q3
  have HX1 : Hid (Calls Tryz.prog 42 #[.slice A n c, exprV k1 n1 ⟨s1.toArray⟩ (.slice A1 l1.length c1)] W0 fun e w' => e = .returned (.tuple #[.int .i64 x1, .int .i64 e1]) ∧ Below W0.heap.size W0 w') := Lib.hid
    (HC1.out _ A1 c1 HJ.out HP4.out.2.2 HP4.out.1 HP4.out.2.1)
  subst hW0
  by_cases he1 : e1 = 0
  rotate_left
  · have he1' : (e1 == 0) = false := beq_eq_false_iff_ne.2 he1
    have he1'' : (e1 != 0) = true := by rw [bne_iff_ne]; exact he1
    have HRR : Hid (r = (0, e1)) := Lib.hid (by rw [HR.out, ev2, if_neg he1])
    clear he1
    rcases hk with rfl | rfl
    all_goals
      go_enter Tryz.func42, Tryz.ntmps42
      go_wp2_with fail
      refine HX1.out.mono ?_
      rintro e w3 ⟨rfl, hb⟩
      have H3 := Lib.hid (HJ.out.next hb)
      clear hb
      go_wp2
      go_ret2
      exact ⟨by rw [HRR.out] <;> rfl, H3.out⟩
  subst he1
  have HX2 : Hid (∀ W' A' c', Below W.heap.size W W' → (s2.length ≤ maxLen ∧ l2.length ≤ maxLen ∧ ExRow W' W'.heap.size l2 A') → Calls Tryz.prog 42 #[.slice A n c, exprV k2 n2 ⟨s2.toArray⟩ (.slice A' l2.length c')] W' fun e w' => e = .returned (.tuple #[.int .i64 x2, .int .i64 e2]) ∧ Below W'.heap.size W' w') := Lib.hid
    (fun W' A' c' hb h => HC2.out W' A' c' hb h.2.2 h.1 h.2.1)
  clear HC1 HC2
  by_cases he2 : e2 = 0
  rotate_left
  · have he1' : (e2 == 0) = false := beq_eq_false_iff_ne.2 he2
    have he1'' : (e2 != 0) = true := by rw [bne_iff_ne]; exact he2
    have HRR : Hid (r = (0, e2)) := Lib.hid (by rw [HR.out, ev2, if_pos rfl, if_neg he2])
    clear he2
    rcases hk with rfl | rfl
    all_goals
      go_enter Tryz.func42, Tryz.ntmps42
      go_wp2_with fail
      refine HX1.out.mono ?_
      rintro e w3 ⟨rfl, hb⟩
      have H3 := Lib.hid (HJ.out.next hb)
      have z3 := cell_of_block (kept_box hb HH0.out) 3 (v := .slice (some a) 2 cB) rfl
      clear hb
      obtain ⟨A1', c1', A2', c2', _, _, _, _, q0, q1, q2, q3, P5, Q5⟩ := HM.out w3 H3.out
      have HQ5 := Lib.hid Q5
      clear P5 Q5
      go_wp2_with fail
      refine (HX2.out _ A2' c2' H3.out HQ5.out).mono ?_
      rintro e w5 ⟨rfl, hb⟩
      have H5 := Lib.hid (H3.out.next hb)
      clear hb
      go_wp2
      go_ret2
      exact ⟨by rw [HRR.out] <;> rfl, H5.out⟩
  subst he2
  obtain ⟨hw1, hw2⟩ := HW.out
  rcases hk with rfl | rfl
  · have HIm : Hid (∀ W', Calls Tryz.prog 18 #[.int .i64 (x1 + x2)] W' fun e w' => e = .returned (.bool (inB (x1 + x2))) ∧ W' = w') := Lib.hid (rin_any _)
    have HRR : Hid (r = bnd (x1 + x2)) := Lib.hid (by rw [HR.out, ev2, if_pos rfl, if_pos rfl, if_pos rfl])
    unfold bnd at HRR
    generalize inB (x1 + x2) = ib at *
    cases ib
    all_goals
      go_enter Tryz.func42, Tryz.ntmps42
      go_wp2_with fail
      refine HX1.out.mono ?_
      rintro e w3 ⟨rfl, hb⟩
      have H3 := Lib.hid (And.intro (HJ.out.next hb) (kept_box hb HH0.out))
      have z3 := cell_of_block H3.out.2 3 (v := .slice (some a) 2 cB) rfl
      clear hb
      obtain ⟨A1', c1', A2', c2', _, _, _, _, q0, q1, q2, q3, P5, Q5⟩ := HM.out w3 H3.out.1
      have HQ5 := Lib.hid Q5
      clear P5 Q5
      go_wp2_with fail
      refine (HX2.out _ A2' c2' H3.out.1 HQ5.out).mono ?_
      rintro e w5 ⟨rfl, hb⟩
      have H5 := Lib.hid (H3.out.1.next hb)
      have z4 := cell_of_block (kept_box hb H3.out.2) 0 rfl
      clear hb
      go_wp2_with fail
      refine (HIm.out _).mono ?_
      rintro e w7 ⟨rfl, rfl⟩
      go_wp2
      go_ret2
      exact ⟨by rw [HRR.out] <;> rfl, H5.out⟩
  · have HIm : Hid (∀ W', Calls Tryz.prog 18 #[.int .i64 (x1 - x2)] W' fun e w' => e = .returned (.bool (inB (x1 - x2))) ∧ W' = w') := Lib.hid (rin_any _)
    have HRR : Hid (r = bnd (x1 - x2)) := Lib.hid (by rw [HR.out, ev2, if_pos rfl, if_pos rfl, if_neg (by decide)])
    unfold bnd at HRR
    generalize inB (x1 - x2) = ib at *
    cases ib
    all_goals
      go_enter Tryz.func42, Tryz.ntmps42
      go_wp2_with fail
      refine HX1.out.mono ?_
      rintro e w3 ⟨rfl, hb⟩
      have H3 := Lib.hid (And.intro (HJ.out.next hb) (kept_box hb HH0.out))
      have z3 := cell_of_block H3.out.2 3 (v := .slice (some a) 2 cB) rfl
      clear hb
      obtain ⟨A1', c1', A2', c2', _, _, _, _, q0, q1, q2, q3, P5, Q5⟩ := HM.out w3 H3.out.1
      have HQ5 := Lib.hid Q5
      clear P5 Q5
      go_wp2_with fail
      refine (HX2.out _ A2' c2' H3.out.1 HQ5.out).mono ?_
      rintro e w5 ⟨rfl, hb⟩
      have H5 := Lib.hid (H3.out.1.next hb)
      have z4 := cell_of_block (kept_box hb H3.out.2) 0 rfl
      clear hb
      go_wp2_with fail
      refine (HIm.out _).mono ?_
      rintro e w7 ⟨rfl, rfl⟩
      go_wp2
      go_ret2
      exact ⟨by rw [HRR.out] <;> rfl, H5.out⟩

set_option maxRecDepth 100000 in
set_option maxHeartbeats 8000000 in
theorem rx_one (S : List Bd) (hS : StOk S) (d : Nat) (ih : RxOk S d) (A : Option Addr) (c n : Nat) (hn : n = S.length) (h100 : n ≤ 100) (m : Int) (s : List UInt8) (x : Ex) (B : Option Addr) (cB : Nat) (W : World) (hA : BdRow W W.heap.size S A) (hB : ExRow W W.heap.size [x] B) (_hs : s.length ≤ maxLen)
    (hx : vE varR nuP d x = true) (r : Int × Int) (hr : r = ev1 m (ev S d x)) :
    Calls Tryz.prog 42 #[.slice A n c, exprV 6 m ⟨s.toArray⟩ (.slice B 1 cB)] W fun e w' => e = .returned (.tuple #[.int .i64 r.1, .int .i64 r.2]) ∧ Below W.heap.size W w' := by
  obtain ⟨W0, hW0⟩ : ∃ W0, W0 = W.alloc (exprC 6 m ⟨s.toArray⟩ (.slice B 1 cB)) := ⟨_, rfl⟩
  have HJ : Hid (Below W.heap.size W W0) := Lib.hid (by rw [hW0]; exact below_alloc W _)
  obtain ⟨k1, n1, s1, l1⟩ := x
  obtain ⟨v1, hv1⟩ : ∃ v, v = ev S d (.mk k1 n1 s1 l1) := ⟨_, rfl⟩
  rw [← hv1] at hr
  have HO : Hid (VOk v1) := Lib.hid (hv1 ▸ ev_ok hS d _)
  have HC1 : Hid (∀ W' A' c', Below W.heap.size W W' → ExRow W' W'.heap.size l1 A' → s1.length ≤ maxLen → l1.length ≤ maxLen → Calls Tryz.prog 42 #[.slice A n c, exprV k1 n1 ⟨s1.toArray⟩ (.slice A' l1.length c')] W' fun e w' => e = .returned (.tuple #[.int .i64 v1.1, .int .i64 v1.2]) ∧ Below W'.heap.size W' w') :=
    Lib.hid (fun W' A' c' hb hr hs hl => by rw [hv1]; exact ih A c n hn h100 k1 n1 s1 l1 A' c' W' (bd_later hA hb) hr hs hl hx)
  have HIn : Hid (∀ W', Calls Tryz.prog 18 #[.int .i64 m] W' fun e w' => e = .returned (.bool (inB m)) ∧ W' = w') := Lib.hid (rin_any m)
  obtain ⟨a, Ax, cx, ha, hab, _⟩ := ex_cells (i := 0) hB rfl
  subst ha
  have HM : Hid (∀ W', Below W.heap.size W W' → ∃ A1 c1, W'.cell? a = some (.int .i64 k1) ∧ W'.cell? ⟨a.block, a.off + 1, none⟩ = some (.int .i64 n1) ∧ W'.cell? ⟨a.block, a.off + 2, none⟩ = some (.string ⟨s1.toArray⟩) ∧ W'.cell? ⟨a.block, a.off + 3, none⟩ = some (.slice A1 l1.length c1) ∧
      (s1.length ≤ maxLen ∧ l1.length ≤ maxLen ∧ ExRow W' W'.heap.size l1 A1)) := Lib.hid (fun W' hb => by
    have hB' := hB.on hb
    obtain ⟨a1, A1, c1, e1, _, p0, p1, p2, p3, p4⟩ := ex_cells (i := 0) hB' rfl
    obtain rfl := Option.some.inj e1
    rw [show a.add (0 * 4) = a from by simp [Addr.add]] at p0 p1 p2 p3
    exact ⟨A1, c1, p0, p1, p2, p3, p4⟩)
  have HH0 : Hid (W0.heap[W.heap.size]? = some (exprC 6 m ⟨s.toArray⟩ (.slice (some a) 1 cB))) := Lib.hid (by
    rw [hW0]
    exact heap_of_alloc W _)
  obtain ⟨x1, e1⟩ := v1
  simp only at HC1 hr
  have HR := Lib.hid hr
  obtain ⟨ib, hib⟩ : ∃ b, b = inB m := ⟨_, rfl⟩
  rw [← hib] at HIn
  have HIB := Lib.hid hib
  have HWr : Hid (inB m = true → IntKind.i64.wrap (m * x1) = m * x1) := Lib.hid (fun h => mul_small ((inB_tells m).1 h) HO.out.rng)
  clear hA hB hn hx hv1 hr ih hib
  obtain ⟨A1, c1, p0, p1, p2, p3, P4⟩ := HM.out W0 HJ.out
  have HX1 : Hid (Calls Tryz.prog 42 #[.slice A n c, exprV k1 n1 ⟨s1.toArray⟩ (.slice A1 l1.length c1)] W0 fun e w' => e = .returned (.tuple #[.int .i64 x1, .int .i64 e1]) ∧ Below W0.heap.size W0 w') := Lib.hid
    (HC1.out _ A1 c1 HJ.out P4.2.2 P4.1 P4.2.1)
  clear P4
  subst hW0
  by_cases he1 : e1 = 0
  rotate_left
  · have he1' : (e1 == 0) = false := beq_eq_false_iff_ne.2 he1
    have he1'' : (e1 != 0) = true := by rw [bne_iff_ne]; exact he1
    have HRR : Hid (r = (0, e1)) := Lib.hid (by rw [HR.out, ev1, if_neg he1])
    clear he1
    go_enter Tryz.func42, Tryz.ntmps42
    go_wp2_with fail
    refine HX1.out.mono ?_
    rintro e w3 ⟨rfl, hb⟩
    have H3 := Lib.hid (HJ.out.next hb)
    clear hb
    go_wp2
    go_ret2
    exact ⟨by rw [HRR.out] <;> rfl, H3.out⟩
  subst he1
  cases ib
  · have HRR : Hid (r = (0, 10)) := Lib.hid (by rw [HR.out, ev1, if_pos rfl, ← HIB.out]; rfl)
    go_enter Tryz.func42, Tryz.ntmps42
    go_wp2_with fail
    refine HX1.out.mono ?_
    rintro e w3 ⟨rfl, hb⟩
    have H3 := Lib.hid (HJ.out.next hb)
    have z1 := cell_of_block (kept_box hb HH0.out) 1 rfl
    clear hb
    go_wp2_with fail
    refine (HIn.out _).mono ?_
    rintro e w7 ⟨rfl, rfl⟩
    go_wp2
    go_ret2
    exact ⟨by rw [HRR.out] <;> rfl, H3.out⟩
  · have HIm : Hid (∀ W', Calls Tryz.prog 18 #[.int .i64 (m * x1)] W' fun e w' => e = .returned (.bool (inB (m * x1))) ∧ W' = w') := Lib.hid (rin_any _)
    have HRR : Hid (r = bnd (m * x1)) := Lib.hid (by rw [HR.out, ev1, if_pos rfl, ← HIB.out]; rfl)
    have hw1 := HWr.out HIB.out.symm
    unfold bnd at HRR
    generalize inB (m * x1) = ic at *
    cases ic
    all_goals
      go_enter Tryz.func42, Tryz.ntmps42
      go_wp2_with fail
      refine HX1.out.mono ?_
      rintro e w3 ⟨rfl, hb⟩
      have H3 := Lib.hid (HJ.out.next hb)
      have z1 := cell_of_block (kept_box hb HH0.out) 1 rfl
      clear hb
      go_wp2_with fail
      refine (HIn.out _).mono ?_
      rintro e w7 ⟨rfl, rfl⟩
      go_wp2_with fail
      refine (HIm.out _).mono ?_
      rintro e w7 ⟨rfl, rfl⟩
      go_wp2
      go_ret2
      exact ⟨by rw [HRR.out] <;> rfl, H3.out⟩

/-- The reference's Value says what ev says. -/
theorem rx_any (S : List Bd) (hS : StOk S) : ∀ d : Nat, RxOk S d
  | 0 => fun A c n hn h100 k m s l B cB W hA hB hs hl hv => by
    rw [vE] at hv
    cases hv
  | d + 1 => fun A c n hn h100 k m s l B cB W hA hB hs hl hv => by
    rcases vE_forms hv with ⟨rfl, rfl⟩ | ⟨rfl, rfl⟩ | ⟨rfl, rfl⟩ | ⟨hk, x, y, rfl, hx, hy⟩ | ⟨rfl, x, rfl, hx⟩
    · exact rx_leaf S hS A c n hn h100 1 m s B cB W hA hs (.inl rfl) _ (by rw [ev, if_pos rfl, if_pos rfl])
    · exact rx_leaf S hS A c n hn h100 2 m s B cB W hA hs (.inr (.inl rfl)) _ (by rw [ev, if_neg (by decide), if_pos rfl, if_neg (by decide), if_pos rfl])
    · exact rx_leaf S hS A c n hn h100 3 m s B cB W hA hs (.inr (.inr rfl)) _ (by rw [ev, if_neg (by decide), if_neg (by decide), if_neg (by decide), if_neg (by decide), if_neg (by decide), if_neg (by decide)])
    · exact rx_two S hS d (rx_any S hS d) A c n hn h100 k m s x y B cB W hA hB hs hx hy hk _ (by rw [ev, if_neg (by rcases hk with rfl | rfl <;> decide), if_neg (by rcases hk with rfl | rfl <;> decide), if_pos hk]; rfl)
    · exact rx_one S hS d (rx_any S hS d) A c n hn h100 m s x B cB W hA hB hs hx _ (by rw [ev, if_neg (by decide), if_neg (by decide), if_neg (by decide), if_pos rfl]; rfl)

end Go.Proofs.YtkmpjjpohgjdjaaGreatDoor
