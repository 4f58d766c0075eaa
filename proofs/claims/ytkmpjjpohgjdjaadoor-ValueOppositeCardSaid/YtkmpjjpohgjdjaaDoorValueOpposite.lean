/-
  The body of the law ValueOpposite.
-/
import Derived.Test.YtkmpjjpohgjdjaaDoorValAw
import Derived.Test.YtkmpjjpohgjdjaaDoorValA
import Derived.Test.YtkmpjjpohgjdjaaDoorValSz
namespace Go.Proofs.YtkmpjjpohgjdjaaDoor
open Go.RowKit

/-- The four comparisons of two expressions. -/
structure Opp (b1 b2 b3 b4 : Bool) (e1 e2 e3 e4 : Int) : Prop where
  e2 : e2 = e1
  e3 : e3 = e1
  rest : (e1 = 0 ∧ e4 = 0 ∧ b2 = !b1 ∧ b4 = !b3 ∧ (b1 = true → b3 = true)) ∨ (e1 ≠ 0 ∧ e4 ≠ 0 ∧ b1 = false ∧ b2 = false ∧ b3 = false ∧ b4 = false)

theorem cmp2_opp (p q : Int × Int) : Opp (cmp2 1 p q).1 (cmp2 2 p q).1 (cmp2 3 p q).1 (cmp2 4 q p).1 (cmp2 1 p q).2 (cmp2 2 p q).2 (cmp2 3 p q).2 (cmp2 4 q p).2 := by
  obtain ⟨x, e⟩ := p
  obtain ⟨y, f⟩ := q
  unfold cmp2
  simp only
  by_cases he : e = 0
  · by_cases hf : f = 0
    · rw [if_pos he, if_pos hf, if_pos he, if_pos hf, if_pos he, if_pos hf, if_pos hf, if_pos he]
      refine ⟨rfl, rfl, .inl ⟨rfl, rfl, ?_, ?_, ?_⟩⟩
      · rfl
      · show decide (y < x) = !decide (x ≤ y)
        by_cases h : x ≤ y
        · rw [decide_eq_true h, decide_eq_false (by omega)]; rfl
        · rw [decide_eq_false h, decide_eq_true (by omega)]; rfl
      · intro h
        have h : x = y := by simpa [cmpB] using h
        show decide (x ≤ y) = true
        exact decide_eq_true (by omega)
    · rw [if_pos he, if_neg hf, if_pos he, if_neg hf, if_pos he, if_neg hf, if_neg hf]
      exact ⟨rfl, rfl, .inr ⟨hf, hf, rfl, rfl, rfl, rfl⟩⟩
  · rw [if_neg he, if_neg he, if_neg he]
    by_cases hf : f = 0
    · rw [if_pos hf, if_neg he]
      exact ⟨rfl, rfl, .inr ⟨he, he, rfl, rfl, rfl, rfl⟩⟩
    · rw [if_neg hf]
      exact ⟨rfl, rfl, .inr ⟨he, hf, rfl, rfl, rfl, rfl⟩⟩

theorem ar_opp (rs : Bool) (S : List Bd) (a b : Ex) : Opp (ar rs S 1 a b).1 (ar rs S 2 a b).1 (ar rs S 3 a b).1 (ar rs S 4 b a).1 (ar rs S 1 a b).2 (ar rs S 2 a b).2 (ar rs S 3 a b).2 (ar rs S 4 b a).2 := by
  unfold ar
  rw [show kB 1 = true from rfl, show kB 2 = true from rfl, show kB 3 = true from rfl, show kB 4 = true from rfl, Bool.and_comm (vE varR nuP 30 b)]
  cases h : (rs && (true && (vE varR nuP 30 a && vE varR nuP 30 b)))
  · simp only [Bool.false_eq_true, if_false]
    exact ⟨rfl, rfl, .inr ⟨by decide, by decide, rfl, rfl, rfl, rfl⟩⟩
  · simp only [if_true]
    exact cmp2_opp _ _

set_option maxRecDepth 100000 in
set_option maxHeartbeats 16000000 in
theorem opposite_law (A : Option Addr) (c : Nat) (S : List Bd) (hl : S.length ≤ maxLen) (k1 n1 : Int) (s1 : List UInt8) (l1 : List Ex) (A1 : Option Addr) (c1 : Nat) (k2 n2 : Int) (s2 : List UInt8) (l2 : List Ex) (A2 : Option Addr) (c2 : Nat) (w : World) (hA : BdRow w w.heap.size S A)
    (ra : ExRow w w.heap.size l1 A1) (hs1 : s1.length ≤ maxLen) (hl1 : l1.length ≤ maxLen) (rb : ExRow w w.heap.size l2 A2) (hs2 : s2.length ≤ maxLen) (hl2 : l2.length ≤ maxLen) :
    Calls Tryd.prog 6 #[.slice A S.length c, exprV k1 n1 ⟨s1.toArray⟩ (.slice A1 l1.length c1), exprV k2 n2 ⟨s2.toArray⟩ (.slice A2 l2.length c2)] w fun e w' => e = .returned (.bool true) ∧ Below w.heap.size w w' := by
  obtain ⟨rs, hrs⟩ := says (StOk S)
  obtain ⟨n, hn⟩ : ∃ n, n = S.length := ⟨_, rfl⟩
  rw [← hn] at hl ⊢
  unfold maxLen at hl
  obtain ⟨W0, hW0⟩ : ∃ W0, W0 = (w.alloc (exprC k1 n1 ⟨s1.toArray⟩ (.slice A1 l1.length c1))).alloc (exprC k2 n2 ⟨s2.toArray⟩ (.slice A2 l2.length c2)) := ⟨_, rfl⟩
  have HJ : Hid (Below w.heap.size w W0) := Lib.hid (by rw [hW0]; exact (below_alloc w _).al _)
  have HBx : Hid (∀ W, Below W0.heap.size W0 W → W.cell? ⟨w.heap.size, 0, none⟩ = some (.int .i64 k1) ∧ W.cell? ⟨w.heap.size, 1, none⟩ = some (.int .i64 n1) ∧ W.cell? ⟨w.heap.size, 2, none⟩ = some (.string ⟨s1.toArray⟩) ∧ W.cell? ⟨w.heap.size, 3, none⟩ = some (.slice A1 l1.length c1) ∧
      W.cell? ⟨w.heap.size + 1, 0, none⟩ = some (.int .i64 k2) ∧ W.cell? ⟨w.heap.size + 1, 1, none⟩ = some (.int .i64 n2) ∧ W.cell? ⟨w.heap.size + 1, 2, none⟩ = some (.string ⟨s2.toArray⟩) ∧ W.cell? ⟨w.heap.size + 1, 3, none⟩ = some (.slice A2 l2.length c2)) := Lib.hid (fun W hb => by
    have h := two_boxes w (exprC k1 n1 ⟨s1.toArray⟩ (.slice A1 l1.length c1)) (exprC k2 n2 ⟨s2.toArray⟩ (.slice A2 l2.length c2))
    rw [← hW0] at h
    have h1 := kept_box hb h.1
    have h2 := kept_box hb h.2
    exact ⟨cell_of_block h1 0 rfl, cell_of_block h1 1 rfl, cell_of_block h1 2 rfl, cell_of_block h1 3 rfl, cell_of_block h2 0 rfl, cell_of_block h2 1 rfl, cell_of_block h2 2 rfl, cell_of_block h2 3 rfl⟩)
  by_cases h40 : n ≤ 40
  rotate_left
  · have h40' : (40 : Int) < n := by omega
    clear h40 hA hn hrs ra rb
    go_enter Tryd.func6, Tryd.ntmps6
    go_wp2_with fail
    rw [← hW0]
    refine (awake_any _).mono ?_
    rintro e w1 ⟨rfl, hb⟩
    have H1 := Lib.hid (HJ.out.next hb)
    clear hb hW0
    go_wp2_with fail
    refine (awake_any _).mono ?_
    rintro e w2 ⟨rfl, hb⟩
    have H2 := Lib.hid (H1.out.next hb)
    clear hb
    go_wp2
    go_ret
    exact ⟨rfl, H2.out⟩
  have h40' : ¬ (40 : Int) < n := by omega
  have HSa : Hid (∀ W, Below w.heap.size w W → Calls Tryd.prog 19 #[exprV k1 n1 ⟨s1.toArray⟩ (.slice A1 l1.length c1)] W (SizePost W)) := Lib.hid (fun W hb => size_any k1 n1 s1 l1 A1 c1 W (ra.on hb) hl1)
  have HSb : Hid (∀ W, Below w.heap.size w W → Calls Tryd.prog 19 #[exprV k2 n2 ⟨s2.toArray⟩ (.slice A2 l2.length c2)] W (SizePost W)) := Lib.hid (fun W hb => size_any k2 n2 s2 l2 A2 c2 W (rb.on hb) hl2)
  have HAt : Hid (∀ k W, Below w.heap.size w W → Calls Tryd.prog 23 #[.slice A n c, atomV k k1 n1 ⟨s1.toArray⟩ (.slice A1 l1.length c1) k2 n2 ⟨s2.toArray⟩ (.slice A2 l2.length c2)] W fun e w' =>
      e = .returned (.tuple #[.bool (ar rs S k (.mk k1 n1 s1 l1) (.mk k2 n2 s2 l2)).1, .int .i64 (ar rs S k (.mk k1 n1 s1 l1) (.mk k2 n2 s2 l2)).2]) ∧ Below W.heap.size W w') :=
    Lib.hid (fun k W hb => vAtom_any A c n S hn (by omega) k k1 n1 s1 l1 k2 n2 s2 l2 A1 c1 A2 c2 W (bd_later hA hb) (ra.on hb) (rb.on hb) hs1 hl1 hs2 hl2 rs hrs)
  have HA4 : Hid (∀ W, Below w.heap.size w W → Calls Tryd.prog 23 #[.slice A n c, atomV 4 k2 n2 ⟨s2.toArray⟩ (.slice A2 l2.length c2) k1 n1 ⟨s1.toArray⟩ (.slice A1 l1.length c1)] W fun e w' =>
      e = .returned (.tuple #[.bool (ar rs S 4 (.mk k2 n2 s2 l2) (.mk k1 n1 s1 l1)).1, .int .i64 (ar rs S 4 (.mk k2 n2 s2 l2) (.mk k1 n1 s1 l1)).2]) ∧ Below W.heap.size W w') :=
    Lib.hid (fun W hb => vAtom_any A c n S hn (by omega) 4 k2 n2 s2 l2 k1 n1 s1 l1 A2 c2 A1 c1 W (bd_later hA hb) (rb.on hb) (ra.on hb) hs2 hl2 hs1 hl1 rs hrs)
  have HO := Lib.hid (ar_opp rs S (.mk k1 n1 s1 l1) (.mk k2 n2 s2 l2))
  have HA1 := Lib.hid (HAt.out 1)
  have HA2 := Lib.hid (HAt.out 2)
  have HA3 := Lib.hid (HAt.out 3)
  clear HAt
  generalize ar rs S 1 (.mk k1 n1 s1 l1) (.mk k2 n2 s2 l2) = r1 at *
  generalize ar rs S 2 (.mk k1 n1 s1 l1) (.mk k2 n2 s2 l2) = r2 at *
  generalize ar rs S 3 (.mk k1 n1 s1 l1) (.mk k2 n2 s2 l2) = r3 at *
  generalize ar rs S 4 (.mk k2 n2 s2 l2) (.mk k1 n1 s1 l1) = r4 at *
  obtain ⟨b1, e1⟩ := r1
  obtain ⟨b2, e2⟩ := r2
  obtain ⟨b3, e3⟩ := r3
  obtain ⟨b4, e4⟩ := r4
  simp only at HA1 HA2 HA3 HA4 HO
  clear hA hn hrs ra rb h40
  obtain ⟨rfl, rfl, hrest⟩ := HO.out
  clear HO
  have HRe := Lib.hid hrest
  clear hrest
  go_enter Tryd.func6, Tryd.ntmps6
  go_wp2_with fail
  rw [← hW0]
  clear hW0
  refine (awake_any _).mono ?_
  rintro e w1 ⟨rfl, hb⟩
  obtain ⟨t0, t1, t2, t3, u0, u1, u2, u3⟩ := HBx.out _ hb
  have H1 := Lib.hid (And.intro (HJ.out.next hb) hb)
  clear hb
  go_wp2_with fail
  refine (HSa.out _ H1.out.1).mono ?_
  rintro e w2 ⟨sz, rfl, _, _, hb⟩
  clear t0 t1 t2 t3 u0 u1 u2 u3
  obtain ⟨t0, t1, t2, t3, u0, u1, u2, u3⟩ := HBx.out _ (H1.out.2.next hb)
  have H2 := Lib.hid (And.intro (H1.out.1.next hb) (H1.out.2.next hb))
  clear hb
  by_cases h200 : (200 : Int) < sz
  · go_wp2_with fail
    refine (awake_any _).mono ?_
    rintro e w3 ⟨rfl, hb⟩
    have H3 := Lib.hid (H2.out.1.next hb)
    clear hb
    go_wp2
    go_ret
    exact ⟨rfl, H3.out⟩
  go_wp2_with fail
  refine (HSb.out _ H2.out.1).mono ?_
  rintro e w3 ⟨sz2, rfl, _, _, hb⟩
  clear t0 t1 t2 t3 u0 u1 u2 u3
  obtain ⟨t0, t1, t2, t3, u0, u1, u2, u3⟩ := HBx.out _ (H2.out.2.next hb)
  have H3 := Lib.hid (And.intro (H2.out.1.next hb) (H2.out.2.next hb))
  clear hb
  by_cases h2002 : (200 : Int) < sz2
  · go_wp2_with fail
    refine (awake_any _).mono ?_
    rintro e w4 ⟨rfl, hb⟩
    have H4 := Lib.hid (H3.out.1.next hb)
    clear hb
    go_wp2
    go_ret
    exact ⟨rfl, H4.out⟩
  go_wp2_with fail
  refine (HA1.out _ H3.out.1).mono ?_
  rintro e w4 ⟨rfl, hb⟩
  clear t0 t1 t2 t3 u0 u1 u2 u3
  obtain ⟨t0, t1, t2, t3, u0, u1, u2, u3⟩ := HBx.out _ (H3.out.2.next hb)
  have H4 := Lib.hid (And.intro (H3.out.1.next hb) (H3.out.2.next hb))
  clear hb
  go_wp2_with fail
  refine (HA2.out _ H4.out.1).mono ?_
  rintro e w5 ⟨rfl, hb⟩
  clear t0 t1 t2 t3 u0 u1 u2 u3
  obtain ⟨t0, t1, t2, t3, u0, u1, u2, u3⟩ := HBx.out _ (H4.out.2.next hb)
  have H5 := Lib.hid (And.intro (H4.out.1.next hb) (H4.out.2.next hb))
  clear hb
  go_wp2_with fail
  refine (HA3.out _ H5.out.1).mono ?_
  rintro e w6 ⟨rfl, hb⟩
  clear t0 t1 t2 t3 u0 u1 u2 u3
  obtain ⟨t0, t1, t2, t3, u0, u1, u2, u3⟩ := HBx.out _ (H5.out.2.next hb)
  have H6 := Lib.hid (And.intro (H5.out.1.next hb) (H5.out.2.next hb))
  clear hb
  go_wp2_with fail
  refine (HA4.out _ H6.out.1).mono ?_
  rintro e w7 ⟨rfl, hb⟩
  have H7 := Lib.hid (H6.out.1.next hb)
  clear hb t0 t1 t2 t3 u0 u1 u2 u3
  rcases HRe.out with ⟨rfl, rfl, rfl, rfl, hb3⟩ | ⟨he1, he4, rfl, rfl, rfl, rfl⟩
  · cases b1
    · cases b3
      all_goals
        go_wp2
        go_ret
        exact ⟨rfl, H7.out⟩
    · obtain rfl := hb3 rfl
      go_wp2
      go_ret
      exact ⟨rfl, H7.out⟩
  · have e1' : (e3 == 0) = false := beq_eq_false_iff_ne.2 he1
    have e1'' : (e3 != 0) = true := by rw [bne_iff_ne]; exact he1
    have e4' : (e4 == 0) = false := beq_eq_false_iff_ne.2 he4
    have e4'' : (e4 != 0) = true := by rw [bne_iff_ne]; exact he4
    clear he1 he4
    go_wp2
    go_ret
    exact ⟨rfl, H7.out⟩

end Go.Proofs.YtkmpjjpohgjdjaaDoor
