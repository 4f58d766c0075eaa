/-
  The body of the law ValueExprs.
-/
import Derived.Test.YtkmpjjpohgjdjaaDoorValAw
import Derived.Test.YtkmpjjpohgjdjaaDoorValRv
import Derived.Test.YtkmpjjpohgjdjaaDoorValR
import Derived.Test.YtkmpjjpohgjdjaaDoorValSz
namespace Go.Proofs.YtkmpjjpohgjdjaaDoor
open Go.RowKit

set_option maxRecDepth 100000 in
set_option maxHeartbeats 8000000 in
theorem exprs7_law (A : Option Addr) (c : Nat) (S : List Bd) (hl : S.length ≤ maxLen) (k m : Int) (s : List UInt8) (l : List Ex) (B : Option Addr) (cB : Nat) (w : World) (hA : BdRow w w.heap.size S A) (hB : ExRow w w.heap.size l B) (hs : s.length ≤ maxLen) (hll : l.length ≤ maxLen) :
    Calls Tryd.prog 5 #[.slice A S.length c, exprV k m ⟨s.toArray⟩ (.slice B l.length cB)] w fun e w' => e = .returned (.bool true) ∧ Below w.heap.size w w' := by
  obtain ⟨rs, hrs⟩ := says (StOk S)
  obtain ⟨n, hn⟩ : ∃ n, n = S.length := ⟨_, rfl⟩
  rw [← hn] at hl ⊢
  unfold maxLen at hl
  have HJ := Lib.hid (below_alloc w (exprC k m ⟨s.toArray⟩ (.slice B l.length cB)))
  have HBx : Hid (∀ W, Below (w.alloc (exprC k m ⟨s.toArray⟩ (.slice B l.length cB))).heap.size (w.alloc (exprC k m ⟨s.toArray⟩ (.slice B l.length cB))) W → W.cell? ⟨w.heap.size, 0, none⟩ = some (.int .i64 k) ∧ W.cell? ⟨w.heap.size, 1, none⟩ = some (.int .i64 m) ∧ W.cell? ⟨w.heap.size, 2, none⟩ = some (.string ⟨s.toArray⟩) ∧ W.cell? ⟨w.heap.size, 3, none⟩ = some (.slice B l.length cB)) := Lib.hid (fun W hb => box4 hb)
  by_cases h40 : n ≤ 40
  rotate_left
  · have h40' : (40 : Int) < n := by omega
    clear h40 hA hn hrs hB
    go_enter Tryd.func5, Tryd.ntmps5
    go_wp2_with fail
    refine (awake_any _).mono ?_
    rintro e w1 ⟨rfl, hb⟩
    have H1 := Lib.hid (HJ.out.next hb)
    clear hb
    go_wp2_with fail
    refine (awake_any _).mono ?_
    rintro e w2 ⟨rfl, hb⟩
    have H2 := Lib.hid (H1.out.next hb)
    clear hb
    go_wp2
    go_ret
    exact ⟨rfl, H2.out⟩
  have h40' : ¬ (40 : Int) < n := by omega
  have HSz : Hid (∀ W, Below w.heap.size w W → Calls Tryd.prog 19 #[exprV k m ⟨s.toArray⟩ (.slice B l.length cB)] W (SizePost W)) := Lib.hid (fun W hb => size_any k m s l B cB W (hB.on hb) hll)
  have HRv : Hid (∀ W, Below w.heap.size w W → Calls Tryd.prog 10 #[.slice A n c] W fun e w' => e = .returned (.bool rs) ∧ Below W.heap.size W w') := Lib.hid (fun W hb => rvalidS_any A c n S hn (by unfold maxLen; omega) W (bd_later hA hb) rs hrs)
  have HVx : Hid (∀ W, Below w.heap.size w W → Calls Tryd.prog 20 #[.slice A n c, exprV k m ⟨s.toArray⟩ (.slice B l.length cB)] W fun e w' => e = .returned (.tuple #[.int .i64 (xr rs S (.mk k m s l)).1, .int .i64 (xr rs S (.mk k m s l)).2]) ∧ Below W.heap.size W w') := Lib.hid (fun W hb => vExpr_any A c n S hn (by omega) k m s l B cB W (bd_later hA hb) (hB.on hb) hs hll rs hrs)
  obtain ⟨vb, hvb⟩ : ∃ b, b = vE varR nuP 30 (.mk k m s l) := ⟨_, rfl⟩
  have HRe : Hid (∀ W, Below w.heap.size w W → Calls Tryd.prog 21 #[exprV k m ⟨s.toArray⟩ (.slice B l.length cB)] W fun e w' => e = .returned (.bool vb) ∧ Below W.heap.size W w') := Lib.hid (fun W hb => by rw [hvb]; exact sexpr_any k m s l B cB W (hB.on hb) hs hll)
  have HRx : Hid (rs = true → vb = true → ∀ W, Below w.heap.size w W → Calls Tryd.prog 22 #[.slice A n c, exprV k m ⟨s.toArray⟩ (.slice B l.length cB)] W fun e w' => e = .returned (.tuple #[.int .i64 (xr rs S (.mk k m s l)).1, .int .i64 (xr rs S (.mk k m s l)).2]) ∧ Below W.heap.size W w') :=
    Lib.hid (fun h1 h2 W hb => by
      have := rx_any S (by subst h1; exact hrs.t) 30 A c n hn (by omega) k m s l B cB W (bd_later hA hb) (hB.on hb) hs hll (by rw [← hvb]; exact h2)
      rw [xr, h1, ← hvb, h2]
      exact this)
  have HNo : Hid (rs = false ∨ vb = false → xr rs S (.mk k m s l) = (0, 1)) := Lib.hid (fun h => by
    rw [xr, ← hvb]
    rcases h with h | h <;> rw [h]
    · rfl
    · rw [Bool.and_false]; rfl)
  generalize xr rs S (.mk k m s l) = r at *
  obtain ⟨r1, r2⟩ := r
  simp only at HVx HRx
  clear hA hB hn hrs h40 hs hll hvb
  have HNo1 : Hid ((rs && vb) = false → r1 = 0 ∧ r2 = 1) := Lib.hid (fun h => by
    have := HNo.out (by cases rs <;> cases vb <;> first | exact .inl rfl | exact .inr rfl | cases h)
    injection this with a b
    exact ⟨a, b⟩)
  have HRx1 : Hid ((rs && vb) = true → ∀ W, Below w.heap.size w W → Calls Tryd.prog 22 #[.slice A n c, exprV k m ⟨s.toArray⟩ (.slice B l.length cB)] W fun e w' => e = .returned (.tuple #[.int .i64 r1, .int .i64 r2]) ∧ Below W.heap.size W w') := Lib.hid (fun h => HRx.out (Bool.and_eq_true_iff.1 h).1 (Bool.and_eq_true_iff.1 h).2)
  clear HNo HRx
  cases rs
  · obtain ⟨rfl, rfl⟩ := HNo1.out rfl
    clear HNo1 HRx1
    go_enter Tryd.func5, Tryd.ntmps5
    go_wp2_with fail
    refine (awake_any _).mono ?_
    rintro e w1 ⟨rfl, hb⟩
    obtain ⟨t0, t1, t2, t3⟩ := HBx.out _ hb
    have H1 := Lib.hid (And.intro (HJ.out.next hb) hb)
    clear hb
    go_wp2_with fail
    refine (HSz.out _ H1.out.1).mono ?_
    rintro e w2 ⟨sz, rfl, _, _, hb⟩
    clear t0 t1 t2 t3
    obtain ⟨t0, t1, t2, t3⟩ := HBx.out _ (H1.out.2.next hb)
    have H2 := Lib.hid (And.intro (H1.out.1.next hb) (H1.out.2.next hb))
    clear hb
    by_cases h200 : (200 : Int) < sz
    · go_wp2_with fail
      refine (awake_any _).mono ?_
      rintro e w3 ⟨rfl, hb⟩
      have H3 := Lib.hid (H2.out.1.next hb)
      clear hb
      go_wp2
      go_ret
      exact ⟨rfl, H3.out⟩
    go_wp2_with fail
    refine (HVx.out _ H2.out.1).mono ?_
    rintro e w3 ⟨rfl, hb⟩
    have H3 := Lib.hid (H2.out.1.next hb)
    clear hb
    go_wp2_with fail
    refine (HRv.out _ H3.out).mono ?_
    rintro e w4 ⟨rfl, hb⟩
    have H4 := Lib.hid (H3.out.next hb)
    clear hb
    go_wp2
    go_ret
    exact ⟨rfl, H4.out⟩
  · cases vb
    · obtain ⟨rfl, rfl⟩ := HNo1.out rfl
      clear HNo1 HRx1
      go_enter Tryd.func5, Tryd.ntmps5
      go_wp2_with fail
      refine (awake_any _).mono ?_
      rintro e w1 ⟨rfl, hb⟩
      obtain ⟨t0, t1, t2, t3⟩ := HBx.out _ hb
      have H1 := Lib.hid (And.intro (HJ.out.next hb) hb)
      clear hb
      go_wp2_with fail
      refine (HSz.out _ H1.out.1).mono ?_
      rintro e w2 ⟨sz, rfl, _, _, hb⟩
      clear t0 t1 t2 t3
      obtain ⟨t0, t1, t2, t3⟩ := HBx.out _ (H1.out.2.next hb)
      have H2 := Lib.hid (And.intro (H1.out.1.next hb) (H1.out.2.next hb))
      clear hb
      by_cases h200 : (200 : Int) < sz
      · go_wp2_with fail
        refine (awake_any _).mono ?_
        rintro e w3 ⟨rfl, hb⟩
        have H3 := Lib.hid (H2.out.1.next hb)
        clear hb
        go_wp2
        go_ret
        exact ⟨rfl, H3.out⟩
      go_wp2_with fail
      refine (HVx.out _ H2.out.1).mono ?_
      rintro e w3 ⟨rfl, hb⟩
      have H3 := Lib.hid (And.intro (H2.out.1.next hb) (H2.out.2.next hb))
      clear hb
      go_wp2_with fail
      refine (HRv.out _ H3.out.1).mono ?_
      rintro e w4 ⟨rfl, hb⟩
      clear t0 t1 t2 t3
      obtain ⟨t0, t1, t2, t3⟩ := HBx.out _ (H3.out.2.next hb)
      have H4 := Lib.hid (H3.out.1.next hb)
      clear hb
      go_wp2_with fail
      refine (HRe.out _ H4.out).mono ?_
      rintro e w5 ⟨rfl, hb⟩
      have H5 := Lib.hid (H4.out.next hb)
      clear hb
      go_wp2
      go_ret
      exact ⟨rfl, H5.out⟩
    · have HRx2 := Lib.hid (HRx1.out rfl)
      clear HNo1 HRx1
      go_enter Tryd.func5, Tryd.ntmps5
      go_wp2_with fail
      refine (awake_any _).mono ?_
      rintro e w1 ⟨rfl, hb⟩
      obtain ⟨t0, t1, t2, t3⟩ := HBx.out _ hb
      have H1 := Lib.hid (And.intro (HJ.out.next hb) hb)
      clear hb
      go_wp2_with fail
      refine (HSz.out _ H1.out.1).mono ?_
      rintro e w2 ⟨sz, rfl, _, _, hb⟩
      clear t0 t1 t2 t3
      obtain ⟨t0, t1, t2, t3⟩ := HBx.out _ (H1.out.2.next hb)
      have H2 := Lib.hid (And.intro (H1.out.1.next hb) (H1.out.2.next hb))
      clear hb
      by_cases h200 : (200 : Int) < sz
      · go_wp2_with fail
        refine (awake_any _).mono ?_
        rintro e w3 ⟨rfl, hb⟩
        have H3 := Lib.hid (H2.out.1.next hb)
        clear hb
        go_wp2
        go_ret
        exact ⟨rfl, H3.out⟩
      go_wp2_with fail
      refine (HVx.out _ H2.out.1).mono ?_
      rintro e w3 ⟨rfl, hb⟩
      have H3 := Lib.hid (And.intro (H2.out.1.next hb) (H2.out.2.next hb))
      clear hb
      go_wp2_with fail
      refine (HRv.out _ H3.out.1).mono ?_
      rintro e w4 ⟨rfl, hb⟩
      clear t0 t1 t2 t3
      obtain ⟨t0, t1, t2, t3⟩ := HBx.out _ (H3.out.2.next hb)
      have H4 := Lib.hid (And.intro (H3.out.1.next hb) (H3.out.2.next hb))
      clear hb
      go_wp2_with fail
      refine (HRe.out _ H4.out.1).mono ?_
      rintro e w5 ⟨rfl, hb⟩
      clear t0 t1 t2 t3
      obtain ⟨t0, t1, t2, t3⟩ := HBx.out _ (H4.out.2.next hb)
      have H5 := Lib.hid (H4.out.1.next hb)
      clear hb
      go_wp2_with fail
      refine (HRx2.out _ H5.out).mono ?_
      rintro e w6 ⟨rfl, hb⟩
      have H6 := Lib.hid (H5.out.next hb)
      clear hb
      go_wp2
      go_ret
      exact ⟨by simp, H6.out⟩

end Go.Proofs.YtkmpjjpohgjdjaaDoor
