/-
  The body of the law ValueConds.
-/
import Derived.Test.YtkmpjjpohgjdjaaGreatDoorValAw
import Derived.Test.YtkmpjjpohgjdjaaGreatDoorValRv
import Derived.Test.YtkmpjjpohgjdjaaGreatDoorValKr
import Derived.Test.YtkmpjjpohgjdjaaGreatDoorTreeKs
import Derived.Test.YtkmpjjpohgjdjaaGreatDoorValSzc
namespace Go.Proofs.YtkmpjjpohgjdjaaGreatDoor
open Go.RowKit

set_option maxRecDepth 100000 in
set_option maxHeartbeats 8000000 in
theorem conds7_law (A : Option Addr) (c : Nat) (S : List Bd) (hl : S.length ≤ maxLen) (k ak an : Int) (sa : List UInt8) (al : List Ex) (bk bn : Int) (sb : List UInt8) (bl : List Ex) (l : List Cn) (Aa : Option Addr) (ca : Nat) (Ab : Option Addr) (cb : Nat) (Al : Option Addr) (cl : Nat) (w : World) (hA : BdRow w w.heap.size S A) (ra : ExRow w w.heap.size al Aa) (rb : ExRow w w.heap.size bl Ab) (rl : CnRow w w.heap.size l Al) (b1 : sa.length ≤ maxLen) (b2 : al.length ≤ maxLen) (b3 : sb.length ≤ maxLen) (b4 : bl.length ≤ maxLen) (b5 : l.length ≤ maxLen) :
    Calls Tryz.prog 3 #[.slice A S.length c, condV2 k ak an ⟨sa.toArray⟩ (.slice Aa al.length ca) bk bn ⟨sb.toArray⟩ (.slice Ab bl.length cb) (.slice Al l.length cl)] w fun e w' => e = .returned (.bool true) ∧ Below w.heap.size w w' := by
  obtain ⟨rs, hrs⟩ := says (StOk S)
  obtain ⟨n, hn⟩ : ∃ n, n = S.length := ⟨_, rfl⟩
  rw [← hn] at hl ⊢
  unfold maxLen at hl
  have HJ := Lib.hid (below_alloc w (condC2 k ak an ⟨sa.toArray⟩ (.slice Aa al.length ca) bk bn ⟨sb.toArray⟩ (.slice Ab bl.length cb) (.slice Al l.length cl)))
  have HBx : Hid (∀ W, Below (w.alloc (condC2 k ak an ⟨sa.toArray⟩ (.slice Aa al.length ca) bk bn ⟨sb.toArray⟩ (.slice Ab bl.length cb) (.slice Al l.length cl))).heap.size (w.alloc (condC2 k ak an ⟨sa.toArray⟩ (.slice Aa al.length ca) bk bn ⟨sb.toArray⟩ (.slice Ab bl.length cb) (.slice Al l.length cl))) W → W.cell? ⟨w.heap.size, 0, none⟩ = some (.int .i64 k) ∧ W.cell? ⟨w.heap.size, 1, none⟩ = some (.int .i64 ak) ∧ W.cell? ⟨w.heap.size, 2, none⟩ = some (.int .i64 an) ∧ W.cell? ⟨w.heap.size, 3, none⟩ = some (.string ⟨sa.toArray⟩) ∧ W.cell? ⟨w.heap.size, 4, none⟩ = some (.slice Aa al.length ca) ∧ W.cell? ⟨w.heap.size, 5, none⟩ = some (.int .i64 bk) ∧ W.cell? ⟨w.heap.size, 6, none⟩ = some (.int .i64 bn) ∧ W.cell? ⟨w.heap.size, 7, none⟩ = some (.string ⟨sb.toArray⟩) ∧ W.cell? ⟨w.heap.size, 8, none⟩ = some (.slice Ab bl.length cb) ∧ W.cell? ⟨w.heap.size, 9, none⟩ = some (.slice Al l.length cl)) := Lib.hid (fun W hb => all10 (kept_box hb (heap_of_alloc w _)))
  by_cases h40 : n ≤ 40
  rotate_left
  · have h40' : (40 : Int) < n := by omega
    clear h40 hA hn hrs ra rb rl
    go_enter Tryz.func3, Tryz.ntmps3
    go_wp2_with fail
    refine (awake_any _).mono ?_
    rintro e w1 ⟨rfl, hb⟩
    have H1 := Lib.hid (HJ.out.next hb)
    clear hb
    go_wp2_with fail
    refine (awake_any _).mono ?_
    rintro e w2 ⟨rfl, hb⟩
    have H2 := Lib.hid (H1.out.next hb)
    clear hb
    go_wp2
    go_ret
    exact ⟨rfl, H2.out⟩
  have h40' : ¬ (40 : Int) < n := by omega
  have HSz : Hid (∀ W, Below w.heap.size w W → Calls Tryz.prog 7 #[condV2 k ak an ⟨sa.toArray⟩ (.slice Aa al.length ca) bk bn ⟨sb.toArray⟩ (.slice Ab bl.length cb) (.slice Al l.length cl)] W (SizePost W)) := Lib.hid (fun W hb => sizeOf_any k ak an sa al bk bn sb bl l Aa ca Ab cb Al cl W (ra.on hb) (rb.on hb) (rl.on hb) b2 b4 b5)
  have HRv : Hid (∀ W, Below w.heap.size w W → Calls Tryz.prog 9 #[.slice A n c] W fun e w' => e = .returned (.bool rs) ∧ Below W.heap.size W w') := Lib.hid (fun W hb => rvalidS_any A c n S hn (by unfold maxLen; omega) W (bd_later hA hb) rs hrs)
  have HVx : Hid (∀ W, Below w.heap.size w W → Calls Tryz.prog 8 #[.slice A n c, condV2 k ak an ⟨sa.toArray⟩ (.slice Aa al.length ca) bk bn ⟨sb.toArray⟩ (.slice Ab bl.length cb) (.slice Al l.length cl)] W fun e w' => e = .returned (.tuple #[.bool (kr rs S (.mk k (.mk ak an sa al) (.mk bk bn sb bl) l)).1, .int .i64 (kr rs S (.mk k (.mk ak an sa al) (.mk bk bn sb bl) l)).2]) ∧ Below W.heap.size W w') := Lib.hid (fun W hb => vCond_any A c n S hn (by omega) k ak an sa al bk bn sb bl l Aa ca Ab cb Al cl W (bd_later hA hb) (ra.on hb) (rb.on hb) (rl.on hb) b1 b2 b3 b4 b5 rs hrs)
  obtain ⟨vb, hvb⟩ : ∃ b, b = vC varR nuP 30 (.mk k (.mk ak an sa al) (.mk bk bn sb bl) l) := ⟨_, rfl⟩
  have HRe : Hid (∀ W, Below w.heap.size w W → Calls Tryz.prog 10 #[condV2 k ak an ⟨sa.toArray⟩ (.slice Aa al.length ca) bk bn ⟨sb.toArray⟩ (.slice Ab bl.length cb) (.slice Al l.length cl)] W fun e w' => e = .returned (.bool vb) ∧ Below W.heap.size W w') := Lib.hid (fun W hb => by rw [hvb]; exact scond_any k ak an sa al bk bn sb bl l Aa ca Ab cb Al cl W (ra.on hb) (rb.on hb) (rl.on hb) b1 b2 b3 b4 b5)
  have HRx : Hid (rs = true → vb = true → ∀ W, Below w.heap.size w W → Calls Tryz.prog 11 #[.slice A n c, condV2 k ak an ⟨sa.toArray⟩ (.slice Aa al.length ca) bk bn ⟨sb.toArray⟩ (.slice Ab bl.length cb) (.slice Al l.length cl)] W fun e w' => e = .returned (.tuple #[.bool (kr rs S (.mk k (.mk ak an sa al) (.mk bk bn sb bl) l)).1, .int .i64 (kr rs S (.mk k (.mk ak an sa al) (.mk bk bn sb bl) l)).2]) ∧ Below W.heap.size W w') :=
    Lib.hid (fun h1 h2 W hb => by
      have := rc_any S (by subst h1; exact hrs.t) 30 A c n hn (by omega) k ak an sa al bk bn sb bl l Aa ca Ab cb Al cl W (bd_later hA hb) ⟨ra.on hb, rb.on hb, rl.on hb⟩ ⟨b1, b2, b3, b4, b5⟩ (by rw [← hvb]; exact h2)
      rw [kr, h1, ← hvb, h2]
      exact this)
  have HNo : Hid (rs = false ∨ vb = false → kr rs S (.mk k (.mk ak an sa al) (.mk bk bn sb bl) l) = (false, 1)) := Lib.hid (fun h => by
    rw [kr, ← hvb]
    rcases h with h | h <;> rw [h]
    · rfl
    · rw [Bool.and_false]; rfl)
  generalize kr rs S (.mk k (.mk ak an sa al) (.mk bk bn sb bl) l) = r at *
  obtain ⟨r1, r2⟩ := r
  simp only at HVx HRx
  clear hA ra rb rl hn hrs h40 b1 b2 b3 b4 b5 hvb
  have HNo1 : Hid ((rs && vb) = false → r1 = false ∧ r2 = 1) := Lib.hid (fun h => by
    have := HNo.out (by cases rs <;> cases vb <;> first | exact .inl rfl | exact .inr rfl | cases h)
    injection this with a b
    exact ⟨a, b⟩)
  have HRx1 : Hid ((rs && vb) = true → ∀ W, Below w.heap.size w W → Calls Tryz.prog 11 #[.slice A n c, condV2 k ak an ⟨sa.toArray⟩ (.slice Aa al.length ca) bk bn ⟨sb.toArray⟩ (.slice Ab bl.length cb) (.slice Al l.length cl)] W fun e w' => e = .returned (.tuple #[.bool r1, .int .i64 r2]) ∧ Below W.heap.size W w') := Lib.hid (fun h => HRx.out (Bool.and_eq_true_iff.1 h).1 (Bool.and_eq_true_iff.1 h).2)
  clear HNo HRx
  cases rs
  · obtain ⟨rfl, rfl⟩ := HNo1.out rfl
    clear HNo1 HRx1
    go_enter Tryz.func3, Tryz.ntmps3
    go_wp2_with fail
    refine (awake_any _).mono ?_
    rintro e w1 ⟨rfl, hb⟩
    obtain ⟨t0, t1, t2, t3, t4, t5, t6, t7, t8, t9⟩ := HBx.out _ hb
    have H1 := Lib.hid (And.intro (HJ.out.next hb) hb)
    clear hb
    go_wp2_with fail
    refine (HSz.out _ H1.out.1).mono ?_
    rintro e w2 ⟨sz, rfl, _, _, hb⟩
    clear t0 t1 t2 t3 t4 t5 t6 t7 t8 t9
    obtain ⟨t0, t1, t2, t3, t4, t5, t6, t7, t8, t9⟩ := HBx.out _ (H1.out.2.next hb)
    have H2 := Lib.hid (And.intro (H1.out.1.next hb) (H1.out.2.next hb))
    clear hb
    by_cases h200 : (200 : Int) < sz
    · go_wp2_with fail
      refine (awake_any _).mono ?_
      rintro e w3 ⟨rfl, hb⟩
      have H3 := Lib.hid (H2.out.1.next hb)
      clear hb
      go_wp2
      go_ret
      exact ⟨rfl, H3.out⟩
    go_wp2_with fail
    refine (HVx.out _ H2.out.1).mono ?_
    rintro e w3 ⟨rfl, hb⟩
    have H3 := Lib.hid (H2.out.1.next hb)
    clear hb
    go_wp2_with fail
    refine (HRv.out _ H3.out).mono ?_
    rintro e w4 ⟨rfl, hb⟩
    have H4 := Lib.hid (H3.out.next hb)
    clear hb
    go_wp2
    go_ret
    exact ⟨rfl, H4.out⟩
  · cases vb
    · obtain ⟨rfl, rfl⟩ := HNo1.out rfl
      clear HNo1 HRx1
      go_enter Tryz.func3, Tryz.ntmps3
      go_wp2_with fail
      refine (awake_any _).mono ?_
      rintro e w1 ⟨rfl, hb⟩
      obtain ⟨t0, t1, t2, t3, t4, t5, t6, t7, t8, t9⟩ := HBx.out _ hb
      have H1 := Lib.hid (And.intro (HJ.out.next hb) hb)
      clear hb
      go_wp2_with fail
      refine (HSz.out _ H1.out.1).mono ?_
      rintro e w2 ⟨sz, rfl, _, _, hb⟩
      clear t0 t1 t2 t3 t4 t5 t6 t7 t8 t9
      obtain ⟨t0, t1, t2, t3, t4, t5, t6, t7, t8, t9⟩ := HBx.out _ (H1.out.2.next hb)
      have H2 := Lib.hid (And.intro (H1.out.1.next hb) (H1.out.2.next hb))
      clear hb
      by_cases h200 : (200 : Int) < sz
      · go_wp2_with fail
        refine (awake_any _).mono ?_
        rintro e w3 ⟨rfl, hb⟩
        have H3 := Lib.hid (H2.out.1.next hb)
        clear hb
        go_wp2
        go_ret
        exact ⟨rfl, H3.out⟩
      go_wp2_with fail
      refine (HVx.out _ H2.out.1).mono ?_
      rintro e w3 ⟨rfl, hb⟩
      have H3 := Lib.hid (And.intro (H2.out.1.next hb) (H2.out.2.next hb))
      clear hb
      go_wp2_with fail
      refine (HRv.out _ H3.out.1).mono ?_
      rintro e w4 ⟨rfl, hb⟩
      clear t0 t1 t2 t3 t4 t5 t6 t7 t8 t9
      obtain ⟨t0, t1, t2, t3, t4, t5, t6, t7, t8, t9⟩ := HBx.out _ (H3.out.2.next hb)
      have H4 := Lib.hid (H3.out.1.next hb)
      clear hb
      go_wp2_with fail
      refine (HRe.out _ H4.out).mono ?_
      rintro e w5 ⟨rfl, hb⟩
      have H5 := Lib.hid (H4.out.next hb)
      clear hb
      go_wp2
      go_ret
      exact ⟨rfl, H5.out⟩
    · have HRx2 := Lib.hid (HRx1.out rfl)
      clear HNo1 HRx1
      go_enter Tryz.func3, Tryz.ntmps3
      go_wp2_with fail
      refine (awake_any _).mono ?_
      rintro e w1 ⟨rfl, hb⟩
      obtain ⟨t0, t1, t2, t3, t4, t5, t6, t7, t8, t9⟩ := HBx.out _ hb
      have H1 := Lib.hid (And.intro (HJ.out.next hb) hb)
      clear hb
      go_wp2_with fail
      refine (HSz.out _ H1.out.1).mono ?_
      rintro e w2 ⟨sz, rfl, _, _, hb⟩
      clear t0 t1 t2 t3 t4 t5 t6 t7 t8 t9
      obtain ⟨t0, t1, t2, t3, t4, t5, t6, t7, t8, t9⟩ := HBx.out _ (H1.out.2.next hb)
      have H2 := Lib.hid (And.intro (H1.out.1.next hb) (H1.out.2.next hb))
      clear hb
      by_cases h200 : (200 : Int) < sz
      · go_wp2_with fail
        refine (awake_any _).mono ?_
        rintro e w3 ⟨rfl, hb⟩
        have H3 := Lib.hid (H2.out.1.next hb)
        clear hb
        go_wp2
        go_ret
        exact ⟨rfl, H3.out⟩
      go_wp2_with fail
      refine (HVx.out _ H2.out.1).mono ?_
      rintro e w3 ⟨rfl, hb⟩
      have H3 := Lib.hid (And.intro (H2.out.1.next hb) (H2.out.2.next hb))
      clear hb
      go_wp2_with fail
      refine (HRv.out _ H3.out.1).mono ?_
      rintro e w4 ⟨rfl, hb⟩
      clear t0 t1 t2 t3 t4 t5 t6 t7 t8 t9
      obtain ⟨t0, t1, t2, t3, t4, t5, t6, t7, t8, t9⟩ := HBx.out _ (H3.out.2.next hb)
      have H4 := Lib.hid (And.intro (H3.out.1.next hb) (H3.out.2.next hb))
      clear hb
      go_wp2_with fail
      refine (HRe.out _ H4.out.1).mono ?_
      rintro e w5 ⟨rfl, hb⟩
      clear t0 t1 t2 t3 t4 t5 t6 t7 t8 t9
      obtain ⟨t0, t1, t2, t3, t4, t5, t6, t7, t8, t9⟩ := HBx.out _ (H4.out.2.next hb)
      have H5 := Lib.hid (H4.out.1.next hb)
      clear hb
      go_wp2_with fail
      refine (HRx2.out _ H5.out).mono ?_
      rintro e w6 ⟨rfl, hb⟩
      have H6 := Lib.hid (H5.out.next hb)
      clear hb
      go_wp2
      go_ret
      exact ⟨by simp, H6.out⟩

end Go.Proofs.YtkmpjjpohgjdjaaGreatDoor
