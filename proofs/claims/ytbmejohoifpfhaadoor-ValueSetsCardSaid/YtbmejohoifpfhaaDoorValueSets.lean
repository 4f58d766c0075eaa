/-
  The body of the law ValueSets.
-/
import Derived.Test.YtbmejohoifpfhaaDoorValAw
import Derived.Test.YtbmejohoifpfhaaDoorValRv
import Derived.Test.YtbmejohoifpfhaaDoorValGt
import Derived.Test.YtbmejohoifpfhaaDoorValS
namespace Go.Proofs.YtbmejohoifpfhaaDoor
open Go.RowKit

set_option maxRecDepth 100000 in
set_option maxHeartbeats 16000000 in
theorem sets_law (A : Option Addr) (c : Nat) (S : List Bd) (hl : S.length ≤ maxLen) (t u : List UInt8) (ht : t.length ≤ maxLen) (v : Int) (w : World) (hA : BdRow w w.heap.size S A) :
    Calls Tryd.prog 3 #[.slice A S.length c, .string ⟨t.toArray⟩, .string ⟨u.toArray⟩, .int .i64 v] w fun e w' => e = .returned (.bool true) ∧ Below w.heap.size w w' := by
  obtain ⟨rs, hrs⟩ := says (StOk S)
  obtain ⟨n, hn⟩ : ∃ n, n = S.length := ⟨_, rfl⟩
  rw [← hn] at hl ⊢
  unfold maxLen at hl
  by_cases h40 : n ≤ 40
  rotate_left
  · have h40' : (40 : Int) < n := by omega
    clear h40 hA hn hrs ht
    go_enter Tryd.func3, Tryd.ntmps3
    go_wp2_with fail
    refine (awake_any _).mono ?_
    rintro e w1 ⟨rfl, hb⟩
    have H1 := Lib.hid hb
    clear hb
    go_wp2_with fail
    refine (awake_any _).mono ?_
    rintro e w2 ⟨rfl, hb⟩
    have H2 := Lib.hid (H1.out.next hb)
    clear hb
    go_wp2
    go_ret
    exact ⟨rfl, H2.out⟩
  have h40' : ¬ (40 : Int) < n := by omega
  have HN := Lib.hid (And.intro hn hrs)
  have HCl : Hid (∀ W, Below w.heap.size w W → Calls Tryd.prog 6 #[.slice A n c] W (RowPost W.heap.size S W)) := Lib.hid (fun W hb => cloneB_any A c n S hn (by omega) W (bd_later hA hb))
  have HSe : Hid (∀ W, Below w.heap.size w W → Calls Tryd.prog 7 #[.slice A n c, .string ⟨t.toArray⟩, .int .i64 v] W (SetPost S t v (rs && (!(t == []) && inB v)) W)) := Lib.hid (fun W hb => vSet_any A c n S hn (by omega) t ht v W (bd_later hA hb) rs hrs)
  have HEq : Hid (∀ W B d, Below w.heap.size w W → BdRow W W.heap.size S B → Calls Tryd.prog 8 #[.slice A n c, .slice B n d] W fun e w' => e = .returned (.bool true) ∧ Below W.heap.size W w') := Lib.hid (fun W B d hb hB => equalB_any A B c d n n S S hn hn (by unfold maxLen; omega) W (bd_later hA hb) hB true ⟨fun _ => rfl, fun _ => rfl⟩)
  have HRv : Hid (∀ W, Below w.heap.size w W → Calls Tryd.prog 9 #[.slice A n c] W fun e w' => e = .returned (.bool rs) ∧ Below W.heap.size W w') := Lib.hid (fun W hb => rvalidS_any A c n S hn (by unfold maxLen; omega) W (bd_later hA hb) rs hrs)
  have HIn : Hid (∀ W, Calls Tryd.prog 10 #[.int .i64 v] W fun e w' => e = .returned (.bool (inB v)) ∧ W = w') := Lib.hid (rin_any v)
  have HGs : Hid (∀ (y : List UInt8) W, Below w.heap.size w W → Calls Tryd.prog 11 #[.slice A n c, .string ⟨y.toArray⟩] W fun e w' => e = .returned (.tuple #[.int .i64 (gr rs S y).1, .bool (gr rs S y).2]) ∧ Below W.heap.size W w') := Lib.hid (fun y W hb => vGet_any A c n S hn (by omega) y W (bd_later hA hb) rs hrs)
  have HRs : Hid (∀ W, Below w.heap.size w W → Calls Tryd.prog 13 #[.slice A n c, .string ⟨t.toArray⟩, .int .i64 v] W (RowPost W.heap.size (endR t v (outR S t v n)) W)) := Lib.hid (fun W hb => rSet_any A c n S hn (by omega) t ht v W (bd_later hA hb))
  have HVB : Hid (inB v = true → InR v) := Lib.hid (fun h => (inB_tells v).1 h)
  clear hA hn hrs ht
  generalize inB v = ib at *
  cases rs
  · clear HIn
    go_enter Tryd.func3, Tryd.ntmps3
    go_wp2_with fail
    refine (awake_any _).mono ?_
    rintro e w1 ⟨rfl, hb⟩
    have H1 := Lib.hid hb
    clear hb
    go_wp2_with fail
    refine (HCl.out _ H1.out).mono ?_
    rintro e w2 ⟨v9, rfl, hown, hb⟩
    obtain ⟨A9, c9, rfl⟩ := hown.form
    have H2 := Lib.hid (And.intro hown (H1.out.next hb))
    clear hown hb
    rw [← HN.out.1]
    go_wp2_with fail
    refine (HSe.out _ H2.out.2).mono ?_
    rintro e w3 ⟨Ax, cx, L, rfl, hown, hb, hres⟩
    obtain ⟨z, hz⟩ : ∃ z, z = L.length := ⟨_, rfl⟩
    have H3 := Lib.hid (And.intro hown (And.intro (H2.out.2.next hb) (And.intro (H2.out.1.later hb).row (And.intro hres hz))))
    clear hown hb hres
    rw [← hz]
    clear hz
    go_wp2_with fail
    refine (HEq.out _ A9 c9 H3.out.2.1 (by have := H3.out.2.2.1; exact this)).mono ?_
    rintro e w4 ⟨rfl, hb⟩
    have H4 := Lib.hid (And.intro (H3.out.2.1.next hb) hb)
    clear hb
    go_wp2_with fail
    refine (HRv.out _ H4.out.1).mono ?_
    rintro e w5 ⟨rfl, hb⟩
    have H5 := Lib.hid (And.intro (H4.out.1.next hb) (H4.out.2.next hb))
    clear hb
    obtain rfl : z = 0 := by
      rcases H3.out.2.2.2.1 with ⟨_, h⟩ | ⟨h, _⟩
      · rw [H3.out.2.2.2.2, h]; rfl
      · cases h
    go_wp2
    go_ret
    exact ⟨rfl, H5.out.1⟩
  cases he : (t == [])
  rotate_left
  · clear HIn
    go_enter Tryd.func3, Tryd.ntmps3
    go_wp2_with fail
    refine (awake_any _).mono ?_
    rintro e w1 ⟨rfl, hb⟩
    have H1 := Lib.hid hb
    clear hb
    go_wp2_with fail
    refine (HCl.out _ H1.out).mono ?_
    rintro e w2 ⟨v9, rfl, hown, hb⟩
    obtain ⟨A9, c9, rfl⟩ := hown.form
    have H2 := Lib.hid (And.intro hown (H1.out.next hb))
    clear hown hb
    rw [← HN.out.1]
    go_wp2_with fail
    refine (HSe.out _ H2.out.2).mono ?_
    rintro e w3 ⟨Ax, cx, L, rfl, hown, hb, hres⟩
    obtain ⟨z, hz⟩ : ∃ z, z = L.length := ⟨_, rfl⟩
    have H3 := Lib.hid (And.intro hown (And.intro (H2.out.2.next hb) (And.intro (H2.out.1.later hb).row (And.intro hres hz))))
    clear hown hb hres
    rw [← hz]
    clear hz
    go_wp2_with fail
    refine (HEq.out _ A9 c9 H3.out.2.1 (by have := H3.out.2.2.1; exact this)).mono ?_
    rintro e w4 ⟨rfl, hb⟩
    have H4 := Lib.hid (And.intro (H3.out.2.1.next hb) hb)
    clear hb
    go_wp2_with fail
    refine (HRv.out _ H4.out.1).mono ?_
    rintro e w5 ⟨rfl, hb⟩
    have H5 := Lib.hid (And.intro (H4.out.1.next hb) (H4.out.2.next hb))
    clear hb
    obtain rfl : z = 0 := by
      rcases H3.out.2.2.2.1 with ⟨_, h⟩ | ⟨h, _⟩
      · rw [H3.out.2.2.2.2, h]; rfl
      · rw [he] at h
        cases h
    go_wp2
    go_ret
    exact ⟨rfl, H5.out.1⟩
  have HTe : Hid (t ≠ []) := Lib.hid (beq_eq_false_iff_ne.1 he)
  cases ib
  · go_enter Tryd.func3, Tryd.ntmps3
    go_wp2_with fail
    refine (awake_any _).mono ?_
    rintro e w1 ⟨rfl, hb⟩
    have H1 := Lib.hid hb
    clear hb
    go_wp2_with fail
    refine (HCl.out _ H1.out).mono ?_
    rintro e w2 ⟨v9, rfl, hown, hb⟩
    obtain ⟨A9, c9, rfl⟩ := hown.form
    have H2 := Lib.hid (And.intro hown (H1.out.next hb))
    clear hown hb
    rw [← HN.out.1]
    go_wp2_with fail
    refine (HSe.out _ H2.out.2).mono ?_
    rintro e w3 ⟨Ax, cx, L, rfl, hown, hb, hres⟩
    obtain ⟨z, hz⟩ : ∃ z, z = L.length := ⟨_, rfl⟩
    have H3 := Lib.hid (And.intro hown (And.intro (H2.out.2.next hb) (And.intro (H2.out.1.later hb).row (And.intro hres hz))))
    clear hown hb hres
    rw [← hz]
    clear hz
    go_wp2_with fail
    refine (HEq.out _ A9 c9 H3.out.2.1 (by have := H3.out.2.2.1; exact this)).mono ?_
    rintro e w4 ⟨rfl, hb⟩
    have H4 := Lib.hid (And.intro (H3.out.2.1.next hb) hb)
    clear hb
    go_wp2_with fail
    refine (HRv.out _ H4.out.1).mono ?_
    rintro e w5 ⟨rfl, hb⟩
    have H5 := Lib.hid (And.intro (H4.out.1.next hb) (H4.out.2.next hb))
    clear hb
    go_wp2_with fail
    refine (HIn.out _).mono ?_
    rintro e w6 ⟨rfl, rfl⟩
    obtain rfl : z = 0 := by
      rcases H3.out.2.2.2.1 with ⟨_, h⟩ | ⟨h, _⟩
      · rw [H3.out.2.2.2.2, h]; rfl
      · rw [he] at h
        cases h
    go_wp2
    go_ret
    exact ⟨rfl, H5.out.1⟩
  · have HVi := Lib.hid (HVB.out rfl)
    clear HVB
    go_enter Tryd.func3, Tryd.ntmps3
    go_wp2_with fail
    refine (awake_any _).mono ?_
    rintro e w1 ⟨rfl, hb⟩
    have H1 := Lib.hid hb
    clear hb
    go_wp2_with fail
    refine (HCl.out _ H1.out).mono ?_
    rintro e w2 ⟨v9, rfl, hown, hb⟩
    obtain ⟨A9, c9, rfl⟩ := hown.form
    have H2 := Lib.hid (And.intro hown (H1.out.next hb))
    clear hown hb
    rw [← HN.out.1]
    go_wp2_with fail
    refine (HSe.out _ H2.out.2).mono ?_
    rintro e w3 ⟨Ax, cx, L, rfl, hown, hb, hres⟩
    obtain ⟨z, hz⟩ : ∃ z, z = L.length := ⟨_, rfl⟩
    have H3 := Lib.hid (And.intro hown (And.intro (H2.out.2.next hb) (And.intro (H2.out.1.later hb).row (And.intro hres hz))))
    clear hown hb hres
    rw [← hz]
    clear hz
    go_wp2_with fail
    refine (HEq.out _ A9 c9 H3.out.2.1 (by have := H3.out.2.2.1; exact this)).mono ?_
    rintro e w4 ⟨rfl, hb⟩
    have H4 := Lib.hid (And.intro (H3.out.2.1.next hb) hb)
    clear hb
    go_wp2_with fail
    refine (HRv.out _ H4.out.1).mono ?_
    rintro e w5 ⟨rfl, hb⟩
    have H5 := Lib.hid (And.intro (H4.out.1.next hb) (H4.out.2.next hb))
    clear hb
    go_wp2_with fail
    refine (HIn.out _).mono ?_
    rintro e w6 ⟨rfl, rfl⟩
    have hres : SetIs S t v L := by
      rcases H3.out.2.2.2.1 with ⟨h, _⟩ | ⟨_, h⟩
      · rw [he] at h
        cases h
      · exact h
    obtain ⟨i, has, hcut, hLs⟩ := hres
    have hb0 : BdOk ⟨t, v⟩ := ⟨HTe.out, HVi.out⟩
    have HK := Lib.hid (And.intro hcut (And.intro hLs (And.intro (hLs ▸ hcut.ok HN.out.2.t hb0) (And.intro (hLs ▸ hcut.same HN.out.2.t hb0) (hcut.had HN.out.2.t)))))
    have HLn : Hid (z = n + (if has then 0 else 1)) := Lib.hid (by rw [H3.out.2.2.2.2, hLs, hcut.len, HN.out.1])
    have hz100 : z ≤ 100 := by have := HLn.out; split at this <;> omega
    clear hcut hLs hb0
    have HOx : Hid (∀ W, Below w3.heap.size w3 W → BdRow W W.heap.size L Ax) := Lib.hid (fun W hb => by
      have := H3.out.1.later hb
      exact this.row)
    have HGx : Hid (∀ (y : List UInt8) W, Below w3.heap.size w3 W → Calls Tryd.prog 11 #[.slice Ax z cx, .string ⟨y.toArray⟩] W fun e w' => e = .returned (.tuple #[.int .i64 (gr true L y).1, .bool (gr true L y).2]) ∧ Below W.heap.size W w') := Lib.hid (fun y W hb => vGet_any Ax cx z L H3.out.2.2.2.2 (by omega) y W (HOx.out W hb) true ⟨fun _ => HK.out.2.2.1, fun _ => rfl⟩)
    have HVx : Hid (∀ W, Below w3.heap.size w3 W → Calls Tryd.prog 12 #[.slice Ax z cx] W fun e w' => e = .returned (.bool true) ∧ Below W.heap.size W w') := Lib.hid (fun W hb => vvalid_any Ax cx z L H3.out.2.2.2.2 (by unfold maxLen; omega) W (HOx.out W hb) true ⟨fun _ => HK.out.2.2.1, fun _ => rfl⟩)
    have HEx : Hid (∀ W B d, Below w3.heap.size w3 W → BdRow W W.heap.size L B → Calls Tryd.prog 8 #[.slice Ax z cx, .slice B z d] W fun e w' => e = .returned (.bool true) ∧ Below W.heap.size W w') := Lib.hid (fun W B d hb hB => equalB_any Ax B cx d z z L L H3.out.2.2.2.2 H3.out.2.2.2.2 (by unfold maxLen; omega) W (HOx.out W hb) hB true ⟨fun _ => rfl, fun _ => rfl⟩)
    have HG1 : Hid (gr true L t = (v, true)) := Lib.hid (by simp [gr, getB, HK.out.2.2.2.1])
    have HG4 : Hid ((gr true S t).2 = has) := Lib.hid (by simp [gr, HK.out.2.2.2.2])
    have HGo : Hid (u ≠ t → gr true L u = gr true S u) := Lib.hid (fun h => by simp [gr, getB, HK.out.2.1, HK.out.1.other h])
    have HRf : Hid (endR t v (outR S t v n) = L) := Lib.hid (by rw [HK.out.1.ref (by rw [← HN.out.1]; exact Nat.le_refl n), HK.out.2.1])
    have HGx1 := Lib.hid (HGx.out t)
    have HGx2 := Lib.hid (HGx.out u)
    have HGs1 := Lib.hid (HGs.out t)
    have HGs2 := Lib.hid (HGs.out u)
    clear HGx HGs
    rw [HG1.out] at HGx1
    generalize hg4 : gr true S t = r4 at *
    obtain ⟨r4a, r4b⟩ := r4
    generalize hg2 : gr true S u = r2 at *
    obtain ⟨r2a, r2b⟩ := r2
    generalize hg3 : gr true L u = r3 at *
    obtain ⟨r3a, r3b⟩ := r3
    simp only at HGx1 HGx2 HGs1 HGs2 HG4
    obtain rfl : r4b = has := HG4.out
    clear hg4 hg2 hg3 HG4 HG1
    go_wp2_with fail
    refine (HGx1.out _ H5.out.2).mono ?_
    rintro e w7 ⟨rfl, hb⟩
    have H7 := Lib.hid (And.intro (H5.out.1.next hb) (H5.out.2.next hb))
    clear hb
    go_wp2_with fail
    refine (HGs2.out _ H7.out.1).mono ?_
    rintro e w8 ⟨rfl, hb⟩
    have H8 := Lib.hid (And.intro (H7.out.1.next hb) (H7.out.2.next hb))
    clear hb
    go_wp2_with fail
    refine (HGx2.out _ H8.out.2).mono ?_
    rintro e w9 ⟨rfl, hb⟩
    have H9 := Lib.hid (And.intro (H8.out.1.next hb) (H8.out.2.next hb))
    clear hb
    go_wp2_with fail
    refine (HGs1.out _ H9.out.1).mono ?_
    rintro e w10 ⟨rfl, hb⟩
    have H10 := Lib.hid (And.intro (H9.out.1.next hb) (H9.out.2.next hb))
    clear hb
    have hsm : IntKind.i64.wrap ((n : Int) + 1) = (n : Int) + 1 := by rw [IntKind.wrap_i64]; omega
    have hsm0 : IntKind.i64.wrap (n : Int) = (n : Int) := by rw [IntKind.wrap_i64]; omega
    by_cases hu : u = t
    · have hu' : (u == t) = true := beq_iff_eq.2 hu
      clear hu
      cases r4b
      · obtain rfl : z = n + 1 := HLn.out
        go_wp2_with fail
        refine (HVx.out _ H10.out.2).mono ?_
        rintro e w11 ⟨rfl, hb⟩
        have H11 := Lib.hid (And.intro (H10.out.1.next hb) (H10.out.2.next hb))
        clear hb
        go_wp2_with fail
        refine (HRs.out _ H11.out.1).mono ?_
        rintro e w12 ⟨v12, rfl, hown, hb⟩
        rw [HRf.out] at hown
        obtain ⟨A12, c12, rfl⟩ := hown.form
        rw [← H3.out.2.2.2.2]
        have H12 := Lib.hid (And.intro (H11.out.1.next hb) (And.intro (H11.out.2.next hb) hown.row))
        clear hb hown
        go_wp2_with fail
        refine (HEx.out _ A12 c12 H12.out.2.1 (by have := H12.out.2.2; exact this)).mono ?_
        rintro e w13 ⟨rfl, hb⟩
        have H13 := Lib.hid (H12.out.1.next hb)
        clear hb
        go_wp2
        go_ret
        exact ⟨rfl, H13.out⟩
      · obtain rfl : z = n := HLn.out
        go_wp2_with fail
        refine (HVx.out _ H10.out.2).mono ?_
        rintro e w11 ⟨rfl, hb⟩
        have H11 := Lib.hid (And.intro (H10.out.1.next hb) (H10.out.2.next hb))
        clear hb
        go_wp2_with fail
        refine (HRs.out _ H11.out.1).mono ?_
        rintro e w12 ⟨v12, rfl, hown, hb⟩
        rw [HRf.out] at hown
        obtain ⟨A12, c12, rfl⟩ := hown.form
        rw [← H3.out.2.2.2.2]
        have H12 := Lib.hid (And.intro (H11.out.1.next hb) (And.intro (H11.out.2.next hb) hown.row))
        clear hb hown
        go_wp2_with fail
        refine (HEx.out _ A12 c12 H12.out.2.1 (by have := H12.out.2.2; exact this)).mono ?_
        rintro e w13 ⟨rfl, hb⟩
        have H13 := Lib.hid (H12.out.1.next hb)
        clear hb
        go_wp2
        go_ret
        exact ⟨rfl, H13.out⟩
    · have hu' : (u == t) = false := beq_eq_false_iff_ne.2 hu
      have hgo := HGo.out hu
      injection hgo with hgo1 hgo2
      subst hgo1 hgo2
      clear hu
      cases r4b
      · obtain rfl : z = n + 1 := HLn.out
        go_wp2_with fail
        refine (HVx.out _ H10.out.2).mono ?_
        rintro e w11 ⟨rfl, hb⟩
        have H11 := Lib.hid (And.intro (H10.out.1.next hb) (H10.out.2.next hb))
        clear hb
        go_wp2_with fail
        refine (HRs.out _ H11.out.1).mono ?_
        rintro e w12 ⟨v12, rfl, hown, hb⟩
        rw [HRf.out] at hown
        obtain ⟨A12, c12, rfl⟩ := hown.form
        rw [← H3.out.2.2.2.2]
        have H12 := Lib.hid (And.intro (H11.out.1.next hb) (And.intro (H11.out.2.next hb) hown.row))
        clear hb hown
        go_wp2_with fail
        refine (HEx.out _ A12 c12 H12.out.2.1 (by have := H12.out.2.2; exact this)).mono ?_
        rintro e w13 ⟨rfl, hb⟩
        have H13 := Lib.hid (H12.out.1.next hb)
        clear hb
        go_wp2
        go_ret
        exact ⟨rfl, H13.out⟩
      · obtain rfl : z = n := HLn.out
        go_wp2_with fail
        refine (HVx.out _ H10.out.2).mono ?_
        rintro e w11 ⟨rfl, hb⟩
        have H11 := Lib.hid (And.intro (H10.out.1.next hb) (H10.out.2.next hb))
        clear hb
        go_wp2_with fail
        refine (HRs.out _ H11.out.1).mono ?_
        rintro e w12 ⟨v12, rfl, hown, hb⟩
        rw [HRf.out] at hown
        obtain ⟨A12, c12, rfl⟩ := hown.form
        rw [← H3.out.2.2.2.2]
        have H12 := Lib.hid (And.intro (H11.out.1.next hb) (And.intro (H11.out.2.next hb) hown.row))
        clear hb hown
        go_wp2_with fail
        refine (HEx.out _ A12 c12 H12.out.2.1 (by have := H12.out.2.2; exact this)).mono ?_
        rintro e w13 ⟨rfl, hb⟩
        have H13 := Lib.hid (H12.out.1.next hb)
        clear hb
        go_wp2
        go_ret
        exact ⟨rfl, H13.out⟩

theorem sets_law' (A : Option Addr) (c : Nat) (S : List Bd) (hl : S.length ≤ maxLen) (t u : ByteArray) (ht : t.size ≤ maxLen) (v : Int) (w : World) (hA : BdRow w w.heap.size S A) :
    Calls Tryd.prog 3 #[.slice A S.length c, .string t, .string u, .int .i64 v] w fun e w' => e = .returned (.bool true) ∧ Below w.heap.size w w' := by
  have h := sets_law A c S hl t.data.toList u.data.toList (by simpa using ht) v w hA
  simpa using h

end Go.Proofs.YtbmejohoifpfhaaDoor
