/-
  The body of the law ValueAtoms.
-/
import Derived.Test.YtkmpjjpohgjdjaaGreatDoorValAw
import Derived.Test.YtkmpjjpohgjdjaaGreatDoorValAl
import Derived.Test.YtkmpjjpohgjdjaaGreatDoorValSz
namespace Go.Proofs.YtkmpjjpohgjdjaaGreatDoor
open Go.RowKit

set_option maxRecDepth 100000 in
set_option maxHeartbeats 16000000 in
theorem atoms_law (A : Option Addr) (c : Nat) (S : List Bd) (hl : S.length ≤ maxLen) (B : Option Addr) (cB : Nat) (l : List At) (hll : l.length ≤ maxLen) (w : World) (hA : BdRow w w.heap.size S A) (hB : AtRow w w.heap.size l B) :
    Calls Tryz.prog 4 #[.slice A S.length c, .slice B l.length cB] w fun e w' => e = .returned (.bool true) ∧ Below w.heap.size w w' := by
  obtain ⟨rs, hrs⟩ := says (StOk S)
  obtain ⟨n, hn⟩ : ∃ n, n = S.length := ⟨_, rfl⟩
  obtain ⟨z, hz⟩ : ∃ n, n = l.length := ⟨_, rfl⟩
  rw [← hn] at hl ⊢
  rw [← hz] at hll ⊢
  unfold maxLen at hl hll
  by_cases h40 : n ≤ 40
  rotate_left
  · have h40' : (40 : Int) < n := by omega
    clear h40 hA hn hrs hB hz
    go_enter Tryz.func4, Tryz.ntmps4
    go_wp2_with fail
    refine (awake_any _).mono ?_
    rintro e w1 ⟨rfl, hb⟩
    have H1 := Lib.hid hb
    clear hb
    go_wp2_with fail
    refine (awake_any _).mono ?_
    rintro e w2 ⟨rfl, hb⟩
    have H2 := Lib.hid (H1.out.next hb)
    clear hb
    go_wp2
    go_ret
    exact ⟨rfl, H2.out⟩
  have h40' : ¬ (40 : Int) < n := by omega
  by_cases z40 : z ≤ 40
  rotate_left
  · have z40' : (40 : Int) < z := by omega
    clear h40 z40 hA hn hrs hB hz
    go_enter Tryz.func4, Tryz.ntmps4
    go_wp2_with fail
    refine (awake_any _).mono ?_
    rintro e w1 ⟨rfl, hb⟩
    have H1 := Lib.hid hb
    clear hb
    go_wp2_with fail
    refine (awake_any _).mono ?_
    rintro e w2 ⟨rfl, hb⟩
    have H2 := Lib.hid (H1.out.next hb)
    clear hb
    go_wp2
    go_ret
    exact ⟨rfl, H2.out⟩
  have z40' : ¬ (40 : Int) < z := by omega
  have HVa : Hid (∀ W, Below w.heap.size w W → Calls Tryz.prog 13 #[.slice A n c, .slice B z cB] W fun e w' => e = .returned (.tuple #[.bool (allR rs S l).1, .int .i64 (allR rs S l).2]) ∧ Below W.heap.size W w') := Lib.hid (fun W hb => vAll_any A c n S hn (by omega) B cB z l hz (by unfold maxLen; omega) W (bd_later hA hb) (hB.later hb) rs hrs)
  have HRa : Hid (∀ W, Below w.heap.size w W → Calls Tryz.prog 14 #[.slice A n c, .slice B z cB] W fun e w' => e = .returned (.tuple #[.bool (allR rs S l).1, .int .i64 (allR rs S l).2]) ∧ Below W.heap.size W w') := Lib.hid (fun W hb => rAll_any A c n S hn (by omega) B cB z l hz (by unfold maxLen; omega) W (bd_later hA hb) (hB.later hb) rs hrs)
  generalize allR rs S l = R at *
  obtain ⟨R1, R2⟩ := R
  simp only at HVa HRa
  have HM := Lib.hid (And.intro hA (And.intro hB (And.intro hn (And.intro hz (And.intro hrs h40)))))
  clear hA hB hn hz hrs h40
  go_enter Tryz.func4, Tryz.ntmps4
  go_wp2_with fail
  refine (awake_any _).mono ?_
  rintro e w1 ⟨rfl, hb⟩
  have H1 := Lib.hid hb
  clear hb
  go_wp2
  go_loopg [32] z (fun mm j wr => ∃ i : Nat, mm = z - i ∧ i ≤ z ∧ j = .int .i64 i ∧ Hid (Below w.heap.size w wr))
  case atStart => exact ⟨0, rfl, Nat.zero_le _, rfl, H1⟩
  case round =>
    obtain ⟨i, rfl, hi, rfl, HI⟩ := hrel
    by_cases hlt : i < z
    · have hlt' : (i : Int) < z := by omega
      obtain ⟨x, hx⟩ := at_ex (l := l) (i := i) (by rw [← HM.out.2.2.2.1]; exact hlt)
      obtain ⟨a, ak, an, sa, al, bk, bn, sb, bl, Aa, ca, Ab, cb, rfl, hab, hxa, hxb, hcc, hlen, hra, hrb⟩ := at_cells (AtRow.later HM.out.2.1 HI.out) hx
      obtain ⟨q0, q1, q2, q3, q4, q5, q6, q7, q8⟩ := hcc.flat
      have HJ := Lib.hid (below_alloc wr (atomC x.k ak an ⟨sa.toArray⟩ (.slice Aa al.length ca) bk bn ⟨sb.toArray⟩ (.slice Ab bl.length cb)))
      have HH := Lib.hid (heap_of_alloc wr (atomC x.k ak an ⟨sa.toArray⟩ (.slice Aa al.length ca) bk bn ⟨sb.toArray⟩ (.slice Ab bl.length cb)))
      have HSa : Hid (∀ W, Below wr.heap.size wr W → Calls Tryz.prog 12 #[exprV ak an ⟨sa.toArray⟩ (.slice Aa al.length ca)] W (SizePost W)) := Lib.hid (fun W hb => size_any ak an sa al Aa ca W (hra.on hb) hlen.2.1)
      have HSb : Hid (∀ W, Below wr.heap.size wr W → Calls Tryz.prog 12 #[exprV bk bn ⟨sb.toArray⟩ (.slice Ab bl.length cb)] W (SizePost W)) := Lib.hid (fun W hb => size_any bk bn sb bl Ab cb W (hrb.on hb) hlen.2.2.2)
      generalize x.k = xk at *
      have HLT := Lib.hid (And.intro trivial hlt)
      clear hx hxa hxb hcc hlen hra hrb
      go_wp2_with fail
      refine (HSa.out _ HJ.out).mono ?_
      rintro e w3 ⟨r1, rfl, _, _, hb⟩
      obtain ⟨t0, t1, t2, t3, t4, t5, t6, t7, t8⟩ := all9 (kept_box hb HH.out)
      have HB3 := Lib.hid (HJ.out.next hb)
      clear hb
      by_cases h200 : (200 : Int) < r1
      · have HB4 := Lib.hid (HI.out.next HB3.out)
        go_wp2
        go_ret
        exact ⟨rfl, HB4.out⟩
      go_wp2_with fail
      refine (HSb.out _ HB3.out).mono ?_
      rintro e w4 ⟨r2, rfl, _, _, hb⟩
      have HB4 := Lib.hid (HI.out.next (HB3.out.next hb))
      clear hb
      by_cases h2002 : (200 : Int) < r2
      · go_wp2
        go_ret
        exact ⟨rfl, HB4.out⟩
      go_wp2
      go_roundg (z - (i + 1))
      case measure => have := HLT.out.2; omega
      case rel => exact ⟨i + 1, rfl, by have := HLT.out.2; omega, by go_num, HB4⟩
    · obtain rfl : i = z := by omega
      have hlt' : ¬ (i : Int) < (i : Int) := by omega
      go_wp2_with fail
      refine (HVa.out _ HI.out).mono ?_
      rintro e w3 ⟨rfl, hb⟩
      have H3 := Lib.hid (HI.out.next hb)
      clear hb
      go_wp2_with fail
      refine (HRa.out _ H3.out).mono ?_
      rintro e w4 ⟨rfl, hb⟩
      have H4 := Lib.hid (H3.out.next hb)
      clear hb
      clear hlt' hlt
      go_wp2
      go_loopg [69] i (fun mm j wr => ∃ k : Nat, mm = i - k ∧ k ≤ i ∧ j = .int .i64 k ∧ Hid (Below w.heap.size w wr))
      case atStart => exact ⟨0, rfl, Nat.zero_le _, rfl, H4⟩
      case round =>
        obtain ⟨k, rfl, hk, rfl, HK⟩ := hrel
        by_cases hlt : k < i
        · have hlt' : (k : Int) < i := by omega
          obtain ⟨x, hx⟩ := at_ex (l := l) (i := k) (by rw [← HM.out.2.2.2.1]; exact hlt)
          obtain ⟨a, ak, an, sa, al, bk, bn, sb, bl, Aa, ca, Ab, cb, rfl, hab, hxa, hxb, hcc, hlen, hra, hrb⟩ := at_cells (AtRow.later HM.out.2.1 HK.out) hx
          obtain ⟨q0, q1, q2, q3, q4, q5, q6, q7, q8⟩ := hcc.flat
          have HJ := Lib.hid (below_alloc wr (atomC x.k ak an ⟨sa.toArray⟩ (.slice Aa al.length ca) bk bn ⟨sb.toArray⟩ (.slice Ab bl.length cb)))
          have HH := Lib.hid (heap_of_alloc wr (atomC x.k ak an ⟨sa.toArray⟩ (.slice Aa al.length ca) bk bn ⟨sb.toArray⟩ (.slice Ab bl.length cb)))
          have HVt : Hid (∀ W, Below wr.heap.size wr W → Calls Tryz.prog 15 #[.slice A n c, atomV x.k ak an ⟨sa.toArray⟩ (.slice Aa al.length ca) bk bn ⟨sb.toArray⟩ (.slice Ab bl.length cb)] W fun e w' => e = .returned (.tuple #[.bool (ar rs S x.k x.a x.b).1, .int .i64 (ar rs S x.k x.a x.b).2]) ∧ Below W.heap.size W w') := Lib.hid (fun W hb => by
            rw [hxa, hxb]
            exact vAtom_any A c n S HM.out.2.2.1 (by have := HM.out.2.2.2.2.2; omega) x.k ak an sa al bk bn sb bl Aa ca Ab cb W (bd_later HM.out.1 (HK.out.next hb)) (hra.on hb) (hrb.on hb) hlen.1 hlen.2.1 hlen.2.2.1 hlen.2.2.2 rs HM.out.2.2.2.2.1)
          have HRt : Hid (∀ W, Below wr.heap.size wr W → Calls Tryz.prog 16 #[.slice A n c, atomV x.k ak an ⟨sa.toArray⟩ (.slice Aa al.length ca) bk bn ⟨sb.toArray⟩ (.slice Ab bl.length cb)] W fun e w' => e = .returned (.tuple #[.bool (ar rs S x.k x.a x.b).1, .int .i64 (ar rs S x.k x.a x.b).2]) ∧ Below W.heap.size W w') := Lib.hid (fun W hb => by
            rw [hxa, hxb]
            exact rAtom_any A c n S HM.out.2.2.1 (by have := HM.out.2.2.2.2.2; omega) x.k ak an sa al bk bn sb bl Aa ca Ab cb W (bd_later HM.out.1 (HK.out.next hb)) (hra.on hb) (hrb.on hb) hlen.1 hlen.2.1 hlen.2.2.1 hlen.2.2.2 rs HM.out.2.2.2.2.1)
          generalize ar rs S x.k x.a x.b = r at *
          generalize x.k = xk at *
          obtain ⟨r1, r2⟩ := r
          simp only at HVt HRt
          have HLT := Lib.hid (And.intro trivial hlt)
          clear hx hxa hxb hcc hlen hra hrb
          go_wp2_with fail
          refine (HVt.out _ HJ.out).mono ?_
          rintro e w5 ⟨rfl, hb⟩
          obtain ⟨t0, t1, t2, t3, t4, t5, t6, t7, t8⟩ := all9 (kept_box hb HH.out)
          have HB5 := Lib.hid (HJ.out.next hb)
          clear hb
          go_wp2_with fail
          refine (HRt.out _ HB5.out).mono ?_
          rintro e w6 ⟨rfl, hb⟩
          have HB6 := Lib.hid (HK.out.next (HB5.out.next hb))
          clear hb
          go_wp2
          go_roundg (i - (k + 1))
          case measure => have := HLT.out.2; omega
          case rel => exact ⟨k + 1, rfl, by have := HLT.out.2; omega, by go_num, HB6⟩
        · obtain rfl : k = i := by omega
          have hlt' : ¬ (k : Int) < (k : Int) := by omega
          go_wp2
          go_ret
          exact ⟨rfl, HK.out⟩

end Go.Proofs.YtkmpjjpohgjdjaaGreatDoor
