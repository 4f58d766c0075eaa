/-
  LeftFormulas, at any row of formulas.
-/
import Derived.Test.YtkjfgbcbeabpgaaGreatDoorTreeLc
import Derived.Test.YtkjfgbcbeabpgaaGreatDoorTreeT
namespace Go.Proofs.YtkjfgbcbeabpgaaGreatDoor
open Go.RowKit

set_option maxRecDepth 100000 in
set_option maxHeartbeats 8000000 in
theorem left_formulas (fs : List Fm) (left : Int) (A : Option Addr) (c : Nat) (w : World) (h0 : -1 ≤ left) (h1 : left ≤ 200000) (hr : FmRow w w.heap.size fs A) (hn : fs.length ≤ maxLen) :
    Calls Tryz.prog 16 #[.int .i64 left, .slice A fs.length c] w fun e w' => ∃ r : Int, e = .returned (.int .i64 r) ∧ -1 ≤ r ∧ r ≤ 200000 ∧ Below w.heap.size w w' := by
  obtain ⟨n, hnn⟩ : ∃ n, n = fs.length := ⟨_, rfl⟩
  have HH := Lib.hid (And.intro hr hnn)
  have HB0 := Lib.hid (Below.refl w.heap.size w)
  rw [← hnn] at hn ⊢
  clear hr hnn
  unfold maxLen at hn
  go_enter Tryz.func16, Tryz.ntmps16
  go_wp2
  go_loopg [0, 5] n (fun m lf j wr => ∃ (k : Nat) (r : Int), m = n - k ∧ k ≤ n ∧ j = .int .i64 k ∧ lf = .int .i64 r ∧ -1 ≤ r ∧ r ≤ 200000 ∧ Hid (Below w.heap.size w wr))
  case atStart => exact ⟨0, left, rfl, Nat.zero_le _, rfl, rfl, h0, h1, HB0⟩
  case round =>
    obtain ⟨k, r, rfl, hk, rfl, rfl, hr0, hr1, HI⟩ := hrel
    by_cases hlt : k < n
    · by_cases hneg : 0 ≤ r
      · have hki : (k : Int) < n := by omega
        obtain ⟨⟨ps, ats, cls⟩, hi⟩ : ∃ x, fs[k]? = some x := ⟨fs[k]'(by rw [← HH.out.2]; exact hlt), List.getElem?_eq_getElem _⟩
        obtain ⟨a, rfl, hab, Ap, cp, Aa, ca, Ac, cc, d0, d1, d2, ⟨b0, b1, b2⟩, rp, ra, rc⟩ := HH.out.1.at_ hi
        simp only at d0 d1 d2 b0 b1 b2 rp ra rc
        obtain ⟨na, hna⟩ : ∃ na, na = ats.length := ⟨_, rfl⟩
        obtain ⟨nc, hnc⟩ : ∃ nc, nc = cls.length := ⟨_, rfl⟩
        rw [← hna] at d1 b1
        rw [← hnc] at d2 b2
        have HF : Hid (∀ W, Below w.heap.size w W → W.cell? ⟨(a.add (k * 3)).block, (a.add (k * 3)).off + 1, none⟩ = some (.slice Aa na ca) ∧ W.cell? ⟨(a.add (k * 3)).block, (a.add (k * 3)).off + 2, none⟩ = some (.slice Ac nc cc)) := Lib.hid (fun W hb =>
          ⟨(hb.cell (p := (a.add (k * 3)).add 1) (by rw [block_adds, block_adds]; exact hab)).trans d1, (hb.cell (p := (a.add (k * 3)).add 2) (by rw [block_adds, block_adds]; exact hab)).trans d2⟩)
        have HR := Lib.hid (And.intro ra (And.intro rc (And.intro hna hnc)))
        have HLT := Lib.hid (And.intro trivial hlt)
        clear d0 d1 d2 b0 rp ra rc hi hna hnc
        unfold maxLen at b1 b2
        obtain ⟨f1, f2⟩ := HF.out _ HI.out
        go_wp2
        go_loopg [0, 6] na (fun m lf j wr => ∃ (q : Nat) (r1 : Int), m = na - q ∧ q ≤ na ∧ j = .int .i64 q ∧ lf = .int .i64 r1 ∧ -1 ≤ r1 ∧ r1 ≤ 200000 ∧ Hid (Below w.heap.size w wr))
        case atStart => exact ⟨0, r - 1, rfl, Nat.zero_le _, rfl, (by first | rfl | go_num), by omega, by omega, HI⟩
        case round =>
          obtain ⟨q, r1, rfl, hq, rfl, rfl, hr2, hr3, HJ⟩ := hrel
          clear f1 f2
          obtain ⟨f1, f2⟩ := HF.out _ HJ.out
          by_cases hqt : q < na
          · have hqi : (q : Int) < na := by omega
            obtain ⟨⟨k0, xa, xb⟩, hx⟩ : ∃ x, ats[q]? = some x := ⟨ats[q]'(by rw [← HR.out.2.2.1]; exact hqt), List.getElem?_eq_getElem _⟩
            obtain ⟨a2, rfl, hab2, ak, an, sa, al, bk, bn, sb, bl, Ba, ca2, Bb, cb2, rfl, rfl, hc, ⟨p1, p2, p3, p4⟩, ra, rb⟩ := HR.out.1.at_ hx
            simp only at hc
            have habk : (a2.add (q * 9)).block < w.heap.size := by rw [block_adds]; exact hab2
            have hcw := hc.stay HJ.out habk
            obtain ⟨e0, e1, e2, e3, e4, e5, e6, e7, e8⟩ := hcw.flat
            have hwr := HJ.out.size
            have HE : Hid (Calls Tryz.prog 11 #[.int .i64 r1, .slice (some ⟨wr.heap.size, 0, none⟩) 2 2] (wr.alloc (.cells #[.int .i64 ak, .int .i64 an, .string ⟨sa.toArray⟩, .slice Ba al.length ca2, .int .i64 bk, .int .i64 bn, .string ⟨sb.toArray⟩, .slice Bb bl.length cb2] 24)).drew fun e w' => ∃ r : Int, e = .returned (.int .i64 r) ∧ -1 ≤ r ∧ r ≤ 200000 ∧ Below wr.heap.size wr w') := Lib.hid (by
              have hba := (below_alloc wr (.cells #[.int .i64 ak, .int .i64 an, .string ⟨sa.toArray⟩, .slice Ba al.length ca2, .int .i64 bk, .int .i64 bn, .string ⟨sb.toArray⟩, .slice Bb bl.length cb2] 24)).drew
              have hgr := heap_of_alloc wr (.cells #[.int .i64 ak, .int .i64 an, .string ⟨sa.toArray⟩, .slice Ba al.length ca2, .int .i64 bk, .int .i64 bn, .string ⟨sb.toArray⟩, .slice Bb bl.length cb2] 24)
              refine (left_exprs _ [.mk ak an sa al, .mk bk bn sb bl] (Nat.lt_succ_self _) r1 (some ⟨wr.heap.size, 0, none⟩) 2 _ hr2 hr3 (pair_row (W := (wr.alloc _).drew) hgr p1 p2 p3 p4 (((ra.stay HJ.out (Nat.le_refl _)).stay hba hwr).more (Nat.le_trans hwr hba.size)) (((rb.stay HJ.out (Nat.le_refl _)).stay hba hwr).more (Nat.le_trans hwr hba.size))) (show 2 ≤ maxLen by decide)).mono fun e w' ⟨r', he, q0, q1, hb⟩ => ⟨r', he, q0, q1, hba.chain hb⟩)
            have HQT := Lib.hid (And.intro trivial (And.intro hqt (And.intro habk hc)))
            clear hc hcw p1 p2 p3 p4 ra rb hx habk hwr f2 e0
            go_wp2
            go_region_held3 (fun W => W.cell? ⟨(a.add (k * 3)).block, (a.add (k * 3)).off + 1, none⟩ = some (.slice (some a2) na ca) ∧ W.cell? ⟨(a2.add (q * 9)).block, (a2.add (q * 9)).off + 1, none⟩ = some (.int .i64 ak) ∧ W.cell? ⟨(a2.add (q * 9)).block, (a2.add (q * 9)).off + 2, none⟩ = some (.int .i64 an) ∧ W.cell? ⟨(a2.add (q * 9)).block, (a2.add (q * 9)).off + 3, none⟩ = some (.string ⟨sa.toArray⟩) ∧ W.cell? ⟨(a2.add (q * 9)).block, (a2.add (q * 9)).off + 4, none⟩ = some (.slice Ba al.length ca2) ∧
                W.cell? ⟨(a2.add (q * 9)).block, (a2.add (q * 9)).off + 5, none⟩ = some (.int .i64 bk) ∧ W.cell? ⟨(a2.add (q * 9)).block, (a2.add (q * 9)).off + 6, none⟩ = some (.int .i64 bn) ∧ W.cell? ⟨(a2.add (q * 9)).block, (a2.add (q * 9)).off + 7, none⟩ = some (.string ⟨sb.toArray⟩) ∧ W.cell? ⟨(a2.add (q * 9)).block, (a2.add (q * 9)).off + 8, none⟩ = some (.slice Bb bl.length cb2))
              (first | go_keep | (trace_state; fail))
              (first
                | (go_at_call 11; refine HE.out.mono ?_; rintro e w3 ⟨r2, rfl, q0, q1, hb⟩; have HB3 := Lib.hid (HJ.out.chain hb); obtain ⟨g0, g1, g2, g3, g4, g5, g6, g7, g8⟩ := (HQT.out.2.2.2.stay HB3.out HQT.out.2.2.1).flat; obtain ⟨y1, y2⟩ := HF.out _ HB3.out; clear hb))
            all_goals
              (go_wp2
               go_roundg (na - (q + 1))
               case measure => have := HQT.out.2.1; omega
               case rel => exact ⟨q + 1, r2, rfl, (by have := HQT.out.2.1; omega), by go_num, rfl, q0, q1, HB3⟩)
          · obtain rfl : q = na := by omega
            go_wp2
            go_loopg [0, 7] nc (fun m lf j wr => ∃ (t : Nat) (r4 : Int), m = nc - t ∧ t ≤ nc ∧ j = .int .i64 t ∧ lf = .int .i64 r4 ∧ -1 ≤ r4 ∧ r4 ≤ 200000 ∧ Hid (Below w.heap.size w wr))
            case atStart => exact ⟨0, r1, rfl, Nat.zero_le _, rfl, rfl, hr2, hr3, HJ⟩
            case round =>
              obtain ⟨t, r4, rfl, ht, rfl, rfl, hr4, hr5, HK⟩ := hrel
              clear f1 f2
              obtain ⟨f1, f2⟩ := HF.out _ HK.out
              by_cases htt : t < nc
              · have hti : (t : Int) < nc := by omega
                obtain ⟨⟨k0, nm, l⟩, hx⟩ : ∃ x, cls[t]? = some x := ⟨cls[t]'(by rw [← HR.out.2.2.2]; exact htt), List.getElem?_eq_getElem _⟩
                obtain ⟨a3, rfl, hab3, Al, cl, d0, d1, d2, hnm, hll, rl⟩ := HR.out.2.1.at_ hx
                simp only at d0 d1 d2 hnm hll rl
                have c2 : wr.cell? ⟨(a3.add (t * 3)).block, (a3.add (t * 3)).off + 2, none⟩ = some (.slice Al l.length cl) := (HK.out.cell (p := (a3.add (t * 3)).add 2) (by rw [block_adds, block_adds]; exact hab3)).trans d2
                have HC := Lib.hid (left_exprs _ l (Nat.lt_succ_self _) r4 Al cl wr hr4 hr5 ((rl.stay HK.out (Nat.le_refl _)).more HK.out.size) hll)
                have HTT := Lib.hid (And.intro trivial htt)
                clear d0 d1 d2 hnm hll rl hx
                go_wp2_with (go_at_call 11; refine HC.out.mono ?_; rintro e w5 ⟨r6, rfl, q0, q1, hb⟩; have HB5 := Lib.hid (HK.out.chain hb); clear hb)
                go_roundg (nc - (t + 1))
                case measure => have := HTT.out.2; omega
                case rel => exact ⟨t + 1, r6, rfl, (by have := HTT.out.2; omega), by go_num, rfl, q0, q1, HB5⟩
              · obtain rfl : t = nc := by omega
                go_wp2
                go_roundg (n - (k + 1))
                case measure => have := HLT.out.2; omega
                case rel => exact ⟨k + 1, r4, rfl, (by have := HLT.out.2; omega), by go_num, rfl, hr4, hr5, HK⟩
      · have hki : (k : Int) < n := by omega
        go_wp2
        go_ret
        exact ⟨r, rfl, hr0, hr1, HI.out⟩
    · obtain rfl : k = n := by omega
      go_wp2
      go_ret
      exact ⟨r, rfl, hr0, hr1, HI.out⟩

end Go.Proofs.YtkjfgbcbeabpgaaGreatDoor
