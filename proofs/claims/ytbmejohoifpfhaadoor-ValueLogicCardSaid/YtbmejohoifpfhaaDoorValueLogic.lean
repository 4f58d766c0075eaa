/-
  The body of the law ValueLogic.
-/
import Derived.Test.YtbmejohoifpfhaaDoorValLg
import Derived.Test.YtbmejohoifpfhaaDoorValSzc
import Derived.Test.YtbmejohoifpfhaaDoorTreeKs
import Derived.Deep.RegionHeld3
namespace Go.Proofs.YtbmejohoifpfhaaDoor
open Go.RowKit

set_option maxRecDepth 100000 in
set_option maxHeartbeats 32000000 in
theorem logic_law (A : Option Addr) (c : Nat) (S : List Bd) (hl : S.length ≤ maxLen) (xa xb : Cn)
    (k ak an : Int) (sa : List UInt8) (al : List Ex) (bk bn : Int) (sb : List UInt8) (bl : List Ex) (l : List Cn) (Aa : Option Addr) (ca : Nat) (Ab : Option Addr) (cb : Nat) (Al : Option Addr) (cl : Nat)
    (k2 ak2 an2 : Int) (sa2 : List UInt8) (al2 : List Ex) (bk2 bn2 : Int) (sb2 : List UInt8) (bl2 : List Ex) (l2 : List Cn) (Aa2 : Option Addr) (ca2 : Nat) (Ab2 : Option Addr) (cb2 : Nat) (Al2 : Option Addr) (cl2 : Nat)
    (w : World) (hA : BdRow w w.heap.size S A) (ho1 : CnOwn w xa k ak an sa al bk bn sb bl l Aa Ab Al) (ho2 : CnOwn w xb k2 ak2 an2 sa2 al2 bk2 bn2 sb2 bl2 l2 Aa2 Ab2 Al2) :
    Calls Tryd.prog 4 #[.slice A S.length c, condV2 k ak an ⟨sa.toArray⟩ (.slice Aa al.length ca) bk bn ⟨sb.toArray⟩ (.slice Ab bl.length cb) (.slice Al l.length cl), condV2 k2 ak2 an2 ⟨sa2.toArray⟩ (.slice Aa2 al2.length ca2) bk2 bn2 ⟨sb2.toArray⟩ (.slice Ab2 bl2.length cb2) (.slice Al2 l2.length cl2)] w fun e w' => e = .returned (.bool true) ∧ Below w.heap.size w w' := by
  obtain ⟨rs, hrs⟩ := says (StOk S)
  obtain ⟨n, hn⟩ : ∃ n, n = S.length := ⟨_, rfl⟩
  rw [← hn] at hl ⊢
  unfold maxLen at hl
  obtain ⟨W0, hW0⟩ : ∃ W0, W0 = (w.alloc (condC2 k ak an ⟨sa.toArray⟩ (.slice Aa al.length ca) bk bn ⟨sb.toArray⟩ (.slice Ab bl.length cb) (.slice Al l.length cl))).alloc (condC2 k2 ak2 an2 ⟨sa2.toArray⟩ (.slice Aa2 al2.length ca2) bk2 bn2 ⟨sb2.toArray⟩ (.slice Ab2 bl2.length cb2) (.slice Al2 l2.length cl2)) := ⟨_, rfl⟩
  have HJ : Hid (Below w.heap.size w W0) := Lib.hid (by rw [hW0]; exact (below_alloc w _).al _)
  have HBx : Hid (∀ W, Below W0.heap.size W0 W → W.cell? ⟨w.heap.size, 0, none⟩ = some (.int .i64 k) ∧ W.cell? ⟨w.heap.size, 1, none⟩ = some (.int .i64 ak) ∧ W.cell? ⟨w.heap.size, 2, none⟩ = some (.int .i64 an) ∧ W.cell? ⟨w.heap.size, 3, none⟩ = some (.string ⟨sa.toArray⟩) ∧ W.cell? ⟨w.heap.size, 4, none⟩ = some (.slice Aa al.length ca) ∧ W.cell? ⟨w.heap.size, 5, none⟩ = some (.int .i64 bk) ∧ W.cell? ⟨w.heap.size, 6, none⟩ = some (.int .i64 bn) ∧ W.cell? ⟨w.heap.size, 7, none⟩ = some (.string ⟨sb.toArray⟩) ∧ W.cell? ⟨w.heap.size, 8, none⟩ = some (.slice Ab bl.length cb) ∧ W.cell? ⟨w.heap.size, 9, none⟩ = some (.slice Al l.length cl) ∧ W.cell? ⟨w.heap.size + 1, 0, none⟩ = some (.int .i64 k2) ∧ W.cell? ⟨w.heap.size + 1, 1, none⟩ = some (.int .i64 ak2) ∧ W.cell? ⟨w.heap.size + 1, 2, none⟩ = some (.int .i64 an2) ∧ W.cell? ⟨w.heap.size + 1, 3, none⟩ = some (.string ⟨sa2.toArray⟩) ∧ W.cell? ⟨w.heap.size + 1, 4, none⟩ = some (.slice Aa2 al2.length ca2) ∧ W.cell? ⟨w.heap.size + 1, 5, none⟩ = some (.int .i64 bk2) ∧ W.cell? ⟨w.heap.size + 1, 6, none⟩ = some (.int .i64 bn2) ∧ W.cell? ⟨w.heap.size + 1, 7, none⟩ = some (.string ⟨sb2.toArray⟩) ∧ W.cell? ⟨w.heap.size + 1, 8, none⟩ = some (.slice Ab2 bl2.length cb2) ∧ W.cell? ⟨w.heap.size + 1, 9, none⟩ = some (.slice Al2 l2.length cl2)) := Lib.hid (fun W hb => by
    have h := two_boxes w (condC2 k ak an ⟨sa.toArray⟩ (.slice Aa al.length ca) bk bn ⟨sb.toArray⟩ (.slice Ab bl.length cb) (.slice Al l.length cl)) (condC2 k2 ak2 an2 ⟨sa2.toArray⟩ (.slice Aa2 al2.length ca2) bk2 bn2 ⟨sb2.toArray⟩ (.slice Ab2 bl2.length cb2) (.slice Al2 l2.length cl2))
    rw [← hW0] at h
    have h1 := kept_box hb h.1
    have h2 := kept_box hb h.2
    exact ⟨cell_of_block h1 0 rfl, cell_of_block h1 1 rfl, cell_of_block h1 2 rfl, cell_of_block h1 3 rfl, cell_of_block h1 4 rfl, cell_of_block h1 5 rfl, cell_of_block h1 6 rfl, cell_of_block h1 7 rfl, cell_of_block h1 8 rfl, cell_of_block h1 9 rfl, cell_of_block h2 0 rfl, cell_of_block h2 1 rfl, cell_of_block h2 2 rfl, cell_of_block h2 3 rfl, cell_of_block h2 4 rfl, cell_of_block h2 5 rfl, cell_of_block h2 6 rfl, cell_of_block h2 7 rfl, cell_of_block h2 8 rfl, cell_of_block h2 9 rfl⟩)
  by_cases h40 : n ≤ 40
  rotate_left
  · have h40' : (40 : Int) < n := by omega
    clear h40 hA hn hrs ho1 ho2
    go_enter Tryd.func4, Tryd.ntmps4
    go_wp2_with fail
    rw [← hW0]
    refine (awake_any _).mono ?_
    rintro e w1 ⟨rfl, hb⟩
    have H1 := Lib.hid (HJ.out.next hb)
    clear hb hW0
    go_wp2_with fail
    refine (awake_any _).mono ?_
    rintro e w2 ⟨rfl, hb⟩
    have H2 := Lib.hid (H1.out.next hb)
    clear hb
    go_wp2
    go_ret
    exact ⟨rfl, H2.out⟩
  have h40' : ¬ (40 : Int) < n := by omega
  have HVa : Hid (∀ W, Below w.heap.size w W → CnVal W xa (condV2 k ak an ⟨sa.toArray⟩ (.slice Aa al.length ca) bk bn ⟨sb.toArray⟩ (.slice Ab bl.length cb) (.slice Al l.length cl))) := Lib.hid (fun W hb => ⟨k, ak, an, sa, al, bk, bn, sb, bl, l, Aa, ca, Ab, cb, Al, cl, rfl, ho1.on hb⟩)
  have HVb : Hid (∀ W, Below w.heap.size w W → CnVal W xb (condV2 k2 ak2 an2 ⟨sa2.toArray⟩ (.slice Aa2 al2.length ca2) bk2 bn2 ⟨sb2.toArray⟩ (.slice Ab2 bl2.length cb2) (.slice Al2 l2.length cl2))) := Lib.hid (fun W hb => ⟨k2, ak2, an2, sa2, al2, bk2, bn2, sb2, bl2, l2, Aa2, ca2, Ab2, cb2, Al2, cl2, rfl, ho2.on hb⟩)
  have HSa : Hid (∀ W, Below w.heap.size w W → Calls Tryd.prog 14 #[condV2 k ak an ⟨sa.toArray⟩ (.slice Aa al.length ca) bk bn ⟨sb.toArray⟩ (.slice Ab bl.length cb) (.slice Al l.length cl)] W (SizePost W)) := Lib.hid (fun W hb => by obtain ⟨_, ⟨b1, b2, b3, b4, b5⟩, ra, rb, rl⟩ := ho1; exact sizeOf_any k ak an sa al bk bn sb bl l Aa ca Ab cb Al cl W (ra.on hb) (rb.on hb) (rl.on hb) b2 b4 b5)
  have HSb : Hid (∀ W, Below w.heap.size w W → Calls Tryd.prog 14 #[condV2 k2 ak2 an2 ⟨sa2.toArray⟩ (.slice Aa2 al2.length ca2) bk2 bn2 ⟨sb2.toArray⟩ (.slice Ab2 bl2.length cb2) (.slice Al2 l2.length cl2)] W (SizePost W)) := Lib.hid (fun W hb => by obtain ⟨_, ⟨b1, b2, b3, b4, b5⟩, ra, rb, rl⟩ := ho2; exact sizeOf_any k2 ak2 an2 sa2 al2 bk2 bn2 sb2 bl2 l2 Aa2 ca2 Ab2 cb2 Al2 cl2 W (ra.on hb) (rb.on hb) (rl.on hb) b2 b4 b5)
  have HKr : Hid (∀ x v W, Below w.heap.size w W → CnVal W x v → Calls Tryd.prog 18 #[.slice A n c, v] W fun e w' => e = .returned (.tuple #[.bool (kr rs S x).1, .int .i64 (kr rs S x).2]) ∧ Below W.heap.size W w') := Lib.hid (fun x v W hb h => by
    obtain ⟨k, ak, an, sa, al, bk, bn, sb, bl, l, Aa, ca, Ab, cb, Al, cl, rfl, rfl, ⟨b1, b2, b3, b4, b5⟩, ra, rb, rl⟩ := h
    exact vCond_any A c n S hn (by omega) k ak an sa al bk bn sb bl l Aa ca Ab cb Al cl W (bd_later hA hb) ra rb rl b1 b2 b3 b4 b5 rs hrs)
  have HSc : Hid (∀ x v W, CnVal W x v → Calls Tryd.prog 17 #[v] W fun e w' => e = .returned (.bool (vC varR nuP 30 x)) ∧ Below W.heap.size W w') := Lib.hid (fun x v W h => by
    obtain ⟨k, ak, an, sa, al, bk, bn, sb, bl, l, Aa, ca, Ab, cb, Al, cl, rfl, rfl, ⟨b1, b2, b3, b4, b5⟩, ra, rb, rl⟩ := h
    exact scond_any k ak an sa al bk bn sb bl l Aa ca Ab cb Al cl W ra rb rl b1 b2 b3 b4 b5)
  have HLg : Hid (vC varR nuP 30 (notC (twoC 6 (notC xa) (notC xb))) = true → Lg (kr rs S (notC (twoC 6 xa xb))) (kr rs S (twoC 7 (notC xa) (notC xb))) (kr rs S (notC (twoC 6 (notC xa) (notC xb)))) (kr rs S (twoC 7 xa xb)) (kr rs S xa) (kr rs S (notC xa))) := Lib.hid (logic_math rs S hrs xa xb)
  clear hA hn hrs ho1 ho2 h40
  obtain ⟨vB, hvB⟩ : ∃ b, b = vC varR nuP 30 (notC (twoC 6 (notC xa) (notC xb))) := ⟨_, rfl⟩
  rw [← hvB] at HLg
  have HvB := Lib.hid hvB
  clear hvB
  go_enter Tryd.func4, Tryd.ntmps4
  go_wp2_with fail
  rw [← hW0]
  clear hW0
  refine (awake_any _).mono ?_
  rintro e w1 ⟨rfl, hb⟩
  obtain ⟨t0, t1, t2, t3, t4, t5, t6, t7, t8, t9, u0, u1, u2, u3, u4, u5, u6, u7, u8, u9⟩ := HBx.out _ hb
  have H1 := Lib.hid (And.intro (HJ.out.next hb) hb)
  clear hb
  go_wp2_with fail
  refine (HSa.out _ H1.out.1).mono ?_
  rintro e w2 ⟨sz, rfl, _, _, hb⟩
  clear t0 t1 t2 t3 t4 t5 t6 t7 t8 t9 u0 u1 u2 u3 u4 u5 u6 u7 u8 u9
  obtain ⟨t0, t1, t2, t3, t4, t5, t6, t7, t8, t9, u0, u1, u2, u3, u4, u5, u6, u7, u8, u9⟩ := HBx.out _ (H1.out.2.next hb)
  have H2 := Lib.hid (And.intro (H1.out.1.next hb) (H1.out.2.next hb))
  clear hb
  by_cases h100 : (100 : Int) < sz
  · go_wp2_with fail
    refine (awake_any _).mono ?_
    rintro e w3 ⟨rfl, hb⟩
    have H3 := Lib.hid (H2.out.1.next hb)
    clear hb
    go_wp2
    go_ret
    exact ⟨rfl, H3.out⟩
  go_wp2_with fail
  refine (HSb.out _ H2.out.1).mono ?_
  rintro e w3 ⟨sz2, rfl, _, _, hb⟩
  clear t0 t1 t2 t3 t4 t5 t6 t7 t8 t9 u0 u1 u2 u3 u4 u5 u6 u7 u8 u9
  obtain ⟨t0, t1, t2, t3, t4, t5, t6, t7, t8, t9, u0, u1, u2, u3, u4, u5, u6, u7, u8, u9⟩ := HBx.out _ (H2.out.2.next hb)
  have H3 := Lib.hid (And.intro (H2.out.1.next hb) (H2.out.2.next hb))
  clear hb
  by_cases h1002 : (100 : Int) < sz2
  · go_wp2_with fail
    refine (awake_any _).mono ?_
    rintro e w4 ⟨rfl, hb⟩
    have H4 := Lib.hid (H3.out.1.next hb)
    clear hb
    go_wp2
    go_ret
    exact ⟨rfl, H4.out⟩
  have HD := Lib.hid (And.intro (H3.out.1.drew1) (H3.out.2.drew1))
  go_upto_region 5 with fail
  go_cut [50] from 39 to 50 (fun v50 wx => v50 = .bool (!vB) ∧ Hid (Below w.heap.size w wx ∧ Below W0.heap.size W0 wx))
  case first =>
    go_region_held3 (fun W => W.cell? ⟨w.heap.size, 0, none⟩ = some (.int .i64 k) ∧ W.cell? ⟨w.heap.size, 1, none⟩ = some (.int .i64 ak) ∧ W.cell? ⟨w.heap.size, 2, none⟩ = some (.int .i64 an) ∧ W.cell? ⟨w.heap.size, 3, none⟩ = some (.string ⟨sa.toArray⟩) ∧ W.cell? ⟨w.heap.size, 4, none⟩ = some (.slice Aa al.length ca) ∧ W.cell? ⟨w.heap.size, 5, none⟩ = some (.int .i64 bk) ∧ W.cell? ⟨w.heap.size, 6, none⟩ = some (.int .i64 bn) ∧ W.cell? ⟨w.heap.size, 7, none⟩ = some (.string ⟨sb.toArray⟩) ∧ W.cell? ⟨w.heap.size, 8, none⟩ = some (.slice Ab bl.length cb) ∧ W.cell? ⟨w.heap.size, 9, none⟩ = some (.slice Al l.length cl) ∧ W.cell? ⟨w.heap.size + 1, 0, none⟩ = some (.int .i64 k2) ∧ W.cell? ⟨w.heap.size + 1, 1, none⟩ = some (.int .i64 ak2) ∧ W.cell? ⟨w.heap.size + 1, 2, none⟩ = some (.int .i64 an2) ∧ W.cell? ⟨w.heap.size + 1, 3, none⟩ = some (.string ⟨sa2.toArray⟩) ∧ W.cell? ⟨w.heap.size + 1, 4, none⟩ = some (.slice Aa2 al2.length ca2) ∧ W.cell? ⟨w.heap.size + 1, 5, none⟩ = some (.int .i64 bk2) ∧ W.cell? ⟨w.heap.size + 1, 6, none⟩ = some (.int .i64 bn2) ∧ W.cell? ⟨w.heap.size + 1, 7, none⟩ = some (.string ⟨sb2.toArray⟩) ∧ W.cell? ⟨w.heap.size + 1, 8, none⟩ = some (.slice Ab2 bl2.length cb2) ∧ W.cell? ⟨w.heap.size + 1, 9, none⟩ = some (.slice Al2 l2.length cl2))
      (first | go_keep | (trace_state; fail))
      (first
        | (go_at_call 15; refine (not_any _ _ _ (HVa.out _ HD.out.1)).mono ?_; rintro e wa ⟨va', rfl, hv, hb⟩; have HA0 := Lib.hid hv; have HA1 := Lib.hid (And.intro (HD.out.1.next hb) (HD.out.2.next hb)); clear hv hb; obtain ⟨t0, t1, t2, t3, t4, t5, t6, t7, t8, t9, u0, u1, u2, u3, u4, u5, u6, u7, u8, u9⟩ := HBx.out _ HA1.out.2)
        | (go_at_call 15; refine (not_any _ _ _ (HVb.out _ HD.out.1)).mono ?_; rintro e wa ⟨vb', rfl, hv, hb⟩; have HB0 := Lib.hid hv; have HB1 := Lib.hid (And.intro (HD.out.1.next hb) (HD.out.2.next hb)); clear hv hb; obtain ⟨t0, t1, t2, t3, t4, t5, t6, t7, t8, t9, u0, u1, u2, u3, u4, u5, u6, u7, u8, u9⟩ := HBx.out _ HB1.out.2)
        | (go_at_call 15; refine (not_any _ _ _ (HVb.out _ HA1.out.1)).mono ?_; rintro e wab ⟨vb', rfl, hv, hb⟩; have HX := Lib.hid (And.intro (HA0.out.on hb) hv); have HX1 := Lib.hid (And.intro (HA1.out.1.next hb) (HA1.out.2.next hb)); clear hv hb; obtain ⟨t0, t1, t2, t3, t4, t5, t6, t7, t8, t9, u0, u1, u2, u3, u4, u5, u6, u7, u8, u9⟩ := HBx.out _ HX1.out.2)
        | (go_at_call 15; refine (not_any _ _ _ (HVa.out _ HB1.out.1)).mono ?_; rintro e wab ⟨va', rfl, hv, hb⟩; have HX := Lib.hid (And.intro hv (HB0.out.on hb)); have HX1 := Lib.hid (And.intro (HB1.out.1.next hb) (HB1.out.2.next hb)); clear hv hb; obtain ⟨t0, t1, t2, t3, t4, t5, t6, t7, t8, t9, u0, u1, u2, u3, u4, u5, u6, u7, u8, u9⟩ := HBx.out _ HX1.out.2)
        | (go_at_call 16; refine (two_any 6 _ _ _ _ _ HX.out.1 HX.out.2).mono ?_; rintro e wt ⟨vt, rfl, hv, hb⟩; have HT := Lib.hid hv; have HT1 := Lib.hid (And.intro (HX1.out.1.next hb) (HX1.out.2.next hb)); clear hv hb; obtain ⟨t0, t1, t2, t3, t4, t5, t6, t7, t8, t9, u0, u1, u2, u3, u4, u5, u6, u7, u8, u9⟩ := HBx.out _ HT1.out.2)
        | (go_at_call 15; refine (not_any _ _ _ HT.out).mono ?_; rintro e wn ⟨vn, rfl, hv, hb⟩; have HU := Lib.hid hv; have HU1 := Lib.hid (And.intro (HT1.out.1.next hb) (HT1.out.2.next hb)); clear hv hb; obtain ⟨t0, t1, t2, t3, t4, t5, t6, t7, t8, t9, u0, u1, u2, u3, u4, u5, u6, u7, u8, u9⟩ := HBx.out _ HU1.out.2)
        | (go_at_call 17; refine (HSc.out _ _ _ HU.out).mono ?_; rintro e wf ⟨rfl, hb⟩; have HF1 := Lib.hid (And.intro (HU1.out.1.next hb) (HU1.out.2.next hb)); clear hb; obtain ⟨t0, t1, t2, t3, t4, t5, t6, t7, t8, t9, u0, u1, u2, u3, u4, u5, u6, u7, u8, u9⟩ := HBx.out _ HF1.out.2))
    all_goals go_wp2_with fail
    all_goals go_meet
    all_goals exact ⟨by rw [HvB.out], HF1⟩
  case rest =>
    obtain ⟨rfl, H4⟩ := hcut
    clear HD
    cases vB
    · go_wp2
      go_ret
      exact ⟨rfl, H4.out.1⟩
    have HL := Lib.hid (HLg.out (by trivial))
    clear HLg HvB
    obtain ⟨⟨p1, q1⟩, HX1⟩ : ∃ x, Hid (kr rs S (notC (twoC 6 xa xb)) = x) := ⟨_, Lib.hid rfl⟩
    obtain ⟨⟨p2, q2⟩, HX2⟩ : ∃ x, Hid (kr rs S (twoC 7 (notC xa) (notC xb)) = x) := ⟨_, Lib.hid rfl⟩
    obtain ⟨⟨p3, q3⟩, HX3⟩ : ∃ x, Hid (kr rs S (notC (twoC 6 (notC xa) (notC xb))) = x) := ⟨_, Lib.hid rfl⟩
    obtain ⟨⟨p4, q4⟩, HX4⟩ : ∃ x, Hid (kr rs S (twoC 7 xa xb) = x) := ⟨_, Lib.hid rfl⟩
    obtain ⟨⟨p5, q5⟩, HX5⟩ : ∃ x, Hid (kr rs S xa = x) := ⟨_, Lib.hid rfl⟩
    obtain ⟨⟨p6, q6⟩, HX6⟩ : ∃ x, Hid (kr rs S (notC xa) = x) := ⟨_, Lib.hid rfl⟩
    rw [HX1.out, HX2.out, HX3.out, HX4.out, HX5.out, HX6.out] at HL
    obtain ⟨e12, e34, e56, hfin⟩ := HL.out
    injection e12 with e1 e2
    injection e34 with e3 e4
    subst e1 e2 e3 e4
    obtain rfl : q6 = q5 := e56
    have hfin' : (q6 ≠ 0 ∧ p5 = false ∧ p6 = false) ∨ (q6 = 0 ∧ p6 = !p5) := hfin
    have HFin := Lib.hid hfin'
    clear hfin hfin' HL
    clear t0 t1 t2 t3 t4 t5 t6 t7 t8 t9 u0 u1 u2 u3 u4 u5 u6 u7 u8 u9
    obtain ⟨t0, t1, t2, t3, t4, t5, t6, t7, t8, t9, u0, u1, u2, u3, u4, u5, u6, u7, u8, u9⟩ := HBx.out _ H4.out.2
    go_wp2_with fail
    refine (two_any 6 _ _ _ _ _ (HVa.out _ H4.out.1) (HVb.out _ H4.out.1)).mono ?_
    rintro e w5 ⟨v57, rfl, hv, hb⟩
    have HC5 := Lib.hid hv
    clear hv
    clear t0 t1 t2 t3 t4 t5 t6 t7 t8 t9 u0 u1 u2 u3 u4 u5 u6 u7 u8 u9
    obtain ⟨t0, t1, t2, t3, t4, t5, t6, t7, t8, t9, u0, u1, u2, u3, u4, u5, u6, u7, u8, u9⟩ := HBx.out _ (H4.out.2.next hb)
    have H5 := Lib.hid (And.intro (H4.out.1.next hb) (H4.out.2.next hb))
    clear hb
    go_wp2_with fail
    refine (not_any _ _ _ HC5.out).mono ?_
    rintro e w6 ⟨v58, rfl, hv, hb⟩
    have HC6 := Lib.hid hv
    clear hv
    clear t0 t1 t2 t3 t4 t5 t6 t7 t8 t9 u0 u1 u2 u3 u4 u5 u6 u7 u8 u9
    obtain ⟨t0, t1, t2, t3, t4, t5, t6, t7, t8, t9, u0, u1, u2, u3, u4, u5, u6, u7, u8, u9⟩ := HBx.out _ (H5.out.2.next hb)
    have H6 := Lib.hid (And.intro (H5.out.1.next hb) (H5.out.2.next hb))
    clear hb
    go_wp2_with fail
    refine (HKr.out _ _ _ H6.out.1 HC6.out).mono ?_
    rintro e w7 ⟨rfl, hb⟩
    clear t0 t1 t2 t3 t4 t5 t6 t7 t8 t9 u0 u1 u2 u3 u4 u5 u6 u7 u8 u9
    obtain ⟨t0, t1, t2, t3, t4, t5, t6, t7, t8, t9, u0, u1, u2, u3, u4, u5, u6, u7, u8, u9⟩ := HBx.out _ (H6.out.2.next hb)
    have H7 := Lib.hid (And.intro (H6.out.1.next hb) (H6.out.2.next hb))
    clear hb
    rw [HX1.out]
    have HD := Lib.hid (And.intro (H7.out.1.drew1) (H7.out.2.drew1))
    go_upto_region 8 with fail
    go_cut [11, 12] from 62 to 74 (fun v11 v12 wx => v11 = .bool p2 ∧ v12 = .int .i64 q2 ∧ Hid (Below w.heap.size w wx ∧ Below W0.heap.size W0 wx))
    case first =>
      go_region_held3 (fun W => W.cell? ⟨w.heap.size, 0, none⟩ = some (.int .i64 k) ∧ W.cell? ⟨w.heap.size, 1, none⟩ = some (.int .i64 ak) ∧ W.cell? ⟨w.heap.size, 2, none⟩ = some (.int .i64 an) ∧ W.cell? ⟨w.heap.size, 3, none⟩ = some (.string ⟨sa.toArray⟩) ∧ W.cell? ⟨w.heap.size, 4, none⟩ = some (.slice Aa al.length ca) ∧ W.cell? ⟨w.heap.size, 5, none⟩ = some (.int .i64 bk) ∧ W.cell? ⟨w.heap.size, 6, none⟩ = some (.int .i64 bn) ∧ W.cell? ⟨w.heap.size, 7, none⟩ = some (.string ⟨sb.toArray⟩) ∧ W.cell? ⟨w.heap.size, 8, none⟩ = some (.slice Ab bl.length cb) ∧ W.cell? ⟨w.heap.size, 9, none⟩ = some (.slice Al l.length cl) ∧ W.cell? ⟨w.heap.size + 1, 0, none⟩ = some (.int .i64 k2) ∧ W.cell? ⟨w.heap.size + 1, 1, none⟩ = some (.int .i64 ak2) ∧ W.cell? ⟨w.heap.size + 1, 2, none⟩ = some (.int .i64 an2) ∧ W.cell? ⟨w.heap.size + 1, 3, none⟩ = some (.string ⟨sa2.toArray⟩) ∧ W.cell? ⟨w.heap.size + 1, 4, none⟩ = some (.slice Aa2 al2.length ca2) ∧ W.cell? ⟨w.heap.size + 1, 5, none⟩ = some (.int .i64 bk2) ∧ W.cell? ⟨w.heap.size + 1, 6, none⟩ = some (.int .i64 bn2) ∧ W.cell? ⟨w.heap.size + 1, 7, none⟩ = some (.string ⟨sb2.toArray⟩) ∧ W.cell? ⟨w.heap.size + 1, 8, none⟩ = some (.slice Ab2 bl2.length cb2) ∧ W.cell? ⟨w.heap.size + 1, 9, none⟩ = some (.slice Al2 l2.length cl2))
        (first | go_keep | (trace_state; fail))
        (first
          | (go_at_call 15; refine (not_any _ _ _ (HVa.out _ HD.out.1)).mono ?_; rintro e wa ⟨va', rfl, hv, hb⟩; have HA0 := Lib.hid hv; have HA1 := Lib.hid (And.intro (HD.out.1.next hb) (HD.out.2.next hb)); clear hv hb; obtain ⟨t0, t1, t2, t3, t4, t5, t6, t7, t8, t9, u0, u1, u2, u3, u4, u5, u6, u7, u8, u9⟩ := HBx.out _ HA1.out.2)
          | (go_at_call 15; refine (not_any _ _ _ (HVb.out _ HD.out.1)).mono ?_; rintro e wa ⟨vb', rfl, hv, hb⟩; have HB0 := Lib.hid hv; have HB1 := Lib.hid (And.intro (HD.out.1.next hb) (HD.out.2.next hb)); clear hv hb; obtain ⟨t0, t1, t2, t3, t4, t5, t6, t7, t8, t9, u0, u1, u2, u3, u4, u5, u6, u7, u8, u9⟩ := HBx.out _ HB1.out.2)
          | (go_at_call 15; refine (not_any _ _ _ (HVb.out _ HA1.out.1)).mono ?_; rintro e wab ⟨vb', rfl, hv, hb⟩; have HX := Lib.hid (And.intro (HA0.out.on hb) hv); have HX1 := Lib.hid (And.intro (HA1.out.1.next hb) (HA1.out.2.next hb)); clear hv hb; obtain ⟨t0, t1, t2, t3, t4, t5, t6, t7, t8, t9, u0, u1, u2, u3, u4, u5, u6, u7, u8, u9⟩ := HBx.out _ HX1.out.2)
          | (go_at_call 15; refine (not_any _ _ _ (HVa.out _ HB1.out.1)).mono ?_; rintro e wab ⟨va', rfl, hv, hb⟩; have HX := Lib.hid (And.intro hv (HB0.out.on hb)); have HX1 := Lib.hid (And.intro (HB1.out.1.next hb) (HB1.out.2.next hb)); clear hv hb; obtain ⟨t0, t1, t2, t3, t4, t5, t6, t7, t8, t9, u0, u1, u2, u3, u4, u5, u6, u7, u8, u9⟩ := HBx.out _ HX1.out.2)
          | (go_at_call 16; refine (two_any 7 _ _ _ _ _ HX.out.1 HX.out.2).mono ?_; rintro e wt ⟨vt, rfl, hv, hb⟩; have HT := Lib.hid hv; have HT1 := Lib.hid (And.intro (HX1.out.1.next hb) (HX1.out.2.next hb)); clear hv hb; obtain ⟨t0, t1, t2, t3, t4, t5, t6, t7, t8, t9, u0, u1, u2, u3, u4, u5, u6, u7, u8, u9⟩ := HBx.out _ HT1.out.2)
          | (go_at_call 18; refine (HKr.out _ _ _ HT1.out.1 HT.out).mono ?_; rintro e wf ⟨rfl, hb⟩; have HF1 := Lib.hid (And.intro (HT1.out.1.next hb) (HT1.out.2.next hb)); clear hb; obtain ⟨t0, t1, t2, t3, t4, t5, t6, t7, t8, t9, u0, u1, u2, u3, u4, u5, u6, u7, u8, u9⟩ := HBx.out _ HF1.out.2))
      all_goals go_wp2_with fail
      all_goals go_meet
      all_goals exact ⟨by rw [HX2.out], by rw [HX2.out], HF1⟩
    case rest =>
      obtain ⟨rfl, rfl, H8⟩ := hcut
      clear HD
      clear t0 t1 t2 t3 t4 t5 t6 t7 t8 t9 u0 u1 u2 u3 u4 u5 u6 u7 u8 u9
      obtain ⟨t0, t1, t2, t3, t4, t5, t6, t7, t8, t9, u0, u1, u2, u3, u4, u5, u6, u7, u8, u9⟩ := HBx.out _ H8.out.2
      have HD := Lib.hid (And.intro (H8.out.1.drew1) (H8.out.2.drew1))
      go_upto_region 9 with fail
      go_cut [13, 14] from 75 to 89 (fun v13 v14 wx => v13 = .bool p4 ∧ v14 = .int .i64 q4 ∧ Hid (Below w.heap.size w wx ∧ Below W0.heap.size W0 wx))
      case first =>
        go_region_held3 (fun W => W.cell? ⟨w.heap.size, 0, none⟩ = some (.int .i64 k) ∧ W.cell? ⟨w.heap.size, 1, none⟩ = some (.int .i64 ak) ∧ W.cell? ⟨w.heap.size, 2, none⟩ = some (.int .i64 an) ∧ W.cell? ⟨w.heap.size, 3, none⟩ = some (.string ⟨sa.toArray⟩) ∧ W.cell? ⟨w.heap.size, 4, none⟩ = some (.slice Aa al.length ca) ∧ W.cell? ⟨w.heap.size, 5, none⟩ = some (.int .i64 bk) ∧ W.cell? ⟨w.heap.size, 6, none⟩ = some (.int .i64 bn) ∧ W.cell? ⟨w.heap.size, 7, none⟩ = some (.string ⟨sb.toArray⟩) ∧ W.cell? ⟨w.heap.size, 8, none⟩ = some (.slice Ab bl.length cb) ∧ W.cell? ⟨w.heap.size, 9, none⟩ = some (.slice Al l.length cl) ∧ W.cell? ⟨w.heap.size + 1, 0, none⟩ = some (.int .i64 k2) ∧ W.cell? ⟨w.heap.size + 1, 1, none⟩ = some (.int .i64 ak2) ∧ W.cell? ⟨w.heap.size + 1, 2, none⟩ = some (.int .i64 an2) ∧ W.cell? ⟨w.heap.size + 1, 3, none⟩ = some (.string ⟨sa2.toArray⟩) ∧ W.cell? ⟨w.heap.size + 1, 4, none⟩ = some (.slice Aa2 al2.length ca2) ∧ W.cell? ⟨w.heap.size + 1, 5, none⟩ = some (.int .i64 bk2) ∧ W.cell? ⟨w.heap.size + 1, 6, none⟩ = some (.int .i64 bn2) ∧ W.cell? ⟨w.heap.size + 1, 7, none⟩ = some (.string ⟨sb2.toArray⟩) ∧ W.cell? ⟨w.heap.size + 1, 8, none⟩ = some (.slice Ab2 bl2.length cb2) ∧ W.cell? ⟨w.heap.size + 1, 9, none⟩ = some (.slice Al2 l2.length cl2))
          (first | go_keep | (trace_state; fail))
          (first
            | (go_at_call 15; refine (not_any _ _ _ (HVa.out _ HD.out.1)).mono ?_; rintro e wa ⟨va', rfl, hv, hb⟩; have HA0 := Lib.hid hv; have HA1 := Lib.hid (And.intro (HD.out.1.next hb) (HD.out.2.next hb)); clear hv hb; obtain ⟨t0, t1, t2, t3, t4, t5, t6, t7, t8, t9, u0, u1, u2, u3, u4, u5, u6, u7, u8, u9⟩ := HBx.out _ HA1.out.2)
            | (go_at_call 15; refine (not_any _ _ _ (HVb.out _ HD.out.1)).mono ?_; rintro e wa ⟨vb', rfl, hv, hb⟩; have HB0 := Lib.hid hv; have HB1 := Lib.hid (And.intro (HD.out.1.next hb) (HD.out.2.next hb)); clear hv hb; obtain ⟨t0, t1, t2, t3, t4, t5, t6, t7, t8, t9, u0, u1, u2, u3, u4, u5, u6, u7, u8, u9⟩ := HBx.out _ HB1.out.2)
            | (go_at_call 15; refine (not_any _ _ _ (HVb.out _ HA1.out.1)).mono ?_; rintro e wab ⟨vb', rfl, hv, hb⟩; have HX := Lib.hid (And.intro (HA0.out.on hb) hv); have HX1 := Lib.hid (And.intro (HA1.out.1.next hb) (HA1.out.2.next hb)); clear hv hb; obtain ⟨t0, t1, t2, t3, t4, t5, t6, t7, t8, t9, u0, u1, u2, u3, u4, u5, u6, u7, u8, u9⟩ := HBx.out _ HX1.out.2)
            | (go_at_call 15; refine (not_any _ _ _ (HVa.out _ HB1.out.1)).mono ?_; rintro e wab ⟨va', rfl, hv, hb⟩; have HX := Lib.hid (And.intro hv (HB0.out.on hb)); have HX1 := Lib.hid (And.intro (HB1.out.1.next hb) (HB1.out.2.next hb)); clear hv hb; obtain ⟨t0, t1, t2, t3, t4, t5, t6, t7, t8, t9, u0, u1, u2, u3, u4, u5, u6, u7, u8, u9⟩ := HBx.out _ HX1.out.2)
            | (go_at_call 16; refine (two_any 6 _ _ _ _ _ HX.out.1 HX.out.2).mono ?_; rintro e wt ⟨vt, rfl, hv, hb⟩; have HT := Lib.hid hv; have HT1 := Lib.hid (And.intro (HX1.out.1.next hb) (HX1.out.2.next hb)); clear hv hb; obtain ⟨t0, t1, t2, t3, t4, t5, t6, t7, t8, t9, u0, u1, u2, u3, u4, u5, u6, u7, u8, u9⟩ := HBx.out _ HT1.out.2)
            | (go_at_call 15; refine (not_any _ _ _ HT.out).mono ?_; rintro e wn ⟨vn, rfl, hv, hb⟩; have HU := Lib.hid hv; have HU1 := Lib.hid (And.intro (HT1.out.1.next hb) (HT1.out.2.next hb)); clear hv hb; obtain ⟨t0, t1, t2, t3, t4, t5, t6, t7, t8, t9, u0, u1, u2, u3, u4, u5, u6, u7, u8, u9⟩ := HBx.out _ HU1.out.2)
            | (go_at_call 18; refine (HKr.out _ _ _ HU1.out.1 HU.out).mono ?_; rintro e wf ⟨rfl, hb⟩; have HF1 := Lib.hid (And.intro (HU1.out.1.next hb) (HU1.out.2.next hb)); clear hb; obtain ⟨t0, t1, t2, t3, t4, t5, t6, t7, t8, t9, u0, u1, u2, u3, u4, u5, u6, u7, u8, u9⟩ := HBx.out _ HF1.out.2))
        all_goals go_wp2_with fail
        all_goals go_meet
        all_goals exact ⟨by rw [HX3.out], by rw [HX3.out], HF1⟩
      case rest =>
        obtain ⟨rfl, rfl, H9⟩ := hcut
        clear HD
        clear t0 t1 t2 t3 t4 t5 t6 t7 t8 t9 u0 u1 u2 u3 u4 u5 u6 u7 u8 u9
        obtain ⟨t0, t1, t2, t3, t4, t5, t6, t7, t8, t9, u0, u1, u2, u3, u4, u5, u6, u7, u8, u9⟩ := HBx.out _ H9.out.2
        go_wp2_with fail
        refine (two_any 7 _ _ _ _ _ (HVa.out _ H9.out.1) (HVb.out _ H9.out.1)).mono ?_
        rintro e w10 ⟨v95, rfl, hv, hb⟩
        have HC10 := Lib.hid hv
        clear hv
        clear t0 t1 t2 t3 t4 t5 t6 t7 t8 t9 u0 u1 u2 u3 u4 u5 u6 u7 u8 u9
        obtain ⟨t0, t1, t2, t3, t4, t5, t6, t7, t8, t9, u0, u1, u2, u3, u4, u5, u6, u7, u8, u9⟩ := HBx.out _ (H9.out.2.next hb)
        have H10 := Lib.hid (And.intro (H9.out.1.next hb) (H9.out.2.next hb))
        clear hb
        go_wp2_with fail
        refine (HKr.out _ _ _ H10.out.1 HC10.out).mono ?_
        rintro e w11 ⟨rfl, hb⟩
        clear t0 t1 t2 t3 t4 t5 t6 t7 t8 t9 u0 u1 u2 u3 u4 u5 u6 u7 u8 u9
        obtain ⟨t0, t1, t2, t3, t4, t5, t6, t7, t8, t9, u0, u1, u2, u3, u4, u5, u6, u7, u8, u9⟩ := HBx.out _ (H10.out.2.next hb)
        have H11 := Lib.hid (And.intro (H10.out.1.next hb) (H10.out.2.next hb))
        clear hb
        rw [HX4.out]
        go_wp2_with fail
        refine (HKr.out xa _ _ H11.out.1 (HVa.out _ H11.out.1)).mono ?_
        rintro e w12 ⟨rfl, hb⟩
        clear t0 t1 t2 t3 t4 t5 t6 t7 t8 t9 u0 u1 u2 u3 u4 u5 u6 u7 u8 u9
        obtain ⟨t0, t1, t2, t3, t4, t5, t6, t7, t8, t9, u0, u1, u2, u3, u4, u5, u6, u7, u8, u9⟩ := HBx.out _ (H11.out.2.next hb)
        have H12 := Lib.hid (And.intro (H11.out.1.next hb) (H11.out.2.next hb))
        clear hb
        rw [HX5.out]
        go_wp2_with fail
        refine (not_any xa _ _ (HVa.out _ H12.out.1)).mono ?_
        rintro e w13 ⟨v127, rfl, hv, hb⟩
        have HC13 := Lib.hid hv
        clear hv
        clear t0 t1 t2 t3 t4 t5 t6 t7 t8 t9 u0 u1 u2 u3 u4 u5 u6 u7 u8 u9
        obtain ⟨t0, t1, t2, t3, t4, t5, t6, t7, t8, t9, u0, u1, u2, u3, u4, u5, u6, u7, u8, u9⟩ := HBx.out _ (H12.out.2.next hb)
        have H13 := Lib.hid (And.intro (H12.out.1.next hb) (H12.out.2.next hb))
        clear hb
        go_wp2_with fail
        refine (HKr.out _ _ _ H13.out.1 HC13.out).mono ?_
        rintro e w14 ⟨rfl, hb⟩
        clear t0 t1 t2 t3 t4 t5 t6 t7 t8 t9 u0 u1 u2 u3 u4 u5 u6 u7 u8 u9
        obtain ⟨t0, t1, t2, t3, t4, t5, t6, t7, t8, t9, u0, u1, u2, u3, u4, u5, u6, u7, u8, u9⟩ := HBx.out _ (H13.out.2.next hb)
        have H14 := Lib.hid (And.intro (H13.out.1.next hb) (H13.out.2.next hb))
        clear hb
        rw [HX6.out]
        rcases HFin.out with ⟨h0, rfl, rfl⟩ | ⟨rfl, rfl⟩
        · have hq1 : (q6 == 0) = false := beq_eq_false_iff_ne.2 h0
          have hq2 : (q6 != 0) = true := by rw [bne_iff_ne]; exact h0
          clear h0
          go_wp2
          go_ret
          exact ⟨rfl, H14.out.1⟩
        · cases p5
          all_goals
            go_wp2
            go_ret
            exact ⟨rfl, H14.out.1⟩

end Go.Proofs.YtbmejohoifpfhaaDoor
