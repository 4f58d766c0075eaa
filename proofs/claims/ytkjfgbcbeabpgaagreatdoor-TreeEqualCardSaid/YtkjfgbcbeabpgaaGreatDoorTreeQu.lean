/-
  Two lemmas' parts, for the reference.
  The reference's comparison of programs: its walk.
-/
import Derived.Test.YtkjfgbcbeabpgaaGreatDoorTreeQ0
import Derived.Test.YtkjfgbcbeabpgaaGreatDoorTreeQl
import Derived.Test.YtkjfgbcbeabpgaaGreatDoorTreeQa
namespace Go.Proofs.YtkjfgbcbeabpgaaGreatDoor
open Go.RowKit

/-- Two elements' parts: their cells, what the calls on them say, and when the elements are the same. -/
def PartsLm (w : World) (cs ds : Array Value) (x y : Lm) : Prop :=
  cs.all (·.oneCell') = true ∧ ds.all (·.oneCell') = true ∧ ∃ (x0 y0 : List UInt8) (x1 y1 : Value) (x2 y2 : Value) (x3 y3 : Value) (x4 y4 : Value) (x5 y5 : Value) (x6 y6 : Value) (x7 y7 : Value) (q1 : Bool) (q2 : Bool) (q3 : Bool) (P1 : Prop) (P2 : Prop) (P3 : Prop),
    (cs[0]? = some (.string ⟨x0.toArray⟩) ∧ ds[0]? = some (.string ⟨y0.toArray⟩) ∧ cs[1]? = some (x1) ∧ ds[1]? = some (y1) ∧ cs[2]? = some (x2) ∧ ds[2]? = some (y2) ∧ cs[3]? = some (x3) ∧ ds[3]? = some (y3) ∧ cs[4]? = some (x4) ∧ ds[4]? = some (y4) ∧ cs[5]? = some (x5) ∧ ds[5]? = some (y5) ∧ cs[6]? = some (x6) ∧ ds[6]? = some (y6) ∧ cs[7]? = some (x7) ∧ ds[7]? = some (y7)) ∧
    ((∀ W, Below w.heap.size w W → Calls Tryz.prog 67 #[x1, y1] W fun e w' => e = .returned (.bool q1) ∧ Below W.heap.size W w') ∧ (∀ W, Below w.heap.size w W → Calls Tryz.prog 28 #[.agg #[x2, x3, x4], .agg #[y2, y3, y4]] W fun e w' => e = .returned (.bool q2) ∧ Below W.heap.size W w') ∧ (∀ W, Below w.heap.size w W → Calls Tryz.prog 28 #[.agg #[x5, x6, x7], .agg #[y5, y6, y7]] W fun e w' => e = .returned (.bool q3) ∧ Below W.heap.size W w')) ∧
    ((q1 = true ↔ P1) ∧ (q2 = true ↔ P2) ∧ (q3 = true ↔ P3)) ∧ ((fun x y => x = y) x y ↔ x0 = y0 ∧ P1 ∧ P2 ∧ P3)

theorem PartsLm.elim {w : World} {cs ds : Array Value} {x y : Lm} {G : Prop} (h : PartsLm w cs ds x y)
    (f : cs.all (·.oneCell') = true → ds.all (·.oneCell') = true → ∀ (x0 y0 : List UInt8) (x1 y1 : Value) (x2 y2 : Value) (x3 y3 : Value) (x4 y4 : Value) (x5 y5 : Value) (x6 y6 : Value) (x7 y7 : Value) (q1 : Bool) (q2 : Bool) (q3 : Bool) (P1 : Prop) (P2 : Prop) (P3 : Prop),
      Hid (cs[0]? = some (.string ⟨x0.toArray⟩) ∧ ds[0]? = some (.string ⟨y0.toArray⟩) ∧ cs[1]? = some (x1) ∧ ds[1]? = some (y1) ∧ cs[2]? = some (x2) ∧ ds[2]? = some (y2) ∧ cs[3]? = some (x3) ∧ ds[3]? = some (y3) ∧ cs[4]? = some (x4) ∧ ds[4]? = some (y4) ∧ cs[5]? = some (x5) ∧ ds[5]? = some (y5) ∧ cs[6]? = some (x6) ∧ ds[6]? = some (y6) ∧ cs[7]? = some (x7) ∧ ds[7]? = some (y7)) →
      Hid ((∀ W, Below w.heap.size w W → Calls Tryz.prog 67 #[x1, y1] W fun e w' => e = .returned (.bool q1) ∧ Below W.heap.size W w') ∧ (∀ W, Below w.heap.size w W → Calls Tryz.prog 28 #[.agg #[x2, x3, x4], .agg #[y2, y3, y4]] W fun e w' => e = .returned (.bool q2) ∧ Below W.heap.size W w') ∧ (∀ W, Below w.heap.size w W → Calls Tryz.prog 28 #[.agg #[x5, x6, x7], .agg #[y5, y6, y7]] W fun e w' => e = .returned (.bool q3) ∧ Below W.heap.size W w')) →
      Hid ((q1 = true ↔ P1) ∧ (q2 = true ↔ P2) ∧ (q3 = true ↔ P3)) → Hid ((fun x y => x = y) x y ↔ x0 = y0 ∧ P1 ∧ P2 ∧ P3) → G) : G := by
  obtain ⟨h1, h2, x0, y0, x1, y1, x2, y2, x3, y3, x4, y4, x5, y5, x6, y6, x7, y7, q1, q2, q3, P1, P2, P3, a, b, c, d⟩ := h
  exact f h1 h2 x0 y0 x1 y1 x2 y2 x3 y3 x4 y4 x5 y5 x6 y6 x7 y7 q1 q2 q3 P1 P2 P3 (Lib.hid a) (Lib.hid b) (Lib.hid c) (Lib.hid d)

set_option maxRecDepth 100000 in
theorem lm_parts (x y : Lm) (cs ds : Array Value) (w : World) (hx : VLm w w.heap.size cs x) (hy : VLm w w.heap.size ds y) : PartsLm w cs ds x y := by
  obtain ⟨s, l, f, g⟩ := x
  obtain ⟨s', l', f', g'⟩ := y
  obtain ⟨A, c, d, e, rfl, b1, b2, ra, rf, rg⟩ := hx
  obtain ⟨A', c', d', e', rfl, b1', b2', ra', rf', rg'⟩ := hy
  obtain ⟨q, h⟩ := boolOf (l = l')
  obtain ⟨q2, h2⟩ := boolOf (f = f')
  obtain ⟨q3, h3⟩ := boolOf (g = g')
  have hone : ∀ A c d e x, (lmCs A c d e x).all (·.oneCell') = true := fun A c d e x => by unfold lmCs; rw [List.all_toArray]; rfl
  refine ⟨hone _ _ _ _ _, hone _ _ _ _ _, s, s', .slice A l.length c, .slice A' l'.length c', .slice d.p f.ps.length d.np, .slice d'.p f'.ps.length d'.np, .slice d.a f.ats.length d.na, .slice d'.a f'.ats.length d'.na, .slice d.c f.cls.length d.nc, .slice d'.c f'.cls.length d'.nc,
    .slice e.p g.ps.length e.np, .slice e'.p g'.ps.length e'.np, .slice e.a g.ats.length e.na, .slice e'.a g'.ats.length e'.na, .slice e.c g.cls.length e.nc, .slice e'.c g'.cls.length e'.nc, q, q2, q3, _, _, _,
    ⟨rfl, rfl, rfl, rfl, rfl, rfl, rfl, rfl, rfl, rfl, rfl, rfl, rfl, rfl, rfl, rfl⟩, ⟨fun W hb => ?_, fun W hb => ?_, fun W hb => ?_⟩, ⟨h, h2, h3⟩, ?_⟩
  · exact sps_row l l' A A' c c' W b2 b2' (ra.on pm_keeps hb) (ra'.on pm_keeps hb) q h
  · exact seqf_at f f' _ _ W q2 ⟨d, rfl, rf.on hb⟩ ⟨d', rfl, rf'.on hb⟩ h2
  · exact seqf_at g g' _ _ W q3 ⟨e, rfl, rg.on hb⟩ ⟨e', rfl, rg'.on hb⟩ h3
  · show (_ = _) ↔ _
    rw [Lm.mk.injEq]

theorem hid_Lemma2 : ∃ (T N : Nat) (zc : Array Value), 94 = T ∧ N = 8 ∧ zc.size = N ∧ (∀ w : World, (isAgg T).run Tryz.prog w = .ok true w) ∧ (∀ w : World, (sizeOf T).run Tryz.prog w = .ok N w) ∧ (∀ w : World, (zeroValue T).run Tryz.prog w = .ok (.agg zc) w) :=
  ⟨_, 8, #[.string ⟨#[]⟩, .slice none 0 0, .slice none 0 0, .slice none 0 0, .slice none 0 0, .slice none 0 0, .slice none 0 0, .slice none 0 0], rfl, rfl, rfl, fun w => by kernel_rfl, fun w => by kernel_rfl, fun w => by kernel_rfl⟩

end Go.Proofs.YtkjfgbcbeabpgaaGreatDoor

namespace Go.Proofs.YtkjfgbcbeabpgaaGreatDoor
open Go.RowKit

set_option maxRecDepth 100000 in
set_option maxHeartbeats 20000000 in
theorem seqpg_core (cs ds : Array Value) (hcs : cs.size = 6) (hds : ds.size = 6) (x1 y1 : Value)
    (A0 B0 : Option Addr) (n0 m0 ca0 cb0 : Nat) (l0 k0 : List Rc) (hn0 : n0 = l0.length) (hm0 : m0 = k0.length) (bn0 : n0 ≤ maxLen) (bm0 : m0 ≤ maxLen)
    (A1 B1 : Option Addr) (n1 m1 ca1 cb1 : Nat) (l1 k1 : List Lk) (hn1 : n1 = l1.length) (hm1 : m1 = k1.length) (bn1 : n1 ≤ maxLen) (bm1 : m1 ≤ maxLen)
    (A2 B2 : Option Addr) (n2 m2 ca2 cb2 : Nat) (l2 k2 : List Df) (hn2 : n2 = l2.length) (hm2 : m2 = k2.length) (bn2 : n2 ≤ maxLen) (bm2 : m2 ≤ maxLen)
    (A3 B3 : Option Addr) (n3 m3 ca3 cb3 : Nat) (l3 k3 : List Lm) (hn3 : n3 = l3.length) (hm3 : m3 = k3.length) (bn3 : n3 ≤ maxLen) (bm3 : m3 ≤ maxLen)
    (A4 B4 : Option Addr) (n4 m4 ca4 cb4 : Nat) (l4 k4 : List Pr) (hn4 : n4 = l4.length) (hm4 : m4 = k4.length) (bn4 : n4 ≤ maxLen) (bm4 : m4 ≤ maxLen)
    (kx0 : cs[0]? = some (.slice A0 n0 ca0)) (ky0 : ds[0]? = some (.slice B0 m0 cb0))
    (kx1 : cs[1]? = some (x1)) (ky1 : ds[1]? = some (y1))
    (kx2 : cs[2]? = some (.slice A1 n1 ca1)) (ky2 : ds[2]? = some (.slice B1 m1 cb1))
    (kx3 : cs[3]? = some (.slice A2 n2 ca2)) (ky3 : ds[3]? = some (.slice B2 m2 cb2))
    (kx4 : cs[4]? = some (.slice A3 n3 ca3)) (ky4 : ds[4]? = some (.slice B3 m3 cb3))
    (kx5 : cs[5]? = some (.slice A4 n4 ca4)) (ky5 : ds[5]? = some (.slice B4 m4 cb4)) (q1 : Bool) (w : World) (r : Bool)
    (ra0 : RowV VRc 2 w w.heap.size l0 A0) (rb0 : RowV VRc 2 w w.heap.size k0 B0)
    (ra1 : RowV VLk 2 w w.heap.size l1 A1) (rb1 : RowV VLk 2 w w.heap.size k1 B1)
    (ra2 : RowV VDf 3 w w.heap.size l2 A2) (rb2 : RowV VDf 3 w w.heap.size k2 B2)
    (ra3 : RowV VLm 8 w w.heap.size l3 A3) (rb3 : RowV VLm 8 w w.heap.size k3 B3)
    (ra4 : RowV VPr 12 w w.heap.size l4 A4) (rb4 : RowV VPr 12 w w.heap.size k4 B4) (hE4 : ∀ x y, x ∈ l4 → y ∈ k4 → EqAt 69 VPr SamePr x y)
    (hq1 : ∀ W, Below w.heap.size w W → Calls Tryz.prog 67 #[x1, y1] W fun e w' => e = .returned (.bool q1) ∧ Below W.heap.size W w')
    (hr : r = true ↔ q1 = true ∧ All2 (fun x y => x = y) l0 k0 ∧ All2 (fun x y => x = y) l1 k1 ∧ All2 (fun x y => x = y) l2 k2 ∧ All2 (fun x y => x = y) l3 k3 ∧ All2 SamePr l4 k4) :
    Calls Tryz.prog 26 #[.agg cs, .agg ds] w fun e w' => e = .returned (.bool r) ∧ Below w.heap.size w w' := by
  obtain ⟨T, N, hT, hN, hag, hsz⟩ := hid_Program
  have e4 : ∀ y : Operand, Op.box 51 y = Op.box T y := fun y => by rw [hT]
  obtain ⟨T3, N3, zc, hT3, hN3, hzc, hag3, hsz3, hzv3⟩ := hid_Lemma2
  have e13 : ∀ y : Operand, Op.load 94 y = Op.load T3 y := fun y => by rw [hT3]
  have e23 : ∀ y z : Operand, Op.store 94 y z = Op.store T3 y z := fun y z => by rw [hT3]
  have e33 : Op.alloc 94 = Op.alloc T3 := by rw [hT3]
  have HN3 := Lib.hid hN3
  have HZC := Lib.hid hzc
  clear hN3 hzc
  obtain ⟨T4, N4, hT4, hN4, hag4, hsz4⟩ := hid_Proc
  have e14 : ∀ y : Operand, Op.load 62 y = Op.load T4 y := fun y => by rw [hT4]
  have HN4 := Lib.hid hN4
  clear hN4
  have HQ1 := Lib.hid hq1
  have hszc : cs.size = N := hcs.trans hN.symm
  have hszd : ds.size = N := hds.trans hN.symm
  obtain ⟨W1, hW1⟩ : ∃ W1, W1 = (w.alloc (.cells cs T)).alloc (.cells ds T) := ⟨_, rfl⟩
  have HB : Hid (Below w.heap.size w W1) := Lib.hid (by rw [hW1]; exact (below_alloc w _).chain (below_alloc _ _))
  have p1 := heap_keep (o := .cells ds T) (heap_of_alloc w (.cells cs T))
  have p2 := heap_of_alloc (w.alloc (.cells cs T)) (.cells ds T)
  rw [size_of_alloc] at p2
  rw [← hW1] at p1 p2
  have HF : Hid (∀ W, Below W1.heap.size W1 W → W.cell? ⟨w.heap.size, 0, none⟩ = some (.slice A0 n0 ca0) ∧ W.cell? ⟨w.heap.size + 1, 0, none⟩ = some (.slice B0 m0 cb0) ∧ W.cell? ⟨w.heap.size, 1, none⟩ = some (x1) ∧ W.cell? ⟨w.heap.size + 1, 1, none⟩ = some (y1) ∧ W.cell? ⟨w.heap.size, 2, none⟩ = some (.slice A1 n1 ca1) ∧ W.cell? ⟨w.heap.size + 1, 2, none⟩ = some (.slice B1 m1 cb1) ∧ W.cell? ⟨w.heap.size, 3, none⟩ = some (.slice A2 n2 ca2) ∧ W.cell? ⟨w.heap.size + 1, 3, none⟩ = some (.slice B2 m2 cb2) ∧ W.cell? ⟨w.heap.size, 4, none⟩ = some (.slice A3 n3 ca3) ∧ W.cell? ⟨w.heap.size + 1, 4, none⟩ = some (.slice B3 m3 cb3) ∧ W.cell? ⟨w.heap.size, 5, none⟩ = some (.slice A4 n4 ca4) ∧ W.cell? ⟨w.heap.size + 1, 5, none⟩ = some (.slice B4 m4 cb4)) := Lib.hid (fun W hb => ⟨cell_of_block (kept_box hb p1) 0 kx0, cell_of_block (kept_box hb p2) 0 ky0, cell_of_block (kept_box hb p1) 1 kx1, cell_of_block (kept_box hb p2) 1 ky1, cell_of_block (kept_box hb p1) 2 kx2, cell_of_block (kept_box hb p2) 2 ky2, cell_of_block (kept_box hb p1) 3 kx3, cell_of_block (kept_box hb p2) 3 ky3, cell_of_block (kept_box hb p1) 4 kx4, cell_of_block (kept_box hb p2) 4 ky4, cell_of_block (kept_box hb p1) 5 kx5, cell_of_block (kept_box hb p2) 5 ky5⟩)
  have HF0 : Hid (∀ W, Below W1.heap.size W1 W → W.cell? ⟨w.heap.size, 0, none⟩ = some (.slice A0 n0 ca0) ∧ W.cell? ⟨w.heap.size + 1, 0, none⟩ = some (.slice B0 m0 cb0)) := Lib.hid (fun W hb => ⟨cell_of_block (kept_box hb p1) 0 kx0, cell_of_block (kept_box hb p2) 0 ky0⟩)
  have HF1 : Hid (∀ W, Below W1.heap.size W1 W → W.cell? ⟨w.heap.size, 2, none⟩ = some (.slice A1 n1 ca1) ∧ W.cell? ⟨w.heap.size + 1, 2, none⟩ = some (.slice B1 m1 cb1)) := Lib.hid (fun W hb => ⟨cell_of_block (kept_box hb p1) 2 kx2, cell_of_block (kept_box hb p2) 2 ky2⟩)
  have HF2 : Hid (∀ W, Below W1.heap.size W1 W → W.cell? ⟨w.heap.size, 3, none⟩ = some (.slice A2 n2 ca2) ∧ W.cell? ⟨w.heap.size + 1, 3, none⟩ = some (.slice B2 m2 cb2)) := Lib.hid (fun W hb => ⟨cell_of_block (kept_box hb p1) 3 kx3, cell_of_block (kept_box hb p2) 3 ky3⟩)
  have HF3 : Hid (∀ W, Below W1.heap.size W1 W → W.cell? ⟨w.heap.size, 4, none⟩ = some (.slice A3 n3 ca3) ∧ W.cell? ⟨w.heap.size + 1, 4, none⟩ = some (.slice B3 m3 cb3)) := Lib.hid (fun W hb => ⟨cell_of_block (kept_box hb p1) 4 kx4, cell_of_block (kept_box hb p2) 4 ky4⟩)
  have HF4 : Hid (∀ W, Below W1.heap.size W1 W → W.cell? ⟨w.heap.size, 5, none⟩ = some (.slice A4 n4 ca4) ∧ W.cell? ⟨w.heap.size + 1, 5, none⟩ = some (.slice B4 m4 cb4)) := Lib.hid (fun W hb => ⟨cell_of_block (kept_box hb p1) 5 kx5, cell_of_block (kept_box hb p2) 5 ky5⟩)
  have HX0 := Lib.hid (Below.refl W1.heap.size W1)
  have hF0 := HF.out _ HX0.out
  rw [hW1] at hF0
  obtain ⟨cx0, cy0, cx1, cy1, cx2, cy2, cx3, cy3, cx4, cy4, cx5, cy5⟩ := hF0
  have HR0 := Lib.hid (And.intro ra0 (And.intro rb0 (And.intro hn0 hm0)))
  have HR1 := Lib.hid (And.intro ra1 (And.intro rb1 (And.intro hn1 hm1)))
  have HR2 := Lib.hid (And.intro ra2 (And.intro rb2 (And.intro hn2 hm2)))
  have HR3 := Lib.hid (And.intro ra3 (And.intro rb3 (And.intro hn3 hm3)))
  have HR4 := Lib.hid (And.intro ra4 (And.intro rb4 (And.intro hn4 hm4)))
  have HE4 := Lib.hid hE4
  clear hq1 hN p1 p2 hcs hds kx0 ky0 kx1 ky1 kx2 ky2 kx3 ky3 kx4 ky4 kx5 ky5 ra0 rb0 hn0 hm0 ra1 rb1 hn1 hm1 ra2 rb2 hn2 hm2 ra3 rb3 hn3 hm3 ra4 rb4 hn4 hm4 hE4
  unfold maxLen at bn0 bm0 bn1 bm1 bn2 bm2 bn3 bm3 bn4 bm4
  by_cases hlen0 : n0 = m0
  · subst hlen0
    cases q1 with
    | false =>
      have e : r = false := Bool.eq_false_iff.2 (fun h => by simpa using hr.1 h)
      clear hr
      subst e
      go_enter Tryz.func26, Tryz.ntmps26
      simp only [e4, e13, e23, e33, e14]
      clear e4 hT e13 e23 e33 hT3 e14 hT4
      go_wp2_with (go_at_call 67; rw [← hW1]; clear hW1; ((with_reducible refine (HQ1.out _ (HB.out.chain HX0.out)).mono ?_); rintro e w2 ⟨rfl, hb⟩); have HX2 := Lib.hid (HX0.out.chain hb); clear hb; clear cx0 cy0 cx1 cy1 cx2 cy2 cx3 cy3 cx4 cy4 cx5 cy5)
      go_ret
      exact ⟨rfl, HB.out.chain HX2.out⟩
    | true =>
      by_cases hlen1 : n1 = m1
      · subst hlen1
        by_cases hlen2 : n2 = m2
        · subst hlen2
          by_cases hlen3 : n3 = m3
          · subst hlen3
            by_cases hlen4 : n4 = m4
            · subst hlen4
              have HG : Hid (r = true ↔ All2 (fun x y => x = y) l0 k0 ∧ All2 (fun x y => x = y) l1 k1 ∧ All2 (fun x y => x = y) l2 k2 ∧ All2 (fun x y => x = y) l3 k3 ∧ All2 SamePr l4 k4) := Lib.hid ⟨fun h => (hr.1 h).2, fun h => hr.2 ⟨rfl, h⟩⟩
              clear hr
              have HL0 := HR0
              have HL1 := HR1
              have HL2 := HR2
              have HL3 := HR3
              have HL4 := HR4
              go_enter Tryz.func26, Tryz.ntmps26
              simp only [e4, e13, e23, e33, e14]
              clear e4 hT e13 e23 e33 hT3 e14 hT4
              go_wp2_with (go_at_call 67; rw [← hW1]; clear hW1; ((with_reducible refine (HQ1.out _ (HB.out.chain HX0.out)).mono ?_); rintro e w2 ⟨rfl, hb⟩); have HX2 := Lib.hid (HX0.out.chain hb); clear hb; clear cx0 cy0 cx1 cy1 cx2 cy2 cx3 cy3 cx4 cy4 cx5 cy5; obtain ⟨f2x0, f2y0, -, -, f2x2, f2y2, f2x3, f2y3, f2x4, f2y4, f2x5, f2y5⟩ := HF.out _ HX2.out)
              clear f2x0 f2y0 f2x2 f2y2 f2x3 f2y3 f2x4 f2y4 f2x5 f2y5
              go_loopg [5] n0 (fun mm j wr => ∃ k : Nat, mm = n0 - k ∧ k ≤ n0 ∧ j = .int .i64 k ∧ Hid (Below W1.heap.size W1 wr ∧ ∀ (i : Nat) x y, i < k → l0[i]? = some x → k0[i]? = some y → (fun x y => x = y) x y))
              case atStart => exact ⟨0, rfl, Nat.zero_le _, (by first | rfl | go_num), Lib.hid ⟨HX2.out, fun i x y h => absurd h (Nat.not_lt_zero _)⟩⟩
              case round =>
                obtain ⟨k, rfl, hk, rfl, HI0⟩ := hrel
                by_cases hlt : k < n0
                · have hki : (k : Int) < n0 := by omega
                  obtain ⟨x, hx⟩ : ∃ x, l0[k]? = some x := ⟨l0[k]'(by rw [← HL0.out.2.2.1]; exact hlt), List.getElem?_eq_getElem _⟩
                  obtain ⟨y, hy⟩ : ∃ y, k0[k]? = some y := ⟨k0[k]'(by rw [← HL0.out.2.2.2]; exact hlt), List.getElem?_eq_getElem _⟩
                  obtain ⟨a, cs, rfl, hab, hcs, hca, hvx⟩ := HL0.out.1 k x hx
                  obtain ⟨b, ds, rfl, hbb, hds, hcb, hvy⟩ := HL0.out.2.1 k y hy
                  obtain ⟨S, hS⟩ : ∃ S : World → Prop, S = fun W => Below wr.heap.size wr W := ⟨_, rfl⟩
                  have HS2 : Hid (∀ W, Below wr.heap.size wr W → S W) := Lib.hid (fun W hb => by rw [hS]; exact hb)
                  have HBW : Hid (∀ W, Below wr.heap.size wr W → Below w.heap.size w W) := Lib.hid (fun W hb => HB.out.chain (HI0.out.1.chain hb))
                  obtain ⟨s0, l1⟩ := x
                  obtain ⟨s0', l1'⟩ := y
                  obtain ⟨A1, c1, rfl, b1, b2, r1⟩ := hvx
                  obtain ⟨A1', c1', rfl, b1', b2', r1'⟩ := hvy
                  simp only at hca hcb b1 b2 r1 b1' b2' r1'
                  have HFX : Hid (∀ W, S W → W.cell? ⟨w.heap.size, 0, none⟩ = some (.slice (some a) n0 ca0) ∧ W.cell? ⟨w.heap.size + 1, 0, none⟩ = some (.slice (some b) n0 cb0) ∧ W.cell? (a.add (k * 2)) = some (.string ⟨s0.toArray⟩) ∧ W.cell? (b.add (k * 2)) = some (.string ⟨s0'.toArray⟩) ∧ W.cell? ⟨(a.add (k * 2)).block, (a.add (k * 2)).off + 1, none⟩ = some (.slice A1 l1.length c1) ∧ W.cell? ⟨(b.add (k * 2)).block, (b.add (k * 2)).off + 1, none⟩ = some (.slice A1' l1'.length c1')) := Lib.hid (fun W hs => by
                    rw [hS] at hs
                    have hbw := HBW.out _ hs
                    exact ⟨(HF0.out _ (HI0.out.1.chain hs)).1, (HF0.out _ (HI0.out.1.chain hs)).2, (by simpa [Addr.add] using ((fun o (v : Value) (hv : (#[.string ⟨s0.toArray⟩, .slice A1 l1.length c1] : Array Value)[o]? = some v) => (hbw.cell (p := (a.add (k * 2)).add o) (by rw [block_adds, block_adds]; exact hab)).trans (hca o v hv)) 0 _ rfl)), (by simpa [Addr.add] using ((fun o (v : Value) (hv : (#[.string ⟨s0'.toArray⟩, .slice A1' l1'.length c1'] : Array Value)[o]? = some v) => (hbw.cell (p := (b.add (k * 2)).add o) (by rw [block_adds, block_adds]; exact hbb)).trans (hcb o v hv)) 0 _ rfl)), (fun o (v : Value) (hv : (#[.string ⟨s0.toArray⟩, .slice A1 l1.length c1] : Array Value)[o]? = some v) => (hbw.cell (p := (a.add (k * 2)).add o) (by rw [block_adds, block_adds]; exact hab)).trans (hca o v hv)) 1 _ rfl, (fun o (v : Value) (hv : (#[.string ⟨s0'.toArray⟩, .slice A1' l1'.length c1'] : Array Value)[o]? = some v) => (hbw.cell (p := (b.add (k * 2)).add o) (by rw [block_adds, block_adds]; exact hbb)).trans (hcb o v hv)) 1 _ rfl⟩)
                  obtain ⟨q1, hq1⟩ := boolOf (l1 = l1')
                  have HC1 : Hid (∀ W, Below wr.heap.size wr W → Calls Tryz.prog 67 #[.slice A1 l1.length c1, .slice A1' l1'.length c1'] W fun e w' => e = .returned (.bool q1) ∧ Below W.heap.size W w') := Lib.hid (fun W hb => by
                    have hbw := HBW.out _ hb
                    exact sps_row l1 l1' A1 A1' c1 c1' W b2 b2' (r1.on pm_keeps hbw) (r1'.on pm_keeps hbw) q1 hq1)
                  have HXY := Lib.hid (And.intro hx (And.intro hy hq1))
                  have HLT := Lib.hid (And.intro trivial hlt)
                  have HX0 := Lib.hid (Below.refl wr.heap.size wr).drew
                  have hmx : Tryz.prog.follows .mixedOrders = true := by kernel_rfl
                  have hfw := HF0.out _ HI0.out.1
                  obtain ⟨hfw1, hfw2⟩ := hfw
                  clear hx hy hca hcb hcs hds hab hbb hS hq1
                  by_cases h0 : s0 = s0'
                  · subst h0
                    cases q1 with
                    | false =>
                      go_wp2
                      refine wp_region_held (S := S) hmx ?_
                      change wpAnyH _ _ _ _ _ 29 #[false, false, false, false, false, false, false, false, false, false, false, false, false, false, false, false, false, false, false, false, false, false, false, false, false, false, false, false, false] _ wr.drew
                      have g0 := HS2.out _ HX0.out
                      refine tk 0 70 (.pointer (some ⟨w.heap.size, 0, none⟩)) g0 ?v ?_
                      case v => intro Wx hSx; go_simp
                      refine tk 1 71 (.slice (some a) n0 ca0) g0 ?v ?_
                      case v => intro Wx hSx; have q0 := (HFX.out Wx hSx).1; go_simp
                      refine tk 2 72 (.int .i64 k) g0 ?v ?_
                      case v => intro Wx hSx; go_simp
                      refine tk 3 73 (.pointer (some (a.add (k * 2)))) g0 ?v ?_
                      case v => intro Wx hSx; go_simp
                      try simp only [Act.put, List.setIfInBounds_toArray, List.set_cons_zero, List.set_cons_succ]
                      refine tk 4 74 (.pointer (some (a.add (k * 2)))) g0 ?v ?_
                      case v => intro Wx hSx; go_simp
                      refine tk 5 75 (.string ⟨s0.toArray⟩) g0 ?v ?_
                      case v => intro Wx hSx; have q0 := (HFX.out Wx hSx).2.2.1; go_simp
                      refine tk 6 76 (.pointer (some ⟨w.heap.size + 1, 0, none⟩)) g0 ?v ?_
                      case v => intro Wx hSx; go_simp
                      refine tk 7 77 (.slice (some b) n0 cb0) g0 ?v ?_
                      case v => intro Wx hSx; have q0 := (HFX.out Wx hSx).2.1; go_simp
                      try simp only [Act.put, List.setIfInBounds_toArray, List.set_cons_zero, List.set_cons_succ]
                      refine tk 8 78 (.int .i64 k) g0 ?v ?_
                      case v => intro Wx hSx; go_simp
                      refine tk 9 79 (.pointer (some (b.add (k * 2)))) g0 ?v ?_
                      case v => intro Wx hSx; go_simp
                      refine tk 10 80 (.pointer (some (b.add (k * 2)))) g0 ?v ?_
                      case v => intro Wx hSx; go_simp
                      refine tk 11 81 (.string ⟨s0.toArray⟩) g0 ?v ?_
                      case v => intro Wx hSx; have q0 := (HFX.out Wx hSx).2.2.2.1; go_simp
                      try simp only [Act.put, List.setIfInBounds_toArray, List.set_cons_zero, List.set_cons_succ]
                      refine tk 12 82 (.bool false) g0 ?v ?_
                      case v => intro Wx hSx; go_simp
                      refine tk 13 83 (.bool false) g0 ?v ?_
                      case v => intro Wx hSx; go_simp
                      refine tk 14 84 (.pointer (some ⟨w.heap.size, 0, none⟩)) g0 ?v ?_
                      case v => intro Wx hSx; go_simp
                      refine tk 15 85 (.slice (some a) n0 ca0) g0 ?v ?_
                      case v => intro Wx hSx; have q0 := (HFX.out Wx hSx).1; go_simp
                      try simp only [Act.put, List.setIfInBounds_toArray, List.set_cons_zero, List.set_cons_succ]
                      refine tk 16 86 (.int .i64 k) g0 ?v ?_
                      case v => intro Wx hSx; go_simp
                      refine tk 17 87 (.pointer (some (a.add (k * 2)))) g0 ?v ?_
                      case v => intro Wx hSx; go_simp
                      refine tk 18 88 (.pointer (some ⟨(a.add (k * 2)).block, (a.add (k * 2)).off + 1, none⟩)) g0 ?v ?_
                      case v => intro Wx hSx; go_simp
                      refine tk 19 89 (.slice A1 l1.length c1) g0 ?v ?_
                      case v => intro Wx hSx; have q0 := (HFX.out Wx hSx).2.2.2.2.1; go_simp
                      try simp only [Act.put, List.setIfInBounds_toArray, List.set_cons_zero, List.set_cons_succ]
                      refine tk 20 90 (.pointer (some ⟨w.heap.size + 1, 0, none⟩)) g0 ?v ?_
                      case v => intro Wx hSx; go_simp
                      refine tk 21 91 (.slice (some b) n0 cb0) g0 ?v ?_
                      case v => intro Wx hSx; have q0 := (HFX.out Wx hSx).2.1; go_simp
                      refine tk 22 92 (.int .i64 k) g0 ?v ?_
                      case v => intro Wx hSx; go_simp
                      refine tk 23 93 (.pointer (some (b.add (k * 2)))) g0 ?v ?_
                      case v => intro Wx hSx; go_simp
                      try simp only [Act.put, List.setIfInBounds_toArray, List.set_cons_zero, List.set_cons_succ]
                      refine tk 24 94 (.pointer (some ⟨(b.add (k * 2)).block, (b.add (k * 2)).off + 1, none⟩)) g0 ?v ?_
                      case v => intro Wx hSx; go_simp
                      refine tk 25 95 (.slice A1' l1'.length c1') g0 ?v ?_
                      case v => intro Wx hSx; have q0 := (HFX.out Wx hSx).2.2.2.2.2; go_simp
                      refine o1 26 (fun K hK => ?_)
                      go_simp
                      refine (HC1.out _ HX0.out).mono ?_
                      rintro e v1 ⟨rfl, hb⟩
                      have HX1 := Lib.hid (HX0.out.chain hb)
                      clear hb
                      have g1 := HS2.out _ HX1.out
                      refine hK _ _ g1 ?_
                      clear hK K g0
                      refine tk 27 97 (.bool true) g1 ?v ?_
                      case v => intro Wx hSx; go_simp
                      try simp only [Act.put, List.setIfInBounds_toArray, List.set_cons_zero, List.set_cons_succ]
                      refine tk 28 98 (.bool true) g1 ?v ?_
                      case v => intro Wx hSx; go_simp
                      try simp only [Act.put, List.setIfInBounds_toArray, List.set_cons_zero, List.set_cons_succ]
                      refine wpAnyH_done (by kernel_rfl) ?_ _
                      go_wp2
                      go_ret
                      refine ⟨?_, HB.out.chain (HI0.out.1.chain HX1.out)⟩
                      have hrf : r = false := by
                        cases r with
                        | false => rfl
                        | true =>
                          have h2 := ((HG.out.1 rfl).1).2 k _ _ HXY.out.1 HXY.out.2.1
                          exact absurd h2 (by have h0 := HXY.out.2.2; intro h2; injection h2 with h3 h4; have h7 := h4; simp [h7] at h0)
                      rw [hrf]
                      rfl
                    | true =>
                      go_wp2
                      refine wp_region_held (S := S) hmx ?_
                      change wpAnyH _ _ _ _ _ 29 #[false, false, false, false, false, false, false, false, false, false, false, false, false, false, false, false, false, false, false, false, false, false, false, false, false, false, false, false, false] _ wr.drew
                      have g0 := HS2.out _ HX0.out
                      refine tk 0 70 (.pointer (some ⟨w.heap.size, 0, none⟩)) g0 ?v ?_
                      case v => intro Wx hSx; go_simp
                      refine tk 1 71 (.slice (some a) n0 ca0) g0 ?v ?_
                      case v => intro Wx hSx; have q0 := (HFX.out Wx hSx).1; go_simp
                      refine tk 2 72 (.int .i64 k) g0 ?v ?_
                      case v => intro Wx hSx; go_simp
                      refine tk 3 73 (.pointer (some (a.add (k * 2)))) g0 ?v ?_
                      case v => intro Wx hSx; go_simp
                      try simp only [Act.put, List.setIfInBounds_toArray, List.set_cons_zero, List.set_cons_succ]
                      refine tk 4 74 (.pointer (some (a.add (k * 2)))) g0 ?v ?_
                      case v => intro Wx hSx; go_simp
                      refine tk 5 75 (.string ⟨s0.toArray⟩) g0 ?v ?_
                      case v => intro Wx hSx; have q0 := (HFX.out Wx hSx).2.2.1; go_simp
                      refine tk 6 76 (.pointer (some ⟨w.heap.size + 1, 0, none⟩)) g0 ?v ?_
                      case v => intro Wx hSx; go_simp
                      refine tk 7 77 (.slice (some b) n0 cb0) g0 ?v ?_
                      case v => intro Wx hSx; have q0 := (HFX.out Wx hSx).2.1; go_simp
                      try simp only [Act.put, List.setIfInBounds_toArray, List.set_cons_zero, List.set_cons_succ]
                      refine tk 8 78 (.int .i64 k) g0 ?v ?_
                      case v => intro Wx hSx; go_simp
                      refine tk 9 79 (.pointer (some (b.add (k * 2)))) g0 ?v ?_
                      case v => intro Wx hSx; go_simp
                      refine tk 10 80 (.pointer (some (b.add (k * 2)))) g0 ?v ?_
                      case v => intro Wx hSx; go_simp
                      refine tk 11 81 (.string ⟨s0.toArray⟩) g0 ?v ?_
                      case v => intro Wx hSx; have q0 := (HFX.out Wx hSx).2.2.2.1; go_simp
                      try simp only [Act.put, List.setIfInBounds_toArray, List.set_cons_zero, List.set_cons_succ]
                      refine tk 12 82 (.bool false) g0 ?v ?_
                      case v => intro Wx hSx; go_simp
                      refine tk 13 83 (.bool false) g0 ?v ?_
                      case v => intro Wx hSx; go_simp
                      refine tk 14 84 (.pointer (some ⟨w.heap.size, 0, none⟩)) g0 ?v ?_
                      case v => intro Wx hSx; go_simp
                      refine tk 15 85 (.slice (some a) n0 ca0) g0 ?v ?_
                      case v => intro Wx hSx; have q0 := (HFX.out Wx hSx).1; go_simp
                      try simp only [Act.put, List.setIfInBounds_toArray, List.set_cons_zero, List.set_cons_succ]
                      refine tk 16 86 (.int .i64 k) g0 ?v ?_
                      case v => intro Wx hSx; go_simp
                      refine tk 17 87 (.pointer (some (a.add (k * 2)))) g0 ?v ?_
                      case v => intro Wx hSx; go_simp
                      refine tk 18 88 (.pointer (some ⟨(a.add (k * 2)).block, (a.add (k * 2)).off + 1, none⟩)) g0 ?v ?_
                      case v => intro Wx hSx; go_simp
                      refine tk 19 89 (.slice A1 l1.length c1) g0 ?v ?_
                      case v => intro Wx hSx; have q0 := (HFX.out Wx hSx).2.2.2.2.1; go_simp
                      try simp only [Act.put, List.setIfInBounds_toArray, List.set_cons_zero, List.set_cons_succ]
                      refine tk 20 90 (.pointer (some ⟨w.heap.size + 1, 0, none⟩)) g0 ?v ?_
                      case v => intro Wx hSx; go_simp
                      refine tk 21 91 (.slice (some b) n0 cb0) g0 ?v ?_
                      case v => intro Wx hSx; have q0 := (HFX.out Wx hSx).2.1; go_simp
                      refine tk 22 92 (.int .i64 k) g0 ?v ?_
                      case v => intro Wx hSx; go_simp
                      refine tk 23 93 (.pointer (some (b.add (k * 2)))) g0 ?v ?_
                      case v => intro Wx hSx; go_simp
                      try simp only [Act.put, List.setIfInBounds_toArray, List.set_cons_zero, List.set_cons_succ]
                      refine tk 24 94 (.pointer (some ⟨(b.add (k * 2)).block, (b.add (k * 2)).off + 1, none⟩)) g0 ?v ?_
                      case v => intro Wx hSx; go_simp
                      refine tk 25 95 (.slice A1' l1'.length c1') g0 ?v ?_
                      case v => intro Wx hSx; have q0 := (HFX.out Wx hSx).2.2.2.2.2; go_simp
                      refine o1 26 (fun K hK => ?_)
                      go_simp
                      refine (HC1.out _ HX0.out).mono ?_
                      rintro e v1 ⟨rfl, hb⟩
                      have HX1 := Lib.hid (HX0.out.chain hb)
                      clear hb
                      have g1 := HS2.out _ HX1.out
                      refine hK _ _ g1 ?_
                      clear hK K g0
                      refine tk 27 97 (.bool false) g1 ?v ?_
                      case v => intro Wx hSx; go_simp
                      try simp only [Act.put, List.setIfInBounds_toArray, List.set_cons_zero, List.set_cons_succ]
                      refine tk 28 98 (.bool false) g1 ?v ?_
                      case v => intro Wx hSx; go_simp
                      try simp only [Act.put, List.setIfInBounds_toArray, List.set_cons_zero, List.set_cons_succ]
                      refine wpAnyH_done (by kernel_rfl) ?_ _
                      go_wp2
                      go_roundg (n0 - (k + 1))
                      case measure => have := HLT.out.2; omega
                      case rel =>
                        refine ⟨k + 1, rfl, (by have := HLT.out.2; omega), by go_num, Lib.hid ⟨HI0.out.1.chain HX1.out, fun i x' y' hi hx' hy' => ?_⟩⟩
                        by_cases h : i = k
                        · subst h
                          obtain rfl := Option.some.inj (HXY.out.1.symm.trans hx')
                          obtain rfl := Option.some.inj (HXY.out.2.1.symm.trans hy')
                          have h7 := HXY.out.2.2.1 (by first | exact rfl | exact trivial); show (_ = _); rw [h7]
                        · exact HI0.out.2 i x' y' (by omega) hx' hy'
                  · have HNE := Lib.hid h0
                    have hs0 : (s0 == s0') = false := by simpa using h0
                    go_wp2
                    refine wp_region_held (S := S) hmx ?_
                    change wpAnyH _ _ _ _ _ 29 #[false, false, false, false, false, false, false, false, false, false, false, false, false, false, false, false, false, false, false, false, false, false, false, false, false, false, false, false, false] _ wr.drew
                    have g0 := HS2.out _ HX0.out
                    refine tk 0 70 (.pointer (some ⟨w.heap.size, 0, none⟩)) g0 ?v ?_
                    case v => intro Wx hSx; go_simp
                    refine tk 1 71 (.slice (some a) n0 ca0) g0 ?v ?_
                    case v => intro Wx hSx; have q0 := (HFX.out Wx hSx).1; go_simp
                    refine tk 2 72 (.int .i64 k) g0 ?v ?_
                    case v => intro Wx hSx; go_simp
                    refine tk 3 73 (.pointer (some (a.add (k * 2)))) g0 ?v ?_
                    case v => intro Wx hSx; go_simp
                    try simp only [Act.put, List.setIfInBounds_toArray, List.set_cons_zero, List.set_cons_succ]
                    refine tk 4 74 (.pointer (some (a.add (k * 2)))) g0 ?v ?_
                    case v => intro Wx hSx; go_simp
                    refine tk 5 75 (.string ⟨s0.toArray⟩) g0 ?v ?_
                    case v => intro Wx hSx; have q0 := (HFX.out Wx hSx).2.2.1; go_simp
                    refine tk 6 76 (.pointer (some ⟨w.heap.size + 1, 0, none⟩)) g0 ?v ?_
                    case v => intro Wx hSx; go_simp
                    refine tk 7 77 (.slice (some b) n0 cb0) g0 ?v ?_
                    case v => intro Wx hSx; have q0 := (HFX.out Wx hSx).2.1; go_simp
                    try simp only [Act.put, List.setIfInBounds_toArray, List.set_cons_zero, List.set_cons_succ]
                    refine tk 8 78 (.int .i64 k) g0 ?v ?_
                    case v => intro Wx hSx; go_simp
                    refine tk 9 79 (.pointer (some (b.add (k * 2)))) g0 ?v ?_
                    case v => intro Wx hSx; go_simp
                    refine tk 10 80 (.pointer (some (b.add (k * 2)))) g0 ?v ?_
                    case v => intro Wx hSx; go_simp
                    refine tk 11 81 (.string ⟨s0'.toArray⟩) g0 ?v ?_
                    case v => intro Wx hSx; have q0 := (HFX.out Wx hSx).2.2.2.1; go_simp
                    try simp only [Act.put, List.setIfInBounds_toArray, List.set_cons_zero, List.set_cons_succ]
                    refine tk 12 82 (.bool true) g0 ?v ?_
                    case v => intro Wx hSx; go_simp
                    refine tk 13 83 (.bool true) g0 ?v ?_
                    case v => intro Wx hSx; go_simp
                    refine sk 14 84 g0 ?_
                    refine sk 15 85 g0 ?_
                    try simp only [Act.put, List.setIfInBounds_toArray, List.set_cons_zero, List.set_cons_succ]
                    refine sk 16 86 g0 ?_
                    refine sk 17 87 g0 ?_
                    refine sk 18 88 g0 ?_
                    refine sk 19 89 g0 ?_
                    try simp only [Act.put, List.setIfInBounds_toArray, List.set_cons_zero, List.set_cons_succ]
                    refine sk 20 90 g0 ?_
                    refine sk 21 91 g0 ?_
                    refine sk 22 92 g0 ?_
                    refine sk 23 93 g0 ?_
                    try simp only [Act.put, List.setIfInBounds_toArray, List.set_cons_zero, List.set_cons_succ]
                    refine sk 24 94 g0 ?_
                    refine sk 25 95 g0 ?_
                    refine sk 26 96 g0 ?_
                    refine sk 27 97 g0 ?_
                    try simp only [Act.put, List.setIfInBounds_toArray, List.set_cons_zero, List.set_cons_succ]
                    refine tk 28 98 (.bool true) g0 ?v ?_
                    case v => intro Wx hSx; go_simp
                    try simp only [Act.put, List.setIfInBounds_toArray, List.set_cons_zero, List.set_cons_succ]
                    refine wpAnyH_done (by kernel_rfl) ?_ _
                    go_wp2
                    go_ret
                    refine ⟨?_, HB.out.chain (HI0.out.1.chain HX0.out)⟩
                    have hrf : r = false := by
                      cases r with
                      | false => rfl
                      | true =>
                        have h2 := ((HG.out.1 rfl).1).2 k _ _ HXY.out.1 HXY.out.2.1
                        exact absurd h2 (by intro h2; injection h2 with h3 h4; exact HNE.out h3)
                    rw [hrf]
                    rfl
                · obtain rfl : k = n0 := by omega
                  obtain ⟨hfw1, hfw2⟩ := HF0.out _ HI0.out.1
                  have HA0 : Hid (All2 (fun x y => x = y) l0 k0) := Lib.hid ⟨HL0.out.2.2.1.symm.trans HL0.out.2.2.2, fun i x y hx hy => HI0.out.2 i x y (by have h1 := (List.getElem?_eq_some_iff.1 hx).1; have h2 := HL0.out.2.2.1; omega) hx hy⟩
                  have HI0P := Lib.hid HI0.out.1
                  go_wp2
                  clear hfw1 hfw2
                  go_loopg [6] n1 (fun mm j wr => ∃ k : Nat, mm = n1 - k ∧ k ≤ n1 ∧ j = .int .i64 k ∧ Hid (Below W1.heap.size W1 wr ∧ ∀ (i : Nat) x y, i < k → l1[i]? = some x → k1[i]? = some y → (fun x y => x = y) x y))
                  case atStart => exact ⟨0, rfl, Nat.zero_le _, (by first | rfl | go_num), Lib.hid ⟨HI0P.out, fun i x y h => absurd h (Nat.not_lt_zero _)⟩⟩
                  case round =>
                    obtain ⟨k, rfl, hk, rfl, HI1⟩ := hrel
                    by_cases hlt : k < n1
                    · have hki : (k : Int) < n1 := by omega
                      obtain ⟨x, hx⟩ : ∃ x, l1[k]? = some x := ⟨l1[k]'(by rw [← HL1.out.2.2.1]; exact hlt), List.getElem?_eq_getElem _⟩
                      obtain ⟨y, hy⟩ : ∃ y, k1[k]? = some y := ⟨k1[k]'(by rw [← HL1.out.2.2.2]; exact hlt), List.getElem?_eq_getElem _⟩
                      obtain ⟨a, cs, rfl, hab, hcs, hca, hvx⟩ := HL1.out.1 k x hx
                      obtain ⟨b, ds, rfl, hbb, hds, hcb, hvy⟩ := HL1.out.2.1 k y hy
                      obtain ⟨S, hS⟩ : ∃ S : World → Prop, S = fun W => Below wr.heap.size wr W := ⟨_, rfl⟩
                      have HS2 : Hid (∀ W, Below wr.heap.size wr W → S W) := Lib.hid (fun W hb => by rw [hS]; exact hb)
                      have HBW : Hid (∀ W, Below wr.heap.size wr W → Below w.heap.size w W) := Lib.hid (fun W hb => HB.out.chain (HI1.out.1.chain hb))
                      obtain ⟨s0, l1⟩ := x
                      obtain ⟨s0', l1'⟩ := y
                      obtain ⟨A1, c1, rfl, b1, b2, r1⟩ := hvx
                      obtain ⟨A1', c1', rfl, b1', b2', r1'⟩ := hvy
                      simp only at hca hcb b1 b2 r1 b1' b2' r1'
                      have HFX : Hid (∀ W, S W → W.cell? ⟨w.heap.size, 2, none⟩ = some (.slice (some a) n1 ca1) ∧ W.cell? ⟨w.heap.size + 1, 2, none⟩ = some (.slice (some b) n1 cb1) ∧ W.cell? (a.add (k * 2)) = some (.string ⟨s0.toArray⟩) ∧ W.cell? (b.add (k * 2)) = some (.string ⟨s0'.toArray⟩) ∧ W.cell? ⟨(a.add (k * 2)).block, (a.add (k * 2)).off + 1, none⟩ = some (.slice A1 l1.length c1) ∧ W.cell? ⟨(b.add (k * 2)).block, (b.add (k * 2)).off + 1, none⟩ = some (.slice A1' l1'.length c1')) := Lib.hid (fun W hs => by
                        rw [hS] at hs
                        have hbw := HBW.out _ hs
                        exact ⟨(HF1.out _ (HI1.out.1.chain hs)).1, (HF1.out _ (HI1.out.1.chain hs)).2, (by simpa [Addr.add] using ((fun o (v : Value) (hv : (#[.string ⟨s0.toArray⟩, .slice A1 l1.length c1] : Array Value)[o]? = some v) => (hbw.cell (p := (a.add (k * 2)).add o) (by rw [block_adds, block_adds]; exact hab)).trans (hca o v hv)) 0 _ rfl)), (by simpa [Addr.add] using ((fun o (v : Value) (hv : (#[.string ⟨s0'.toArray⟩, .slice A1' l1'.length c1'] : Array Value)[o]? = some v) => (hbw.cell (p := (b.add (k * 2)).add o) (by rw [block_adds, block_adds]; exact hbb)).trans (hcb o v hv)) 0 _ rfl)), (fun o (v : Value) (hv : (#[.string ⟨s0.toArray⟩, .slice A1 l1.length c1] : Array Value)[o]? = some v) => (hbw.cell (p := (a.add (k * 2)).add o) (by rw [block_adds, block_adds]; exact hab)).trans (hca o v hv)) 1 _ rfl, (fun o (v : Value) (hv : (#[.string ⟨s0'.toArray⟩, .slice A1' l1'.length c1'] : Array Value)[o]? = some v) => (hbw.cell (p := (b.add (k * 2)).add o) (by rw [block_adds, block_adds]; exact hbb)).trans (hcb o v hv)) 1 _ rfl⟩)
                      obtain ⟨q1, hq1⟩ := boolOf (l1 = l1')
                      have HC1 : Hid (∀ W, Below wr.heap.size wr W → Calls Tryz.prog 68 #[.slice A1 l1.length c1, .slice A1' l1'.length c1'] W fun e w' => e = .returned (.bool q1) ∧ Below W.heap.size W w') := Lib.hid (fun W hb => by
                        have hbw := HBW.out _ hb
                        exact sfs_row l1 l1' A1 A1' c1 c1' W b2 b2' (r1.on fm_keeps hbw) (r1'.on fm_keeps hbw) q1 hq1)
                      have HXY := Lib.hid (And.intro hx (And.intro hy hq1))
                      have HLT := Lib.hid (And.intro trivial hlt)
                      have HX0 := Lib.hid (Below.refl wr.heap.size wr).drew
                      have hmx : Tryz.prog.follows .mixedOrders = true := by kernel_rfl
                      have hfw := HF1.out _ HI1.out.1
                      obtain ⟨hfw1, hfw2⟩ := hfw
                      clear hx hy hca hcb hcs hds hab hbb hS hq1
                      by_cases h0 : s0 = s0'
                      · subst h0
                        cases q1 with
                        | false =>
                          go_wp2
                          refine wp_region_held (S := S) hmx ?_
                          change wpAnyH _ _ _ _ _ 29 #[false, false, false, false, false, false, false, false, false, false, false, false, false, false, false, false, false, false, false, false, false, false, false, false, false, false, false, false, false] _ wr.drew
                          have g0 := HS2.out _ HX0.out
                          refine tk 0 106 (.pointer (some ⟨w.heap.size, 2, none⟩)) g0 ?v ?_
                          case v => intro Wx hSx; go_simp
                          refine tk 1 107 (.slice (some a) n1 ca1) g0 ?v ?_
                          case v => intro Wx hSx; have q0 := (HFX.out Wx hSx).1; go_simp
                          refine tk 2 108 (.int .i64 k) g0 ?v ?_
                          case v => intro Wx hSx; go_simp
                          refine tk 3 109 (.pointer (some (a.add (k * 2)))) g0 ?v ?_
                          case v => intro Wx hSx; go_simp
                          try simp only [Act.put, List.setIfInBounds_toArray, List.set_cons_zero, List.set_cons_succ]
                          refine tk 4 110 (.pointer (some (a.add (k * 2)))) g0 ?v ?_
                          case v => intro Wx hSx; go_simp
                          refine tk 5 111 (.string ⟨s0.toArray⟩) g0 ?v ?_
                          case v => intro Wx hSx; have q0 := (HFX.out Wx hSx).2.2.1; go_simp
                          refine tk 6 112 (.pointer (some ⟨w.heap.size + 1, 2, none⟩)) g0 ?v ?_
                          case v => intro Wx hSx; go_simp
                          refine tk 7 113 (.slice (some b) n1 cb1) g0 ?v ?_
                          case v => intro Wx hSx; have q0 := (HFX.out Wx hSx).2.1; go_simp
                          try simp only [Act.put, List.setIfInBounds_toArray, List.set_cons_zero, List.set_cons_succ]
                          refine tk 8 114 (.int .i64 k) g0 ?v ?_
                          case v => intro Wx hSx; go_simp
                          refine tk 9 115 (.pointer (some (b.add (k * 2)))) g0 ?v ?_
                          case v => intro Wx hSx; go_simp
                          refine tk 10 116 (.pointer (some (b.add (k * 2)))) g0 ?v ?_
                          case v => intro Wx hSx; go_simp
                          refine tk 11 117 (.string ⟨s0.toArray⟩) g0 ?v ?_
                          case v => intro Wx hSx; have q0 := (HFX.out Wx hSx).2.2.2.1; go_simp
                          try simp only [Act.put, List.setIfInBounds_toArray, List.set_cons_zero, List.set_cons_succ]
                          refine tk 12 118 (.bool false) g0 ?v ?_
                          case v => intro Wx hSx; go_simp
                          refine tk 13 119 (.bool false) g0 ?v ?_
                          case v => intro Wx hSx; go_simp
                          refine tk 14 120 (.pointer (some ⟨w.heap.size, 2, none⟩)) g0 ?v ?_
                          case v => intro Wx hSx; go_simp
                          refine tk 15 121 (.slice (some a) n1 ca1) g0 ?v ?_
                          case v => intro Wx hSx; have q0 := (HFX.out Wx hSx).1; go_simp
                          try simp only [Act.put, List.setIfInBounds_toArray, List.set_cons_zero, List.set_cons_succ]
                          refine tk 16 122 (.int .i64 k) g0 ?v ?_
                          case v => intro Wx hSx; go_simp
                          refine tk 17 123 (.pointer (some (a.add (k * 2)))) g0 ?v ?_
                          case v => intro Wx hSx; go_simp
                          refine tk 18 124 (.pointer (some ⟨(a.add (k * 2)).block, (a.add (k * 2)).off + 1, none⟩)) g0 ?v ?_
                          case v => intro Wx hSx; go_simp
                          refine tk 19 125 (.slice A1 l1.length c1) g0 ?v ?_
                          case v => intro Wx hSx; have q0 := (HFX.out Wx hSx).2.2.2.2.1; go_simp
                          try simp only [Act.put, List.setIfInBounds_toArray, List.set_cons_zero, List.set_cons_succ]
                          refine tk 20 126 (.pointer (some ⟨w.heap.size + 1, 2, none⟩)) g0 ?v ?_
                          case v => intro Wx hSx; go_simp
                          refine tk 21 127 (.slice (some b) n1 cb1) g0 ?v ?_
                          case v => intro Wx hSx; have q0 := (HFX.out Wx hSx).2.1; go_simp
                          refine tk 22 128 (.int .i64 k) g0 ?v ?_
                          case v => intro Wx hSx; go_simp
                          refine tk 23 129 (.pointer (some (b.add (k * 2)))) g0 ?v ?_
                          case v => intro Wx hSx; go_simp
                          try simp only [Act.put, List.setIfInBounds_toArray, List.set_cons_zero, List.set_cons_succ]
                          refine tk 24 130 (.pointer (some ⟨(b.add (k * 2)).block, (b.add (k * 2)).off + 1, none⟩)) g0 ?v ?_
                          case v => intro Wx hSx; go_simp
                          refine tk 25 131 (.slice A1' l1'.length c1') g0 ?v ?_
                          case v => intro Wx hSx; have q0 := (HFX.out Wx hSx).2.2.2.2.2; go_simp
                          refine o1 26 (fun K hK => ?_)
                          go_simp
                          refine (HC1.out _ HX0.out).mono ?_
                          rintro e v1 ⟨rfl, hb⟩
                          have HX1 := Lib.hid (HX0.out.chain hb)
                          clear hb
                          have g1 := HS2.out _ HX1.out
                          refine hK _ _ g1 ?_
                          clear hK K g0
                          refine tk 27 133 (.bool true) g1 ?v ?_
                          case v => intro Wx hSx; go_simp
                          try simp only [Act.put, List.setIfInBounds_toArray, List.set_cons_zero, List.set_cons_succ]
                          refine tk 28 134 (.bool true) g1 ?v ?_
                          case v => intro Wx hSx; go_simp
                          try simp only [Act.put, List.setIfInBounds_toArray, List.set_cons_zero, List.set_cons_succ]
                          refine wpAnyH_done (by kernel_rfl) ?_ _
                          go_wp2
                          go_ret
                          refine ⟨?_, HB.out.chain (HI1.out.1.chain HX1.out)⟩
                          have hrf : r = false := by
                            cases r with
                            | false => rfl
                            | true =>
                              have h2 := ((HG.out.1 rfl).2.1).2 k _ _ HXY.out.1 HXY.out.2.1
                              exact absurd h2 (by have h0 := HXY.out.2.2; intro h2; injection h2 with h3 h4; have h7 := h4; simp [h7] at h0)
                          rw [hrf]
                          rfl
                        | true =>
                          go_wp2
                          refine wp_region_held (S := S) hmx ?_
                          change wpAnyH _ _ _ _ _ 29 #[false, false, false, false, false, false, false, false, false, false, false, false, false, false, false, false, false, false, false, false, false, false, false, false, false, false, false, false, false] _ wr.drew
                          have g0 := HS2.out _ HX0.out
                          refine tk 0 106 (.pointer (some ⟨w.heap.size, 2, none⟩)) g0 ?v ?_
                          case v => intro Wx hSx; go_simp
                          refine tk 1 107 (.slice (some a) n1 ca1) g0 ?v ?_
                          case v => intro Wx hSx; have q0 := (HFX.out Wx hSx).1; go_simp
                          refine tk 2 108 (.int .i64 k) g0 ?v ?_
                          case v => intro Wx hSx; go_simp
                          refine tk 3 109 (.pointer (some (a.add (k * 2)))) g0 ?v ?_
                          case v => intro Wx hSx; go_simp
                          try simp only [Act.put, List.setIfInBounds_toArray, List.set_cons_zero, List.set_cons_succ]
                          refine tk 4 110 (.pointer (some (a.add (k * 2)))) g0 ?v ?_
                          case v => intro Wx hSx; go_simp
                          refine tk 5 111 (.string ⟨s0.toArray⟩) g0 ?v ?_
                          case v => intro Wx hSx; have q0 := (HFX.out Wx hSx).2.2.1; go_simp
                          refine tk 6 112 (.pointer (some ⟨w.heap.size + 1, 2, none⟩)) g0 ?v ?_
                          case v => intro Wx hSx; go_simp
                          refine tk 7 113 (.slice (some b) n1 cb1) g0 ?v ?_
                          case v => intro Wx hSx; have q0 := (HFX.out Wx hSx).2.1; go_simp
                          try simp only [Act.put, List.setIfInBounds_toArray, List.set_cons_zero, List.set_cons_succ]
                          refine tk 8 114 (.int .i64 k) g0 ?v ?_
                          case v => intro Wx hSx; go_simp
                          refine tk 9 115 (.pointer (some (b.add (k * 2)))) g0 ?v ?_
                          case v => intro Wx hSx; go_simp
                          refine tk 10 116 (.pointer (some (b.add (k * 2)))) g0 ?v ?_
                          case v => intro Wx hSx; go_simp
                          refine tk 11 117 (.string ⟨s0.toArray⟩) g0 ?v ?_
                          case v => intro Wx hSx; have q0 := (HFX.out Wx hSx).2.2.2.1; go_simp
                          try simp only [Act.put, List.setIfInBounds_toArray, List.set_cons_zero, List.set_cons_succ]
                          refine tk 12 118 (.bool false) g0 ?v ?_
                          case v => intro Wx hSx; go_simp
                          refine tk 13 119 (.bool false) g0 ?v ?_
                          case v => intro Wx hSx; go_simp
                          refine tk 14 120 (.pointer (some ⟨w.heap.size, 2, none⟩)) g0 ?v ?_
                          case v => intro Wx hSx; go_simp
                          refine tk 15 121 (.slice (some a) n1 ca1) g0 ?v ?_
                          case v => intro Wx hSx; have q0 := (HFX.out Wx hSx).1; go_simp
                          try simp only [Act.put, List.setIfInBounds_toArray, List.set_cons_zero, List.set_cons_succ]
                          refine tk 16 122 (.int .i64 k) g0 ?v ?_
                          case v => intro Wx hSx; go_simp
                          refine tk 17 123 (.pointer (some (a.add (k * 2)))) g0 ?v ?_
                          case v => intro Wx hSx; go_simp
                          refine tk 18 124 (.pointer (some ⟨(a.add (k * 2)).block, (a.add (k * 2)).off + 1, none⟩)) g0 ?v ?_
                          case v => intro Wx hSx; go_simp
                          refine tk 19 125 (.slice A1 l1.length c1) g0 ?v ?_
                          case v => intro Wx hSx; have q0 := (HFX.out Wx hSx).2.2.2.2.1; go_simp
                          try simp only [Act.put, List.setIfInBounds_toArray, List.set_cons_zero, List.set_cons_succ]
                          refine tk 20 126 (.pointer (some ⟨w.heap.size + 1, 2, none⟩)) g0 ?v ?_
                          case v => intro Wx hSx; go_simp
                          refine tk 21 127 (.slice (some b) n1 cb1) g0 ?v ?_
                          case v => intro Wx hSx; have q0 := (HFX.out Wx hSx).2.1; go_simp
                          refine tk 22 128 (.int .i64 k) g0 ?v ?_
                          case v => intro Wx hSx; go_simp
                          refine tk 23 129 (.pointer (some (b.add (k * 2)))) g0 ?v ?_
                          case v => intro Wx hSx; go_simp
                          try simp only [Act.put, List.setIfInBounds_toArray, List.set_cons_zero, List.set_cons_succ]
                          refine tk 24 130 (.pointer (some ⟨(b.add (k * 2)).block, (b.add (k * 2)).off + 1, none⟩)) g0 ?v ?_
                          case v => intro Wx hSx; go_simp
                          refine tk 25 131 (.slice A1' l1'.length c1') g0 ?v ?_
                          case v => intro Wx hSx; have q0 := (HFX.out Wx hSx).2.2.2.2.2; go_simp
                          refine o1 26 (fun K hK => ?_)
                          go_simp
                          refine (HC1.out _ HX0.out).mono ?_
                          rintro e v1 ⟨rfl, hb⟩
                          have HX1 := Lib.hid (HX0.out.chain hb)
                          clear hb
                          have g1 := HS2.out _ HX1.out
                          refine hK _ _ g1 ?_
                          clear hK K g0
                          refine tk 27 133 (.bool false) g1 ?v ?_
                          case v => intro Wx hSx; go_simp
                          try simp only [Act.put, List.setIfInBounds_toArray, List.set_cons_zero, List.set_cons_succ]
                          refine tk 28 134 (.bool false) g1 ?v ?_
                          case v => intro Wx hSx; go_simp
                          try simp only [Act.put, List.setIfInBounds_toArray, List.set_cons_zero, List.set_cons_succ]
                          refine wpAnyH_done (by kernel_rfl) ?_ _
                          go_wp2
                          go_roundg (n1 - (k + 1))
                          case measure => have := HLT.out.2; omega
                          case rel =>
                            refine ⟨k + 1, rfl, (by have := HLT.out.2; omega), by go_num, Lib.hid ⟨HI1.out.1.chain HX1.out, fun i x' y' hi hx' hy' => ?_⟩⟩
                            by_cases h : i = k
                            · subst h
                              obtain rfl := Option.some.inj (HXY.out.1.symm.trans hx')
                              obtain rfl := Option.some.inj (HXY.out.2.1.symm.trans hy')
                              have h7 := HXY.out.2.2.1 (by first | exact rfl | exact trivial); show (_ = _); rw [h7]
                            · exact HI1.out.2 i x' y' (by omega) hx' hy'
                      · have HNE := Lib.hid h0
                        have hs0 : (s0 == s0') = false := by simpa using h0
                        go_wp2
                        refine wp_region_held (S := S) hmx ?_
                        change wpAnyH _ _ _ _ _ 29 #[false, false, false, false, false, false, false, false, false, false, false, false, false, false, false, false, false, false, false, false, false, false, false, false, false, false, false, false, false] _ wr.drew
                        have g0 := HS2.out _ HX0.out
                        refine tk 0 106 (.pointer (some ⟨w.heap.size, 2, none⟩)) g0 ?v ?_
                        case v => intro Wx hSx; go_simp
                        refine tk 1 107 (.slice (some a) n1 ca1) g0 ?v ?_
                        case v => intro Wx hSx; have q0 := (HFX.out Wx hSx).1; go_simp
                        refine tk 2 108 (.int .i64 k) g0 ?v ?_
                        case v => intro Wx hSx; go_simp
                        refine tk 3 109 (.pointer (some (a.add (k * 2)))) g0 ?v ?_
                        case v => intro Wx hSx; go_simp
                        try simp only [Act.put, List.setIfInBounds_toArray, List.set_cons_zero, List.set_cons_succ]
                        refine tk 4 110 (.pointer (some (a.add (k * 2)))) g0 ?v ?_
                        case v => intro Wx hSx; go_simp
                        refine tk 5 111 (.string ⟨s0.toArray⟩) g0 ?v ?_
                        case v => intro Wx hSx; have q0 := (HFX.out Wx hSx).2.2.1; go_simp
                        refine tk 6 112 (.pointer (some ⟨w.heap.size + 1, 2, none⟩)) g0 ?v ?_
                        case v => intro Wx hSx; go_simp
                        refine tk 7 113 (.slice (some b) n1 cb1) g0 ?v ?_
                        case v => intro Wx hSx; have q0 := (HFX.out Wx hSx).2.1; go_simp
                        try simp only [Act.put, List.setIfInBounds_toArray, List.set_cons_zero, List.set_cons_succ]
                        refine tk 8 114 (.int .i64 k) g0 ?v ?_
                        case v => intro Wx hSx; go_simp
                        refine tk 9 115 (.pointer (some (b.add (k * 2)))) g0 ?v ?_
                        case v => intro Wx hSx; go_simp
                        refine tk 10 116 (.pointer (some (b.add (k * 2)))) g0 ?v ?_
                        case v => intro Wx hSx; go_simp
                        refine tk 11 117 (.string ⟨s0'.toArray⟩) g0 ?v ?_
                        case v => intro Wx hSx; have q0 := (HFX.out Wx hSx).2.2.2.1; go_simp
                        try simp only [Act.put, List.setIfInBounds_toArray, List.set_cons_zero, List.set_cons_succ]
                        refine tk 12 118 (.bool true) g0 ?v ?_
                        case v => intro Wx hSx; go_simp
                        refine tk 13 119 (.bool true) g0 ?v ?_
                        case v => intro Wx hSx; go_simp
                        refine sk 14 120 g0 ?_
                        refine sk 15 121 g0 ?_
                        try simp only [Act.put, List.setIfInBounds_toArray, List.set_cons_zero, List.set_cons_succ]
                        refine sk 16 122 g0 ?_
                        refine sk 17 123 g0 ?_
                        refine sk 18 124 g0 ?_
                        refine sk 19 125 g0 ?_
                        try simp only [Act.put, List.setIfInBounds_toArray, List.set_cons_zero, List.set_cons_succ]
                        refine sk 20 126 g0 ?_
                        refine sk 21 127 g0 ?_
                        refine sk 22 128 g0 ?_
                        refine sk 23 129 g0 ?_
                        try simp only [Act.put, List.setIfInBounds_toArray, List.set_cons_zero, List.set_cons_succ]
                        refine sk 24 130 g0 ?_
                        refine sk 25 131 g0 ?_
                        refine sk 26 132 g0 ?_
                        refine sk 27 133 g0 ?_
                        try simp only [Act.put, List.setIfInBounds_toArray, List.set_cons_zero, List.set_cons_succ]
                        refine tk 28 134 (.bool true) g0 ?v ?_
                        case v => intro Wx hSx; go_simp
                        try simp only [Act.put, List.setIfInBounds_toArray, List.set_cons_zero, List.set_cons_succ]
                        refine wpAnyH_done (by kernel_rfl) ?_ _
                        go_wp2
                        go_ret
                        refine ⟨?_, HB.out.chain (HI1.out.1.chain HX0.out)⟩
                        have hrf : r = false := by
                          cases r with
                          | false => rfl
                          | true =>
                            have h2 := ((HG.out.1 rfl).2.1).2 k _ _ HXY.out.1 HXY.out.2.1
                            exact absurd h2 (by intro h2; injection h2 with h3 h4; exact HNE.out h3)
                        rw [hrf]
                        rfl
                    · obtain rfl : k = n1 := by omega
                      obtain ⟨hfw1, hfw2⟩ := HF1.out _ HI1.out.1
                      have HA1 : Hid (All2 (fun x y => x = y) l1 k1) := Lib.hid ⟨HL1.out.2.2.1.symm.trans HL1.out.2.2.2, fun i x y hx hy => HI1.out.2 i x y (by have h1 := (List.getElem?_eq_some_iff.1 hx).1; have h2 := HL1.out.2.2.1; omega) hx hy⟩
                      have HI1P := Lib.hid HI1.out.1
                      go_wp2
                      clear hfw1 hfw2
                      go_loopg [7] n2 (fun mm j wr => ∃ k : Nat, mm = n2 - k ∧ k ≤ n2 ∧ j = .int .i64 k ∧ Hid (Below W1.heap.size W1 wr ∧ ∀ (i : Nat) x y, i < k → l2[i]? = some x → k2[i]? = some y → (fun x y => x = y) x y))
                      case atStart => exact ⟨0, rfl, Nat.zero_le _, (by first | rfl | go_num), Lib.hid ⟨HI1P.out, fun i x y h => absurd h (Nat.not_lt_zero _)⟩⟩
                      case round =>
                        obtain ⟨k, rfl, hk, rfl, HI2⟩ := hrel
                        by_cases hlt : k < n2
                        · have hki : (k : Int) < n2 := by omega
                          obtain ⟨x, hx⟩ : ∃ x, l2[k]? = some x := ⟨l2[k]'(by rw [← HL2.out.2.2.1]; exact hlt), List.getElem?_eq_getElem _⟩
                          obtain ⟨y, hy⟩ : ∃ y, k2[k]? = some y := ⟨k2[k]'(by rw [← HL2.out.2.2.2]; exact hlt), List.getElem?_eq_getElem _⟩
                          obtain ⟨a, cs, rfl, hab, hcs, hca, hvx⟩ := HL2.out.1 k x hx
                          obtain ⟨b, ds, rfl, hbb, hds, hcb, hvy⟩ := HL2.out.2.1 k y hy
                          obtain ⟨S, hS⟩ : ∃ S : World → Prop, S = fun W => Below wr.heap.size wr W := ⟨_, rfl⟩
                          have HS2 : Hid (∀ W, Below wr.heap.size wr W → S W) := Lib.hid (fun W hb => by rw [hS]; exact hb)
                          have HBW : Hid (∀ W, Below wr.heap.size wr W → Below w.heap.size w W) := Lib.hid (fun W hb => HB.out.chain (HI2.out.1.chain hb))
                          obtain ⟨s0, l1, l2⟩ := x
                          obtain ⟨s0', l1', l2'⟩ := y
                          obtain ⟨A1, c1, A2, c2, rfl, b1, b2, b3, r1, r2⟩ := hvx
                          obtain ⟨A1', c1', A2', c2', rfl, b1', b2', b3', r1', r2'⟩ := hvy
                          simp only at hca hcb b1 b2 b3 r1 r2 b1' b2' b3' r1' r2'
                          have HFX : Hid (∀ W, S W → W.cell? ⟨w.heap.size, 3, none⟩ = some (.slice (some a) n2 ca2) ∧ W.cell? ⟨w.heap.size + 1, 3, none⟩ = some (.slice (some b) n2 cb2) ∧ W.cell? (a.add (k * 3)) = some (.string ⟨s0.toArray⟩) ∧ W.cell? (b.add (k * 3)) = some (.string ⟨s0'.toArray⟩) ∧ W.cell? ⟨(a.add (k * 3)).block, (a.add (k * 3)).off + 1, none⟩ = some (.slice A1 l1.length c1) ∧ W.cell? ⟨(b.add (k * 3)).block, (b.add (k * 3)).off + 1, none⟩ = some (.slice A1' l1'.length c1') ∧ W.cell? ⟨(a.add (k * 3)).block, (a.add (k * 3)).off + 2, none⟩ = some (.slice A2 l2.length c2) ∧ W.cell? ⟨(b.add (k * 3)).block, (b.add (k * 3)).off + 2, none⟩ = some (.slice A2' l2'.length c2')) := Lib.hid (fun W hs => by
                            rw [hS] at hs
                            have hbw := HBW.out _ hs
                            exact ⟨(HF2.out _ (HI2.out.1.chain hs)).1, (HF2.out _ (HI2.out.1.chain hs)).2, (by simpa [Addr.add] using ((fun o (v : Value) (hv : (#[.string ⟨s0.toArray⟩, .slice A1 l1.length c1, .slice A2 l2.length c2] : Array Value)[o]? = some v) => (hbw.cell (p := (a.add (k * 3)).add o) (by rw [block_adds, block_adds]; exact hab)).trans (hca o v hv)) 0 _ rfl)), (by simpa [Addr.add] using ((fun o (v : Value) (hv : (#[.string ⟨s0'.toArray⟩, .slice A1' l1'.length c1', .slice A2' l2'.length c2'] : Array Value)[o]? = some v) => (hbw.cell (p := (b.add (k * 3)).add o) (by rw [block_adds, block_adds]; exact hbb)).trans (hcb o v hv)) 0 _ rfl)), (fun o (v : Value) (hv : (#[.string ⟨s0.toArray⟩, .slice A1 l1.length c1, .slice A2 l2.length c2] : Array Value)[o]? = some v) => (hbw.cell (p := (a.add (k * 3)).add o) (by rw [block_adds, block_adds]; exact hab)).trans (hca o v hv)) 1 _ rfl, (fun o (v : Value) (hv : (#[.string ⟨s0'.toArray⟩, .slice A1' l1'.length c1', .slice A2' l2'.length c2'] : Array Value)[o]? = some v) => (hbw.cell (p := (b.add (k * 3)).add o) (by rw [block_adds, block_adds]; exact hbb)).trans (hcb o v hv)) 1 _ rfl, (fun o (v : Value) (hv : (#[.string ⟨s0.toArray⟩, .slice A1 l1.length c1, .slice A2 l2.length c2] : Array Value)[o]? = some v) => (hbw.cell (p := (a.add (k * 3)).add o) (by rw [block_adds, block_adds]; exact hab)).trans (hca o v hv)) 2 _ rfl, (fun o (v : Value) (hv : (#[.string ⟨s0'.toArray⟩, .slice A1' l1'.length c1', .slice A2' l2'.length c2'] : Array Value)[o]? = some v) => (hbw.cell (p := (b.add (k * 3)).add o) (by rw [block_adds, block_adds]; exact hbb)).trans (hcb o v hv)) 2 _ rfl⟩)
                          obtain ⟨q1, hq1⟩ := boolOf (l1 = l1')
                          have HC1 : Hid (∀ W, Below wr.heap.size wr W → Calls Tryz.prog 67 #[.slice A1 l1.length c1, .slice A1' l1'.length c1'] W fun e w' => e = .returned (.bool q1) ∧ Below W.heap.size W w') := Lib.hid (fun W hb => by
                            have hbw := HBW.out _ hb
                            exact sps_row l1 l1' A1 A1' c1 c1' W b2 b2' (r1.on pm_keeps hbw) (r1'.on pm_keeps hbw) q1 hq1)
                          obtain ⟨q2, hq2⟩ := boolOf (l2 = l2')
                          have HC2 : Hid (∀ W, Below wr.heap.size wr W → Calls Tryz.prog 68 #[.slice A2 l2.length c2, .slice A2' l2'.length c2'] W fun e w' => e = .returned (.bool q2) ∧ Below W.heap.size W w') := Lib.hid (fun W hb => by
                            have hbw := HBW.out _ hb
                            exact sfs_row l2 l2' A2 A2' c2 c2' W b3 b3' (r2.on fm_keeps hbw) (r2'.on fm_keeps hbw) q2 hq2)
                          have HXY := Lib.hid (And.intro hx (And.intro hy (And.intro hq1 hq2)))
                          have HLT := Lib.hid (And.intro trivial hlt)
                          have HX0 := Lib.hid (Below.refl wr.heap.size wr).drew
                          have hmx : Tryz.prog.follows .mixedOrders = true := by kernel_rfl
                          have hfw := HF2.out _ HI2.out.1
                          obtain ⟨hfw1, hfw2⟩ := hfw
                          clear hx hy hca hcb hcs hds hab hbb hS hq1 hq2
                          by_cases h0 : s0 = s0'
                          · subst h0
                            cases q1 with
                            | false =>
                              go_wp2
                              refine wp_region_held (S := S) hmx ?_
                              change wpAnyH _ _ _ _ _ 45 #[false, false, false, false, false, false, false, false, false, false, false, false, false, false, false, false, false, false, false, false, false, false, false, false, false, false, false, false, false, false, false, false, false, false, false, false, false, false, false, false, false, false, false, false, false] _ wr.drew
                              have g0 := HS2.out _ HX0.out
                              refine tk 0 142 (.pointer (some ⟨w.heap.size, 3, none⟩)) g0 ?v ?_
                              case v => intro Wx hSx; go_simp
                              refine tk 1 143 (.slice (some a) n2 ca2) g0 ?v ?_
                              case v => intro Wx hSx; have q0 := (HFX.out Wx hSx).1; go_simp
                              refine tk 2 144 (.int .i64 k) g0 ?v ?_
                              case v => intro Wx hSx; go_simp
                              refine tk 3 145 (.pointer (some (a.add (k * 3)))) g0 ?v ?_
                              case v => intro Wx hSx; go_simp
                              try simp only [Act.put, List.setIfInBounds_toArray, List.set_cons_zero, List.set_cons_succ]
                              refine tk 4 146 (.pointer (some (a.add (k * 3)))) g0 ?v ?_
                              case v => intro Wx hSx; go_simp
                              refine tk 5 147 (.string ⟨s0.toArray⟩) g0 ?v ?_
                              case v => intro Wx hSx; have q0 := (HFX.out Wx hSx).2.2.1; go_simp
                              refine tk 6 148 (.pointer (some ⟨w.heap.size + 1, 3, none⟩)) g0 ?v ?_
                              case v => intro Wx hSx; go_simp
                              refine tk 7 149 (.slice (some b) n2 cb2) g0 ?v ?_
                              case v => intro Wx hSx; have q0 := (HFX.out Wx hSx).2.1; go_simp
                              try simp only [Act.put, List.setIfInBounds_toArray, List.set_cons_zero, List.set_cons_succ]
                              refine tk 8 150 (.int .i64 k) g0 ?v ?_
                              case v => intro Wx hSx; go_simp
                              refine tk 9 151 (.pointer (some (b.add (k * 3)))) g0 ?v ?_
                              case v => intro Wx hSx; go_simp
                              refine tk 10 152 (.pointer (some (b.add (k * 3)))) g0 ?v ?_
                              case v => intro Wx hSx; go_simp
                              refine tk 11 153 (.string ⟨s0.toArray⟩) g0 ?v ?_
                              case v => intro Wx hSx; have q0 := (HFX.out Wx hSx).2.2.2.1; go_simp
                              try simp only [Act.put, List.setIfInBounds_toArray, List.set_cons_zero, List.set_cons_succ]
                              refine tk 12 154 (.bool false) g0 ?v ?_
                              case v => intro Wx hSx; go_simp
                              refine tk 13 155 (.bool false) g0 ?v ?_
                              case v => intro Wx hSx; go_simp
                              refine tk 14 156 (.pointer (some ⟨w.heap.size, 3, none⟩)) g0 ?v ?_
                              case v => intro Wx hSx; go_simp
                              refine tk 15 157 (.slice (some a) n2 ca2) g0 ?v ?_
                              case v => intro Wx hSx; have q0 := (HFX.out Wx hSx).1; go_simp
                              try simp only [Act.put, List.setIfInBounds_toArray, List.set_cons_zero, List.set_cons_succ]
                              refine tk 16 158 (.int .i64 k) g0 ?v ?_
                              case v => intro Wx hSx; go_simp
                              refine tk 17 159 (.pointer (some (a.add (k * 3)))) g0 ?v ?_
                              case v => intro Wx hSx; go_simp
                              refine tk 18 160 (.pointer (some ⟨(a.add (k * 3)).block, (a.add (k * 3)).off + 1, none⟩)) g0 ?v ?_
                              case v => intro Wx hSx; go_simp
                              refine tk 19 161 (.slice A1 l1.length c1) g0 ?v ?_
                              case v => intro Wx hSx; have q0 := (HFX.out Wx hSx).2.2.2.2.1; go_simp
                              try simp only [Act.put, List.setIfInBounds_toArray, List.set_cons_zero, List.set_cons_succ]
                              refine tk 20 162 (.pointer (some ⟨w.heap.size + 1, 3, none⟩)) g0 ?v ?_
                              case v => intro Wx hSx; go_simp
                              refine tk 21 163 (.slice (some b) n2 cb2) g0 ?v ?_
                              case v => intro Wx hSx; have q0 := (HFX.out Wx hSx).2.1; go_simp
                              refine tk 22 164 (.int .i64 k) g0 ?v ?_
                              case v => intro Wx hSx; go_simp
                              refine tk 23 165 (.pointer (some (b.add (k * 3)))) g0 ?v ?_
                              case v => intro Wx hSx; go_simp
                              try simp only [Act.put, List.setIfInBounds_toArray, List.set_cons_zero, List.set_cons_succ]
                              refine tk 24 166 (.pointer (some ⟨(b.add (k * 3)).block, (b.add (k * 3)).off + 1, none⟩)) g0 ?v ?_
                              case v => intro Wx hSx; go_simp
                              refine tk 25 167 (.slice A1' l1'.length c1') g0 ?v ?_
                              case v => intro Wx hSx; have q0 := (HFX.out Wx hSx).2.2.2.2.2.1; go_simp
                              refine o1 26 (fun K hK => ?_)
                              go_simp
                              refine (HC1.out _ HX0.out).mono ?_
                              rintro e v1 ⟨rfl, hb⟩
                              have HX1 := Lib.hid (HX0.out.chain hb)
                              clear hb
                              have g1 := HS2.out _ HX1.out
                              refine hK _ _ g1 ?_
                              clear hK K g0
                              refine tk 27 169 (.bool true) g1 ?v ?_
                              case v => intro Wx hSx; go_simp
                              try simp only [Act.put, List.setIfInBounds_toArray, List.set_cons_zero, List.set_cons_succ]
                              refine tk 28 170 (.bool true) g1 ?v ?_
                              case v => intro Wx hSx; go_simp
                              refine tk 29 171 (.bool true) g1 ?v ?_
                              case v => intro Wx hSx; go_simp
                              refine sk 30 172 g1 ?_
                              refine sk 31 173 g1 ?_
                              try simp only [Act.put, List.setIfInBounds_toArray, List.set_cons_zero, List.set_cons_succ]
                              refine sk 32 174 g1 ?_
                              refine sk 33 175 g1 ?_
                              refine sk 34 176 g1 ?_
                              refine sk 35 177 g1 ?_
                              try simp only [Act.put, List.setIfInBounds_toArray, List.set_cons_zero, List.set_cons_succ]
                              refine sk 36 178 g1 ?_
                              refine sk 37 179 g1 ?_
                              refine sk 38 180 g1 ?_
                              refine sk 39 181 g1 ?_
                              try simp only [Act.put, List.setIfInBounds_toArray, List.set_cons_zero, List.set_cons_succ]
                              refine sk 40 182 g1 ?_
                              refine sk 41 183 g1 ?_
                              refine sk 42 184 g1 ?_
                              refine sk 43 185 g1 ?_
                              try simp only [Act.put, List.setIfInBounds_toArray, List.set_cons_zero, List.set_cons_succ]
                              refine tk 44 186 (.bool true) g1 ?v ?_
                              case v => intro Wx hSx; go_simp
                              try simp only [Act.put, List.setIfInBounds_toArray, List.set_cons_zero, List.set_cons_succ]
                              refine wpAnyH_done (by kernel_rfl) ?_ _
                              go_wp2
                              go_ret
                              refine ⟨?_, HB.out.chain (HI2.out.1.chain HX1.out)⟩
                              have hrf : r = false := by
                                cases r with
                                | false => rfl
                                | true =>
                                  have h2 := ((HG.out.1 rfl).2.2.1).2 k _ _ HXY.out.1 HXY.out.2.1
                                  exact absurd h2 (by have h0 := HXY.out.2.2.1; intro h2; injection h2 with h3 h4 h5; have h7 := h4; simp [h7] at h0)
                              rw [hrf]
                              rfl
                            | true =>
                              cases q2 with
                              | false =>
                                go_wp2
                                refine wp_region_held (S := S) hmx ?_
                                change wpAnyH _ _ _ _ _ 45 #[false, false, false, false, false, false, false, false, false, false, false, false, false, false, false, false, false, false, false, false, false, false, false, false, false, false, false, false, false, false, false, false, false, false, false, false, false, false, false, false, false, false, false, false, false] _ wr.drew
                                have g0 := HS2.out _ HX0.out
                                refine tk 0 142 (.pointer (some ⟨w.heap.size, 3, none⟩)) g0 ?v ?_
                                case v => intro Wx hSx; go_simp
                                refine tk 1 143 (.slice (some a) n2 ca2) g0 ?v ?_
                                case v => intro Wx hSx; have q0 := (HFX.out Wx hSx).1; go_simp
                                refine tk 2 144 (.int .i64 k) g0 ?v ?_
                                case v => intro Wx hSx; go_simp
                                refine tk 3 145 (.pointer (some (a.add (k * 3)))) g0 ?v ?_
                                case v => intro Wx hSx; go_simp
                                try simp only [Act.put, List.setIfInBounds_toArray, List.set_cons_zero, List.set_cons_succ]
                                refine tk 4 146 (.pointer (some (a.add (k * 3)))) g0 ?v ?_
                                case v => intro Wx hSx; go_simp
                                refine tk 5 147 (.string ⟨s0.toArray⟩) g0 ?v ?_
                                case v => intro Wx hSx; have q0 := (HFX.out Wx hSx).2.2.1; go_simp
                                refine tk 6 148 (.pointer (some ⟨w.heap.size + 1, 3, none⟩)) g0 ?v ?_
                                case v => intro Wx hSx; go_simp
                                refine tk 7 149 (.slice (some b) n2 cb2) g0 ?v ?_
                                case v => intro Wx hSx; have q0 := (HFX.out Wx hSx).2.1; go_simp
                                try simp only [Act.put, List.setIfInBounds_toArray, List.set_cons_zero, List.set_cons_succ]
                                refine tk 8 150 (.int .i64 k) g0 ?v ?_
                                case v => intro Wx hSx; go_simp
                                refine tk 9 151 (.pointer (some (b.add (k * 3)))) g0 ?v ?_
                                case v => intro Wx hSx; go_simp
                                refine tk 10 152 (.pointer (some (b.add (k * 3)))) g0 ?v ?_
                                case v => intro Wx hSx; go_simp
                                refine tk 11 153 (.string ⟨s0.toArray⟩) g0 ?v ?_
                                case v => intro Wx hSx; have q0 := (HFX.out Wx hSx).2.2.2.1; go_simp
                                try simp only [Act.put, List.setIfInBounds_toArray, List.set_cons_zero, List.set_cons_succ]
                                refine tk 12 154 (.bool false) g0 ?v ?_
                                case v => intro Wx hSx; go_simp
                                refine tk 13 155 (.bool false) g0 ?v ?_
                                case v => intro Wx hSx; go_simp
                                refine tk 14 156 (.pointer (some ⟨w.heap.size, 3, none⟩)) g0 ?v ?_
                                case v => intro Wx hSx; go_simp
                                refine tk 15 157 (.slice (some a) n2 ca2) g0 ?v ?_
                                case v => intro Wx hSx; have q0 := (HFX.out Wx hSx).1; go_simp
                                try simp only [Act.put, List.setIfInBounds_toArray, List.set_cons_zero, List.set_cons_succ]
                                refine tk 16 158 (.int .i64 k) g0 ?v ?_
                                case v => intro Wx hSx; go_simp
                                refine tk 17 159 (.pointer (some (a.add (k * 3)))) g0 ?v ?_
                                case v => intro Wx hSx; go_simp
                                refine tk 18 160 (.pointer (some ⟨(a.add (k * 3)).block, (a.add (k * 3)).off + 1, none⟩)) g0 ?v ?_
                                case v => intro Wx hSx; go_simp
                                refine tk 19 161 (.slice A1 l1.length c1) g0 ?v ?_
                                case v => intro Wx hSx; have q0 := (HFX.out Wx hSx).2.2.2.2.1; go_simp
                                try simp only [Act.put, List.setIfInBounds_toArray, List.set_cons_zero, List.set_cons_succ]
                                refine tk 20 162 (.pointer (some ⟨w.heap.size + 1, 3, none⟩)) g0 ?v ?_
                                case v => intro Wx hSx; go_simp
                                refine tk 21 163 (.slice (some b) n2 cb2) g0 ?v ?_
                                case v => intro Wx hSx; have q0 := (HFX.out Wx hSx).2.1; go_simp
                                refine tk 22 164 (.int .i64 k) g0 ?v ?_
                                case v => intro Wx hSx; go_simp
                                refine tk 23 165 (.pointer (some (b.add (k * 3)))) g0 ?v ?_
                                case v => intro Wx hSx; go_simp
                                try simp only [Act.put, List.setIfInBounds_toArray, List.set_cons_zero, List.set_cons_succ]
                                refine tk 24 166 (.pointer (some ⟨(b.add (k * 3)).block, (b.add (k * 3)).off + 1, none⟩)) g0 ?v ?_
                                case v => intro Wx hSx; go_simp
                                refine tk 25 167 (.slice A1' l1'.length c1') g0 ?v ?_
                                case v => intro Wx hSx; have q0 := (HFX.out Wx hSx).2.2.2.2.2.1; go_simp
                                refine o1 26 (fun K hK => ?_)
                                go_simp
                                refine (HC1.out _ HX0.out).mono ?_
                                rintro e v1 ⟨rfl, hb⟩
                                have HX1 := Lib.hid (HX0.out.chain hb)
                                clear hb
                                have g1 := HS2.out _ HX1.out
                                refine hK _ _ g1 ?_
                                clear hK K g0
                                refine tk 27 169 (.bool false) g1 ?v ?_
                                case v => intro Wx hSx; go_simp
                                try simp only [Act.put, List.setIfInBounds_toArray, List.set_cons_zero, List.set_cons_succ]
                                refine tk 28 170 (.bool false) g1 ?v ?_
                                case v => intro Wx hSx; go_simp
                                refine tk 29 171 (.bool false) g1 ?v ?_
                                case v => intro Wx hSx; go_simp
                                refine tk 30 172 (.pointer (some ⟨w.heap.size, 3, none⟩)) g1 ?v ?_
                                case v => intro Wx hSx; go_simp
                                refine tk 31 173 (.slice (some a) n2 ca2) g1 ?v ?_
                                case v => intro Wx hSx; have q0 := (HFX.out Wx hSx).1; go_simp
                                try simp only [Act.put, List.setIfInBounds_toArray, List.set_cons_zero, List.set_cons_succ]
                                refine tk 32 174 (.int .i64 k) g1 ?v ?_
                                case v => intro Wx hSx; go_simp
                                refine tk 33 175 (.pointer (some (a.add (k * 3)))) g1 ?v ?_
                                case v => intro Wx hSx; go_simp
                                refine tk 34 176 (.pointer (some ⟨(a.add (k * 3)).block, (a.add (k * 3)).off + 2, none⟩)) g1 ?v ?_
                                case v => intro Wx hSx; go_simp
                                refine tk 35 177 (.slice A2 l2.length c2) g1 ?v ?_
                                case v => intro Wx hSx; have q0 := (HFX.out Wx hSx).2.2.2.2.2.2.1; go_simp
                                try simp only [Act.put, List.setIfInBounds_toArray, List.set_cons_zero, List.set_cons_succ]
                                refine tk 36 178 (.pointer (some ⟨w.heap.size + 1, 3, none⟩)) g1 ?v ?_
                                case v => intro Wx hSx; go_simp
                                refine tk 37 179 (.slice (some b) n2 cb2) g1 ?v ?_
                                case v => intro Wx hSx; have q0 := (HFX.out Wx hSx).2.1; go_simp
                                refine tk 38 180 (.int .i64 k) g1 ?v ?_
                                case v => intro Wx hSx; go_simp
                                refine tk 39 181 (.pointer (some (b.add (k * 3)))) g1 ?v ?_
                                case v => intro Wx hSx; go_simp
                                try simp only [Act.put, List.setIfInBounds_toArray, List.set_cons_zero, List.set_cons_succ]
                                refine tk 40 182 (.pointer (some ⟨(b.add (k * 3)).block, (b.add (k * 3)).off + 2, none⟩)) g1 ?v ?_
                                case v => intro Wx hSx; go_simp
                                refine tk 41 183 (.slice A2' l2'.length c2') g1 ?v ?_
                                case v => intro Wx hSx; have q0 := (HFX.out Wx hSx).2.2.2.2.2.2.2; go_simp
                                refine o1 42 (fun K hK => ?_)
                                go_simp
                                refine (HC2.out _ HX1.out).mono ?_
                                rintro e v2 ⟨rfl, hb⟩
                                have HX2 := Lib.hid (HX1.out.chain hb)
                                clear hb
                                have g2 := HS2.out _ HX2.out
                                refine hK _ _ g2 ?_
                                clear hK K g1
                                refine tk 43 185 (.bool true) g2 ?v ?_
                                case v => intro Wx hSx; go_simp
                                try simp only [Act.put, List.setIfInBounds_toArray, List.set_cons_zero, List.set_cons_succ]
                                refine tk 44 186 (.bool true) g2 ?v ?_
                                case v => intro Wx hSx; go_simp
                                try simp only [Act.put, List.setIfInBounds_toArray, List.set_cons_zero, List.set_cons_succ]
                                refine wpAnyH_done (by kernel_rfl) ?_ _
                                go_wp2
                                go_ret
                                refine ⟨?_, HB.out.chain (HI2.out.1.chain HX2.out)⟩
                                have hrf : r = false := by
                                  cases r with
                                  | false => rfl
                                  | true =>
                                    have h2 := ((HG.out.1 rfl).2.2.1).2 k _ _ HXY.out.1 HXY.out.2.1
                                    exact absurd h2 (by have h0 := HXY.out.2.2.2; intro h2; injection h2 with h3 h4 h5; have h7 := h5; simp [h7] at h0)
                                rw [hrf]
                                rfl
                              | true =>
                                go_wp2
                                refine wp_region_held (S := S) hmx ?_
                                change wpAnyH _ _ _ _ _ 45 #[false, false, false, false, false, false, false, false, false, false, false, false, false, false, false, false, false, false, false, false, false, false, false, false, false, false, false, false, false, false, false, false, false, false, false, false, false, false, false, false, false, false, false, false, false] _ wr.drew
                                have g0 := HS2.out _ HX0.out
                                refine tk 0 142 (.pointer (some ⟨w.heap.size, 3, none⟩)) g0 ?v ?_
                                case v => intro Wx hSx; go_simp
                                refine tk 1 143 (.slice (some a) n2 ca2) g0 ?v ?_
                                case v => intro Wx hSx; have q0 := (HFX.out Wx hSx).1; go_simp
                                refine tk 2 144 (.int .i64 k) g0 ?v ?_
                                case v => intro Wx hSx; go_simp
                                refine tk 3 145 (.pointer (some (a.add (k * 3)))) g0 ?v ?_
                                case v => intro Wx hSx; go_simp
                                try simp only [Act.put, List.setIfInBounds_toArray, List.set_cons_zero, List.set_cons_succ]
                                refine tk 4 146 (.pointer (some (a.add (k * 3)))) g0 ?v ?_
                                case v => intro Wx hSx; go_simp
                                refine tk 5 147 (.string ⟨s0.toArray⟩) g0 ?v ?_
                                case v => intro Wx hSx; have q0 := (HFX.out Wx hSx).2.2.1; go_simp
                                refine tk 6 148 (.pointer (some ⟨w.heap.size + 1, 3, none⟩)) g0 ?v ?_
                                case v => intro Wx hSx; go_simp
                                refine tk 7 149 (.slice (some b) n2 cb2) g0 ?v ?_
                                case v => intro Wx hSx; have q0 := (HFX.out Wx hSx).2.1; go_simp
                                try simp only [Act.put, List.setIfInBounds_toArray, List.set_cons_zero, List.set_cons_succ]
                                refine tk 8 150 (.int .i64 k) g0 ?v ?_
                                case v => intro Wx hSx; go_simp
                                refine tk 9 151 (.pointer (some (b.add (k * 3)))) g0 ?v ?_
                                case v => intro Wx hSx; go_simp
                                refine tk 10 152 (.pointer (some (b.add (k * 3)))) g0 ?v ?_
                                case v => intro Wx hSx; go_simp
                                refine tk 11 153 (.string ⟨s0.toArray⟩) g0 ?v ?_
                                case v => intro Wx hSx; have q0 := (HFX.out Wx hSx).2.2.2.1; go_simp
                                try simp only [Act.put, List.setIfInBounds_toArray, List.set_cons_zero, List.set_cons_succ]
                                refine tk 12 154 (.bool false) g0 ?v ?_
                                case v => intro Wx hSx; go_simp
                                refine tk 13 155 (.bool false) g0 ?v ?_
                                case v => intro Wx hSx; go_simp
                                refine tk 14 156 (.pointer (some ⟨w.heap.size, 3, none⟩)) g0 ?v ?_
                                case v => intro Wx hSx; go_simp
                                refine tk 15 157 (.slice (some a) n2 ca2) g0 ?v ?_
                                case v => intro Wx hSx; have q0 := (HFX.out Wx hSx).1; go_simp
                                try simp only [Act.put, List.setIfInBounds_toArray, List.set_cons_zero, List.set_cons_succ]
                                refine tk 16 158 (.int .i64 k) g0 ?v ?_
                                case v => intro Wx hSx; go_simp
                                refine tk 17 159 (.pointer (some (a.add (k * 3)))) g0 ?v ?_
                                case v => intro Wx hSx; go_simp
                                refine tk 18 160 (.pointer (some ⟨(a.add (k * 3)).block, (a.add (k * 3)).off + 1, none⟩)) g0 ?v ?_
                                case v => intro Wx hSx; go_simp
                                refine tk 19 161 (.slice A1 l1.length c1) g0 ?v ?_
                                case v => intro Wx hSx; have q0 := (HFX.out Wx hSx).2.2.2.2.1; go_simp
                                try simp only [Act.put, List.setIfInBounds_toArray, List.set_cons_zero, List.set_cons_succ]
                                refine tk 20 162 (.pointer (some ⟨w.heap.size + 1, 3, none⟩)) g0 ?v ?_
                                case v => intro Wx hSx; go_simp
                                refine tk 21 163 (.slice (some b) n2 cb2) g0 ?v ?_
                                case v => intro Wx hSx; have q0 := (HFX.out Wx hSx).2.1; go_simp
                                refine tk 22 164 (.int .i64 k) g0 ?v ?_
                                case v => intro Wx hSx; go_simp
                                refine tk 23 165 (.pointer (some (b.add (k * 3)))) g0 ?v ?_
                                case v => intro Wx hSx; go_simp
                                try simp only [Act.put, List.setIfInBounds_toArray, List.set_cons_zero, List.set_cons_succ]
                                refine tk 24 166 (.pointer (some ⟨(b.add (k * 3)).block, (b.add (k * 3)).off + 1, none⟩)) g0 ?v ?_
                                case v => intro Wx hSx; go_simp
                                refine tk 25 167 (.slice A1' l1'.length c1') g0 ?v ?_
                                case v => intro Wx hSx; have q0 := (HFX.out Wx hSx).2.2.2.2.2.1; go_simp
                                refine o1 26 (fun K hK => ?_)
                                go_simp
                                refine (HC1.out _ HX0.out).mono ?_
                                rintro e v1 ⟨rfl, hb⟩
                                have HX1 := Lib.hid (HX0.out.chain hb)
                                clear hb
                                have g1 := HS2.out _ HX1.out
                                refine hK _ _ g1 ?_
                                clear hK K g0
                                refine tk 27 169 (.bool false) g1 ?v ?_
                                case v => intro Wx hSx; go_simp
                                try simp only [Act.put, List.setIfInBounds_toArray, List.set_cons_zero, List.set_cons_succ]
                                refine tk 28 170 (.bool false) g1 ?v ?_
                                case v => intro Wx hSx; go_simp
                                refine tk 29 171 (.bool false) g1 ?v ?_
                                case v => intro Wx hSx; go_simp
                                refine tk 30 172 (.pointer (some ⟨w.heap.size, 3, none⟩)) g1 ?v ?_
                                case v => intro Wx hSx; go_simp
                                refine tk 31 173 (.slice (some a) n2 ca2) g1 ?v ?_
                                case v => intro Wx hSx; have q0 := (HFX.out Wx hSx).1; go_simp
                                try simp only [Act.put, List.setIfInBounds_toArray, List.set_cons_zero, List.set_cons_succ]
                                refine tk 32 174 (.int .i64 k) g1 ?v ?_
                                case v => intro Wx hSx; go_simp
                                refine tk 33 175 (.pointer (some (a.add (k * 3)))) g1 ?v ?_
                                case v => intro Wx hSx; go_simp
                                refine tk 34 176 (.pointer (some ⟨(a.add (k * 3)).block, (a.add (k * 3)).off + 2, none⟩)) g1 ?v ?_
                                case v => intro Wx hSx; go_simp
                                refine tk 35 177 (.slice A2 l2.length c2) g1 ?v ?_
                                case v => intro Wx hSx; have q0 := (HFX.out Wx hSx).2.2.2.2.2.2.1; go_simp
                                try simp only [Act.put, List.setIfInBounds_toArray, List.set_cons_zero, List.set_cons_succ]
                                refine tk 36 178 (.pointer (some ⟨w.heap.size + 1, 3, none⟩)) g1 ?v ?_
                                case v => intro Wx hSx; go_simp
                                refine tk 37 179 (.slice (some b) n2 cb2) g1 ?v ?_
                                case v => intro Wx hSx; have q0 := (HFX.out Wx hSx).2.1; go_simp
                                refine tk 38 180 (.int .i64 k) g1 ?v ?_
                                case v => intro Wx hSx; go_simp
                                refine tk 39 181 (.pointer (some (b.add (k * 3)))) g1 ?v ?_
                                case v => intro Wx hSx; go_simp
                                try simp only [Act.put, List.setIfInBounds_toArray, List.set_cons_zero, List.set_cons_succ]
                                refine tk 40 182 (.pointer (some ⟨(b.add (k * 3)).block, (b.add (k * 3)).off + 2, none⟩)) g1 ?v ?_
                                case v => intro Wx hSx; go_simp
                                refine tk 41 183 (.slice A2' l2'.length c2') g1 ?v ?_
                                case v => intro Wx hSx; have q0 := (HFX.out Wx hSx).2.2.2.2.2.2.2; go_simp
                                refine o1 42 (fun K hK => ?_)
                                go_simp
                                refine (HC2.out _ HX1.out).mono ?_
                                rintro e v2 ⟨rfl, hb⟩
                                have HX2 := Lib.hid (HX1.out.chain hb)
                                clear hb
                                have g2 := HS2.out _ HX2.out
                                refine hK _ _ g2 ?_
                                clear hK K g1
                                refine tk 43 185 (.bool false) g2 ?v ?_
                                case v => intro Wx hSx; go_simp
                                try simp only [Act.put, List.setIfInBounds_toArray, List.set_cons_zero, List.set_cons_succ]
                                refine tk 44 186 (.bool false) g2 ?v ?_
                                case v => intro Wx hSx; go_simp
                                try simp only [Act.put, List.setIfInBounds_toArray, List.set_cons_zero, List.set_cons_succ]
                                refine wpAnyH_done (by kernel_rfl) ?_ _
                                go_wp2
                                go_roundg (n2 - (k + 1))
                                case measure => have := HLT.out.2; omega
                                case rel =>
                                  refine ⟨k + 1, rfl, (by have := HLT.out.2; omega), by go_num, Lib.hid ⟨HI2.out.1.chain HX2.out, fun i x' y' hi hx' hy' => ?_⟩⟩
                                  by_cases h : i = k
                                  · subst h
                                    obtain rfl := Option.some.inj (HXY.out.1.symm.trans hx')
                                    obtain rfl := Option.some.inj (HXY.out.2.1.symm.trans hy')
                                    have h7 := HXY.out.2.2.1.1 (by first | exact rfl | exact trivial); have h8 := HXY.out.2.2.2.1 (by first | exact rfl | exact trivial); show (_ = _); rw [h7, h8]
                                  · exact HI2.out.2 i x' y' (by omega) hx' hy'
                          · have HNE := Lib.hid h0
                            have hs0 : (s0 == s0') = false := by simpa using h0
                            go_wp2
                            refine wp_region_held (S := S) hmx ?_
                            change wpAnyH _ _ _ _ _ 45 #[false, false, false, false, false, false, false, false, false, false, false, false, false, false, false, false, false, false, false, false, false, false, false, false, false, false, false, false, false, false, false, false, false, false, false, false, false, false, false, false, false, false, false, false, false] _ wr.drew
                            have g0 := HS2.out _ HX0.out
                            refine tk 0 142 (.pointer (some ⟨w.heap.size, 3, none⟩)) g0 ?v ?_
                            case v => intro Wx hSx; go_simp
                            refine tk 1 143 (.slice (some a) n2 ca2) g0 ?v ?_
                            case v => intro Wx hSx; have q0 := (HFX.out Wx hSx).1; go_simp
                            refine tk 2 144 (.int .i64 k) g0 ?v ?_
                            case v => intro Wx hSx; go_simp
                            refine tk 3 145 (.pointer (some (a.add (k * 3)))) g0 ?v ?_
                            case v => intro Wx hSx; go_simp
                            try simp only [Act.put, List.setIfInBounds_toArray, List.set_cons_zero, List.set_cons_succ]
                            refine tk 4 146 (.pointer (some (a.add (k * 3)))) g0 ?v ?_
                            case v => intro Wx hSx; go_simp
                            refine tk 5 147 (.string ⟨s0.toArray⟩) g0 ?v ?_
                            case v => intro Wx hSx; have q0 := (HFX.out Wx hSx).2.2.1; go_simp
                            refine tk 6 148 (.pointer (some ⟨w.heap.size + 1, 3, none⟩)) g0 ?v ?_
                            case v => intro Wx hSx; go_simp
                            refine tk 7 149 (.slice (some b) n2 cb2) g0 ?v ?_
                            case v => intro Wx hSx; have q0 := (HFX.out Wx hSx).2.1; go_simp
                            try simp only [Act.put, List.setIfInBounds_toArray, List.set_cons_zero, List.set_cons_succ]
                            refine tk 8 150 (.int .i64 k) g0 ?v ?_
                            case v => intro Wx hSx; go_simp
                            refine tk 9 151 (.pointer (some (b.add (k * 3)))) g0 ?v ?_
                            case v => intro Wx hSx; go_simp
                            refine tk 10 152 (.pointer (some (b.add (k * 3)))) g0 ?v ?_
                            case v => intro Wx hSx; go_simp
                            refine tk 11 153 (.string ⟨s0'.toArray⟩) g0 ?v ?_
                            case v => intro Wx hSx; have q0 := (HFX.out Wx hSx).2.2.2.1; go_simp
                            try simp only [Act.put, List.setIfInBounds_toArray, List.set_cons_zero, List.set_cons_succ]
                            refine tk 12 154 (.bool true) g0 ?v ?_
                            case v => intro Wx hSx; go_simp
                            refine tk 13 155 (.bool true) g0 ?v ?_
                            case v => intro Wx hSx; go_simp
                            refine sk 14 156 g0 ?_
                            refine sk 15 157 g0 ?_
                            try simp only [Act.put, List.setIfInBounds_toArray, List.set_cons_zero, List.set_cons_succ]
                            refine sk 16 158 g0 ?_
                            refine sk 17 159 g0 ?_
                            refine sk 18 160 g0 ?_
                            refine sk 19 161 g0 ?_
                            try simp only [Act.put, List.setIfInBounds_toArray, List.set_cons_zero, List.set_cons_succ]
                            refine sk 20 162 g0 ?_
                            refine sk 21 163 g0 ?_
                            refine sk 22 164 g0 ?_
                            refine sk 23 165 g0 ?_
                            try simp only [Act.put, List.setIfInBounds_toArray, List.set_cons_zero, List.set_cons_succ]
                            refine sk 24 166 g0 ?_
                            refine sk 25 167 g0 ?_
                            refine sk 26 168 g0 ?_
                            refine sk 27 169 g0 ?_
                            try simp only [Act.put, List.setIfInBounds_toArray, List.set_cons_zero, List.set_cons_succ]
                            refine tk 28 170 (.bool true) g0 ?v ?_
                            case v => intro Wx hSx; go_simp
                            refine tk 29 171 (.bool true) g0 ?v ?_
                            case v => intro Wx hSx; go_simp
                            refine sk 30 172 g0 ?_
                            refine sk 31 173 g0 ?_
                            try simp only [Act.put, List.setIfInBounds_toArray, List.set_cons_zero, List.set_cons_succ]
                            refine sk 32 174 g0 ?_
                            refine sk 33 175 g0 ?_
                            refine sk 34 176 g0 ?_
                            refine sk 35 177 g0 ?_
                            try simp only [Act.put, List.setIfInBounds_toArray, List.set_cons_zero, List.set_cons_succ]
                            refine sk 36 178 g0 ?_
                            refine sk 37 179 g0 ?_
                            refine sk 38 180 g0 ?_
                            refine sk 39 181 g0 ?_
                            try simp only [Act.put, List.setIfInBounds_toArray, List.set_cons_zero, List.set_cons_succ]
                            refine sk 40 182 g0 ?_
                            refine sk 41 183 g0 ?_
                            refine sk 42 184 g0 ?_
                            refine sk 43 185 g0 ?_
                            try simp only [Act.put, List.setIfInBounds_toArray, List.set_cons_zero, List.set_cons_succ]
                            refine tk 44 186 (.bool true) g0 ?v ?_
                            case v => intro Wx hSx; go_simp
                            try simp only [Act.put, List.setIfInBounds_toArray, List.set_cons_zero, List.set_cons_succ]
                            refine wpAnyH_done (by kernel_rfl) ?_ _
                            go_wp2
                            go_ret
                            refine ⟨?_, HB.out.chain (HI2.out.1.chain HX0.out)⟩
                            have hrf : r = false := by
                              cases r with
                              | false => rfl
                              | true =>
                                have h2 := ((HG.out.1 rfl).2.2.1).2 k _ _ HXY.out.1 HXY.out.2.1
                                exact absurd h2 (by intro h2; injection h2 with h3 h4 h5; exact HNE.out h3)
                            rw [hrf]
                            rfl
                        · obtain rfl : k = n2 := by omega
                          obtain ⟨hfw1, hfw2⟩ := HF2.out _ HI2.out.1
                          have HA2 : Hid (All2 (fun x y => x = y) l2 k2) := Lib.hid ⟨HL2.out.2.2.1.symm.trans HL2.out.2.2.2, fun i x y hx hy => HI2.out.2 i x y (by have h1 := (List.getElem?_eq_some_iff.1 hx).1; have h2 := HL2.out.2.2.1; omega) hx hy⟩
                          have HI2P := Lib.hid HI2.out.1
                          go_wp2
                          clear hfw1 hfw2
                          go_loopg [8] n3 (fun mm j wr => ∃ k : Nat, mm = n3 - k ∧ k ≤ n3 ∧ j = .int .i64 k ∧ Hid (Below W1.heap.size W1 wr ∧ ∀ (i : Nat) x y, i < k → l3[i]? = some x → k3[i]? = some y → (fun x y => x = y) x y))
                          case atStart => exact ⟨0, rfl, Nat.zero_le _, (by first | rfl | go_num), Lib.hid ⟨HI2P.out, fun i x y h => absurd h (Nat.not_lt_zero _)⟩⟩
                          case round =>
                            obtain ⟨k, rfl, hk, rfl, HI3⟩ := hrel
                            by_cases hlt : k < n3
                            · have hki : (k : Int) < n3 := by omega
                              obtain ⟨x, hx⟩ : ∃ x, l3[k]? = some x := ⟨l3[k]'(by rw [← HL3.out.2.2.1]; exact hlt), List.getElem?_eq_getElem _⟩
                              obtain ⟨y, hy⟩ : ∃ y, k3[k]? = some y := ⟨k3[k]'(by rw [← HL3.out.2.2.2]; exact hlt), List.getElem?_eq_getElem _⟩
                              obtain ⟨a, cs, rfl, hab, hcs, hca, hvx⟩ := HL3.out.1 k x hx
                              obtain ⟨b, ds, rfl, hbb, hds, hcb, hvy⟩ := HL3.out.2.1 k y hy
                              obtain ⟨S, hS⟩ : ∃ S : World → Prop, S = fun W => Below wr.heap.size wr W := ⟨_, rfl⟩
                              have HS2 : Hid (∀ W, Below wr.heap.size wr W → S W) := Lib.hid (fun W hb => by rw [hS]; exact hb)
                              have HBW : Hid (∀ W, Below wr.heap.size wr W → Below w.heap.size w W) := Lib.hid (fun W hb => HB.out.chain (HI3.out.1.chain hb))
                              refine (lm_parts x y cs ds w hvx hvy).elim ?_
                              intro h1c h1d x0 y0 x1 y1 x2 y2 x3 y3 x4 y4 x5 y5 x6 y6 x7 y7 q1 q2 q3 P1 P2 P3 HKK HCC HQI HSM
                              have HFX : Hid (∀ W, S W → W.cell? ⟨w.heap.size, 4, none⟩ = some (.slice (some a) n3 ca3) ∧ W.cell? ⟨w.heap.size + 1, 4, none⟩ = some (.slice (some b) n3 cb3) ∧ (loadCellsFrom (a.add (k * 8)) 0 N3 #[]).run Tryz.prog W = .ok cs W ∧ (loadCellsFrom (b.add (k * 8)) 0 N3 #[]).run Tryz.prog W = .ok ds W) := Lib.hid (fun W hs => by
                                rw [hS] at hs
                                have hbw := HBW.out _ hs
                                exact ⟨(HF3.out _ (HI3.out.1.chain hs)).1, (HF3.out _ (HI3.out.1.chain hs)).2, load_list (fun o v hv => (fun o (v : Value) (hv : cs[o]? = some v) => (hbw.cell (p := (a.add (k * 8)).add o) (by rw [block_adds, block_adds]; exact hab)).trans (hca o v hv)) o v hv) (hcs.trans HN3.out.symm), load_list (fun o v hv => (fun o (v : Value) (hv : ds[o]? = some v) => (hbw.cell (p := (b.add (k * 8)).add o) (by rw [block_adds, block_adds]; exact hbb)).trans (hcb o v hv)) o v hv) (hds.trans HN3.out.symm)⟩)
                              have HP1 : Hid (∀ W, Below wr.heap.size wr W → Calls Tryz.prog 67 #[x1, y1] W fun e w' => e = .returned (.bool q1) ∧ Below W.heap.size W w') := Lib.hid (fun W hb => HCC.out.1 W (HBW.out _ hb))
                              have HP2 : Hid (∀ W, Below wr.heap.size wr W → Calls Tryz.prog 28 #[.agg #[x2, x3, x4], .agg #[y2, y3, y4]] W fun e w' => e = .returned (.bool q2) ∧ Below W.heap.size W w') := Lib.hid (fun W hb => HCC.out.2.1 W (HBW.out _ hb))
                              have HP3 : Hid (∀ W, Below wr.heap.size wr W → Calls Tryz.prog 28 #[.agg #[x5, x6, x7], .agg #[y5, y6, y7]] W fun e w' => e = .returned (.bool q3) ∧ Below W.heap.size W w') := Lib.hid (fun W hb => HCC.out.2.2 W (HBW.out _ hb))
                              have HXY := Lib.hid (And.intro hx hy)
                              have HLT := Lib.hid (And.intro trivial hlt)
                              have hszc : cs.size = N3 := hcs.trans HN3.out.symm
                              have hszd : ds.size = N3 := hds.trans HN3.out.symm
                              have hzc1 : zc.size = cs.size := HZC.out.trans hszc.symm
                              have hzc2 : zc.size = ds.size := HZC.out.trans hszd.symm
                              have HX0 := Lib.hid (Below.refl wr.heap.size wr).drew
                              have hmx : Tryz.prog.follows .mixedOrders = true := by kernel_rfl
                              have hfw := HF3.out _ HI3.out.1
                              obtain ⟨hfw1, hfw2⟩ := hfw
                              clear hx hy hca hcb hcs hds hab hbb hS hvx hvy HCC
                              go_upto_region 21 with (fail)
                              go_cut [9, 10] from 187 to 232 (fun v6 v7 wx => TwoBox wr T3 cs ds v6 v7 wx)
                              case first =>
                                refine wp_region_held (S := S) hmx ?_
                                change wpAnyH _ _ _ _ _ 14 #[false, false, false, false, false, false, false, false, false, false, false, false, false, false] _ wr.drew
                                have g0 := HS2.out _ HX0.out
                                refine tk 0 194 (.pointer (some ⟨w.heap.size, 4, none⟩)) g0 ?v ?_
                                case v => intro Wx hSx; go_simp
                                refine tk 1 195 (.slice (some a) n3 ca3) g0 ?v ?_
                                case v => intro Wx hSx; have q0 := (HFX.out Wx hSx).1; go_simp
                                refine tk 2 196 (.int .i64 k) g0 ?v ?_
                                case v => intro Wx hSx; go_simp
                                refine tk 3 197 (.pointer (some (a.add (k * 8)))) g0 ?v ?_
                                case v => intro Wx hSx; go_simp
                                try simp only [Act.put, List.setIfInBounds_toArray, List.set_cons_zero, List.set_cons_succ]
                                refine tk 4 198 (.agg cs) g0 ?v ?_
                                case v => intro Wx hSx; have q0 := (HFX.out Wx hSx).2.2.1; go_simp
                                refine tk 5 199 (.pointer (some ⟨w.heap.size + 1, 4, none⟩)) g0 ?v ?_
                                case v => intro Wx hSx; go_simp
                                refine tk 6 200 (.slice (some b) n3 cb3) g0 ?v ?_
                                case v => intro Wx hSx; have q0 := (HFX.out Wx hSx).2.1; go_simp
                                refine tk 7 201 (.int .i64 k) g0 ?v ?_
                                case v => intro Wx hSx; go_simp
                                try simp only [Act.put, List.setIfInBounds_toArray, List.set_cons_zero, List.set_cons_succ]
                                refine tk 8 202 (.pointer (some (b.add (k * 8)))) g0 ?v ?_
                                case v => intro Wx hSx; go_simp
                                refine tk 9 203 (.agg ds) g0 ?v ?_
                                case v => intro Wx hSx; have q0 := (HFX.out Wx hSx).2.2.2; go_simp
                                refine anyH_two 10 11 (by kernel_rfl) rfl rfl (by kernel_rfl) (by kernel_rfl) (fun K hK => ?_) (fun K hK => ?_)
                                · have y1 := heap_of_alloc wr.drew (.cells zc T3)
                                  have y2 := heap_keep (o := .cells zc T3) y1
                                  have y3 := heap_of_alloc (wr.drew.alloc (.cells zc T3)) (.cells zc T3)
                                  have hz1 : (wr.drew.alloc (.cells zc T3)).heap.size = wr.heap.size + 1 := size_of_alloc wr.drew (.cells zc T3)
                                  rw [hz1] at y3
                                  have y4 := two_first (b := wr.heap.size) (c := wr.heap.size + 1) (cs := cs) (ds := ds) y2 y3 (by omega)
                                  have hs1 : (storeCells ⟨wr.heap.size, 0, none⟩ cs.toList).run Tryz.prog ((wr.alloc (.cells zc T3)).alloc (.cells zc T3)).drew = .ok () (((wr.alloc (.cells zc T3)).alloc (.cells zc T3)).drew.setRow (wr.heap.size) cs) := store_row y2 hzc1 h1c
                                  have hs2 : (storeCells ⟨wr.heap.size + 1, 0, none⟩ ds.toList).run Tryz.prog (((wr.alloc (.cells zc T3)).alloc (.cells zc T3)).drew.setRow (wr.heap.size) cs) = .ok () ((((wr.alloc (.cells zc T3)).alloc (.cells zc T3)).drew.setRow (wr.heap.size) cs).setRow (wr.heap.size + 1) ds) := store_row y4.2.2 hzc2 h1d
                                  have HB1 := Lib.hid (HX0.out.alloc (Nat.le_refl _) (.cells zc T3))
                                  have HB2 := Lib.hid (HB1.out.alloc (by rw [hz1]; exact Nat.le_succ _) (.cells zc T3))
                                  have HB3 := Lib.hid (Below.setRow HB2.out (g := wr.heap.size) (by omega) cs)
                                  have HB4 := Lib.hid (Below.setRow HB3.out (g := wr.heap.size + 1) (by omega) ds)
                                  have HY := Lib.hid (And.intro y4.1 y4.2.1)
                                  clear y1 y2 y3 y4 hz1
                                  go_simp
                                  have g1 := HS2.out _ HB1.out
                                  refine hK _ _ g1 ?_
                                  clear hK K
                                  refine o1 11 (fun K hK => ?_)
                                  go_simp
                                  refine hK _ _ (HS2.out _ HB2.out) ?_
                                  clear hK K
                                  refine o1 12 (fun K hK => ?_)
                                  go_simp
                                  refine hK _ _ (HS2.out _ HB3.out) ?_
                                  clear hK K
                                  refine o1 13 (fun K hK => ?_)
                                  go_simp
                                  refine hK _ _ (HS2.out _ HB4.out) ?_
                                  clear hK K
                                  refine wpAnyH_done (by kernel_rfl) ?_ _
                                  go_wp2
                                  go_meet
                                  exact ⟨_, _, _, rfl, rfl, rfl, HY.out.1, HY.out.2, HB4.out⟩
                                · have y1 := heap_of_alloc wr.drew (.cells zc T3)
                                  have y2 := heap_keep (o := .cells zc T3) y1
                                  have y3 := heap_of_alloc (wr.drew.alloc (.cells zc T3)) (.cells zc T3)
                                  have hz1 : (wr.drew.alloc (.cells zc T3)).heap.size = wr.heap.size + 1 := size_of_alloc wr.drew (.cells zc T3)
                                  rw [hz1] at y3
                                  have y4 := two_first (b := wr.heap.size + 1) (c := wr.heap.size) (cs := cs) (ds := ds) y3 y2 (by omega)
                                  have hs1 : (storeCells ⟨wr.heap.size + 1, 0, none⟩ cs.toList).run Tryz.prog ((wr.alloc (.cells zc T3)).alloc (.cells zc T3)).drew = .ok () (((wr.alloc (.cells zc T3)).alloc (.cells zc T3)).drew.setRow (wr.heap.size + 1) cs) := store_row y3 hzc1 h1c
                                  have hs2 : (storeCells ⟨wr.heap.size, 0, none⟩ ds.toList).run Tryz.prog (((wr.alloc (.cells zc T3)).alloc (.cells zc T3)).drew.setRow (wr.heap.size + 1) cs) = .ok () ((((wr.alloc (.cells zc T3)).alloc (.cells zc T3)).drew.setRow (wr.heap.size + 1) cs).setRow (wr.heap.size) ds) := store_row y4.2.2 hzc2 h1d
                                  have HB1 := Lib.hid (HX0.out.alloc (Nat.le_refl _) (.cells zc T3))
                                  have HB2 := Lib.hid (HB1.out.alloc (by rw [hz1]; exact Nat.le_succ _) (.cells zc T3))
                                  have HB3 := Lib.hid (Below.setRow HB2.out (g := wr.heap.size + 1) (by omega) cs)
                                  have HB4 := Lib.hid (Below.setRow HB3.out (g := wr.heap.size) (by omega) ds)
                                  have HY := Lib.hid (And.intro y4.1 y4.2.1)
                                  clear y1 y2 y3 y4 hz1
                                  go_simp
                                  have g1 := HS2.out _ HB1.out
                                  refine hK _ _ g1 ?_
                                  clear hK K
                                  refine o1 10 (fun K hK => ?_)
                                  go_simp
                                  refine hK _ _ (HS2.out _ HB2.out) ?_
                                  clear hK K
                                  refine o1 12 (fun K hK => ?_)
                                  go_simp
                                  refine hK _ _ (HS2.out _ HB3.out) ?_
                                  clear hK K
                                  refine o1 13 (fun K hK => ?_)
                                  go_simp
                                  refine hK _ _ (HS2.out _ HB4.out) ?_
                                  clear hK K
                                  refine wpAnyH_done (by kernel_rfl) ?_ _
                                  go_wp2
                                  go_meet
                                  exact ⟨_, _, _, rfl, rfl, rfl, HY.out.1, HY.out.2, HB4.out⟩
                              case rest =>
                                obtain ⟨b6, b7, wx0, rfl, rfl, rfl, p6, p7, hbel⟩ := hcut
                                have HBL := Lib.hid hbel
                                have HF : Hid (∀ W, Below wx0.heap.size wx0 W → W.cell? ⟨b6, 0, none⟩ = some (.string ⟨x0.toArray⟩) ∧ W.cell? ⟨b7, 0, none⟩ = some (.string ⟨y0.toArray⟩) ∧ W.cell? ⟨b6, 1, none⟩ = some (x1) ∧ W.cell? ⟨b7, 1, none⟩ = some (y1) ∧ W.cell? ⟨b6, 2, none⟩ = some (x2) ∧ W.cell? ⟨b7, 2, none⟩ = some (y2) ∧ W.cell? ⟨b6, 3, none⟩ = some (x3) ∧ W.cell? ⟨b7, 3, none⟩ = some (y3) ∧ W.cell? ⟨b6, 4, none⟩ = some (x4) ∧ W.cell? ⟨b7, 4, none⟩ = some (y4) ∧ W.cell? ⟨b6, 5, none⟩ = some (x5) ∧ W.cell? ⟨b7, 5, none⟩ = some (y5) ∧ W.cell? ⟨b6, 6, none⟩ = some (x6) ∧ W.cell? ⟨b7, 6, none⟩ = some (y6) ∧ W.cell? ⟨b6, 7, none⟩ = some (x7) ∧ W.cell? ⟨b7, 7, none⟩ = some (y7)) := Lib.hid (fun W hb => ⟨cell_of_block (kept_box hb p6) 0 (HKK.out.1), cell_of_block (kept_box hb p7) 0 (HKK.out.2.1), cell_of_block (kept_box hb p6) 1 (HKK.out.2.2.1), cell_of_block (kept_box hb p7) 1 (HKK.out.2.2.2.1), cell_of_block (kept_box hb p6) 2 (HKK.out.2.2.2.2.1), cell_of_block (kept_box hb p7) 2 (HKK.out.2.2.2.2.2.1), cell_of_block (kept_box hb p6) 3 (HKK.out.2.2.2.2.2.2.1), cell_of_block (kept_box hb p7) 3 (HKK.out.2.2.2.2.2.2.2.1), cell_of_block (kept_box hb p6) 4 (HKK.out.2.2.2.2.2.2.2.2.1), cell_of_block (kept_box hb p7) 4 (HKK.out.2.2.2.2.2.2.2.2.2.1), cell_of_block (kept_box hb p6) 5 (HKK.out.2.2.2.2.2.2.2.2.2.2.1), cell_of_block (kept_box hb p7) 5 (HKK.out.2.2.2.2.2.2.2.2.2.2.2.1), cell_of_block (kept_box hb p6) 6 (HKK.out.2.2.2.2.2.2.2.2.2.2.2.2.1), cell_of_block (kept_box hb p7) 6 (HKK.out.2.2.2.2.2.2.2.2.2.2.2.2.2.1), cell_of_block (kept_box hb p6) 7 (HKK.out.2.2.2.2.2.2.2.2.2.2.2.2.2.2.1), cell_of_block (kept_box hb p7) 7 (HKK.out.2.2.2.2.2.2.2.2.2.2.2.2.2.2.2)⟩)
                                have HX0' := Lib.hid (Below.refl wx0.heap.size wx0)
                                obtain ⟨cx0, cy0, cx1, cy1, cx2, cy2, cx3, cy3, cx4, cy4, cx5, cy5, cx6, cy6, cx7, cy7⟩ := HF.out _ HX0'.out
                                have HQ1 : Hid (∀ W, Below wx0.heap.size wx0 W → Calls Tryz.prog 67 #[x1, y1] W fun e w' => e = .returned (.bool q1) ∧ Below W.heap.size W w') := Lib.hid (fun W hb => HP1.out _ (HBL.out.chain hb))
                                have HQ2 : Hid (∀ W, Below wx0.heap.size wx0 W → Calls Tryz.prog 28 #[.agg #[x2, x3, x4], .agg #[y2, y3, y4]] W fun e w' => e = .returned (.bool q2) ∧ Below W.heap.size W w') := Lib.hid (fun W hb => HP2.out _ (HBL.out.chain hb))
                                have HQ3 : Hid (∀ W, Below wx0.heap.size wx0 W → Calls Tryz.prog 28 #[.agg #[x5, x6, x7], .agg #[y5, y6, y7]] W fun e w' => e = .returned (.bool q3) ∧ Below W.heap.size W w') := Lib.hid (fun W hb => HP3.out _ (HBL.out.chain hb))
                                clear hbel p6 p7
                                clear HX0
                                have HX0 := HX0'
                                clear HX0'
                                by_cases h0 : x0 = y0
                                · subst h0
                                  cases q1 with
                                  | false =>
                                    go_wp2_with (go_at_call 67; ((with_reducible refine (HQ1.out _ HX0.out).mono ?_); rintro e w2 ⟨rfl, hb⟩); have HX2 := Lib.hid (HX0.out.chain hb); clear hb; clear cx0 cy0 cx1 cy1 cx2 cy2 cx3 cy3 cx4 cy4 cx5 cy5 cx6 cy6 cx7 cy7)
                                    go_ret
                                    refine ⟨?_, HB.out.chain (HI3.out.1.chain (HBL.out.chain HX2.out))⟩
                                    have hrf : r = false := by
                                      cases r with
                                      | false => rfl
                                      | true =>
                                        have h1 := ((HG.out.1 rfl).2.2.2.1).2 k _ _ HXY.out.1 HXY.out.2
                                        have h2 := HSM.out.1 h1
                                        have h7 := HQI.out.1; have h8 := h2.2.1; simp [h8] at h7
                                    rw [hrf]
                                    rfl
                                  | true =>
                                    cases q2 with
                                    | false =>
                                      go_wp2_with (first
                                        | (go_at_call 67; ((with_reducible refine (HQ1.out _ HX0.out).mono ?_); rintro e w2 ⟨rfl, hb⟩); have HX2 := Lib.hid (HX0.out.chain hb); clear hb; clear cx0 cy0 cx1 cy1 cx2 cy2 cx3 cy3 cx4 cy4 cx5 cy5 cx6 cy6 cx7 cy7; obtain ⟨-, -, -, -, f2x2, f2y2, f2x3, f2y3, f2x4, f2y4, f2x5, f2y5, f2x6, f2y6, f2x7, f2y7⟩ := HF.out _ HX2.out)
                                        | (go_at_call 28; ((with_reducible refine (HQ2.out _ HX2.out).mono ?_); rintro e w3 ⟨rfl, hb⟩); have HX3 := Lib.hid (HX2.out.chain hb); clear hb; clear f2x2 f2y2 f2x3 f2y3 f2x4 f2y4 f2x5 f2y5 f2x6 f2y6 f2x7 f2y7))
                                      go_ret
                                      refine ⟨?_, HB.out.chain (HI3.out.1.chain (HBL.out.chain HX3.out))⟩
                                      have hrf : r = false := by
                                        cases r with
                                        | false => rfl
                                        | true =>
                                          have h1 := ((HG.out.1 rfl).2.2.2.1).2 k _ _ HXY.out.1 HXY.out.2
                                          have h2 := HSM.out.1 h1
                                          have h7 := HQI.out.2.1; have h8 := h2.2.2.1; simp [h8] at h7
                                      rw [hrf]
                                      rfl
                                    | true =>
                                      cases q3 with
                                      | false =>
                                        go_wp2_with (first
                                          | (go_at_call 67; ((with_reducible refine (HQ1.out _ HX0.out).mono ?_); rintro e w2 ⟨rfl, hb⟩); have HX2 := Lib.hid (HX0.out.chain hb); clear hb; clear cx0 cy0 cx1 cy1 cx2 cy2 cx3 cy3 cx4 cy4 cx5 cy5 cx6 cy6 cx7 cy7; obtain ⟨-, -, -, -, f2x2, f2y2, f2x3, f2y3, f2x4, f2y4, f2x5, f2y5, f2x6, f2y6, f2x7, f2y7⟩ := HF.out _ HX2.out)
                                          | (go_at_call 28; ((with_reducible refine (HQ2.out _ HX2.out).mono ?_); rintro e w3 ⟨rfl, hb⟩); have HX3 := Lib.hid (HX2.out.chain hb); clear hb; clear f2x2 f2y2 f2x3 f2y3 f2x4 f2y4 f2x5 f2y5 f2x6 f2y6 f2x7 f2y7; obtain ⟨-, -, -, -, -, -, -, -, -, -, f3x5, f3y5, f3x6, f3y6, f3x7, f3y7⟩ := HF.out _ HX3.out)
                                          | (go_at_call 28; ((with_reducible refine (HQ3.out _ HX3.out).mono ?_); rintro e w4 ⟨rfl, hb⟩); have HX4 := Lib.hid (HX3.out.chain hb); clear hb; clear f3x5 f3y5 f3x6 f3y6 f3x7 f3y7))
                                        go_ret
                                        refine ⟨?_, HB.out.chain (HI3.out.1.chain (HBL.out.chain HX4.out))⟩
                                        have hrf : r = false := by
                                          cases r with
                                          | false => rfl
                                          | true =>
                                            have h1 := ((HG.out.1 rfl).2.2.2.1).2 k _ _ HXY.out.1 HXY.out.2
                                            have h2 := HSM.out.1 h1
                                            have h7 := HQI.out.2.2; have h8 := h2.2.2.2; simp [h8] at h7
                                        rw [hrf]
                                        rfl
                                      | true =>
                                        go_wp2_with (first
                                          | (go_at_call 67; ((with_reducible refine (HQ1.out _ HX0.out).mono ?_); rintro e w2 ⟨rfl, hb⟩); have HX2 := Lib.hid (HX0.out.chain hb); clear hb; clear cx0 cy0 cx1 cy1 cx2 cy2 cx3 cy3 cx4 cy4 cx5 cy5 cx6 cy6 cx7 cy7; obtain ⟨-, -, -, -, f2x2, f2y2, f2x3, f2y3, f2x4, f2y4, f2x5, f2y5, f2x6, f2y6, f2x7, f2y7⟩ := HF.out _ HX2.out)
                                          | (go_at_call 28; ((with_reducible refine (HQ2.out _ HX2.out).mono ?_); rintro e w3 ⟨rfl, hb⟩); have HX3 := Lib.hid (HX2.out.chain hb); clear hb; clear f2x2 f2y2 f2x3 f2y3 f2x4 f2y4 f2x5 f2y5 f2x6 f2y6 f2x7 f2y7; obtain ⟨-, -, -, -, -, -, -, -, -, -, f3x5, f3y5, f3x6, f3y6, f3x7, f3y7⟩ := HF.out _ HX3.out)
                                          | (go_at_call 28; ((with_reducible refine (HQ3.out _ HX3.out).mono ?_); rintro e w4 ⟨rfl, hb⟩); have HX4 := Lib.hid (HX3.out.chain hb); clear hb; clear f3x5 f3y5 f3x6 f3y6 f3x7 f3y7))
                                        go_roundg (n3 - (k + 1))
                                        case measure => have := HLT.out.2; omega
                                        case rel =>
                                          refine ⟨k + 1, rfl, (by have := HLT.out.2; omega), by go_num, Lib.hid ⟨HI3.out.1.chain (HBL.out.chain HX4.out), fun i x' y' hi hx' hy' => ?_⟩⟩
                                          by_cases h : i = k
                                          · subst h
                                            obtain rfl := Option.some.inj (HXY.out.1.symm.trans hx')
                                            obtain rfl := Option.some.inj (HXY.out.2.symm.trans hy')
                                            refine HSM.out.2 ⟨by first | exact rfl | exact trivial, ?_, ?_, ?_⟩
                                            · exact HQI.out.1.1 (by first | exact rfl | exact trivial)
                                            · exact HQI.out.2.1.1 (by first | exact rfl | exact trivial)
                                            · exact HQI.out.2.2.1 (by first | exact rfl | exact trivial)
                                          · exact HI3.out.2 i x' y' (by omega) hx' hy'
                                · have HNE := Lib.hid h0
                                  have hs0 : (x0 == y0) = false := by simpa using h0
                                  go_wp2
                                  go_ret
                                  refine ⟨?_, HB.out.chain (HI3.out.1.chain (HBL.out.chain HX0.out))⟩
                                  have hrf : r = false := by
                                    cases r with
                                    | false => rfl
                                    | true =>
                                      have h1 := ((HG.out.1 rfl).2.2.2.1).2 k _ _ HXY.out.1 HXY.out.2
                                      have h2 := HSM.out.1 h1
                                      exact absurd (h2.1) HNE.out
                                  rw [hrf]
                                  rfl
                            · obtain rfl : k = n3 := by omega
                              obtain ⟨hfw1, hfw2⟩ := HF3.out _ HI3.out.1
                              have HA3 : Hid (All2 (fun x y => x = y) l3 k3) := Lib.hid ⟨HL3.out.2.2.1.symm.trans HL3.out.2.2.2, fun i x y hx hy => HI3.out.2 i x y (by have h1 := (List.getElem?_eq_some_iff.1 hx).1; have h2 := HL3.out.2.2.1; omega) hx hy⟩
                              have HI3P := Lib.hid HI3.out.1
                              go_wp2
                              clear hfw1 hfw2
                              go_loopg [11] n4 (fun mm j wr => ∃ k : Nat, mm = n4 - k ∧ k ≤ n4 ∧ j = .int .i64 k ∧ Hid (Below W1.heap.size W1 wr ∧ ∀ (i : Nat) x y, i < k → l4[i]? = some x → k4[i]? = some y → SamePr x y))
                              case atStart => exact ⟨0, rfl, Nat.zero_le _, (by first | rfl | go_num), Lib.hid ⟨HI3P.out, fun i x y h => absurd h (Nat.not_lt_zero _)⟩⟩
                              case round =>
                                obtain ⟨k, rfl, hk, rfl, HI4⟩ := hrel
                                by_cases hlt : k < n4
                                · have hki : (k : Int) < n4 := by omega
                                  obtain ⟨x, hx⟩ : ∃ x, l4[k]? = some x := ⟨l4[k]'(by rw [← HL4.out.2.2.1]; exact hlt), List.getElem?_eq_getElem _⟩
                                  obtain ⟨y, hy⟩ : ∃ y, k4[k]? = some y := ⟨k4[k]'(by rw [← HL4.out.2.2.2]; exact hlt), List.getElem?_eq_getElem _⟩
                                  obtain ⟨a, cs, rfl, hab, hcs, hca, hvx⟩ := HL4.out.1 k x hx
                                  obtain ⟨b, ds, rfl, hbb, hds, hcb, hvy⟩ := HL4.out.2.1 k y hy
                                  obtain ⟨S, hS⟩ : ∃ S : World → Prop, S = fun W => Below wr.heap.size wr W := ⟨_, rfl⟩
                                  have HS2 : Hid (∀ W, Below wr.heap.size wr W → S W) := Lib.hid (fun W hb => by rw [hS]; exact hb)
                                  have HBW : Hid (∀ W, Below wr.heap.size wr W → Below w.heap.size w W) := Lib.hid (fun W hb => HB.out.chain (HI4.out.1.chain hb))
                                  have HFX : Hid (∀ W, S W → W.cell? ⟨w.heap.size, 5, none⟩ = some (.slice (some a) n4 ca4) ∧ W.cell? ⟨w.heap.size + 1, 5, none⟩ = some (.slice (some b) n4 cb4) ∧ (loadCellsFrom (a.add (k * 12)) 0 N4 #[]).run Tryz.prog W = .ok cs W ∧ (loadCellsFrom (b.add (k * 12)) 0 N4 #[]).run Tryz.prog W = .ok ds W) := Lib.hid (fun W hs => by
                                    rw [hS] at hs
                                    have hbw := HBW.out _ hs
                                    exact ⟨(HF4.out _ (HI4.out.1.chain hs)).1, (HF4.out _ (HI4.out.1.chain hs)).2, load_list (fun o v hv => (fun o (v : Value) (hv : cs[o]? = some v) => (hbw.cell (p := (a.add (k * 12)).add o) (by rw [block_adds, block_adds]; exact hab)).trans (hca o v hv)) o v hv) (hcs.trans HN4.out.symm), load_list (fun o v hv => (fun o (v : Value) (hv : ds[o]? = some v) => (hbw.cell (p := (b.add (k * 12)).add o) (by rw [block_adds, block_adds]; exact hbb)).trans (hcb o v hv)) o v hv) (hds.trans HN4.out.symm)⟩)
                                  obtain ⟨ok, hok⟩ := boolOf (SamePr x y)
                                  have HCC : Hid (∀ W, Below wr.heap.size wr W → Calls Tryz.prog 69 #[.agg cs, .agg ds] W fun e w' => e = .returned (.bool ok) ∧ Below W.heap.size W w') := Lib.hid (fun W hb => by
                                    have hbw := HBW.out _ hb
                                    exact HE4.out x y (List.mem_of_getElem? hx) (List.mem_of_getElem? hy) cs ds W ok (kept vpr_keeps hbw hvx) (kept vpr_keeps hbw hvy) hok)
                                  have HXY := Lib.hid (And.intro hx (And.intro hy hok))
                                  have HLT := Lib.hid (And.intro trivial hlt)
                                  have HX0 := Lib.hid (Below.refl wr.heap.size wr).drew
                                  have hmx : Tryz.prog.follows .mixedOrders = true := by kernel_rfl
                                  have hfw := HF4.out _ HI4.out.1
                                  obtain ⟨hfw1, hfw2⟩ := hfw
                                  clear hx hy hca hcb hcs hds hab hbb hS hok hvx hvy
                                  cases ok with
                                  | false =>
                                    go_wp2
                                    refine wp_region_held (S := S) hmx ?_
                                    change wpAnyH _ _ _ _ _ 12 #[false, false, false, false, false, false, false, false, false, false, false, false] _ wr.drew
                                    have g0 := HS2.out _ HX0.out
                                    refine tk 0 240 (.pointer (some ⟨w.heap.size, 5, none⟩)) g0 ?v ?_
                                    case v => intro Wx hSx; go_simp
                                    refine tk 1 241 (.slice (some a) n4 ca4) g0 ?v ?_
                                    case v => intro Wx hSx; have q0 := (HFX.out Wx hSx).1; go_simp
                                    refine tk 2 242 (.int .i64 k) g0 ?v ?_
                                    case v => intro Wx hSx; go_simp
                                    refine tk 3 243 (.pointer (some (a.add (k * 12)))) g0 ?v ?_
                                    case v => intro Wx hSx; go_simp
                                    try simp only [Act.put, List.setIfInBounds_toArray, List.set_cons_zero, List.set_cons_succ]
                                    refine tk 4 244 (.agg cs) g0 ?v ?_
                                    case v => intro Wx hSx; have q0 := (HFX.out Wx hSx).2.2.1; go_simp
                                    refine tk 5 245 (.pointer (some ⟨w.heap.size + 1, 5, none⟩)) g0 ?v ?_
                                    case v => intro Wx hSx; go_simp
                                    refine tk 6 246 (.slice (some b) n4 cb4) g0 ?v ?_
                                    case v => intro Wx hSx; have q0 := (HFX.out Wx hSx).2.1; go_simp
                                    refine tk 7 247 (.int .i64 k) g0 ?v ?_
                                    case v => intro Wx hSx; go_simp
                                    try simp only [Act.put, List.setIfInBounds_toArray, List.set_cons_zero, List.set_cons_succ]
                                    refine tk 8 248 (.pointer (some (b.add (k * 12)))) g0 ?v ?_
                                    case v => intro Wx hSx; go_simp
                                    refine tk 9 249 (.agg ds) g0 ?v ?_
                                    case v => intro Wx hSx; have q0 := (HFX.out Wx hSx).2.2.2; go_simp
                                    refine o1 10 (fun K hK => ?_)
                                    go_simp
                                    refine (HCC.out _ HX0.out).mono ?_
                                    rintro e v1 ⟨rfl, hb⟩
                                    have HX1 := Lib.hid (HX0.out.chain hb)
                                    clear hb
                                    have g1 := HS2.out _ HX1.out
                                    refine hK _ _ g1 ?_
                                    clear hK K g0
                                    refine tk 11 251 (.bool true) g1 ?v ?_
                                    case v => intro Wx hSx; go_simp
                                    try simp only [Act.put, List.setIfInBounds_toArray, List.set_cons_zero, List.set_cons_succ]
                                    try simp only [Act.put, List.setIfInBounds_toArray, List.set_cons_zero, List.set_cons_succ]
                                    refine wpAnyH_done (by kernel_rfl) ?_ _
                                    go_wp2
                                    go_ret
                                    refine ⟨?_, HB.out.chain (HI4.out.1.chain HX1.out)⟩
                                    have hrf : r = false := by
                                      cases r with
                                      | false => rfl
                                      | true =>
                                        have h2 := ((HG.out.1 rfl).2.2.2.2).2 k _ _ HXY.out.1 HXY.out.2.1
                                        exact absurd h2 (by have := HXY.out.2.2; simpa using this)
                                    rw [hrf]
                                    rfl
                                  | true =>
                                    go_wp2
                                    refine wp_region_held (S := S) hmx ?_
                                    change wpAnyH _ _ _ _ _ 12 #[false, false, false, false, false, false, false, false, false, false, false, false] _ wr.drew
                                    have g0 := HS2.out _ HX0.out
                                    refine tk 0 240 (.pointer (some ⟨w.heap.size, 5, none⟩)) g0 ?v ?_
                                    case v => intro Wx hSx; go_simp
                                    refine tk 1 241 (.slice (some a) n4 ca4) g0 ?v ?_
                                    case v => intro Wx hSx; have q0 := (HFX.out Wx hSx).1; go_simp
                                    refine tk 2 242 (.int .i64 k) g0 ?v ?_
                                    case v => intro Wx hSx; go_simp
                                    refine tk 3 243 (.pointer (some (a.add (k * 12)))) g0 ?v ?_
                                    case v => intro Wx hSx; go_simp
                                    try simp only [Act.put, List.setIfInBounds_toArray, List.set_cons_zero, List.set_cons_succ]
                                    refine tk 4 244 (.agg cs) g0 ?v ?_
                                    case v => intro Wx hSx; have q0 := (HFX.out Wx hSx).2.2.1; go_simp
                                    refine tk 5 245 (.pointer (some ⟨w.heap.size + 1, 5, none⟩)) g0 ?v ?_
                                    case v => intro Wx hSx; go_simp
                                    refine tk 6 246 (.slice (some b) n4 cb4) g0 ?v ?_
                                    case v => intro Wx hSx; have q0 := (HFX.out Wx hSx).2.1; go_simp
                                    refine tk 7 247 (.int .i64 k) g0 ?v ?_
                                    case v => intro Wx hSx; go_simp
                                    try simp only [Act.put, List.setIfInBounds_toArray, List.set_cons_zero, List.set_cons_succ]
                                    refine tk 8 248 (.pointer (some (b.add (k * 12)))) g0 ?v ?_
                                    case v => intro Wx hSx; go_simp
                                    refine tk 9 249 (.agg ds) g0 ?v ?_
                                    case v => intro Wx hSx; have q0 := (HFX.out Wx hSx).2.2.2; go_simp
                                    refine o1 10 (fun K hK => ?_)
                                    go_simp
                                    refine (HCC.out _ HX0.out).mono ?_
                                    rintro e v1 ⟨rfl, hb⟩
                                    have HX1 := Lib.hid (HX0.out.chain hb)
                                    clear hb
                                    have g1 := HS2.out _ HX1.out
                                    refine hK _ _ g1 ?_
                                    clear hK K g0
                                    refine tk 11 251 (.bool false) g1 ?v ?_
                                    case v => intro Wx hSx; go_simp
                                    try simp only [Act.put, List.setIfInBounds_toArray, List.set_cons_zero, List.set_cons_succ]
                                    try simp only [Act.put, List.setIfInBounds_toArray, List.set_cons_zero, List.set_cons_succ]
                                    refine wpAnyH_done (by kernel_rfl) ?_ _
                                    go_wp2
                                    go_roundg (n4 - (k + 1))
                                    case measure => have := HLT.out.2; omega
                                    case rel =>
                                      refine ⟨k + 1, rfl, (by have := HLT.out.2; omega), by go_num, Lib.hid ⟨HI4.out.1.chain HX1.out, fun i x' y' hi hx' hy' => ?_⟩⟩
                                      by_cases h : i = k
                                      · subst h
                                        obtain rfl := Option.some.inj (HXY.out.1.symm.trans hx')
                                        obtain rfl := Option.some.inj (HXY.out.2.1.symm.trans hy')
                                        exact HXY.out.2.2.1 (by first | exact rfl | exact trivial)
                                      · exact HI4.out.2 i x' y' (by omega) hx' hy'
                                · obtain rfl : k = n4 := by omega
                                  obtain ⟨hfw1, hfw2⟩ := HF4.out _ HI4.out.1
                                  have HA4 : Hid (All2 SamePr l4 k4) := Lib.hid ⟨HL4.out.2.2.1.symm.trans HL4.out.2.2.2, fun i x y hx hy => HI4.out.2 i x y (by have h1 := (List.getElem?_eq_some_iff.1 hx).1; have h2 := HL4.out.2.2.1; omega) hx hy⟩
                                  go_wp2
                                  go_ret
                                  refine ⟨?_, HB.out.chain HI4.out.1⟩
                                  have hrt : r = true := HG.out.2 ⟨HA0.out, HA1.out, HA2.out, HA3.out, HA4.out⟩
                                  rw [hrt]
                                  rfl
            · have e : r = false := Bool.eq_false_iff.2 (fun h => hlen4 (by have h1 := HR4.out.2.2.1; have h2 := HR4.out.2.2.2; have h3 := ((hr.1 h).2.2.2.2.2).1; omega))
              have hne : ¬ (n4 : Int) = m4 := by omega
              clear hr
              subst e
              go_enter Tryz.func26, Tryz.ntmps26
              simp only [e4, e13, e23, e33, e14]
              clear e4 hT e13 e23 e33 hT3 e14 hT4
              go_wp2_with (go_at_call 67; rw [← hW1]; clear hW1; ((with_reducible refine (HQ1.out _ (HB.out.chain HX0.out)).mono ?_); rintro e w2 ⟨rfl, hb⟩); have HX2 := Lib.hid (HX0.out.chain hb); clear hb; clear cx0 cy0 cx1 cy1 cx2 cy2 cx3 cy3 cx4 cy4 cx5 cy5; obtain ⟨-, -, -, -, f2x2, f2y2, f2x3, f2y3, f2x4, f2y4, f2x5, f2y5⟩ := HF.out _ HX2.out)
              go_ret
              exact ⟨rfl, HB.out.chain HX2.out⟩
          · have e : r = false := Bool.eq_false_iff.2 (fun h => hlen3 (by have h1 := HR3.out.2.2.1; have h2 := HR3.out.2.2.2; have h3 := ((hr.1 h).2.2.2.2.1).1; omega))
            have hne : ¬ (n3 : Int) = m3 := by omega
            clear hr
            subst e
            go_enter Tryz.func26, Tryz.ntmps26
            simp only [e4, e13, e23, e33, e14]
            clear e4 hT e13 e23 e33 hT3 e14 hT4
            go_wp2_with (go_at_call 67; rw [← hW1]; clear hW1; ((with_reducible refine (HQ1.out _ (HB.out.chain HX0.out)).mono ?_); rintro e w2 ⟨rfl, hb⟩); have HX2 := Lib.hid (HX0.out.chain hb); clear hb; clear cx0 cy0 cx1 cy1 cx2 cy2 cx3 cy3 cx4 cy4 cx5 cy5; obtain ⟨-, -, -, -, f2x2, f2y2, f2x3, f2y3, f2x4, f2y4, f2x5, f2y5⟩ := HF.out _ HX2.out)
            go_ret
            exact ⟨rfl, HB.out.chain HX2.out⟩
        · have e : r = false := Bool.eq_false_iff.2 (fun h => hlen2 (by have h1 := HR2.out.2.2.1; have h2 := HR2.out.2.2.2; have h3 := ((hr.1 h).2.2.2.1).1; omega))
          have hne : ¬ (n2 : Int) = m2 := by omega
          clear hr
          subst e
          go_enter Tryz.func26, Tryz.ntmps26
          simp only [e4, e13, e23, e33, e14]
          clear e4 hT e13 e23 e33 hT3 e14 hT4
          go_wp2_with (go_at_call 67; rw [← hW1]; clear hW1; ((with_reducible refine (HQ1.out _ (HB.out.chain HX0.out)).mono ?_); rintro e w2 ⟨rfl, hb⟩); have HX2 := Lib.hid (HX0.out.chain hb); clear hb; clear cx0 cy0 cx1 cy1 cx2 cy2 cx3 cy3 cx4 cy4 cx5 cy5; obtain ⟨-, -, -, -, f2x2, f2y2, f2x3, f2y3, f2x4, f2y4, f2x5, f2y5⟩ := HF.out _ HX2.out)
          go_ret
          exact ⟨rfl, HB.out.chain HX2.out⟩
      · have e : r = false := Bool.eq_false_iff.2 (fun h => hlen1 (by have h1 := HR1.out.2.2.1; have h2 := HR1.out.2.2.2; have h3 := ((hr.1 h).2.2.1).1; omega))
        have hne : ¬ (n1 : Int) = m1 := by omega
        clear hr
        subst e
        go_enter Tryz.func26, Tryz.ntmps26
        simp only [e4, e13, e23, e33, e14]
        clear e4 hT e13 e23 e33 hT3 e14 hT4
        go_wp2_with (go_at_call 67; rw [← hW1]; clear hW1; ((with_reducible refine (HQ1.out _ (HB.out.chain HX0.out)).mono ?_); rintro e w2 ⟨rfl, hb⟩); have HX2 := Lib.hid (HX0.out.chain hb); clear hb; clear cx0 cy0 cx1 cy1 cx2 cy2 cx3 cy3 cx4 cy4 cx5 cy5; obtain ⟨-, -, -, -, f2x2, f2y2, f2x3, f2y3, f2x4, f2y4, f2x5, f2y5⟩ := HF.out _ HX2.out)
        go_ret
        exact ⟨rfl, HB.out.chain HX2.out⟩
  · have e : r = false := Bool.eq_false_iff.2 (fun h => hlen0 (by have h1 := HR0.out.2.2.1; have h2 := HR0.out.2.2.2; have h3 := ((hr.1 h).2.1).1; omega))
    have hne : ¬ (n0 : Int) = m0 := by omega
    clear hr
    subst e
    go_enter Tryz.func26, Tryz.ntmps26
    simp only [e4, e13, e23, e33, e14]
    clear e4 hT e13 e23 e33 hT3 e14 hT4
    go_wp2
    go_ret
    rw [← hW1]
    exact ⟨rfl, HB.out.chain HX0.out⟩

end Go.Proofs.YtkjfgbcbeabpgaaGreatDoor
