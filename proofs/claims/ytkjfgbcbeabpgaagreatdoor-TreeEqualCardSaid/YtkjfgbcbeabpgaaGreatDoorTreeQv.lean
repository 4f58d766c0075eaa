/-
  TreeEqual's body: the walk.
-/
import Derived.Test.YtkjfgbcbeabpgaaGreatDoorTreeLp
import Derived.Test.YtkjfgbcbeabpgaaGreatDoorTreeQa
import Derived.Test.YtkjfgbcbeabpgaaGreatDoorTreeP
import Derived.Test.YtkjfgbcbeabpgaaGreatDoorTreeAx
namespace Go.Proofs.YtkjfgbcbeabpgaaGreatDoor
open Go.RowKit

section
variable {P : Program} {ops : Array Oper} {Q : Exit → Act → World → Prop} {md : Region.Mode} {S : World → Prop}

theorem anyH_three (i j m : Nat) {oi oj om : Oper} {k : Nat} {l : Array Bool} {a : Act} {w : World} (hr : Region.ready md ops l = [i, j, m]) (hoi : ops[i]? = some oi) (hoj : ops[j]? = some oj) (hom : ops[m]? = some om)
    (hwi : Region.wanted oi (yielded ops a.tmps) = true) (hwj : Region.wanted oj (yielded ops a.tmps) = true) (hwm : Region.wanted om (yielded ops a.tmps) = true)
    (hi : ∀ K : Act → World → Prop, (∀ a w, S w → wpAnyH P md ops Q S k (l.setIfInBounds i true) a w → K a w) → Oper.wp P oi a w K Q)
    (hj : ∀ K : Act → World → Prop, (∀ a w, S w → wpAnyH P md ops Q S k (l.setIfInBounds j true) a w → K a w) → Oper.wp P oj a w K Q)
    (hm : ∀ K : Act → World → Prop, (∀ a w, S w → wpAnyH P md ops Q S k (l.setIfInBounds m true) a w → K a w) → Oper.wp P om a w K Q) : wpAnyH P md ops Q S (k + 1) l a w := by
  refine ⟨fun h0 => (by rw [hr] at h0; cases h0), fun n hn => ?_⟩
  rw [hr] at hn
  simp only [List.mem_cons, List.not_mem_nil, or_false] at hn
  rcases hn with rfl | rfl | rfl
  · unfold wpOp
    rw [hoi]
    show if Region.wanted oi (yielded ops a.tmps) = true then _ else _
    rw [if_pos hwi]
    exact .inl (hi _ (fun _ _ h1 h2 => ⟨h1, h2⟩))
  · unfold wpOp
    rw [hoj]
    show if Region.wanted oj (yielded ops a.tmps) = true then _ else _
    rw [if_pos hwj]
    exact .inl (hj _ (fun _ _ h1 h2 => ⟨h1, h2⟩))
  · unfold wpOp
    rw [hom]
    show if Region.wanted om (yielded ops a.tmps) = true then _ else _
    rw [if_pos hwm]
    exact .inl (hm _ (fun _ _ h1 h2 => ⟨h1, h2⟩))

end

/-- A truth value, and a later world. -/
def BoolCut (W1 : World) (v : Value) (wx : World) : Prop := ∃ (b : Bool) (W : World), W = wx ∧ v = .bool b ∧ Below W1.heap.size W1 W

theorem hid_Proc2 : ∃ (T N : Nat) (zc : Array Value), 62 = T ∧ N = 12 ∧ zc.size = N ∧ (∀ w : World, (isAgg T).run Tryz.prog w = .ok true w) ∧ (∀ w : World, (sizeOf T).run Tryz.prog w = .ok N w) ∧ (∀ w : World, (zeroValue T).run Tryz.prog w = .ok (.agg zc) w) :=
  ⟨_, 12, #[.string ⟨#[]⟩, .int .i64 0, .int .i64 0, .slice none 0 0, .slice none 0 0, .string ⟨#[]⟩, .string ⟨#[]⟩, .bool false, .slice none 0 0, .slice none 0 0, .slice none 0 0, .slice none 0 0], rfl, rfl, rfl, fun w => by kernel_rfl, fun w => by kernel_rfl, fun w => by kernel_rfl⟩

set_option maxRecDepth 100000 in
set_option maxHeartbeats 40000000 in
theorem equal_core (cp cq : Array Value) (hcp : cp.size = 6) (hcq : cq.size = 6) (Ap Bq : Option Addr) (np nq ap bq : Nat) (kp5 : cp[5]? = some (.slice Ap np ap)) (kq5 : cq[5]? = some (.slice Bq nq bq))
    (fA1 fA2 fA3 gA1 gA2 gA3 : Option Addr) (fn1 fn2 fn3 gn1 gn2 gn3 fc1 fc2 fc3 gc1 gc2 gc3 : Nat) (k1 m1 : Int) (s1 : List UInt8) (A1 : Option Addr) (j1 c1 : Nat) (k2 m2 : Int) (s2 : List UInt8) (A2 : Option Addr) (j2 c2 : Nat) (v0 v1 v2 : Bool) (w : World)
    (pxs qxs : List Pr) (hnp : np = pxs.length) (hnq : nq = qxs.length) (bnp : np ≤ maxLen) (_bnq : nq ≤ maxLen) (rp : PrRow w w.heap.size pxs Ap) (rq : PrRow w w.heap.size qxs Bq)
    (hE : ∀ x y, x ∈ pxs → y ∈ qxs → ∃ v : Bool, ∀ d1 d2 W, Below w.heap.size w W → PrOwn w w.heap.size d1 x → PrOwn w w.heap.size d2 y →
      (Calls Tryz.prog 31 #[.slice d1.b x.bd.length d1.nb, .slice d2.b y.bd.length d2.nb] W fun e w' => e = .returned (.bool v) ∧ Below W.heap.size W w') ∧
      (Calls Tryz.prog 32 #[.slice d1.b x.bd.length d1.nb, .slice d2.b y.bd.length d2.nb] W fun e w' => e = .returned (.bool v) ∧ Below W.heap.size W w'))
    (hd0 : ∀ W, Below w.heap.size w W → Calls Tryz.prog 25 #[.agg cp, .agg cq] W fun e w' => e = .returned (.bool v0) ∧ Below W.heap.size W w')
    (hd1 : ∀ W, Below w.heap.size w W → Calls Tryz.prog 26 #[.agg cp, .agg cq] W fun e w' => e = .returned (.bool v0) ∧ Below W.heap.size W w')
    (hd2 : ∀ W, Below w.heap.size w W → Calls Tryz.prog 27 #[.agg #[.slice fA1 fn1 fc1, .slice fA2 fn2 fc2, .slice fA3 fn3 fc3], .agg #[.slice gA1 gn1 gc1, .slice gA2 gn2 gc2, .slice gA3 gn3 gc3]] W fun e w' => e = .returned (.bool v1) ∧ Below W.heap.size W w')
    (hd3 : ∀ W, Below w.heap.size w W → Calls Tryz.prog 28 #[.agg #[.slice fA1 fn1 fc1, .slice fA2 fn2 fc2, .slice fA3 fn3 fc3], .agg #[.slice gA1 gn1 gc1, .slice gA2 gn2 gc2, .slice gA3 gn3 gc3]] W fun e w' => e = .returned (.bool v1) ∧ Below W.heap.size W w')
    (hd4 : ∀ W, Below w.heap.size w W → Calls Tryz.prog 29 #[.agg #[.int .i64 k1, .int .i64 m1, .string ⟨s1.toArray⟩, .slice A1 j1 c1], .agg #[.int .i64 k2, .int .i64 m2, .string ⟨s2.toArray⟩, .slice A2 j2 c2]] W fun e w' => e = .returned (.bool v2) ∧ Below W.heap.size W w')
    (hd5 : ∀ W, Below w.heap.size w W → Calls Tryz.prog 30 #[.agg #[.int .i64 k1, .int .i64 m1, .string ⟨s1.toArray⟩, .slice A1 j1 c1], .agg #[.int .i64 k2, .int .i64 m2, .string ⟨s2.toArray⟩, .slice A2 j2 c2]] W fun e w' => e = .returned (.bool v2) ∧ Below W.heap.size W w')
    (hm0 : ∀ W, Below w.heap.size w W → Calls Tryz.prog 22 #[.int .i64 200000, .agg cp] W fun e w' => LeftOk e W.heap.size W w')
    (hm1 : ∀ W (r : Int), -1 ≤ r → r ≤ 200000 → Below w.heap.size w W → Calls Tryz.prog 22 #[.int .i64 r, .agg cq] W fun e w' => LeftOk e W.heap.size W w')
    (hm2 : ∀ W (r : Int) g0, -1 ≤ r → r ≤ 200000 → Below w.heap.size w W → W.heap[g0]? = some (.cells #[.slice fA1 fn1 fc1, .slice fA2 fn2 fc2, .slice fA3 fn3 fc3, .slice gA1 gn1 gc1, .slice gA2 gn2 gc2, .slice gA3 gn3 gc3] 38) → Calls Tryz.prog 16 #[.int .i64 r, .slice (some ⟨g0, 0, none⟩) 2 2] W fun e w' => LeftOk e W.heap.size W w')
    (hm3 : ∀ W (r : Int) g0, -1 ≤ r → r ≤ 200000 → Below w.heap.size w W → W.heap[g0]? = some (.cells #[.int .i64 k1, .int .i64 m1, .string ⟨s1.toArray⟩, .slice A1 j1 c1, .int .i64 k2, .int .i64 m2, .string ⟨s2.toArray⟩, .slice A2 j2 c2] 24) → Calls Tryz.prog 11 #[.int .i64 r, .slice (some ⟨g0, 0, none⟩) 2 2] W fun e w' => LeftOk e W.heap.size W w') :
    Calls Tryz.prog 7 #[.agg cp, .agg cq, .agg #[.slice fA1 fn1 fc1, .slice fA2 fn2 fc2, .slice fA3 fn3 fc3], .agg #[.slice gA1 gn1 gc1, .slice gA2 gn2 gc2, .slice gA3 gn3 gc3], .agg #[.int .i64 k1, .int .i64 m1, .string ⟨s1.toArray⟩, .slice A1 j1 c1], .agg #[.int .i64 k2, .int .i64 m2, .string ⟨s2.toArray⟩, .slice A2 j2 c2]] w fun e w' => e = .returned (.bool true) ∧ Below w.heap.size w w' := by
  obtain ⟨T, N, hT, hN, hag, hsz⟩ := hid_Program
  obtain ⟨T2, N2, zc, hT2, hN2, hzc, hag2, hsz2, hzv2⟩ := hid_Proc2
  have e1 : ∀ y : Operand, Op.load 51 y = Op.load T y := fun y => by rw [hT]
  have e4 : ∀ y : Operand, Op.box 51 y = Op.box T y := fun y => by rw [hT]
  have f1 : ∀ y : Operand, Op.load 62 y = Op.load T2 y := fun y => by rw [hT2]
  have f2 : ∀ y z : Operand, Op.store 62 y z = Op.store T2 y z := fun y z => by rw [hT2]
  have f3 : Op.alloc 62 = Op.alloc T2 := by rw [hT2]
  have hszp : cp.size = N := hcp.trans hN.symm
  have hszq : cq.size = N := hcq.trans hN.symm
  have HN2 := Lib.hid (And.intro hN2 hzc)
  have HPX := Lib.hid (And.intro rp (And.intro hnp trivial))
  have HQX := Lib.hid (And.intro rq (And.intro hnq trivial))
  have HEE := Lib.hid hE
  have HAw : Hid (∀ W, Calls Tryz.prog 9 #[] W fun e w' => e = .returned (.bool true) ∧ Below W.heap.size W w') := Lib.hid awake_any
  obtain ⟨W1, hW1⟩ : ∃ W1, W1 = ((((((w.alloc (.cells cp T)).alloc (.cells cq T)).alloc (.cells #[.slice fA1 fn1 fc1, .slice fA2 fn2 fc2, .slice fA3 fn3 fc3] 38)).alloc (.cells #[.slice gA1 gn1 gc1, .slice gA2 gn2 gc2, .slice gA3 gn3 gc3] 38)).alloc (.cells #[.int .i64 k1, .int .i64 m1, .string ⟨s1.toArray⟩, .slice A1 j1 c1] 24)).alloc (.cells #[.int .i64 k2, .int .i64 m2, .string ⟨s2.toArray⟩, .slice A2 j2 c2] 24)) := ⟨_, rfl⟩
  have HB : Hid (Below w.heap.size w W1) := Lib.hid (by rw [hW1]; exact ((((((below_alloc w _).chain (below_alloc _ _)).chain (below_alloc _ _)).chain (below_alloc _ _)).chain (below_alloc _ _)).chain (below_alloc _ _)))
  have p0 : W1.heap[w.heap.size]? = some (.cells cp T (0, 0)) := by
    rw [hW1]
    have h := heap_of_alloc w (.cells cp T)
    exact heap_keep (heap_keep (heap_keep (heap_keep (heap_keep (h)))))
  have p1 : W1.heap[w.heap.size + 1]? = some (.cells cq T (0, 0)) := by
    rw [hW1]
    have h := heap_of_alloc (w.alloc (.cells cp T)) (.cells cq T)
    simp only [size_of_alloc] at h
    exact heap_keep (heap_keep (heap_keep (heap_keep (h))))
  have p2 : W1.heap[w.heap.size + 2]? = some (.cells #[.slice fA1 fn1 fc1, .slice fA2 fn2 fc2, .slice fA3 fn3 fc3] 38 (0, 0)) := by
    rw [hW1]
    have h := heap_of_alloc ((w.alloc (.cells cp T)).alloc (.cells cq T)) (.cells #[.slice fA1 fn1 fc1, .slice fA2 fn2 fc2, .slice fA3 fn3 fc3] 38)
    simp only [size_of_alloc] at h
    exact heap_keep (heap_keep (heap_keep (h)))
  have p3 : W1.heap[w.heap.size + 3]? = some (.cells #[.slice gA1 gn1 gc1, .slice gA2 gn2 gc2, .slice gA3 gn3 gc3] 38 (0, 0)) := by
    rw [hW1]
    have h := heap_of_alloc (((w.alloc (.cells cp T)).alloc (.cells cq T)).alloc (.cells #[.slice fA1 fn1 fc1, .slice fA2 fn2 fc2, .slice fA3 fn3 fc3] 38)) (.cells #[.slice gA1 gn1 gc1, .slice gA2 gn2 gc2, .slice gA3 gn3 gc3] 38)
    simp only [size_of_alloc] at h
    exact heap_keep (heap_keep (h))
  have p4 : W1.heap[w.heap.size + 4]? = some (.cells #[.int .i64 k1, .int .i64 m1, .string ⟨s1.toArray⟩, .slice A1 j1 c1] 24 (0, 0)) := by
    rw [hW1]
    have h := heap_of_alloc ((((w.alloc (.cells cp T)).alloc (.cells cq T)).alloc (.cells #[.slice fA1 fn1 fc1, .slice fA2 fn2 fc2, .slice fA3 fn3 fc3] 38)).alloc (.cells #[.slice gA1 gn1 gc1, .slice gA2 gn2 gc2, .slice gA3 gn3 gc3] 38)) (.cells #[.int .i64 k1, .int .i64 m1, .string ⟨s1.toArray⟩, .slice A1 j1 c1] 24)
    simp only [size_of_alloc] at h
    exact heap_keep (h)
  have p5 : W1.heap[w.heap.size + 5]? = some (.cells #[.int .i64 k2, .int .i64 m2, .string ⟨s2.toArray⟩, .slice A2 j2 c2] 24 (0, 0)) := by
    rw [hW1]
    have h := heap_of_alloc (((((w.alloc (.cells cp T)).alloc (.cells cq T)).alloc (.cells #[.slice fA1 fn1 fc1, .slice fA2 fn2 fc2, .slice fA3 fn3 fc3] 38)).alloc (.cells #[.slice gA1 gn1 gc1, .slice gA2 gn2 gc2, .slice gA3 gn3 gc3] 38)).alloc (.cells #[.int .i64 k1, .int .i64 m1, .string ⟨s1.toArray⟩, .slice A1 j1 c1] 24)) (.cells #[.int .i64 k2, .int .i64 m2, .string ⟨s2.toArray⟩, .slice A2 j2 c2] 24)
    simp only [size_of_alloc] at h
    exact h
  obtain ⟨S, hS⟩ : ∃ S : World → Prop, S = fun W => Below W1.heap.size W1 W := ⟨_, rfl⟩
  have HS2 : Hid (∀ W, Below W1.heap.size W1 W → S W) := Lib.hid (fun W hb => by rw [hS]; exact hb)
  have HS3 : Hid (∀ W, S W → Below W1.heap.size W1 W) := Lib.hid (fun W hb => by rw [hS] at hb; exact hb)
  have HC0 : Hid (∀ W, S W → (loadCellsFrom ⟨w.heap.size, 0, none⟩ 0 N #[]).run Tryz.prog W = .ok cp W) := Lib.hid (fun W hs => load_list (fun j v hv => by rw [add_block0]; exact cell_of_block (kept_box (HS3.out W hs) p0) j hv) hszp)
  have HC1 : Hid (∀ W, S W → (loadCellsFrom ⟨w.heap.size + 1, 0, none⟩ 0 N #[]).run Tryz.prog W = .ok cq W) := Lib.hid (fun W hs => load_list (fun j v hv => by rw [add_block0]; exact cell_of_block (kept_box (HS3.out W hs) p1) j hv) hszq)
  have HC2 : Hid (∀ W, S W → W.cell? ⟨w.heap.size + 2, 0, none⟩ = some (.slice fA1 fn1 fc1) ∧ W.cell? ⟨w.heap.size + 2, 1, none⟩ = some (.slice fA2 fn2 fc2) ∧ W.cell? ⟨w.heap.size + 2, 2, none⟩ = some (.slice fA3 fn3 fc3)) := Lib.hid (fun W hs => by
    have hb := kept_box (HS3.out W hs) p2
    exact ⟨cell_of_block hb 0 rfl, cell_of_block hb 1 rfl, cell_of_block hb 2 rfl⟩)
  have HC3 : Hid (∀ W, S W → W.cell? ⟨w.heap.size + 3, 0, none⟩ = some (.slice gA1 gn1 gc1) ∧ W.cell? ⟨w.heap.size + 3, 1, none⟩ = some (.slice gA2 gn2 gc2) ∧ W.cell? ⟨w.heap.size + 3, 2, none⟩ = some (.slice gA3 gn3 gc3)) := Lib.hid (fun W hs => by
    have hb := kept_box (HS3.out W hs) p3
    exact ⟨cell_of_block hb 0 rfl, cell_of_block hb 1 rfl, cell_of_block hb 2 rfl⟩)
  have HC4 : Hid (∀ W, S W → W.cell? ⟨w.heap.size + 4, 0, none⟩ = some (.int .i64 k1) ∧ W.cell? ⟨w.heap.size + 4, 1, none⟩ = some (.int .i64 m1) ∧ W.cell? ⟨w.heap.size + 4, 2, none⟩ = some (.string ⟨s1.toArray⟩) ∧ W.cell? ⟨w.heap.size + 4, 3, none⟩ = some (.slice A1 j1 c1)) := Lib.hid (fun W hs => by
    have hb := kept_box (HS3.out W hs) p4
    exact ⟨cell_of_block hb 0 rfl, cell_of_block hb 1 rfl, cell_of_block hb 2 rfl, cell_of_block hb 3 rfl⟩)
  have HC5 : Hid (∀ W, S W → W.cell? ⟨w.heap.size + 5, 0, none⟩ = some (.int .i64 k2) ∧ W.cell? ⟨w.heap.size + 5, 1, none⟩ = some (.int .i64 m2) ∧ W.cell? ⟨w.heap.size + 5, 2, none⟩ = some (.string ⟨s2.toArray⟩) ∧ W.cell? ⟨w.heap.size + 5, 3, none⟩ = some (.slice A2 j2 c2)) := Lib.hid (fun W hs => by
    have hb := kept_box (HS3.out W hs) p5
    exact ⟨cell_of_block hb 0 rfl, cell_of_block hb 1 rfl, cell_of_block hb 2 rfl, cell_of_block hb 3 rfl⟩)
  have HC6 : Hid (∀ W, S W → W.cell? ⟨w.heap.size, 5, none⟩ = some (.slice Ap np ap) ∧ W.cell? ⟨w.heap.size + 1, 5, none⟩ = some (.slice Bq nq bq)) := Lib.hid (fun W hs => ⟨cell_of_block (kept_box (HS3.out W hs) p0) 5 kp5, cell_of_block (kept_box (HS3.out W hs) p1) 5 kq5⟩)
  have HE0 : Hid (∀ W, Below W1.heap.size W1 W → Calls Tryz.prog 25 #[.agg cp, .agg cq] W fun e w' => e = .returned (.bool v0) ∧ Below W.heap.size W w') := Lib.hid (fun W hb => hd0 W (HB.out.chain hb))
  have HE1 : Hid (∀ W, Below W1.heap.size W1 W → Calls Tryz.prog 26 #[.agg cp, .agg cq] W fun e w' => e = .returned (.bool v0) ∧ Below W.heap.size W w') := Lib.hid (fun W hb => hd1 W (HB.out.chain hb))
  have HE2 : Hid (∀ W, Below W1.heap.size W1 W → Calls Tryz.prog 27 #[.agg #[.slice fA1 fn1 fc1, .slice fA2 fn2 fc2, .slice fA3 fn3 fc3], .agg #[.slice gA1 gn1 gc1, .slice gA2 gn2 gc2, .slice gA3 gn3 gc3]] W fun e w' => e = .returned (.bool v1) ∧ Below W.heap.size W w') := Lib.hid (fun W hb => hd2 W (HB.out.chain hb))
  have HE3 : Hid (∀ W, Below W1.heap.size W1 W → Calls Tryz.prog 28 #[.agg #[.slice fA1 fn1 fc1, .slice fA2 fn2 fc2, .slice fA3 fn3 fc3], .agg #[.slice gA1 gn1 gc1, .slice gA2 gn2 gc2, .slice gA3 gn3 gc3]] W fun e w' => e = .returned (.bool v1) ∧ Below W.heap.size W w') := Lib.hid (fun W hb => hd3 W (HB.out.chain hb))
  have HE4 : Hid (∀ W, Below W1.heap.size W1 W → Calls Tryz.prog 29 #[.agg #[.int .i64 k1, .int .i64 m1, .string ⟨s1.toArray⟩, .slice A1 j1 c1], .agg #[.int .i64 k2, .int .i64 m2, .string ⟨s2.toArray⟩, .slice A2 j2 c2]] W fun e w' => e = .returned (.bool v2) ∧ Below W.heap.size W w') := Lib.hid (fun W hb => hd4 W (HB.out.chain hb))
  have HE5 : Hid (∀ W, Below W1.heap.size W1 W → Calls Tryz.prog 30 #[.agg #[.int .i64 k1, .int .i64 m1, .string ⟨s1.toArray⟩, .slice A1 j1 c1], .agg #[.int .i64 k2, .int .i64 m2, .string ⟨s2.toArray⟩, .slice A2 j2 c2]] W fun e w' => e = .returned (.bool v2) ∧ Below W.heap.size W w') := Lib.hid (fun W hb => hd5 W (HB.out.chain hb))
  have HL0 : Hid (∀ W, Below W1.heap.size W1 W → Calls Tryz.prog 22 #[.int .i64 200000, .agg cp] W fun e w' => LeftOk e W.heap.size W w') := Lib.hid (fun W hb => hm0 W (HB.out.chain hb))
  have HL1 : Hid (∀ W (r : Int), -1 ≤ r → r ≤ 200000 → Below W1.heap.size W1 W → Calls Tryz.prog 22 #[.int .i64 r, .agg cq] W fun e w' => LeftOk e W.heap.size W w') := Lib.hid (fun W r z0 z1 hb => hm1 W r z0 z1 (HB.out.chain hb))
  have HL2 : Hid (∀ W (r : Int) g0, -1 ≤ r → r ≤ 200000 → Below W1.heap.size W1 W → W.heap[g0]? = some (.cells #[.slice fA1 fn1 fc1, .slice fA2 fn2 fc2, .slice fA3 fn3 fc3, .slice gA1 gn1 gc1, .slice gA2 gn2 gc2, .slice gA3 gn3 gc3] 38) → Calls Tryz.prog 16 #[.int .i64 r, .slice (some ⟨g0, 0, none⟩) 2 2] W fun e w' => LeftOk e W.heap.size W w') := Lib.hid (fun W r g0 z0 z1 hb => hm2 W r g0 z0 z1 (HB.out.chain hb))
  have HL3 : Hid (∀ W (r : Int) g0, -1 ≤ r → r ≤ 200000 → Below W1.heap.size W1 W → W.heap[g0]? = some (.cells #[.int .i64 k1, .int .i64 m1, .string ⟨s1.toArray⟩, .slice A1 j1 c1, .int .i64 k2, .int .i64 m2, .string ⟨s2.toArray⟩, .slice A2 j2 c2] 24) → Calls Tryz.prog 11 #[.int .i64 r, .slice (some ⟨g0, 0, none⟩) 2 2] W fun e w' => LeftOk e W.heap.size W w') := Lib.hid (fun W r g0 z0 z1 hb => hm3 W r g0 z0 z1 (HB.out.chain hb))
  have hmx : Tryz.prog.follows .mixedOrders = true := by kernel_rfl
  unfold maxLen at bnp _bnq
  clear p0 p1 p2 p3 p4 p5 hS hd0 hd1 hd2 hd3 hd4 hd5 hm0 hm1 hm2 hm3 hE hnp hnq rp rq hN hN2 hzc hcp hcq kp5 kq5
  go_enter Tryz.func7, Tryz.ntmps7
  simp only [e1, e4, f1, f2, f3]
  clear e1 e4 f1 f2 f3 hT hT2
  go_wp2_with (go_at_call 9; rw [← hW1]; refine (HAw.out _).mono ?_; rintro e w2 ⟨rfl, hb2⟩; have HB2 := Lib.hid hb2; clear hb2)
  clear hW1
  go_cut [29] from 17 to 29 (fun v29 wx => BoolCut W1 v29 wx)
  case first =>
    refine wp_region_held (S := S) hmx ?_
    change wpAnyH _ _ _ _ _ 13 #[false, false, false, false, false, false, false, false, false, false, false, false, false] _ w2.drew
    have HV0 := Lib.hid HB2.out.drew
    generalize w2.drew = V0 at HV0 ⊢
    have g0 := HS2.out _ HV0.out
    refine tk 0 17 (.agg cp) g0 ?v ?_
    case v => intro Wx hSx; have z0 := HC0.out Wx hSx; go_simp
    refine tk 2 19 (.agg cq) g0 ?v ?_
    case v => intro Wx hSx; have z0 := HC1.out Wx hSx; go_simp
    refine tk 4 21 (.agg #[.slice fA1 fn1 fc1, .slice fA2 fn2 fc2, .slice fA3 fn3 fc3]) g0 ?v ?_
    case v => intro Wx hSx; obtain ⟨z0, z1, z2⟩ := HC2.out Wx hSx; go_simp
    refine tk 5 22 (.agg #[.slice gA1 gn1 gc1, .slice gA2 gn2 gc2, .slice gA3 gn3 gc3]) g0 ?v ?_
    case v => intro Wx hSx; obtain ⟨z0, z1, z2⟩ := HC3.out Wx hSx; go_simp
    refine tk 8 25 (.agg #[.int .i64 k1, .int .i64 m1, .string ⟨s1.toArray⟩, .slice A1 j1 c1]) g0 ?v ?_
    case v => intro Wx hSx; obtain ⟨z0, z1, z2, z3⟩ := HC4.out Wx hSx; go_simp
    refine tk 9 26 (.agg #[.int .i64 k2, .int .i64 m2, .string ⟨s2.toArray⟩, .slice A2 j2 c2]) g0 ?v ?_
    case v => intro Wx hSx; obtain ⟨z0, z1, z2, z3⟩ := HC5.out Wx hSx; go_simp
    clear HC0 HC1 HC2 HC3 HC4 HC5 HC6 HE0 HE1 HE2 HE3 HE4 HE5 HPX HQX HEE HAw HN2 hzv2 hag2 hsz2
    refine anyH_three 1 6 10 (by kernel_rfl) rfl rfl rfl (by kernel_rfl) (by kernel_rfl) (by kernel_rfl) (fun K hK => ?_) (fun K hK => ?_) (fun K hK => ?_)
    · go_simp
      refine (HL0.out V0 HV0.out).mono ?_
      rintro e V1 ⟨r4, rfl, p5, p6, hb⟩
      have HV2 := Lib.hid (HV0.out.chain hb)
      clear hb
      have g3 := HS2.out _ HV2.out
      refine hK _ _ g3 ?_
      clear hK K
      refine anyH_three 3 6 10 (by kernel_rfl) rfl rfl rfl (by kernel_rfl) (by kernel_rfl) (by kernel_rfl) (fun K hK => ?_) (fun K hK => ?_) (fun K hK => ?_)
      · go_simp
        refine (HL1.out V1 r4 p5 p6 HV2.out).mono ?_
        rintro e V7 ⟨r10, rfl, p11, p12, hb⟩
        have HV8 := Lib.hid (HV2.out.chain hb)
        clear hb
        have g9 := HS2.out _ HV8.out
        refine hK _ _ g9 ?_
        clear hK K
        refine anyH_two 6 10 (by kernel_rfl) rfl rfl (by kernel_rfl) (by kernel_rfl) (fun K hK => ?_) (fun K hK => ?_)
        · go_simp
          have ya15 := below_alloc V7 (.cells #[.slice fA1 fn1 fc1, .slice fA2 fn2 fc2, .slice fA3 fn3 fc3, .slice gA1 gn1 gc1, .slice gA2 gn2 gc2, .slice gA3 gn3 gc3] 38)
          have yb16 := heap_of_alloc V7 (.cells #[.slice fA1 fn1 fc1, .slice fA2 fn2 fc2, .slice fA3 fn3 fc3, .slice gA1 gn1 gc1, .slice gA2 gn2 gc2, .slice gA3 gn3 gc3] 38)
          have HV14 := Lib.hid (HV8.out.chain ya15)
          have g17 := HS2.out _ HV14.out
          refine hK _ _ g17 ?_
          clear hK K
          have HK18 := Lib.hid yb16
          clear ya15 yb16
          generalize V7.alloc (.cells #[.slice fA1 fn1 fc1, .slice fA2 fn2 fc2, .slice fA3 fn3 fc3, .slice gA1 gn1 gc1, .slice gA2 gn2 gc2, .slice gA3 gn3 gc3] 38) = V13 at HV14 HK18 g17 ⊢
          refine anyH_two 7 10 (by kernel_rfl) rfl rfl (by kernel_rfl) (by kernel_rfl) (fun K hK => ?_) (fun K hK => ?_)
          · go_simp
            refine (HL2.out V13 r10 V7.heap.size p11 p12 HV14.out HK18.out).mono ?_
            rintro e V19 ⟨r22, rfl, p23, p24, hb⟩
            have HV20 := Lib.hid (HV14.out.chain hb)
            clear hb
            have g21 := HS2.out _ HV20.out
            refine hK _ _ g21 ?_
            clear hK K
            refine anyH_one 10 (by kernel_rfl) rfl (by kernel_rfl) (fun K hK => ?_)
            go_simp
            have ya27 := below_alloc V19 (.cells #[.int .i64 k1, .int .i64 m1, .string ⟨s1.toArray⟩, .slice A1 j1 c1, .int .i64 k2, .int .i64 m2, .string ⟨s2.toArray⟩, .slice A2 j2 c2] 24)
            have yb28 := heap_of_alloc V19 (.cells #[.int .i64 k1, .int .i64 m1, .string ⟨s1.toArray⟩, .slice A1 j1 c1, .int .i64 k2, .int .i64 m2, .string ⟨s2.toArray⟩, .slice A2 j2 c2] 24)
            have HV26 := Lib.hid (HV20.out.chain ya27)
            have g29 := HS2.out _ HV26.out
            refine hK _ _ g29 ?_
            clear hK K
            have HK30 := Lib.hid yb28
            clear ya27 yb28
            generalize V19.alloc (.cells #[.int .i64 k1, .int .i64 m1, .string ⟨s1.toArray⟩, .slice A1 j1 c1, .int .i64 k2, .int .i64 m2, .string ⟨s2.toArray⟩, .slice A2 j2 c2] 24) = V25 at HV26 HK30 g29 ⊢
            refine anyH_one 11 (by kernel_rfl) rfl (by kernel_rfl) (fun K hK => ?_)
            go_simp
            refine (HL3.out V25 r22 V19.heap.size p23 p24 HV26.out HK30.out).mono ?_
            rintro e V31 ⟨r34, rfl, p35, p36, hb⟩
            have HV32 := Lib.hid (HV26.out.chain hb)
            clear hb
            have g33 := HS2.out _ HV32.out
            refine hK _ _ g33 ?_
            clear hK K
            refine tk 12 29 (.bool (decide (r34 < 0))) g33 ?v ?_
            case v => intro Wx hSx; go_simp
            try simp only [Act.put, List.setIfInBounds_toArray, List.set_cons_zero, List.set_cons_succ]
            refine wpAnyH_done (by kernel_rfl) ?_ _
            go_wp2
            go_meet
            exact ⟨_, _, rfl, rfl, HV32.out⟩
          · go_simp
            have ya39 := below_alloc V13 (.cells #[.int .i64 k1, .int .i64 m1, .string ⟨s1.toArray⟩, .slice A1 j1 c1, .int .i64 k2, .int .i64 m2, .string ⟨s2.toArray⟩, .slice A2 j2 c2] 24)
            have yb40 := heap_of_alloc V13 (.cells #[.int .i64 k1, .int .i64 m1, .string ⟨s1.toArray⟩, .slice A1 j1 c1, .int .i64 k2, .int .i64 m2, .string ⟨s2.toArray⟩, .slice A2 j2 c2] 24)
            have HK42 := Lib.hid (kept_box ya39 HK18.out)
            have HV38 := Lib.hid (HV14.out.chain ya39)
            have g41 := HS2.out _ HV38.out
            refine hK _ _ g41 ?_
            clear hK K
            have HK43 := Lib.hid yb40
            clear ya39 yb40
            generalize V13.alloc (.cells #[.int .i64 k1, .int .i64 m1, .string ⟨s1.toArray⟩, .slice A1 j1 c1, .int .i64 k2, .int .i64 m2, .string ⟨s2.toArray⟩, .slice A2 j2 c2] 24) = V37 at HV38 HK43 g41 HK42 ⊢
            refine anyH_one 7 (by kernel_rfl) rfl (by kernel_rfl) (fun K hK => ?_)
            go_simp
            refine (HL2.out V37 r10 V7.heap.size p11 p12 HV38.out HK42.out).mono ?_
            rintro e V44 ⟨r47, rfl, p48, p49, hb⟩
            have HV45 := Lib.hid (HV38.out.chain hb)
            have HK50 := Lib.hid (kept_box hb HK43.out)
            clear hb
            have g46 := HS2.out _ HV45.out
            refine hK _ _ g46 ?_
            clear hK K
            refine anyH_one 11 (by kernel_rfl) rfl (by kernel_rfl) (fun K hK => ?_)
            go_simp
            refine (HL3.out V44 r47 V13.heap.size p48 p49 HV45.out HK50.out).mono ?_
            rintro e V51 ⟨r54, rfl, p55, p56, hb⟩
            have HV52 := Lib.hid (HV45.out.chain hb)
            clear hb
            have g53 := HS2.out _ HV52.out
            refine hK _ _ g53 ?_
            clear hK K
            refine tk 12 29 (.bool (decide (r54 < 0))) g53 ?v ?_
            case v => intro Wx hSx; go_simp
            try simp only [Act.put, List.setIfInBounds_toArray, List.set_cons_zero, List.set_cons_succ]
            refine wpAnyH_done (by kernel_rfl) ?_ _
            go_wp2
            go_meet
            exact ⟨_, _, rfl, rfl, HV52.out⟩
        · go_simp
          have ya59 := below_alloc V7 (.cells #[.int .i64 k1, .int .i64 m1, .string ⟨s1.toArray⟩, .slice A1 j1 c1, .int .i64 k2, .int .i64 m2, .string ⟨s2.toArray⟩, .slice A2 j2 c2] 24)
          have yb60 := heap_of_alloc V7 (.cells #[.int .i64 k1, .int .i64 m1, .string ⟨s1.toArray⟩, .slice A1 j1 c1, .int .i64 k2, .int .i64 m2, .string ⟨s2.toArray⟩, .slice A2 j2 c2] 24)
          have HV58 := Lib.hid (HV8.out.chain ya59)
          have g61 := HS2.out _ HV58.out
          refine hK _ _ g61 ?_
          clear hK K
          have HK62 := Lib.hid yb60
          clear ya59 yb60
          generalize V7.alloc (.cells #[.int .i64 k1, .int .i64 m1, .string ⟨s1.toArray⟩, .slice A1 j1 c1, .int .i64 k2, .int .i64 m2, .string ⟨s2.toArray⟩, .slice A2 j2 c2] 24) = V57 at HV58 HK62 g61 ⊢
          refine anyH_one 6 (by kernel_rfl) rfl (by kernel_rfl) (fun K hK => ?_)
          go_simp
          have ya65 := below_alloc V57 (.cells #[.slice fA1 fn1 fc1, .slice fA2 fn2 fc2, .slice fA3 fn3 fc3, .slice gA1 gn1 gc1, .slice gA2 gn2 gc2, .slice gA3 gn3 gc3] 38)
          have yb66 := heap_of_alloc V57 (.cells #[.slice fA1 fn1 fc1, .slice fA2 fn2 fc2, .slice fA3 fn3 fc3, .slice gA1 gn1 gc1, .slice gA2 gn2 gc2, .slice gA3 gn3 gc3] 38)
          have HK68 := Lib.hid (kept_box ya65 HK62.out)
          have HV64 := Lib.hid (HV58.out.chain ya65)
          have g67 := HS2.out _ HV64.out
          refine hK _ _ g67 ?_
          clear hK K
          have HK69 := Lib.hid yb66
          clear ya65 yb66
          generalize V57.alloc (.cells #[.slice fA1 fn1 fc1, .slice fA2 fn2 fc2, .slice fA3 fn3 fc3, .slice gA1 gn1 gc1, .slice gA2 gn2 gc2, .slice gA3 gn3 gc3] 38) = V63 at HV64 HK69 g67 HK68 ⊢
          refine anyH_one 7 (by kernel_rfl) rfl (by kernel_rfl) (fun K hK => ?_)
          go_simp
          refine (HL2.out V63 r10 V57.heap.size p11 p12 HV64.out HK69.out).mono ?_
          rintro e V70 ⟨r73, rfl, p74, p75, hb⟩
          have HV71 := Lib.hid (HV64.out.chain hb)
          have HK76 := Lib.hid (kept_box hb HK68.out)
          clear hb
          have g72 := HS2.out _ HV71.out
          refine hK _ _ g72 ?_
          clear hK K
          refine anyH_one 11 (by kernel_rfl) rfl (by kernel_rfl) (fun K hK => ?_)
          go_simp
          refine (HL3.out V70 r73 V7.heap.size p74 p75 HV71.out HK76.out).mono ?_
          rintro e V77 ⟨r80, rfl, p81, p82, hb⟩
          have HV78 := Lib.hid (HV71.out.chain hb)
          clear hb
          have g79 := HS2.out _ HV78.out
          refine hK _ _ g79 ?_
          clear hK K
          refine tk 12 29 (.bool (decide (r80 < 0))) g79 ?v ?_
          case v => intro Wx hSx; go_simp
          try simp only [Act.put, List.setIfInBounds_toArray, List.set_cons_zero, List.set_cons_succ]
          refine wpAnyH_done (by kernel_rfl) ?_ _
          go_wp2
          go_meet
          exact ⟨_, _, rfl, rfl, HV78.out⟩
      · go_simp
        have ya85 := below_alloc V1 (.cells #[.slice fA1 fn1 fc1, .slice fA2 fn2 fc2, .slice fA3 fn3 fc3, .slice gA1 gn1 gc1, .slice gA2 gn2 gc2, .slice gA3 gn3 gc3] 38)
        have yb86 := heap_of_alloc V1 (.cells #[.slice fA1 fn1 fc1, .slice fA2 fn2 fc2, .slice fA3 fn3 fc3, .slice gA1 gn1 gc1, .slice gA2 gn2 gc2, .slice gA3 gn3 gc3] 38)
        have HV84 := Lib.hid (HV2.out.chain ya85)
        have g87 := HS2.out _ HV84.out
        refine hK _ _ g87 ?_
        clear hK K
        have HK88 := Lib.hid yb86
        clear ya85 yb86
        generalize V1.alloc (.cells #[.slice fA1 fn1 fc1, .slice fA2 fn2 fc2, .slice fA3 fn3 fc3, .slice gA1 gn1 gc1, .slice gA2 gn2 gc2, .slice gA3 gn3 gc3] 38) = V83 at HV84 HK88 g87 ⊢
        refine anyH_two 3 10 (by kernel_rfl) rfl rfl (by kernel_rfl) (by kernel_rfl) (fun K hK => ?_) (fun K hK => ?_)
        · go_simp
          refine (HL1.out V83 r4 p5 p6 HV84.out).mono ?_
          rintro e V89 ⟨r92, rfl, p93, p94, hb⟩
          have HV90 := Lib.hid (HV84.out.chain hb)
          have HK95 := Lib.hid (kept_box hb HK88.out)
          clear hb
          have g91 := HS2.out _ HV90.out
          refine hK _ _ g91 ?_
          clear hK K
          refine anyH_two 7 10 (by kernel_rfl) rfl rfl (by kernel_rfl) (by kernel_rfl) (fun K hK => ?_) (fun K hK => ?_)
          · go_simp
            refine (HL2.out V89 r92 V1.heap.size p93 p94 HV90.out HK95.out).mono ?_
            rintro e V96 ⟨r99, rfl, p100, p101, hb⟩
            have HV97 := Lib.hid (HV90.out.chain hb)
            clear hb
            have g98 := HS2.out _ HV97.out
            refine hK _ _ g98 ?_
            clear hK K
            refine anyH_one 10 (by kernel_rfl) rfl (by kernel_rfl) (fun K hK => ?_)
            go_simp
            have ya104 := below_alloc V96 (.cells #[.int .i64 k1, .int .i64 m1, .string ⟨s1.toArray⟩, .slice A1 j1 c1, .int .i64 k2, .int .i64 m2, .string ⟨s2.toArray⟩, .slice A2 j2 c2] 24)
            have yb105 := heap_of_alloc V96 (.cells #[.int .i64 k1, .int .i64 m1, .string ⟨s1.toArray⟩, .slice A1 j1 c1, .int .i64 k2, .int .i64 m2, .string ⟨s2.toArray⟩, .slice A2 j2 c2] 24)
            have HV103 := Lib.hid (HV97.out.chain ya104)
            have g106 := HS2.out _ HV103.out
            refine hK _ _ g106 ?_
            clear hK K
            have HK107 := Lib.hid yb105
            clear ya104 yb105
            generalize V96.alloc (.cells #[.int .i64 k1, .int .i64 m1, .string ⟨s1.toArray⟩, .slice A1 j1 c1, .int .i64 k2, .int .i64 m2, .string ⟨s2.toArray⟩, .slice A2 j2 c2] 24) = V102 at HV103 HK107 g106 ⊢
            refine anyH_one 11 (by kernel_rfl) rfl (by kernel_rfl) (fun K hK => ?_)
            go_simp
            refine (HL3.out V102 r99 V96.heap.size p100 p101 HV103.out HK107.out).mono ?_
            rintro e V108 ⟨r111, rfl, p112, p113, hb⟩
            have HV109 := Lib.hid (HV103.out.chain hb)
            clear hb
            have g110 := HS2.out _ HV109.out
            refine hK _ _ g110 ?_
            clear hK K
            refine tk 12 29 (.bool (decide (r111 < 0))) g110 ?v ?_
            case v => intro Wx hSx; go_simp
            try simp only [Act.put, List.setIfInBounds_toArray, List.set_cons_zero, List.set_cons_succ]
            refine wpAnyH_done (by kernel_rfl) ?_ _
            go_wp2
            go_meet
            exact ⟨_, _, rfl, rfl, HV109.out⟩
          · go_simp
            have ya116 := below_alloc V89 (.cells #[.int .i64 k1, .int .i64 m1, .string ⟨s1.toArray⟩, .slice A1 j1 c1, .int .i64 k2, .int .i64 m2, .string ⟨s2.toArray⟩, .slice A2 j2 c2] 24)
            have yb117 := heap_of_alloc V89 (.cells #[.int .i64 k1, .int .i64 m1, .string ⟨s1.toArray⟩, .slice A1 j1 c1, .int .i64 k2, .int .i64 m2, .string ⟨s2.toArray⟩, .slice A2 j2 c2] 24)
            have HK119 := Lib.hid (kept_box ya116 HK95.out)
            have HV115 := Lib.hid (HV90.out.chain ya116)
            have g118 := HS2.out _ HV115.out
            refine hK _ _ g118 ?_
            clear hK K
            have HK120 := Lib.hid yb117
            clear ya116 yb117
            generalize V89.alloc (.cells #[.int .i64 k1, .int .i64 m1, .string ⟨s1.toArray⟩, .slice A1 j1 c1, .int .i64 k2, .int .i64 m2, .string ⟨s2.toArray⟩, .slice A2 j2 c2] 24) = V114 at HV115 HK120 g118 HK119 ⊢
            refine anyH_one 7 (by kernel_rfl) rfl (by kernel_rfl) (fun K hK => ?_)
            go_simp
            refine (HL2.out V114 r92 V1.heap.size p93 p94 HV115.out HK119.out).mono ?_
            rintro e V121 ⟨r124, rfl, p125, p126, hb⟩
            have HV122 := Lib.hid (HV115.out.chain hb)
            have HK127 := Lib.hid (kept_box hb HK120.out)
            clear hb
            have g123 := HS2.out _ HV122.out
            refine hK _ _ g123 ?_
            clear hK K
            refine anyH_one 11 (by kernel_rfl) rfl (by kernel_rfl) (fun K hK => ?_)
            go_simp
            refine (HL3.out V121 r124 V89.heap.size p125 p126 HV122.out HK127.out).mono ?_
            rintro e V128 ⟨r131, rfl, p132, p133, hb⟩
            have HV129 := Lib.hid (HV122.out.chain hb)
            clear hb
            have g130 := HS2.out _ HV129.out
            refine hK _ _ g130 ?_
            clear hK K
            refine tk 12 29 (.bool (decide (r131 < 0))) g130 ?v ?_
            case v => intro Wx hSx; go_simp
            try simp only [Act.put, List.setIfInBounds_toArray, List.set_cons_zero, List.set_cons_succ]
            refine wpAnyH_done (by kernel_rfl) ?_ _
            go_wp2
            go_meet
            exact ⟨_, _, rfl, rfl, HV129.out⟩
        · go_simp
          have ya136 := below_alloc V83 (.cells #[.int .i64 k1, .int .i64 m1, .string ⟨s1.toArray⟩, .slice A1 j1 c1, .int .i64 k2, .int .i64 m2, .string ⟨s2.toArray⟩, .slice A2 j2 c2] 24)
          have yb137 := heap_of_alloc V83 (.cells #[.int .i64 k1, .int .i64 m1, .string ⟨s1.toArray⟩, .slice A1 j1 c1, .int .i64 k2, .int .i64 m2, .string ⟨s2.toArray⟩, .slice A2 j2 c2] 24)
          have HK139 := Lib.hid (kept_box ya136 HK88.out)
          have HV135 := Lib.hid (HV84.out.chain ya136)
          have g138 := HS2.out _ HV135.out
          refine hK _ _ g138 ?_
          clear hK K
          have HK140 := Lib.hid yb137
          clear ya136 yb137
          generalize V83.alloc (.cells #[.int .i64 k1, .int .i64 m1, .string ⟨s1.toArray⟩, .slice A1 j1 c1, .int .i64 k2, .int .i64 m2, .string ⟨s2.toArray⟩, .slice A2 j2 c2] 24) = V134 at HV135 HK140 g138 HK139 ⊢
          refine anyH_one 3 (by kernel_rfl) rfl (by kernel_rfl) (fun K hK => ?_)
          go_simp
          refine (HL1.out V134 r4 p5 p6 HV135.out).mono ?_
          rintro e V141 ⟨r144, rfl, p145, p146, hb⟩
          have HV142 := Lib.hid (HV135.out.chain hb)
          have HK147 := Lib.hid (kept_box hb HK139.out)
          have HK148 := Lib.hid (kept_box hb HK140.out)
          clear hb
          have g143 := HS2.out _ HV142.out
          refine hK _ _ g143 ?_
          clear hK K
          refine anyH_one 7 (by kernel_rfl) rfl (by kernel_rfl) (fun K hK => ?_)
          go_simp
          refine (HL2.out V141 r144 V1.heap.size p145 p146 HV142.out HK147.out).mono ?_
          rintro e V149 ⟨r152, rfl, p153, p154, hb⟩
          have HV150 := Lib.hid (HV142.out.chain hb)
          have HK155 := Lib.hid (kept_box hb HK148.out)
          clear hb
          have g151 := HS2.out _ HV150.out
          refine hK _ _ g151 ?_
          clear hK K
          refine anyH_one 11 (by kernel_rfl) rfl (by kernel_rfl) (fun K hK => ?_)
          go_simp
          refine (HL3.out V149 r152 V83.heap.size p153 p154 HV150.out HK155.out).mono ?_
          rintro e V156 ⟨r159, rfl, p160, p161, hb⟩
          have HV157 := Lib.hid (HV150.out.chain hb)
          clear hb
          have g158 := HS2.out _ HV157.out
          refine hK _ _ g158 ?_
          clear hK K
          refine tk 12 29 (.bool (decide (r159 < 0))) g158 ?v ?_
          case v => intro Wx hSx; go_simp
          try simp only [Act.put, List.setIfInBounds_toArray, List.set_cons_zero, List.set_cons_succ]
          refine wpAnyH_done (by kernel_rfl) ?_ _
          go_wp2
          go_meet
          exact ⟨_, _, rfl, rfl, HV157.out⟩
      · go_simp
        have ya164 := below_alloc V1 (.cells #[.int .i64 k1, .int .i64 m1, .string ⟨s1.toArray⟩, .slice A1 j1 c1, .int .i64 k2, .int .i64 m2, .string ⟨s2.toArray⟩, .slice A2 j2 c2] 24)
        have yb165 := heap_of_alloc V1 (.cells #[.int .i64 k1, .int .i64 m1, .string ⟨s1.toArray⟩, .slice A1 j1 c1, .int .i64 k2, .int .i64 m2, .string ⟨s2.toArray⟩, .slice A2 j2 c2] 24)
        have HV163 := Lib.hid (HV2.out.chain ya164)
        have g166 := HS2.out _ HV163.out
        refine hK _ _ g166 ?_
        clear hK K
        have HK167 := Lib.hid yb165
        clear ya164 yb165
        generalize V1.alloc (.cells #[.int .i64 k1, .int .i64 m1, .string ⟨s1.toArray⟩, .slice A1 j1 c1, .int .i64 k2, .int .i64 m2, .string ⟨s2.toArray⟩, .slice A2 j2 c2] 24) = V162 at HV163 HK167 g166 ⊢
        refine anyH_two 3 6 (by kernel_rfl) rfl rfl (by kernel_rfl) (by kernel_rfl) (fun K hK => ?_) (fun K hK => ?_)
        · go_simp
          refine (HL1.out V162 r4 p5 p6 HV163.out).mono ?_
          rintro e V168 ⟨r171, rfl, p172, p173, hb⟩
          have HV169 := Lib.hid (HV163.out.chain hb)
          have HK174 := Lib.hid (kept_box hb HK167.out)
          clear hb
          have g170 := HS2.out _ HV169.out
          refine hK _ _ g170 ?_
          clear hK K
          refine anyH_one 6 (by kernel_rfl) rfl (by kernel_rfl) (fun K hK => ?_)
          go_simp
          have ya177 := below_alloc V168 (.cells #[.slice fA1 fn1 fc1, .slice fA2 fn2 fc2, .slice fA3 fn3 fc3, .slice gA1 gn1 gc1, .slice gA2 gn2 gc2, .slice gA3 gn3 gc3] 38)
          have yb178 := heap_of_alloc V168 (.cells #[.slice fA1 fn1 fc1, .slice fA2 fn2 fc2, .slice fA3 fn3 fc3, .slice gA1 gn1 gc1, .slice gA2 gn2 gc2, .slice gA3 gn3 gc3] 38)
          have HK180 := Lib.hid (kept_box ya177 HK174.out)
          have HV176 := Lib.hid (HV169.out.chain ya177)
          have g179 := HS2.out _ HV176.out
          refine hK _ _ g179 ?_
          clear hK K
          have HK181 := Lib.hid yb178
          clear ya177 yb178
          generalize V168.alloc (.cells #[.slice fA1 fn1 fc1, .slice fA2 fn2 fc2, .slice fA3 fn3 fc3, .slice gA1 gn1 gc1, .slice gA2 gn2 gc2, .slice gA3 gn3 gc3] 38) = V175 at HV176 HK181 g179 HK180 ⊢
          refine anyH_one 7 (by kernel_rfl) rfl (by kernel_rfl) (fun K hK => ?_)
          go_simp
          refine (HL2.out V175 r171 V168.heap.size p172 p173 HV176.out HK181.out).mono ?_
          rintro e V182 ⟨r185, rfl, p186, p187, hb⟩
          have HV183 := Lib.hid (HV176.out.chain hb)
          have HK188 := Lib.hid (kept_box hb HK180.out)
          clear hb
          have g184 := HS2.out _ HV183.out
          refine hK _ _ g184 ?_
          clear hK K
          refine anyH_one 11 (by kernel_rfl) rfl (by kernel_rfl) (fun K hK => ?_)
          go_simp
          refine (HL3.out V182 r185 V1.heap.size p186 p187 HV183.out HK188.out).mono ?_
          rintro e V189 ⟨r192, rfl, p193, p194, hb⟩
          have HV190 := Lib.hid (HV183.out.chain hb)
          clear hb
          have g191 := HS2.out _ HV190.out
          refine hK _ _ g191 ?_
          clear hK K
          refine tk 12 29 (.bool (decide (r192 < 0))) g191 ?v ?_
          case v => intro Wx hSx; go_simp
          try simp only [Act.put, List.setIfInBounds_toArray, List.set_cons_zero, List.set_cons_succ]
          refine wpAnyH_done (by kernel_rfl) ?_ _
          go_wp2
          go_meet
          exact ⟨_, _, rfl, rfl, HV190.out⟩
        · go_simp
          have ya197 := below_alloc V162 (.cells #[.slice fA1 fn1 fc1, .slice fA2 fn2 fc2, .slice fA3 fn3 fc3, .slice gA1 gn1 gc1, .slice gA2 gn2 gc2, .slice gA3 gn3 gc3] 38)
          have yb198 := heap_of_alloc V162 (.cells #[.slice fA1 fn1 fc1, .slice fA2 fn2 fc2, .slice fA3 fn3 fc3, .slice gA1 gn1 gc1, .slice gA2 gn2 gc2, .slice gA3 gn3 gc3] 38)
          have HK200 := Lib.hid (kept_box ya197 HK167.out)
          have HV196 := Lib.hid (HV163.out.chain ya197)
          have g199 := HS2.out _ HV196.out
          refine hK _ _ g199 ?_
          clear hK K
          have HK201 := Lib.hid yb198
          clear ya197 yb198
          generalize V162.alloc (.cells #[.slice fA1 fn1 fc1, .slice fA2 fn2 fc2, .slice fA3 fn3 fc3, .slice gA1 gn1 gc1, .slice gA2 gn2 gc2, .slice gA3 gn3 gc3] 38) = V195 at HV196 HK201 g199 HK200 ⊢
          refine anyH_one 3 (by kernel_rfl) rfl (by kernel_rfl) (fun K hK => ?_)
          go_simp
          refine (HL1.out V195 r4 p5 p6 HV196.out).mono ?_
          rintro e V202 ⟨r205, rfl, p206, p207, hb⟩
          have HV203 := Lib.hid (HV196.out.chain hb)
          have HK208 := Lib.hid (kept_box hb HK201.out)
          have HK209 := Lib.hid (kept_box hb HK200.out)
          clear hb
          have g204 := HS2.out _ HV203.out
          refine hK _ _ g204 ?_
          clear hK K
          refine anyH_one 7 (by kernel_rfl) rfl (by kernel_rfl) (fun K hK => ?_)
          go_simp
          refine (HL2.out V202 r205 V162.heap.size p206 p207 HV203.out HK208.out).mono ?_
          rintro e V210 ⟨r213, rfl, p214, p215, hb⟩
          have HV211 := Lib.hid (HV203.out.chain hb)
          have HK216 := Lib.hid (kept_box hb HK209.out)
          clear hb
          have g212 := HS2.out _ HV211.out
          refine hK _ _ g212 ?_
          clear hK K
          refine anyH_one 11 (by kernel_rfl) rfl (by kernel_rfl) (fun K hK => ?_)
          go_simp
          refine (HL3.out V210 r213 V1.heap.size p214 p215 HV211.out HK216.out).mono ?_
          rintro e V217 ⟨r220, rfl, p221, p222, hb⟩
          have HV218 := Lib.hid (HV211.out.chain hb)
          clear hb
          have g219 := HS2.out _ HV218.out
          refine hK _ _ g219 ?_
          clear hK K
          refine tk 12 29 (.bool (decide (r220 < 0))) g219 ?v ?_
          case v => intro Wx hSx; go_simp
          try simp only [Act.put, List.setIfInBounds_toArray, List.set_cons_zero, List.set_cons_succ]
          refine wpAnyH_done (by kernel_rfl) ?_ _
          go_wp2
          go_meet
          exact ⟨_, _, rfl, rfl, HV218.out⟩
    · go_simp
      have ya225 := below_alloc V0 (.cells #[.slice fA1 fn1 fc1, .slice fA2 fn2 fc2, .slice fA3 fn3 fc3, .slice gA1 gn1 gc1, .slice gA2 gn2 gc2, .slice gA3 gn3 gc3] 38)
      have yb226 := heap_of_alloc V0 (.cells #[.slice fA1 fn1 fc1, .slice fA2 fn2 fc2, .slice fA3 fn3 fc3, .slice gA1 gn1 gc1, .slice gA2 gn2 gc2, .slice gA3 gn3 gc3] 38)
      have HV224 := Lib.hid (HV0.out.chain ya225)
      have g227 := HS2.out _ HV224.out
      refine hK _ _ g227 ?_
      clear hK K
      have HK228 := Lib.hid yb226
      clear ya225 yb226
      generalize V0.alloc (.cells #[.slice fA1 fn1 fc1, .slice fA2 fn2 fc2, .slice fA3 fn3 fc3, .slice gA1 gn1 gc1, .slice gA2 gn2 gc2, .slice gA3 gn3 gc3] 38) = V223 at HV224 HK228 g227 ⊢
      refine anyH_two 1 10 (by kernel_rfl) rfl rfl (by kernel_rfl) (by kernel_rfl) (fun K hK => ?_) (fun K hK => ?_)
      · go_simp
        refine (HL0.out V223 HV224.out).mono ?_
        rintro e V229 ⟨r232, rfl, p233, p234, hb⟩
        have HV230 := Lib.hid (HV224.out.chain hb)
        have HK235 := Lib.hid (kept_box hb HK228.out)
        clear hb
        have g231 := HS2.out _ HV230.out
        refine hK _ _ g231 ?_
        clear hK K
        refine anyH_two 3 10 (by kernel_rfl) rfl rfl (by kernel_rfl) (by kernel_rfl) (fun K hK => ?_) (fun K hK => ?_)
        · go_simp
          refine (HL1.out V229 r232 p233 p234 HV230.out).mono ?_
          rintro e V236 ⟨r239, rfl, p240, p241, hb⟩
          have HV237 := Lib.hid (HV230.out.chain hb)
          have HK242 := Lib.hid (kept_box hb HK235.out)
          clear hb
          have g238 := HS2.out _ HV237.out
          refine hK _ _ g238 ?_
          clear hK K
          refine anyH_two 7 10 (by kernel_rfl) rfl rfl (by kernel_rfl) (by kernel_rfl) (fun K hK => ?_) (fun K hK => ?_)
          · go_simp
            refine (HL2.out V236 r239 V0.heap.size p240 p241 HV237.out HK242.out).mono ?_
            rintro e V243 ⟨r246, rfl, p247, p248, hb⟩
            have HV244 := Lib.hid (HV237.out.chain hb)
            clear hb
            have g245 := HS2.out _ HV244.out
            refine hK _ _ g245 ?_
            clear hK K
            refine anyH_one 10 (by kernel_rfl) rfl (by kernel_rfl) (fun K hK => ?_)
            go_simp
            have ya251 := below_alloc V243 (.cells #[.int .i64 k1, .int .i64 m1, .string ⟨s1.toArray⟩, .slice A1 j1 c1, .int .i64 k2, .int .i64 m2, .string ⟨s2.toArray⟩, .slice A2 j2 c2] 24)
            have yb252 := heap_of_alloc V243 (.cells #[.int .i64 k1, .int .i64 m1, .string ⟨s1.toArray⟩, .slice A1 j1 c1, .int .i64 k2, .int .i64 m2, .string ⟨s2.toArray⟩, .slice A2 j2 c2] 24)
            have HV250 := Lib.hid (HV244.out.chain ya251)
            have g253 := HS2.out _ HV250.out
            refine hK _ _ g253 ?_
            clear hK K
            have HK254 := Lib.hid yb252
            clear ya251 yb252
            generalize V243.alloc (.cells #[.int .i64 k1, .int .i64 m1, .string ⟨s1.toArray⟩, .slice A1 j1 c1, .int .i64 k2, .int .i64 m2, .string ⟨s2.toArray⟩, .slice A2 j2 c2] 24) = V249 at HV250 HK254 g253 ⊢
            refine anyH_one 11 (by kernel_rfl) rfl (by kernel_rfl) (fun K hK => ?_)
            go_simp
            refine (HL3.out V249 r246 V243.heap.size p247 p248 HV250.out HK254.out).mono ?_
            rintro e V255 ⟨r258, rfl, p259, p260, hb⟩
            have HV256 := Lib.hid (HV250.out.chain hb)
            clear hb
            have g257 := HS2.out _ HV256.out
            refine hK _ _ g257 ?_
            clear hK K
            refine tk 12 29 (.bool (decide (r258 < 0))) g257 ?v ?_
            case v => intro Wx hSx; go_simp
            try simp only [Act.put, List.setIfInBounds_toArray, List.set_cons_zero, List.set_cons_succ]
            refine wpAnyH_done (by kernel_rfl) ?_ _
            go_wp2
            go_meet
            exact ⟨_, _, rfl, rfl, HV256.out⟩
          · go_simp
            have ya263 := below_alloc V236 (.cells #[.int .i64 k1, .int .i64 m1, .string ⟨s1.toArray⟩, .slice A1 j1 c1, .int .i64 k2, .int .i64 m2, .string ⟨s2.toArray⟩, .slice A2 j2 c2] 24)
            have yb264 := heap_of_alloc V236 (.cells #[.int .i64 k1, .int .i64 m1, .string ⟨s1.toArray⟩, .slice A1 j1 c1, .int .i64 k2, .int .i64 m2, .string ⟨s2.toArray⟩, .slice A2 j2 c2] 24)
            have HK266 := Lib.hid (kept_box ya263 HK242.out)
            have HV262 := Lib.hid (HV237.out.chain ya263)
            have g265 := HS2.out _ HV262.out
            refine hK _ _ g265 ?_
            clear hK K
            have HK267 := Lib.hid yb264
            clear ya263 yb264
            generalize V236.alloc (.cells #[.int .i64 k1, .int .i64 m1, .string ⟨s1.toArray⟩, .slice A1 j1 c1, .int .i64 k2, .int .i64 m2, .string ⟨s2.toArray⟩, .slice A2 j2 c2] 24) = V261 at HV262 HK267 g265 HK266 ⊢
            refine anyH_one 7 (by kernel_rfl) rfl (by kernel_rfl) (fun K hK => ?_)
            go_simp
            refine (HL2.out V261 r239 V0.heap.size p240 p241 HV262.out HK266.out).mono ?_
            rintro e V268 ⟨r271, rfl, p272, p273, hb⟩
            have HV269 := Lib.hid (HV262.out.chain hb)
            have HK274 := Lib.hid (kept_box hb HK267.out)
            clear hb
            have g270 := HS2.out _ HV269.out
            refine hK _ _ g270 ?_
            clear hK K
            refine anyH_one 11 (by kernel_rfl) rfl (by kernel_rfl) (fun K hK => ?_)
            go_simp
            refine (HL3.out V268 r271 V236.heap.size p272 p273 HV269.out HK274.out).mono ?_
            rintro e V275 ⟨r278, rfl, p279, p280, hb⟩
            have HV276 := Lib.hid (HV269.out.chain hb)
            clear hb
            have g277 := HS2.out _ HV276.out
            refine hK _ _ g277 ?_
            clear hK K
            refine tk 12 29 (.bool (decide (r278 < 0))) g277 ?v ?_
            case v => intro Wx hSx; go_simp
            try simp only [Act.put, List.setIfInBounds_toArray, List.set_cons_zero, List.set_cons_succ]
            refine wpAnyH_done (by kernel_rfl) ?_ _
            go_wp2
            go_meet
            exact ⟨_, _, rfl, rfl, HV276.out⟩
        · go_simp
          have ya283 := below_alloc V229 (.cells #[.int .i64 k1, .int .i64 m1, .string ⟨s1.toArray⟩, .slice A1 j1 c1, .int .i64 k2, .int .i64 m2, .string ⟨s2.toArray⟩, .slice A2 j2 c2] 24)
          have yb284 := heap_of_alloc V229 (.cells #[.int .i64 k1, .int .i64 m1, .string ⟨s1.toArray⟩, .slice A1 j1 c1, .int .i64 k2, .int .i64 m2, .string ⟨s2.toArray⟩, .slice A2 j2 c2] 24)
          have HK286 := Lib.hid (kept_box ya283 HK235.out)
          have HV282 := Lib.hid (HV230.out.chain ya283)
          have g285 := HS2.out _ HV282.out
          refine hK _ _ g285 ?_
          clear hK K
          have HK287 := Lib.hid yb284
          clear ya283 yb284
          generalize V229.alloc (.cells #[.int .i64 k1, .int .i64 m1, .string ⟨s1.toArray⟩, .slice A1 j1 c1, .int .i64 k2, .int .i64 m2, .string ⟨s2.toArray⟩, .slice A2 j2 c2] 24) = V281 at HV282 HK287 g285 HK286 ⊢
          refine anyH_one 3 (by kernel_rfl) rfl (by kernel_rfl) (fun K hK => ?_)
          go_simp
          refine (HL1.out V281 r232 p233 p234 HV282.out).mono ?_
          rintro e V288 ⟨r291, rfl, p292, p293, hb⟩
          have HV289 := Lib.hid (HV282.out.chain hb)
          have HK294 := Lib.hid (kept_box hb HK286.out)
          have HK295 := Lib.hid (kept_box hb HK287.out)
          clear hb
          have g290 := HS2.out _ HV289.out
          refine hK _ _ g290 ?_
          clear hK K
          refine anyH_one 7 (by kernel_rfl) rfl (by kernel_rfl) (fun K hK => ?_)
          go_simp
          refine (HL2.out V288 r291 V0.heap.size p292 p293 HV289.out HK294.out).mono ?_
          rintro e V296 ⟨r299, rfl, p300, p301, hb⟩
          have HV297 := Lib.hid (HV289.out.chain hb)
          have HK302 := Lib.hid (kept_box hb HK295.out)
          clear hb
          have g298 := HS2.out _ HV297.out
          refine hK _ _ g298 ?_
          clear hK K
          refine anyH_one 11 (by kernel_rfl) rfl (by kernel_rfl) (fun K hK => ?_)
          go_simp
          refine (HL3.out V296 r299 V229.heap.size p300 p301 HV297.out HK302.out).mono ?_
          rintro e V303 ⟨r306, rfl, p307, p308, hb⟩
          have HV304 := Lib.hid (HV297.out.chain hb)
          clear hb
          have g305 := HS2.out _ HV304.out
          refine hK _ _ g305 ?_
          clear hK K
          refine tk 12 29 (.bool (decide (r306 < 0))) g305 ?v ?_
          case v => intro Wx hSx; go_simp
          try simp only [Act.put, List.setIfInBounds_toArray, List.set_cons_zero, List.set_cons_succ]
          refine wpAnyH_done (by kernel_rfl) ?_ _
          go_wp2
          go_meet
          exact ⟨_, _, rfl, rfl, HV304.out⟩
      · go_simp
        have ya311 := below_alloc V223 (.cells #[.int .i64 k1, .int .i64 m1, .string ⟨s1.toArray⟩, .slice A1 j1 c1, .int .i64 k2, .int .i64 m2, .string ⟨s2.toArray⟩, .slice A2 j2 c2] 24)
        have yb312 := heap_of_alloc V223 (.cells #[.int .i64 k1, .int .i64 m1, .string ⟨s1.toArray⟩, .slice A1 j1 c1, .int .i64 k2, .int .i64 m2, .string ⟨s2.toArray⟩, .slice A2 j2 c2] 24)
        have HK314 := Lib.hid (kept_box ya311 HK228.out)
        have HV310 := Lib.hid (HV224.out.chain ya311)
        have g313 := HS2.out _ HV310.out
        refine hK _ _ g313 ?_
        clear hK K
        have HK315 := Lib.hid yb312
        clear ya311 yb312
        generalize V223.alloc (.cells #[.int .i64 k1, .int .i64 m1, .string ⟨s1.toArray⟩, .slice A1 j1 c1, .int .i64 k2, .int .i64 m2, .string ⟨s2.toArray⟩, .slice A2 j2 c2] 24) = V309 at HV310 HK315 g313 HK314 ⊢
        refine anyH_one 1 (by kernel_rfl) rfl (by kernel_rfl) (fun K hK => ?_)
        go_simp
        refine (HL0.out V309 HV310.out).mono ?_
        rintro e V316 ⟨r319, rfl, p320, p321, hb⟩
        have HV317 := Lib.hid (HV310.out.chain hb)
        have HK322 := Lib.hid (kept_box hb HK314.out)
        have HK323 := Lib.hid (kept_box hb HK315.out)
        clear hb
        have g318 := HS2.out _ HV317.out
        refine hK _ _ g318 ?_
        clear hK K
        refine anyH_one 3 (by kernel_rfl) rfl (by kernel_rfl) (fun K hK => ?_)
        go_simp
        refine (HL1.out V316 r319 p320 p321 HV317.out).mono ?_
        rintro e V324 ⟨r327, rfl, p328, p329, hb⟩
        have HV325 := Lib.hid (HV317.out.chain hb)
        have HK330 := Lib.hid (kept_box hb HK322.out)
        have HK331 := Lib.hid (kept_box hb HK323.out)
        clear hb
        have g326 := HS2.out _ HV325.out
        refine hK _ _ g326 ?_
        clear hK K
        refine anyH_one 7 (by kernel_rfl) rfl (by kernel_rfl) (fun K hK => ?_)
        go_simp
        refine (HL2.out V324 r327 V0.heap.size p328 p329 HV325.out HK330.out).mono ?_
        rintro e V332 ⟨r335, rfl, p336, p337, hb⟩
        have HV333 := Lib.hid (HV325.out.chain hb)
        have HK338 := Lib.hid (kept_box hb HK331.out)
        clear hb
        have g334 := HS2.out _ HV333.out
        refine hK _ _ g334 ?_
        clear hK K
        refine anyH_one 11 (by kernel_rfl) rfl (by kernel_rfl) (fun K hK => ?_)
        go_simp
        refine (HL3.out V332 r335 V223.heap.size p336 p337 HV333.out HK338.out).mono ?_
        rintro e V339 ⟨r342, rfl, p343, p344, hb⟩
        have HV340 := Lib.hid (HV333.out.chain hb)
        clear hb
        have g341 := HS2.out _ HV340.out
        refine hK _ _ g341 ?_
        clear hK K
        refine tk 12 29 (.bool (decide (r342 < 0))) g341 ?v ?_
        case v => intro Wx hSx; go_simp
        try simp only [Act.put, List.setIfInBounds_toArray, List.set_cons_zero, List.set_cons_succ]
        refine wpAnyH_done (by kernel_rfl) ?_ _
        go_wp2
        go_meet
        exact ⟨_, _, rfl, rfl, HV340.out⟩
    · go_simp
      have ya347 := below_alloc V0 (.cells #[.int .i64 k1, .int .i64 m1, .string ⟨s1.toArray⟩, .slice A1 j1 c1, .int .i64 k2, .int .i64 m2, .string ⟨s2.toArray⟩, .slice A2 j2 c2] 24)
      have yb348 := heap_of_alloc V0 (.cells #[.int .i64 k1, .int .i64 m1, .string ⟨s1.toArray⟩, .slice A1 j1 c1, .int .i64 k2, .int .i64 m2, .string ⟨s2.toArray⟩, .slice A2 j2 c2] 24)
      have HV346 := Lib.hid (HV0.out.chain ya347)
      have g349 := HS2.out _ HV346.out
      refine hK _ _ g349 ?_
      clear hK K
      have HK350 := Lib.hid yb348
      clear ya347 yb348
      generalize V0.alloc (.cells #[.int .i64 k1, .int .i64 m1, .string ⟨s1.toArray⟩, .slice A1 j1 c1, .int .i64 k2, .int .i64 m2, .string ⟨s2.toArray⟩, .slice A2 j2 c2] 24) = V345 at HV346 HK350 g349 ⊢
      refine anyH_two 1 6 (by kernel_rfl) rfl rfl (by kernel_rfl) (by kernel_rfl) (fun K hK => ?_) (fun K hK => ?_)
      · go_simp
        refine (HL0.out V345 HV346.out).mono ?_
        rintro e V351 ⟨r354, rfl, p355, p356, hb⟩
        have HV352 := Lib.hid (HV346.out.chain hb)
        have HK357 := Lib.hid (kept_box hb HK350.out)
        clear hb
        have g353 := HS2.out _ HV352.out
        refine hK _ _ g353 ?_
        clear hK K
        refine anyH_two 3 6 (by kernel_rfl) rfl rfl (by kernel_rfl) (by kernel_rfl) (fun K hK => ?_) (fun K hK => ?_)
        · go_simp
          refine (HL1.out V351 r354 p355 p356 HV352.out).mono ?_
          rintro e V358 ⟨r361, rfl, p362, p363, hb⟩
          have HV359 := Lib.hid (HV352.out.chain hb)
          have HK364 := Lib.hid (kept_box hb HK357.out)
          clear hb
          have g360 := HS2.out _ HV359.out
          refine hK _ _ g360 ?_
          clear hK K
          refine anyH_one 6 (by kernel_rfl) rfl (by kernel_rfl) (fun K hK => ?_)
          go_simp
          have ya367 := below_alloc V358 (.cells #[.slice fA1 fn1 fc1, .slice fA2 fn2 fc2, .slice fA3 fn3 fc3, .slice gA1 gn1 gc1, .slice gA2 gn2 gc2, .slice gA3 gn3 gc3] 38)
          have yb368 := heap_of_alloc V358 (.cells #[.slice fA1 fn1 fc1, .slice fA2 fn2 fc2, .slice fA3 fn3 fc3, .slice gA1 gn1 gc1, .slice gA2 gn2 gc2, .slice gA3 gn3 gc3] 38)
          have HK370 := Lib.hid (kept_box ya367 HK364.out)
          have HV366 := Lib.hid (HV359.out.chain ya367)
          have g369 := HS2.out _ HV366.out
          refine hK _ _ g369 ?_
          clear hK K
          have HK371 := Lib.hid yb368
          clear ya367 yb368
          generalize V358.alloc (.cells #[.slice fA1 fn1 fc1, .slice fA2 fn2 fc2, .slice fA3 fn3 fc3, .slice gA1 gn1 gc1, .slice gA2 gn2 gc2, .slice gA3 gn3 gc3] 38) = V365 at HV366 HK371 g369 HK370 ⊢
          refine anyH_one 7 (by kernel_rfl) rfl (by kernel_rfl) (fun K hK => ?_)
          go_simp
          refine (HL2.out V365 r361 V358.heap.size p362 p363 HV366.out HK371.out).mono ?_
          rintro e V372 ⟨r375, rfl, p376, p377, hb⟩
          have HV373 := Lib.hid (HV366.out.chain hb)
          have HK378 := Lib.hid (kept_box hb HK370.out)
          clear hb
          have g374 := HS2.out _ HV373.out
          refine hK _ _ g374 ?_
          clear hK K
          refine anyH_one 11 (by kernel_rfl) rfl (by kernel_rfl) (fun K hK => ?_)
          go_simp
          refine (HL3.out V372 r375 V0.heap.size p376 p377 HV373.out HK378.out).mono ?_
          rintro e V379 ⟨r382, rfl, p383, p384, hb⟩
          have HV380 := Lib.hid (HV373.out.chain hb)
          clear hb
          have g381 := HS2.out _ HV380.out
          refine hK _ _ g381 ?_
          clear hK K
          refine tk 12 29 (.bool (decide (r382 < 0))) g381 ?v ?_
          case v => intro Wx hSx; go_simp
          try simp only [Act.put, List.setIfInBounds_toArray, List.set_cons_zero, List.set_cons_succ]
          refine wpAnyH_done (by kernel_rfl) ?_ _
          go_wp2
          go_meet
          exact ⟨_, _, rfl, rfl, HV380.out⟩
        · go_simp
          have ya387 := below_alloc V351 (.cells #[.slice fA1 fn1 fc1, .slice fA2 fn2 fc2, .slice fA3 fn3 fc3, .slice gA1 gn1 gc1, .slice gA2 gn2 gc2, .slice gA3 gn3 gc3] 38)
          have yb388 := heap_of_alloc V351 (.cells #[.slice fA1 fn1 fc1, .slice fA2 fn2 fc2, .slice fA3 fn3 fc3, .slice gA1 gn1 gc1, .slice gA2 gn2 gc2, .slice gA3 gn3 gc3] 38)
          have HK390 := Lib.hid (kept_box ya387 HK357.out)
          have HV386 := Lib.hid (HV352.out.chain ya387)
          have g389 := HS2.out _ HV386.out
          refine hK _ _ g389 ?_
          clear hK K
          have HK391 := Lib.hid yb388
          clear ya387 yb388
          generalize V351.alloc (.cells #[.slice fA1 fn1 fc1, .slice fA2 fn2 fc2, .slice fA3 fn3 fc3, .slice gA1 gn1 gc1, .slice gA2 gn2 gc2, .slice gA3 gn3 gc3] 38) = V385 at HV386 HK391 g389 HK390 ⊢
          refine anyH_one 3 (by kernel_rfl) rfl (by kernel_rfl) (fun K hK => ?_)
          go_simp
          refine (HL1.out V385 r354 p355 p356 HV386.out).mono ?_
          rintro e V392 ⟨r395, rfl, p396, p397, hb⟩
          have HV393 := Lib.hid (HV386.out.chain hb)
          have HK398 := Lib.hid (kept_box hb HK391.out)
          have HK399 := Lib.hid (kept_box hb HK390.out)
          clear hb
          have g394 := HS2.out _ HV393.out
          refine hK _ _ g394 ?_
          clear hK K
          refine anyH_one 7 (by kernel_rfl) rfl (by kernel_rfl) (fun K hK => ?_)
          go_simp
          refine (HL2.out V392 r395 V351.heap.size p396 p397 HV393.out HK398.out).mono ?_
          rintro e V400 ⟨r403, rfl, p404, p405, hb⟩
          have HV401 := Lib.hid (HV393.out.chain hb)
          have HK406 := Lib.hid (kept_box hb HK399.out)
          clear hb
          have g402 := HS2.out _ HV401.out
          refine hK _ _ g402 ?_
          clear hK K
          refine anyH_one 11 (by kernel_rfl) rfl (by kernel_rfl) (fun K hK => ?_)
          go_simp
          refine (HL3.out V400 r403 V0.heap.size p404 p405 HV401.out HK406.out).mono ?_
          rintro e V407 ⟨r410, rfl, p411, p412, hb⟩
          have HV408 := Lib.hid (HV401.out.chain hb)
          clear hb
          have g409 := HS2.out _ HV408.out
          refine hK _ _ g409 ?_
          clear hK K
          refine tk 12 29 (.bool (decide (r410 < 0))) g409 ?v ?_
          case v => intro Wx hSx; go_simp
          try simp only [Act.put, List.setIfInBounds_toArray, List.set_cons_zero, List.set_cons_succ]
          refine wpAnyH_done (by kernel_rfl) ?_ _
          go_wp2
          go_meet
          exact ⟨_, _, rfl, rfl, HV408.out⟩
      · go_simp
        have ya415 := below_alloc V345 (.cells #[.slice fA1 fn1 fc1, .slice fA2 fn2 fc2, .slice fA3 fn3 fc3, .slice gA1 gn1 gc1, .slice gA2 gn2 gc2, .slice gA3 gn3 gc3] 38)
        have yb416 := heap_of_alloc V345 (.cells #[.slice fA1 fn1 fc1, .slice fA2 fn2 fc2, .slice fA3 fn3 fc3, .slice gA1 gn1 gc1, .slice gA2 gn2 gc2, .slice gA3 gn3 gc3] 38)
        have HK418 := Lib.hid (kept_box ya415 HK350.out)
        have HV414 := Lib.hid (HV346.out.chain ya415)
        have g417 := HS2.out _ HV414.out
        refine hK _ _ g417 ?_
        clear hK K
        have HK419 := Lib.hid yb416
        clear ya415 yb416
        generalize V345.alloc (.cells #[.slice fA1 fn1 fc1, .slice fA2 fn2 fc2, .slice fA3 fn3 fc3, .slice gA1 gn1 gc1, .slice gA2 gn2 gc2, .slice gA3 gn3 gc3] 38) = V413 at HV414 HK419 g417 HK418 ⊢
        refine anyH_one 1 (by kernel_rfl) rfl (by kernel_rfl) (fun K hK => ?_)
        go_simp
        refine (HL0.out V413 HV414.out).mono ?_
        rintro e V420 ⟨r423, rfl, p424, p425, hb⟩
        have HV421 := Lib.hid (HV414.out.chain hb)
        have HK426 := Lib.hid (kept_box hb HK419.out)
        have HK427 := Lib.hid (kept_box hb HK418.out)
        clear hb
        have g422 := HS2.out _ HV421.out
        refine hK _ _ g422 ?_
        clear hK K
        refine anyH_one 3 (by kernel_rfl) rfl (by kernel_rfl) (fun K hK => ?_)
        go_simp
        refine (HL1.out V420 r423 p424 p425 HV421.out).mono ?_
        rintro e V428 ⟨r431, rfl, p432, p433, hb⟩
        have HV429 := Lib.hid (HV421.out.chain hb)
        have HK434 := Lib.hid (kept_box hb HK426.out)
        have HK435 := Lib.hid (kept_box hb HK427.out)
        clear hb
        have g430 := HS2.out _ HV429.out
        refine hK _ _ g430 ?_
        clear hK K
        refine anyH_one 7 (by kernel_rfl) rfl (by kernel_rfl) (fun K hK => ?_)
        go_simp
        refine (HL2.out V428 r431 V345.heap.size p432 p433 HV429.out HK434.out).mono ?_
        rintro e V436 ⟨r439, rfl, p440, p441, hb⟩
        have HV437 := Lib.hid (HV429.out.chain hb)
        have HK442 := Lib.hid (kept_box hb HK435.out)
        clear hb
        have g438 := HS2.out _ HV437.out
        refine hK _ _ g438 ?_
        clear hK K
        refine anyH_one 11 (by kernel_rfl) rfl (by kernel_rfl) (fun K hK => ?_)
        go_simp
        refine (HL3.out V436 r439 V0.heap.size p440 p441 HV437.out HK442.out).mono ?_
        rintro e V443 ⟨r446, rfl, p447, p448, hb⟩
        have HV444 := Lib.hid (HV437.out.chain hb)
        clear hb
        have g445 := HS2.out _ HV444.out
        refine hK _ _ g445 ?_
        clear hK K
        refine tk 12 29 (.bool (decide (r446 < 0))) g445 ?v ?_
        case v => intro Wx hSx; go_simp
        try simp only [Act.put, List.setIfInBounds_toArray, List.set_cons_zero, List.set_cons_succ]
        refine wpAnyH_done (by kernel_rfl) ?_ _
        go_wp2
        go_meet
        exact ⟨_, _, rfl, rfl, HV444.out⟩
  case rest =>
    obtain ⟨b29, wx0, rfl, rfl, hx3⟩ := hcut
    have HX3 := Lib.hid hx3
    clear hx3
    cases b29 with
    | true =>
      go_wp2
      go_ret
      exact ⟨rfl, HB.out.chain HX3.out⟩
    | false =>
      go_wp2
      refine wp_region_held (S := S) hmx ?_
      change wpAnyH _ _ _ _ _ 25 #[false, false, false, false, false, false, false, false, false, false, false, false, false, false, false, false, false, false, false, false, false, false, false, false, false] _ wx0.drew
      have HY0 := Lib.hid HX3.out.drew
      have g0 := HS2.out _ HY0.out
      refine tk 0 30 (.agg cp) g0 ?v ?_
      case v => intro Wx hSx; have z0 := HC0.out Wx hSx; go_simp
      refine tk 1 31 (.agg cq) g0 ?v ?_
      case v => intro Wx hSx; have z0 := HC1.out Wx hSx; go_simp
      refine tk 3 33 (.agg cp) g0 ?v ?_
      case v => intro Wx hSx; have z0 := HC0.out Wx hSx; go_simp
      try simp only [Act.put, List.setIfInBounds_toArray, List.set_cons_zero, List.set_cons_succ]
      refine tk 4 34 (.agg cq) g0 ?v ?_
      case v => intro Wx hSx; have z0 := HC1.out Wx hSx; go_simp
      refine o1 2 (fun K hK => ?_)
      go_simp
      refine (HE0.out _ HY0.out).mono ?_
      rintro e y1 ⟨rfl, hb⟩
      have HY1 := Lib.hid (HY0.out.chain hb)
      clear hb
      have g1 := HS2.out _ HY1.out
      refine hK _ _ g1 ?_
      clear hK K g0
      refine o1 5 (fun K hK => ?_)
      go_simp
      refine (HE1.out _ HY1.out).mono ?_
      rintro e y2 ⟨rfl, hb⟩
      have HY2 := Lib.hid (HY1.out.chain hb)
      clear hb
      have g2 := HS2.out _ HY2.out
      refine hK _ _ g2 ?_
      clear hK K g1
      refine tk 6 36 (.bool false) g2 ?v ?_
      case v => intro Wx hSx; go_simp
      refine tk 7 37 (.bool false) g2 ?v ?_
      case v => intro Wx hSx; go_simp
      try simp only [Act.put, List.setIfInBounds_toArray, List.set_cons_zero, List.set_cons_succ]
      refine tk 8 38 (.agg #[.slice fA1 fn1 fc1, .slice fA2 fn2 fc2, .slice fA3 fn3 fc3]) g2 ?v ?_
      case v => intro Wx hSx; obtain ⟨z0, z1, z2⟩ := HC2.out Wx hSx; go_simp
      refine tk 9 39 (.agg #[.slice gA1 gn1 gc1, .slice gA2 gn2 gc2, .slice gA3 gn3 gc3]) g2 ?v ?_
      case v => intro Wx hSx; obtain ⟨z0, z1, z2⟩ := HC3.out Wx hSx; go_simp
      refine tk 11 41 (.agg #[.slice fA1 fn1 fc1, .slice fA2 fn2 fc2, .slice fA3 fn3 fc3]) g2 ?v ?_
      case v => intro Wx hSx; obtain ⟨z0, z1, z2⟩ := HC2.out Wx hSx; go_simp
      try simp only [Act.put, List.setIfInBounds_toArray, List.set_cons_zero, List.set_cons_succ]
      refine tk 12 42 (.agg #[.slice gA1 gn1 gc1, .slice gA2 gn2 gc2, .slice gA3 gn3 gc3]) g2 ?v ?_
      case v => intro Wx hSx; obtain ⟨z0, z1, z2⟩ := HC3.out Wx hSx; go_simp
      refine o1 10 (fun K hK => ?_)
      go_simp
      refine (HE2.out _ HY2.out).mono ?_
      rintro e y3 ⟨rfl, hb⟩
      have HY3 := Lib.hid (HY2.out.chain hb)
      clear hb
      have g3 := HS2.out _ HY3.out
      refine hK _ _ g3 ?_
      clear hK K g2
      refine o1 13 (fun K hK => ?_)
      go_simp
      refine (HE3.out _ HY3.out).mono ?_
      rintro e y4 ⟨rfl, hb⟩
      have HY4 := Lib.hid (HY3.out.chain hb)
      clear hb
      have g4 := HS2.out _ HY4.out
      refine hK _ _ g4 ?_
      clear hK K g3
      refine tk 14 44 (.bool false) g4 ?v ?_
      case v => intro Wx hSx; go_simp
      refine tk 15 45 (.bool false) g4 ?v ?_
      case v => intro Wx hSx; go_simp
      try simp only [Act.put, List.setIfInBounds_toArray, List.set_cons_zero, List.set_cons_succ]
      refine tk 16 46 (.bool false) g4 ?v ?_
      case v => intro Wx hSx; go_simp
      refine tk 17 47 (.agg #[.int .i64 k1, .int .i64 m1, .string ⟨s1.toArray⟩, .slice A1 j1 c1]) g4 ?v ?_
      case v => intro Wx hSx; obtain ⟨z0, z1, z2, z3⟩ := HC4.out Wx hSx; go_simp
      refine tk 18 48 (.agg #[.int .i64 k2, .int .i64 m2, .string ⟨s2.toArray⟩, .slice A2 j2 c2]) g4 ?v ?_
      case v => intro Wx hSx; obtain ⟨z0, z1, z2, z3⟩ := HC5.out Wx hSx; go_simp
      refine tk 20 50 (.agg #[.int .i64 k1, .int .i64 m1, .string ⟨s1.toArray⟩, .slice A1 j1 c1]) g4 ?v ?_
      case v => intro Wx hSx; obtain ⟨z0, z1, z2, z3⟩ := HC4.out Wx hSx; go_simp
      refine tk 21 51 (.agg #[.int .i64 k2, .int .i64 m2, .string ⟨s2.toArray⟩, .slice A2 j2 c2]) g4 ?v ?_
      case v => intro Wx hSx; obtain ⟨z0, z1, z2, z3⟩ := HC5.out Wx hSx; go_simp
      refine o1 19 (fun K hK => ?_)
      go_simp
      refine (HE4.out _ HY4.out).mono ?_
      rintro e y5 ⟨rfl, hb⟩
      have HY5 := Lib.hid (HY4.out.chain hb)
      clear hb
      have g5 := HS2.out _ HY5.out
      refine hK _ _ g5 ?_
      clear hK K g4
      refine o1 22 (fun K hK => ?_)
      go_simp
      refine (HE5.out _ HY5.out).mono ?_
      rintro e y6 ⟨rfl, hb⟩
      have HY6 := Lib.hid (HY5.out.chain hb)
      clear hb
      have g6 := HS2.out _ HY6.out
      refine hK _ _ g6 ?_
      clear hK K g5
      refine tk 23 53 (.bool false) g6 ?v ?_
      case v => intro Wx hSx; go_simp
      try simp only [Act.put, List.setIfInBounds_toArray, List.set_cons_zero, List.set_cons_succ]
      refine tk 24 54 (.bool false) g6 ?v ?_
      case v => intro Wx hSx; go_simp
      try simp only [Act.put, List.setIfInBounds_toArray, List.set_cons_zero, List.set_cons_succ]
      refine wpAnyH_done (by kernel_rfl) ?_ _
      clear HC0 HC1 HC2 HC3 HC4 HC5 HE0 HE1 HE2 HE3 HE4 HE5 HL0 HL1 HL2 HL3 HAw
      have zz := (HC6.out _ (HS2.out _ HY6.out)).1
      go_wp2
      clear zz
      go_loopg [58] np (fun mm j wr => ∃ k : Nat, mm = np - k ∧ k ≤ np ∧ j = .int .i64 k ∧ Hid (Below W1.heap.size W1 wr))
      case atStart => exact ⟨0, rfl, Nat.zero_le _, (by first | rfl | go_num), HY6⟩
      case round =>
        obtain ⟨k, rfl, hk, rfl, HI⟩ := hrel
        by_cases hlt : k < np
        · have hki : (k : Int) < np := by omega
          obtain ⟨x, hx⟩ : ∃ x, pxs[k]? = some x := ⟨pxs[k]'(by rw [← HPX.out.2.1]; exact hlt), List.getElem?_eq_getElem _⟩
          obtain ⟨a, rfl, hab, d1, hca, own1⟩ := HPX.out.1.at_ hx
          obtain ⟨cs, hcs⟩ : ∃ cs, cs = prCs d1 x := ⟨_, rfl⟩
          rw [← hcs] at hca
          have h12 : cs.size = 12 := by rw [hcs]; rfl
          have h1c : cs.all (·.oneCell') = true := by rw [hcs]; unfold prCs; rw [List.all_toArray]; rfl
          have k11 : cs[11]? = some (.slice d1.b x.bd.length d1.nb) := by rw [hcs]; rfl
          have hbw := HB.out.chain HI.out
          have hl1 : (loadCellsFrom (a.add (k * 12)) 0 N2 #[]).run Tryz.prog wr = .ok cs wr := load_list (fun j v hv => (hbw.cell (by rw [block_adds, block_adds]; exact hab)).trans (hca j v hv)) (h12.trans HN2.out.1.symm)
          have hst : (storeCells ⟨wr.heap.size, 0, none⟩ cs.toList).run Tryz.prog (wr.alloc (.cells zc T2)) = .ok () (wr.alloc (.cells cs T2)) := by
            have h := store_row (heap_of_alloc wr (.cells zc T2)) (HN2.out.2.trans (HN2.out.1.trans h12.symm)) h1c
            rw [World.setRow_alloc_new] at h
            exact h
          have hszc : cs.size = N2 := h12.trans HN2.out.1.symm
          obtain ⟨wo, hwo⟩ : ∃ wo, wo = wr.alloc (.cells cs T2) := ⟨_, rfl⟩
          have HBO : Hid (Below wr.heap.size wr wo) := Lib.hid (by rw [hwo]; exact below_alloc wr _)
          have hbx : wo.heap[wr.heap.size]? = some (.cells cs T2 (0, 0)) := by rw [hwo]; exact heap_of_alloc wr _
          obtain ⟨bx, hbx2⟩ : ∃ n, n = x.bd.length := ⟨_, rfl⟩
          rw [← hbx2] at k11
          have HBX : Hid (∀ W, Below wo.heap.size wo W → W.cell? ⟨wr.heap.size, 11, none⟩ = some (.slice d1.b bx d1.nb)) := Lib.hid (fun W hb => cell_of_block (kept_box hb hbx) 11 k11)
          have HBD := Lib.hid hbx2
          have HWO := Lib.hid hwo
          have HZ0 := Lib.hid (Below.refl wo.heap.size wo).drew
          obtain ⟨S2, hS2⟩ : ∃ S2 : World → Prop, S2 = fun W => Below wo.heap.size wo W := ⟨_, rfl⟩
          have HT2 : Hid (∀ W, Below wo.heap.size wo W → S2 W) := Lib.hid (fun W hb => by rw [hS2]; exact hb)
          have HLT := Lib.hid (And.intro trivial (And.intro hlt (And.intro hx own1)))
          clear hca hx own1 hbx hbx2 hbw hwo hcs h12 h1c k11
          by_cases hltq : k < nq
          · have hkq : (k : Int) < nq := by omega
            obtain ⟨y, hy⟩ : ∃ y, qxs[k]? = some y := ⟨qxs[k]'(by rw [← HQX.out.2.1]; exact hltq), List.getElem?_eq_getElem _⟩
            obtain ⟨b, rfl, hbb, d2, hcb, own2⟩ := HQX.out.1.at_ hy
            obtain ⟨v, hv⟩ := HEE.out x y (List.mem_of_getElem? HLT.out.2.2.1) (List.mem_of_getElem? hy)
            obtain ⟨b2, hb2⟩ : ∃ n, n = y.bd.length := ⟨_, rfl⟩
            have HTX : Hid (∀ W, S2 W → W.cell? ⟨wr.heap.size, 11, none⟩ = some (.slice d1.b bx d1.nb) ∧ W.cell? ⟨w.heap.size + 1, 5, none⟩ = some (.slice (some b) nq bq) ∧ W.cell? ⟨(b.add (k * 12)).block, (b.add (k * 12)).off + 11, none⟩ = some (.slice d2.b b2 d2.nb)) := Lib.hid (fun W hs => by
              rw [hS2] at hs
              have hbw := HB.out.chain ((HI.out.chain HBO.out).chain hs)
              refine ⟨HBX.out W hs, (HC6.out W (HS2.out _ ((HI.out.chain HBO.out).chain hs))).2, ?_⟩
              rw [hb2]
              exact (hbw.cell (p := (b.add (k * 12)).add 11) (by rw [block_adds, block_adds]; exact hbb)).trans (hcb 11 _ rfl))
            have HG0 : Hid (∀ W, Below wo.heap.size wo W → Calls Tryz.prog 31 #[.slice d1.b bx d1.nb, .slice d2.b b2 d2.nb] W fun e w' => e = .returned (.bool v) ∧ Below W.heap.size W w') := Lib.hid (fun W hb => by
              rw [HBD.out, hb2]
              exact (hv d1 d2 W (HB.out.chain ((HI.out.chain HBO.out).chain hb)) HLT.out.2.2.2 own2).1)
            have HG1 : Hid (∀ W, Below wo.heap.size wo W → Calls Tryz.prog 32 #[.slice d1.b bx d1.nb, .slice d2.b b2 d2.nb] W fun e w' => e = .returned (.bool v) ∧ Below W.heap.size W w') := Lib.hid (fun W hb => by
              rw [HBD.out, hb2]
              exact (hv d1 d2 W (HB.out.chain ((HI.out.chain HBO.out).chain hb)) HLT.out.2.2.2 own2).2)
            clear hy hcb own2 hv hb2 hS2 hbb
            go_wp2
            rw [← HWO.out]
            refine wp_region_held (S := S2) hmx ?_
            change wpAnyH _ _ _ _ _ 26 #[false, false, false, false, false, false, false, false, false, false, false, false, false, false, false, false, false, false, false, false, false, false, false, false, false, false] _ wo.drew
            have g0 := HT2.out _ HZ0.out
            refine tk 0 63 (.int .i64 k) g0 ?v ?_
            case v => intro Wx hSx; go_simp
            refine tk 1 64 (.pointer (some ⟨w.heap.size + 1, 5, none⟩)) g0 ?v ?_
            case v => intro Wx hSx; go_simp
            refine tk 2 65 (.slice (some b) nq bq) g0 ?v ?_
            case v => intro Wx hSx; obtain ⟨u0, u1, u2⟩ := HTX.out Wx hSx; go_simp
            refine tk 3 66 (.int .i64 nq) g0 ?v ?_
            case v => intro Wx hSx; go_simp
            try simp only [Act.put, List.setIfInBounds_toArray, List.set_cons_zero, List.set_cons_succ]
            refine tk 4 67 (.bool true) g0 ?v ?_
            case v => intro Wx hSx; go_simp
            refine tk 5 68 (.bool true) g0 ?v ?_
            case v => intro Wx hSx; go_simp
            refine tk 6 69 (.pointer (some ⟨wr.heap.size, 11, none⟩)) g0 ?v ?_
            case v => intro Wx hSx; go_simp
            refine tk 7 70 (.slice d1.b bx d1.nb) g0 ?v ?_
            case v => intro Wx hSx; obtain ⟨u0, u1, u2⟩ := HTX.out Wx hSx; go_simp
            try simp only [Act.put, List.setIfInBounds_toArray, List.set_cons_zero, List.set_cons_succ]
            refine tk 8 71 (.pointer (some ⟨w.heap.size + 1, 5, none⟩)) g0 ?v ?_
            case v => intro Wx hSx; go_simp
            refine tk 9 72 (.slice (some b) nq bq) g0 ?v ?_
            case v => intro Wx hSx; obtain ⟨u0, u1, u2⟩ := HTX.out Wx hSx; go_simp
            refine tk 10 73 (.int .i64 k) g0 ?v ?_
            case v => intro Wx hSx; go_simp
            refine tk 11 74 (.pointer (some (b.add (k * 12)))) g0 ?v ?_
            case v => intro Wx hSx; go_simp
            try simp only [Act.put, List.setIfInBounds_toArray, List.set_cons_zero, List.set_cons_succ]
            refine tk 12 75 (.pointer (some ⟨(b.add (k * 12)).block, (b.add (k * 12)).off + 11, none⟩)) g0 ?v ?_
            case v => intro Wx hSx; go_simp
            refine tk 13 76 (.slice d2.b b2 d2.nb) g0 ?v ?_
            case v => intro Wx hSx; obtain ⟨u0, u1, u2⟩ := HTX.out Wx hSx; go_simp
            refine tk 15 78 (.pointer (some ⟨wr.heap.size, 11, none⟩)) g0 ?v ?_
            case v => intro Wx hSx; go_simp
            try simp only [Act.put, List.setIfInBounds_toArray, List.set_cons_zero, List.set_cons_succ]
            refine tk 16 79 (.slice d1.b bx d1.nb) g0 ?v ?_
            case v => intro Wx hSx; obtain ⟨u0, u1, u2⟩ := HTX.out Wx hSx; go_simp
            refine tk 17 80 (.pointer (some ⟨w.heap.size + 1, 5, none⟩)) g0 ?v ?_
            case v => intro Wx hSx; go_simp
            refine tk 18 81 (.slice (some b) nq bq) g0 ?v ?_
            case v => intro Wx hSx; obtain ⟨u0, u1, u2⟩ := HTX.out Wx hSx; go_simp
            refine tk 19 82 (.int .i64 k) g0 ?v ?_
            case v => intro Wx hSx; go_simp
            try simp only [Act.put, List.setIfInBounds_toArray, List.set_cons_zero, List.set_cons_succ]
            refine tk 20 83 (.pointer (some (b.add (k * 12)))) g0 ?v ?_
            case v => intro Wx hSx; go_simp
            refine tk 21 84 (.pointer (some ⟨(b.add (k * 12)).block, (b.add (k * 12)).off + 11, none⟩)) g0 ?v ?_
            case v => intro Wx hSx; go_simp
            refine tk 22 85 (.slice d2.b b2 d2.nb) g0 ?v ?_
            case v => intro Wx hSx; obtain ⟨u0, u1, u2⟩ := HTX.out Wx hSx; go_simp
            refine o1 14 (fun K hK => ?_)
            go_simp
            refine (HG0.out _ HZ0.out).mono ?_
            rintro e t0 ⟨rfl, hb⟩
            have HZ1 := Lib.hid (HZ0.out.chain hb)
            clear hb
            have g1 := HT2.out _ HZ1.out
            refine hK _ _ g1 ?_
            clear hK K g0
            refine o1 23 (fun K hK => ?_)
            go_simp
            refine (HG1.out _ HZ1.out).mono ?_
            rintro e t1 ⟨rfl, hb⟩
            have HZ2 := Lib.hid (HZ1.out.chain hb)
            clear hb
            have g2 := HT2.out _ HZ2.out
            refine hK _ _ g2 ?_
            clear hK K g1
            refine tk 24 87 (.bool false) g2 ?v ?_
            case v => intro Wx hSx; go_simp
            refine tk 25 88 (.bool false) g2 ?v ?_
            case v => intro Wx hSx; go_simp
            try simp only [Act.put, List.setIfInBounds_toArray, List.set_cons_zero, List.set_cons_succ]
            refine wpAnyH_done (by kernel_rfl) ?_ _
            go_wp2
            go_roundg (np - (k + 1))
            case measure => have := HLT.out.2.1; omega
            case rel => exact ⟨k + 1, rfl, (by have := HLT.out.2.1; omega), by go_num, Lib.hid ((HI.out.chain HBO.out).chain HZ2.out)⟩
          · have hkq : ¬ (k : Int) < nq := by omega
            have HTX : Hid (∀ W, S2 W → W.cell? ⟨w.heap.size + 1, 5, none⟩ = some (.slice Bq nq bq)) := Lib.hid (fun W hs => by
              rw [hS2] at hs
              exact (HC6.out W (HS2.out _ ((HI.out.chain HBO.out).chain hs))).2)
            clear hS2
            go_wp2
            rw [← HWO.out]
            refine wp_region_held (S := S2) hmx ?_
            change wpAnyH _ _ _ _ _ 26 #[false, false, false, false, false, false, false, false, false, false, false, false, false, false, false, false, false, false, false, false, false, false, false, false, false, false] _ wo.drew
            have g0 := HT2.out _ HZ0.out
            refine tk 0 63 (.int .i64 k) g0 ?v ?_
            case v => intro Wx hSx; go_simp
            refine tk 1 64 (.pointer (some ⟨w.heap.size + 1, 5, none⟩)) g0 ?v ?_
            case v => intro Wx hSx; go_simp
            refine tk 2 65 (.slice Bq nq bq) g0 ?v ?_
            case v => intro Wx hSx; have u1 := HTX.out Wx hSx; go_simp
            refine tk 3 66 (.int .i64 nq) g0 ?v ?_
            case v => intro Wx hSx; go_simp
            try simp only [Act.put, List.setIfInBounds_toArray, List.set_cons_zero, List.set_cons_succ]
            refine tk 4 67 (.bool false) g0 ?v ?_
            case v => intro Wx hSx; go_simp
            refine tk 5 68 (.bool false) g0 ?v ?_
            case v => intro Wx hSx; go_simp
            refine sk 6 69 g0 ?_
            refine sk 7 70 g0 ?_
            try simp only [Act.put, List.setIfInBounds_toArray, List.set_cons_zero, List.set_cons_succ]
            refine sk 8 71 g0 ?_
            refine sk 9 72 g0 ?_
            refine sk 10 73 g0 ?_
            refine sk 11 74 g0 ?_
            try simp only [Act.put, List.setIfInBounds_toArray, List.set_cons_zero, List.set_cons_succ]
            refine sk 12 75 g0 ?_
            refine sk 13 76 g0 ?_
            refine sk 14 77 g0 ?_
            refine sk 15 78 g0 ?_
            try simp only [Act.put, List.setIfInBounds_toArray, List.set_cons_zero, List.set_cons_succ]
            refine sk 16 79 g0 ?_
            refine sk 17 80 g0 ?_
            refine sk 18 81 g0 ?_
            refine sk 19 82 g0 ?_
            try simp only [Act.put, List.setIfInBounds_toArray, List.set_cons_zero, List.set_cons_succ]
            refine sk 20 83 g0 ?_
            refine sk 21 84 g0 ?_
            refine sk 22 85 g0 ?_
            refine sk 23 86 g0 ?_
            try simp only [Act.put, List.setIfInBounds_toArray, List.set_cons_zero, List.set_cons_succ]
            refine sk 24 87 g0 ?_
            refine tk 25 88 (.bool false) g0 ?v ?_
            case v => intro Wx hSx; go_simp
            try simp only [Act.put, List.setIfInBounds_toArray, List.set_cons_zero, List.set_cons_succ]
            refine wpAnyH_done (by kernel_rfl) ?_ _
            go_wp2
            go_roundg (np - (k + 1))
            case measure => have := HLT.out.2.1; omega
            case rel => exact ⟨k + 1, rfl, (by have := HLT.out.2.1; omega), by go_num, Lib.hid ((HI.out.chain HBO.out).chain HZ0.out)⟩
        · obtain rfl : k = np := by omega
          go_wp2
          go_ret
          exact ⟨rfl, HB.out.chain HI.out⟩

end Go.Proofs.YtkjfgbcbeabpgaaGreatDoor
