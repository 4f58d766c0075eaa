/-
  The reference's comparison of rows of parameters.
  The reference's comparisons of conditions and formulas.
  The reference's comparisons of expressions, conditions, atoms, cells, and formulas.
-/
import Derived.Test.YtkjfgbcbeabpgaaGreatDoorTreeQa
import Derived.Test.YtkjfgbcbeabpgaaGreatDoorTreeQ
import Derived.Test.YtkjfgbcbeabpgaaGreatDoorTreeQb
import Derived.Test.YtkjfgbcbeabpgaaGreatDoorTreeQd
namespace Go.Proofs.YtkjfgbcbeabpgaaGreatDoor
open Go.RowKit

set_option maxRecDepth 100000 in
set_option maxHeartbeats 8000000 in
theorem sps_row (l m : List Pm) (A B : Option Addr) (ca cb : Nat) (w : World) (hl : l.length ≤ maxLen) (_hm : m.length ≤ maxLen) (ra : PmRow w w.heap.size l A) (rb : PmRow w w.heap.size m B) (r : Bool) (hr : r = true ↔ l = m) :
    Calls Tryz.prog 67 #[.slice A l.length ca, .slice B m.length cb] w fun e w' => e = .returned (.bool r) ∧ Below w.heap.size w w' := by
  have hA := pm_rowV ra
  have hB := pm_rowV rb
  obtain ⟨T, N, hT, hN, hag, hsz⟩ := hid_Param
  have e1 : ∀ y : Operand, Op.load 60 y = Op.load T y := fun y => by rw [hT]
  have HB0 := Lib.hid (Below.refl w.heap.size w)
  clear ra rb
  by_cases hlen : l.length = m.length
  · obtain ⟨n, hnn⟩ : ∃ n, n = l.length := ⟨_, rfl⟩
    have HH := Lib.hid (And.intro hA (And.intro hB (And.intro hr (And.intro hnn (hnn.trans hlen)))))
    have HN := Lib.hid hN
    rw [← hlen, ← hnn]
    rw [← hnn] at hl
    unfold maxLen at hl
    clear hA hB hr hnn hlen _hm hN
    go_enter Tryz.func67, Tryz.ntmps67
    simp only [e1]
    clear e1 hT
    go_wp2
    go_loopg [5] n (fun mm j wr => ∃ k : Nat, mm = n - k ∧ k ≤ n ∧ j = .int .i64 k ∧ Hid (Below w.heap.size w wr ∧ ∀ i, i < k → l[i]? = m[i]?))
    case atStart => exact ⟨0, rfl, Nat.zero_le _, rfl, Lib.hid ⟨HB0.out, fun i h => absurd h (Nat.not_lt_zero _)⟩⟩
    case round =>
      obtain ⟨k, rfl, hk, rfl, HI⟩ := hrel
      by_cases hlt : k < n
      · have hki : (k : Int) < n := by omega
        obtain ⟨x, hx⟩ : ∃ x, l[k]? = some x := ⟨l[k]'(by rw [← HH.out.2.2.2.1]; exact hlt), List.getElem?_eq_getElem _⟩
        obtain ⟨y, hy⟩ : ∃ y, m[k]? = some y := ⟨m[k]'(by rw [← HH.out.2.2.2.2]; exact hlt), List.getElem?_eq_getElem _⟩
        obtain ⟨a, cs, rfl, hab, hcs, hca, hvx⟩ := HH.out.1 k x hx
        obtain ⟨b, ds, rfl, hbb, hds, hcb, hvy⟩ := HH.out.2.1 k y hy
        obtain ⟨s, t⟩ := x
        obtain ⟨s', t'⟩ := y
        obtain ⟨rfl, _, _⟩ := hvx
        obtain ⟨rfl, _, _⟩ := hvy
        simp only at hca hcb hcs hds
        obtain ⟨S, hS⟩ : ∃ S : World → Prop, S = fun W => Below wr.heap.size wr W := ⟨_, rfl⟩
        have HS2 : Hid (∀ W, Below wr.heap.size wr W → S W) := Lib.hid (fun W hb => by rw [hS]; exact hb)
        have HLD : Hid (∀ W, S W → (loadCellsFrom (a.add (k * 2)) 0 N #[]).run Tryz.prog W = .ok #[.string ⟨s.toArray⟩, .string ⟨t.toArray⟩] W ∧ (loadCellsFrom (b.add (k * 2)) 0 N #[]).run Tryz.prog W = .ok #[.string ⟨s'.toArray⟩, .string ⟨t'.toArray⟩] W) := Lib.hid (fun W hs => by
          rw [hS] at hs
          have hb := HI.out.1.chain hs
          exact ⟨load_list (fun j v hv => (hb.cell (by rw [block_adds, block_adds]; exact hab)).trans (hca j v hv)) (hcs.trans HN.out.symm), load_list (fun j v hv => (hb.cell (by rw [block_adds, block_adds]; exact hbb)).trans (hcb j v hv)) (hds.trans HN.out.symm)⟩)
        have HXY := Lib.hid (And.intro hx (And.intro hy trivial))
        have HLT := Lib.hid (And.intro trivial hlt)
        have HX0 := Lib.hid (Below.refl wr.heap.size wr).drew
        have hmx : Tryz.prog.follows .mixedOrders = true := by kernel_rfl
        clear hx hy hca hcb hcs hds hab hbb hS
        by_cases h1 : s = s'
        · subst h1
          by_cases h2 : t = t'
          · subst h2
            go_wp2
            refine wp_region_held (S := S) hmx ?_
            change wpAnyH _ _ _ _ _ 9 #[false, false, false, false, false, false, false, false, false] _ wr.drew
            have g0 := HS2.out _ HX0.out
            refine anyH_take 0 (some 17) (v := .slice (some a) n ca) g0 rfl rfl (by kernel_rfl) (by kernel_rfl) (by kernel_rfl) (fun _ _ _ h => h) (by kernel_rfl) ?v0 ?_
            case v0 =>
              intro Wx hSx
              go_simp
            try simp only [Act.put, List.setIfInBounds_toArray, List.set_cons_zero, List.set_cons_succ]
            refine anyH_take 1 (some 18) (v := .int .i64 k) g0 rfl rfl (by kernel_rfl) (by kernel_rfl) (by kernel_rfl) (fun _ _ _ h => h) (by kernel_rfl) ?v1 ?_
            case v1 =>
              intro Wx hSx
              go_simp
            try simp only [Act.put, List.setIfInBounds_toArray, List.set_cons_zero, List.set_cons_succ]
            refine anyH_take 2 (some 19) (v := .pointer (some (a.add (k * 2)))) g0 rfl rfl (by kernel_rfl) (by kernel_rfl) (by kernel_rfl) (fun _ _ _ h => h) (by kernel_rfl) ?v2 ?_
            case v2 =>
              intro Wx hSx
              go_simp
            try simp only [Act.put, List.setIfInBounds_toArray, List.set_cons_zero, List.set_cons_succ]
            refine anyH_take 3 (some 20) (v := .agg #[.string ⟨s.toArray⟩, .string ⟨t.toArray⟩]) g0 rfl rfl (by kernel_rfl) (by kernel_rfl) (by kernel_rfl) (fun _ _ _ h => h) (by kernel_rfl) ?v3 ?_
            case v3 =>
              intro Wx hSx
              have q0 := (HLD.out Wx hSx).1
              go_simp
            try simp only [Act.put, List.setIfInBounds_toArray, List.set_cons_zero, List.set_cons_succ]
            refine anyH_take 4 (some 21) (v := .slice (some b) n cb) g0 rfl rfl (by kernel_rfl) (by kernel_rfl) (by kernel_rfl) (fun _ _ _ h => h) (by kernel_rfl) ?v4 ?_
            case v4 =>
              intro Wx hSx
              go_simp
            try simp only [Act.put, List.setIfInBounds_toArray, List.set_cons_zero, List.set_cons_succ]
            refine anyH_take 5 (some 22) (v := .int .i64 k) g0 rfl rfl (by kernel_rfl) (by kernel_rfl) (by kernel_rfl) (fun _ _ _ h => h) (by kernel_rfl) ?v5 ?_
            case v5 =>
              intro Wx hSx
              go_simp
            try simp only [Act.put, List.setIfInBounds_toArray, List.set_cons_zero, List.set_cons_succ]
            refine anyH_take 6 (some 23) (v := .pointer (some (b.add (k * 2)))) g0 rfl rfl (by kernel_rfl) (by kernel_rfl) (by kernel_rfl) (fun _ _ _ h => h) (by kernel_rfl) ?v6 ?_
            case v6 =>
              intro Wx hSx
              go_simp
            try simp only [Act.put, List.setIfInBounds_toArray, List.set_cons_zero, List.set_cons_succ]
            refine anyH_take 7 (some 24) (v := .agg #[.string ⟨s.toArray⟩, .string ⟨t.toArray⟩]) g0 rfl rfl (by kernel_rfl) (by kernel_rfl) (by kernel_rfl) (fun _ _ _ h => h) (by kernel_rfl) ?v7 ?_
            case v7 =>
              intro Wx hSx
              have q0 := (HLD.out Wx hSx).2
              go_simp
            try simp only [Act.put, List.setIfInBounds_toArray, List.set_cons_zero, List.set_cons_succ]
            refine anyH_take 8 (some 25) (v := .bool false) g0 rfl rfl (by kernel_rfl) (by kernel_rfl) (by kernel_rfl) (fun _ _ _ h => h) (by kernel_rfl) ?v8 ?_
            case v8 =>
              intro Wx hSx
              go_simp
            try simp only [Act.put, List.setIfInBounds_toArray, List.set_cons_zero, List.set_cons_succ]
            refine wpAnyH_done (by kernel_rfl) ?_ _
            go_wp2
            go_roundg (n - (k + 1))
            case measure => have := HLT.out.2; omega
            case rel =>
              refine ⟨k + 1, rfl, (by have := HLT.out.2; omega), by go_num, Lib.hid ⟨HI.out.1.chain HX0.out, fun i hi => ?_⟩⟩
              by_cases h : i = k
              · subst h
                rw [HXY.out.1, HXY.out.2.1]
              · exact HI.out.2 i (by omega)
          · have HNE := Lib.hid h2
            have hs : (t == t') = false := by simpa using h2
            go_wp2
            refine wp_region_held (S := S) hmx ?_
            change wpAnyH _ _ _ _ _ 9 #[false, false, false, false, false, false, false, false, false] _ wr.drew
            have g0 := HS2.out _ HX0.out
            refine anyH_take 0 (some 17) (v := .slice (some a) n ca) g0 rfl rfl (by kernel_rfl) (by kernel_rfl) (by kernel_rfl) (fun _ _ _ h => h) (by kernel_rfl) ?v0 ?_
            case v0 =>
              intro Wx hSx
              go_simp
            try simp only [Act.put, List.setIfInBounds_toArray, List.set_cons_zero, List.set_cons_succ]
            refine anyH_take 1 (some 18) (v := .int .i64 k) g0 rfl rfl (by kernel_rfl) (by kernel_rfl) (by kernel_rfl) (fun _ _ _ h => h) (by kernel_rfl) ?v1 ?_
            case v1 =>
              intro Wx hSx
              go_simp
            try simp only [Act.put, List.setIfInBounds_toArray, List.set_cons_zero, List.set_cons_succ]
            refine anyH_take 2 (some 19) (v := .pointer (some (a.add (k * 2)))) g0 rfl rfl (by kernel_rfl) (by kernel_rfl) (by kernel_rfl) (fun _ _ _ h => h) (by kernel_rfl) ?v2 ?_
            case v2 =>
              intro Wx hSx
              go_simp
            try simp only [Act.put, List.setIfInBounds_toArray, List.set_cons_zero, List.set_cons_succ]
            refine anyH_take 3 (some 20) (v := .agg #[.string ⟨s.toArray⟩, .string ⟨t.toArray⟩]) g0 rfl rfl (by kernel_rfl) (by kernel_rfl) (by kernel_rfl) (fun _ _ _ h => h) (by kernel_rfl) ?v3 ?_
            case v3 =>
              intro Wx hSx
              have q0 := (HLD.out Wx hSx).1
              go_simp
            try simp only [Act.put, List.setIfInBounds_toArray, List.set_cons_zero, List.set_cons_succ]
            refine anyH_take 4 (some 21) (v := .slice (some b) n cb) g0 rfl rfl (by kernel_rfl) (by kernel_rfl) (by kernel_rfl) (fun _ _ _ h => h) (by kernel_rfl) ?v4 ?_
            case v4 =>
              intro Wx hSx
              go_simp
            try simp only [Act.put, List.setIfInBounds_toArray, List.set_cons_zero, List.set_cons_succ]
            refine anyH_take 5 (some 22) (v := .int .i64 k) g0 rfl rfl (by kernel_rfl) (by kernel_rfl) (by kernel_rfl) (fun _ _ _ h => h) (by kernel_rfl) ?v5 ?_
            case v5 =>
              intro Wx hSx
              go_simp
            try simp only [Act.put, List.setIfInBounds_toArray, List.set_cons_zero, List.set_cons_succ]
            refine anyH_take 6 (some 23) (v := .pointer (some (b.add (k * 2)))) g0 rfl rfl (by kernel_rfl) (by kernel_rfl) (by kernel_rfl) (fun _ _ _ h => h) (by kernel_rfl) ?v6 ?_
            case v6 =>
              intro Wx hSx
              go_simp
            try simp only [Act.put, List.setIfInBounds_toArray, List.set_cons_zero, List.set_cons_succ]
            refine anyH_take 7 (some 24) (v := .agg #[.string ⟨s.toArray⟩, .string ⟨t'.toArray⟩]) g0 rfl rfl (by kernel_rfl) (by kernel_rfl) (by kernel_rfl) (fun _ _ _ h => h) (by kernel_rfl) ?v7 ?_
            case v7 =>
              intro Wx hSx
              have q0 := (HLD.out Wx hSx).2
              go_simp
            try simp only [Act.put, List.setIfInBounds_toArray, List.set_cons_zero, List.set_cons_succ]
            refine anyH_take 8 (some 25) (v := .bool true) g0 rfl rfl (by kernel_rfl) (by kernel_rfl) (by kernel_rfl) (fun _ _ _ h => h) (by kernel_rfl) ?v8 ?_
            case v8 =>
              intro Wx hSx
              go_simp
            try simp only [Act.put, List.setIfInBounds_toArray, List.set_cons_zero, List.set_cons_succ]
            refine wpAnyH_done (by kernel_rfl) ?_ _
            go_wp2
            go_ret
            refine ⟨?_, HI.out.1.chain HX0.out⟩
            have hrf : r = false := by
              cases r with
              | false => rfl
              | true =>
                have e0 := HH.out.2.2.1.1 rfl
                have e1 := HXY.out.1
                rw [e0, HXY.out.2.1] at e1
                injection e1 with e1
                injection e1 with e1 e2
                exact absurd HNE.out (by simp [e2])
            rw [hrf]
            rfl
        · have HNE := Lib.hid h1
          have hs : (s == s') = false := by simpa using h1
          go_wp2
          refine wp_region_held (S := S) hmx ?_
          change wpAnyH _ _ _ _ _ 9 #[false, false, false, false, false, false, false, false, false] _ wr.drew
          have g0 := HS2.out _ HX0.out
          refine anyH_take 0 (some 17) (v := .slice (some a) n ca) g0 rfl rfl (by kernel_rfl) (by kernel_rfl) (by kernel_rfl) (fun _ _ _ h => h) (by kernel_rfl) ?v0 ?_
          case v0 =>
            intro Wx hSx
            go_simp
          try simp only [Act.put, List.setIfInBounds_toArray, List.set_cons_zero, List.set_cons_succ]
          refine anyH_take 1 (some 18) (v := .int .i64 k) g0 rfl rfl (by kernel_rfl) (by kernel_rfl) (by kernel_rfl) (fun _ _ _ h => h) (by kernel_rfl) ?v1 ?_
          case v1 =>
            intro Wx hSx
            go_simp
          try simp only [Act.put, List.setIfInBounds_toArray, List.set_cons_zero, List.set_cons_succ]
          refine anyH_take 2 (some 19) (v := .pointer (some (a.add (k * 2)))) g0 rfl rfl (by kernel_rfl) (by kernel_rfl) (by kernel_rfl) (fun _ _ _ h => h) (by kernel_rfl) ?v2 ?_
          case v2 =>
            intro Wx hSx
            go_simp
          try simp only [Act.put, List.setIfInBounds_toArray, List.set_cons_zero, List.set_cons_succ]
          refine anyH_take 3 (some 20) (v := .agg #[.string ⟨s.toArray⟩, .string ⟨t.toArray⟩]) g0 rfl rfl (by kernel_rfl) (by kernel_rfl) (by kernel_rfl) (fun _ _ _ h => h) (by kernel_rfl) ?v3 ?_
          case v3 =>
            intro Wx hSx
            have q0 := (HLD.out Wx hSx).1
            go_simp
          try simp only [Act.put, List.setIfInBounds_toArray, List.set_cons_zero, List.set_cons_succ]
          refine anyH_take 4 (some 21) (v := .slice (some b) n cb) g0 rfl rfl (by kernel_rfl) (by kernel_rfl) (by kernel_rfl) (fun _ _ _ h => h) (by kernel_rfl) ?v4 ?_
          case v4 =>
            intro Wx hSx
            go_simp
          try simp only [Act.put, List.setIfInBounds_toArray, List.set_cons_zero, List.set_cons_succ]
          refine anyH_take 5 (some 22) (v := .int .i64 k) g0 rfl rfl (by kernel_rfl) (by kernel_rfl) (by kernel_rfl) (fun _ _ _ h => h) (by kernel_rfl) ?v5 ?_
          case v5 =>
            intro Wx hSx
            go_simp
          try simp only [Act.put, List.setIfInBounds_toArray, List.set_cons_zero, List.set_cons_succ]
          refine anyH_take 6 (some 23) (v := .pointer (some (b.add (k * 2)))) g0 rfl rfl (by kernel_rfl) (by kernel_rfl) (by kernel_rfl) (fun _ _ _ h => h) (by kernel_rfl) ?v6 ?_
          case v6 =>
            intro Wx hSx
            go_simp
          try simp only [Act.put, List.setIfInBounds_toArray, List.set_cons_zero, List.set_cons_succ]
          refine anyH_take 7 (some 24) (v := .agg #[.string ⟨s'.toArray⟩, .string ⟨t'.toArray⟩]) g0 rfl rfl (by kernel_rfl) (by kernel_rfl) (by kernel_rfl) (fun _ _ _ h => h) (by kernel_rfl) ?v7 ?_
          case v7 =>
            intro Wx hSx
            have q0 := (HLD.out Wx hSx).2
            go_simp
          try simp only [Act.put, List.setIfInBounds_toArray, List.set_cons_zero, List.set_cons_succ]
          refine anyH_take 8 (some 25) (v := .bool true) g0 rfl rfl (by kernel_rfl) (by kernel_rfl) (by kernel_rfl) (fun _ _ _ h => h) (by kernel_rfl) ?v8 ?_
          case v8 =>
            intro Wx hSx
            go_simp
          try simp only [Act.put, List.setIfInBounds_toArray, List.set_cons_zero, List.set_cons_succ]
          refine wpAnyH_done (by kernel_rfl) ?_ _
          go_wp2
          go_ret
          refine ⟨?_, HI.out.1.chain HX0.out⟩
          have hrf : r = false := by
            cases r with
            | false => rfl
            | true =>
              have e0 := HH.out.2.2.1.1 rfl
              have e1 := HXY.out.1
              rw [e0, HXY.out.2.1] at e1
              injection e1 with e1
              injection e1 with e1 e2
              exact absurd HNE.out (by simp [e1])
          rw [hrf]
          rfl
      · obtain rfl : k = n := by omega
        go_wp2
        go_ret
        refine ⟨?_, HI.out.1⟩
        have hrt : r = true := HH.out.2.2.1.2 (List.ext_getElem? (fun i => by
          by_cases h : i < k
          · exact HI.out.2 i h
          · rw [List.getElem?_eq_none (by have := HH.out.2.2.2.1; omega), List.getElem?_eq_none (by have := HH.out.2.2.2.2; omega)]))
        rw [hrt]
        rfl
  · have hrf : r = false := by
      cases r with
      | false => rfl
      | true => exact absurd (congrArg List.length (hr.1 rfl)) hlen
    subst hrf
    obtain ⟨n1, h1⟩ : ∃ n1, n1 = l.length := ⟨_, rfl⟩
    obtain ⟨n2, h2⟩ : ∃ n2, n2 = m.length := ⟨_, rfl⟩
    rw [← h1] at hl hlen ⊢
    rw [← h2] at _hm hlen ⊢
    clear h1 h2 hA hB hr
    have hne : ¬ (n1 : Int) = n2 := by omega
    unfold maxLen at hl _hm
    go_enter Tryz.func67, Tryz.ntmps67
    simp only [e1]
    clear e1 hT hN
    go_wp2
    go_ret
    exact ⟨rfl, HB0.out⟩

end Go.Proofs.YtkjfgbcbeabpgaaGreatDoor

namespace Go.Proofs.YtkjfgbcbeabpgaaGreatDoor
open Go.RowKit

set_option maxRecDepth 100000 in
set_option maxHeartbeats 20000000 in
theorem seqc_core (cs ds : Array Value) (hcs : cs.size = 10) (hds : ds.size = 10) (x0 y0 : Int) (x1 y1 : Int) (x2 y2 : Int) (x3 y3 : List UInt8) (x4 y4 : Value) (x5 y5 : Int) (x6 y6 : Int) (x7 y7 : List UInt8) (x8 y8 : Value)
    (A0 B0 : Option Addr) (n0 m0 ca0 cb0 : Nat) (l0 k0 : List Cn) (hn0 : n0 = l0.length) (hm0 : m0 = k0.length) (bn0 : n0 ≤ maxLen) (bm0 : m0 ≤ maxLen)
    (kx0 : cs[0]? = some (.int .i64 x0)) (ky0 : ds[0]? = some (.int .i64 y0))
    (kx1 : cs[1]? = some (.int .i64 x1)) (ky1 : ds[1]? = some (.int .i64 y1))
    (kx2 : cs[2]? = some (.int .i64 x2)) (ky2 : ds[2]? = some (.int .i64 y2))
    (kx3 : cs[3]? = some (.string ⟨x3.toArray⟩)) (ky3 : ds[3]? = some (.string ⟨y3.toArray⟩))
    (kx4 : cs[4]? = some (x4)) (ky4 : ds[4]? = some (y4))
    (kx5 : cs[5]? = some (.int .i64 x5)) (ky5 : ds[5]? = some (.int .i64 y5))
    (kx6 : cs[6]? = some (.int .i64 x6)) (ky6 : ds[6]? = some (.int .i64 y6))
    (kx7 : cs[7]? = some (.string ⟨x7.toArray⟩)) (ky7 : ds[7]? = some (.string ⟨y7.toArray⟩))
    (kx8 : cs[8]? = some (x8)) (ky8 : ds[8]? = some (y8))
    (kx9 : cs[9]? = some (.slice A0 n0 ca0)) (ky9 : ds[9]? = some (.slice B0 m0 cb0)) (q1 : Bool) (q2 : Bool) (w : World) (r : Bool)
    (ra0 : RowV VCn 10 w w.heap.size l0 A0) (rb0 : RowV VCn 10 w w.heap.size k0 B0) (hE0 : ∀ x y, x ∈ l0 → y ∈ k0 → EqAt 80 VCn (fun x y => x = y) x y)
    (hq1 : ∀ W, Below w.heap.size w W → Calls Tryz.prog 30 #[.agg #[.int .i64 x1, .int .i64 x2, .string ⟨x3.toArray⟩, x4], .agg #[.int .i64 y1, .int .i64 y2, .string ⟨y3.toArray⟩, y4]] W fun e w' => e = .returned (.bool q1) ∧ Below W.heap.size W w')
    (hq2 : ∀ W, Below w.heap.size w W → Calls Tryz.prog 30 #[.agg #[.int .i64 x5, .int .i64 x6, .string ⟨x7.toArray⟩, x8], .agg #[.int .i64 y5, .int .i64 y6, .string ⟨y7.toArray⟩, y8]] W fun e w' => e = .returned (.bool q2) ∧ Below W.heap.size W w')
    (hr : r = true ↔ x0 = y0 ∧ q1 = true ∧ q2 = true ∧ All2 (fun x y => x = y) l0 k0) :
    Calls Tryz.prog 80 #[.agg cs, .agg ds] w fun e w' => e = .returned (.bool r) ∧ Below w.heap.size w w' := by
  obtain ⟨T, N, hT, hN, hag, hsz⟩ := hid_Cond
  have e4 : ∀ y : Operand, Op.box 27 y = Op.box T y := fun y => by rw [hT]
  obtain ⟨T0, N0, hT0, hN0, hag0, hsz0⟩ := hid_Cond
  have e10 : ∀ y : Operand, Op.load 27 y = Op.load T0 y := fun y => by rw [hT0]
  have HN0 := Lib.hid hN0
  clear hN0
  have HQ1 := Lib.hid hq1
  have HQ2 := Lib.hid hq2
  have hszc : cs.size = N := hcs.trans hN.symm
  have hszd : ds.size = N := hds.trans hN.symm
  obtain ⟨W1, hW1⟩ : ∃ W1, W1 = (w.alloc (.cells cs T)).alloc (.cells ds T) := ⟨_, rfl⟩
  have HB : Hid (Below w.heap.size w W1) := Lib.hid (by rw [hW1]; exact (below_alloc w _).chain (below_alloc _ _))
  have p1 := heap_keep (o := .cells ds T) (heap_of_alloc w (.cells cs T))
  have p2 := heap_of_alloc (w.alloc (.cells cs T)) (.cells ds T)
  rw [size_of_alloc] at p2
  rw [← hW1] at p1 p2
  have HF : Hid (∀ W, Below W1.heap.size W1 W → W.cell? ⟨w.heap.size, 0, none⟩ = some (.int .i64 x0) ∧ W.cell? ⟨w.heap.size + 1, 0, none⟩ = some (.int .i64 y0) ∧ W.cell? ⟨w.heap.size, 1, none⟩ = some (.int .i64 x1) ∧ W.cell? ⟨w.heap.size + 1, 1, none⟩ = some (.int .i64 y1) ∧ W.cell? ⟨w.heap.size, 2, none⟩ = some (.int .i64 x2) ∧ W.cell? ⟨w.heap.size + 1, 2, none⟩ = some (.int .i64 y2) ∧ W.cell? ⟨w.heap.size, 3, none⟩ = some (.string ⟨x3.toArray⟩) ∧ W.cell? ⟨w.heap.size + 1, 3, none⟩ = some (.string ⟨y3.toArray⟩) ∧ W.cell? ⟨w.heap.size, 4, none⟩ = some (x4) ∧ W.cell? ⟨w.heap.size + 1, 4, none⟩ = some (y4) ∧ W.cell? ⟨w.heap.size, 5, none⟩ = some (.int .i64 x5) ∧ W.cell? ⟨w.heap.size + 1, 5, none⟩ = some (.int .i64 y5) ∧ W.cell? ⟨w.heap.size, 6, none⟩ = some (.int .i64 x6) ∧ W.cell? ⟨w.heap.size + 1, 6, none⟩ = some (.int .i64 y6) ∧ W.cell? ⟨w.heap.size, 7, none⟩ = some (.string ⟨x7.toArray⟩) ∧ W.cell? ⟨w.heap.size + 1, 7, none⟩ = some (.string ⟨y7.toArray⟩) ∧ W.cell? ⟨w.heap.size, 8, none⟩ = some (x8) ∧ W.cell? ⟨w.heap.size + 1, 8, none⟩ = some (y8) ∧ W.cell? ⟨w.heap.size, 9, none⟩ = some (.slice A0 n0 ca0) ∧ W.cell? ⟨w.heap.size + 1, 9, none⟩ = some (.slice B0 m0 cb0)) := Lib.hid (fun W hb => ⟨cell_of_block (kept_box hb p1) 0 kx0, cell_of_block (kept_box hb p2) 0 ky0, cell_of_block (kept_box hb p1) 1 kx1, cell_of_block (kept_box hb p2) 1 ky1, cell_of_block (kept_box hb p1) 2 kx2, cell_of_block (kept_box hb p2) 2 ky2, cell_of_block (kept_box hb p1) 3 kx3, cell_of_block (kept_box hb p2) 3 ky3, cell_of_block (kept_box hb p1) 4 kx4, cell_of_block (kept_box hb p2) 4 ky4, cell_of_block (kept_box hb p1) 5 kx5, cell_of_block (kept_box hb p2) 5 ky5, cell_of_block (kept_box hb p1) 6 kx6, cell_of_block (kept_box hb p2) 6 ky6, cell_of_block (kept_box hb p1) 7 kx7, cell_of_block (kept_box hb p2) 7 ky7, cell_of_block (kept_box hb p1) 8 kx8, cell_of_block (kept_box hb p2) 8 ky8, cell_of_block (kept_box hb p1) 9 kx9, cell_of_block (kept_box hb p2) 9 ky9⟩)
  have HF0 : Hid (∀ W, Below W1.heap.size W1 W → W.cell? ⟨w.heap.size, 9, none⟩ = some (.slice A0 n0 ca0) ∧ W.cell? ⟨w.heap.size + 1, 9, none⟩ = some (.slice B0 m0 cb0)) := Lib.hid (fun W hb => ⟨cell_of_block (kept_box hb p1) 9 kx9, cell_of_block (kept_box hb p2) 9 ky9⟩)
  have HX0 := Lib.hid (Below.refl W1.heap.size W1)
  have hF0 := HF.out _ HX0.out
  rw [hW1] at hF0
  obtain ⟨cx0, cy0, cx1, cy1, cx2, cy2, cx3, cy3, cx4, cy4, cx5, cy5, cx6, cy6, cx7, cy7, cx8, cy8, cx9, cy9⟩ := hF0
  have HR0 := Lib.hid (And.intro ra0 (And.intro rb0 (And.intro hn0 hm0)))
  have HE0 := Lib.hid hE0
  clear hq1 hq2 hN p1 p2 hcs hds kx0 ky0 kx1 ky1 kx2 ky2 kx3 ky3 kx4 ky4 kx5 ky5 kx6 ky6 kx7 ky7 kx8 ky8 kx9 ky9 ra0 rb0 hn0 hm0 hE0
  unfold maxLen at bn0 bm0
  by_cases h0 : x0 = y0
  · subst h0
    cases q1 with
    | false =>
      have e : r = false := Bool.eq_false_iff.2 (fun h => by simpa using hr.1 h)
      clear hr
      subst e
      go_enter Tryz.func80, Tryz.ntmps80
      simp only [e4, e10]
      clear e4 hT e10 hT0
      go_wp2_with (go_at_call 30; rw [← hW1]; clear hW1; ((with_reducible refine (HQ1.out _ (HB.out.chain HX0.out)).mono ?_); rintro e w2 ⟨rfl, hb⟩); have HX2 := Lib.hid (HX0.out.chain hb); clear hb; clear cx0 cy0 cx1 cy1 cx2 cy2 cx3 cy3 cx4 cy4 cx5 cy5 cx6 cy6 cx7 cy7 cx8 cy8 cx9 cy9)
      go_ret
      exact ⟨rfl, HB.out.chain HX2.out⟩
    | true =>
      cases q2 with
      | false =>
        have e : r = false := Bool.eq_false_iff.2 (fun h => by simpa using hr.1 h)
        clear hr
        subst e
        go_enter Tryz.func80, Tryz.ntmps80
        simp only [e4, e10]
        clear e4 hT e10 hT0
        go_wp2_with (first
          | (go_at_call 30; rw [← hW1]; clear hW1; ((with_reducible refine (HQ1.out _ (HB.out.chain HX0.out)).mono ?_); rintro e w2 ⟨rfl, hb⟩); have HX2 := Lib.hid (HX0.out.chain hb); clear hb; clear cx0 cy0 cx1 cy1 cx2 cy2 cx3 cy3 cx4 cy4 cx5 cy5 cx6 cy6 cx7 cy7 cx8 cy8 cx9 cy9; obtain ⟨-, -, -, -, -, -, -, -, -, -, f2x5, f2y5, f2x6, f2y6, f2x7, f2y7, f2x8, f2y8, f2x9, f2y9⟩ := HF.out _ HX2.out)
          | (go_at_call 30; ((with_reducible refine (HQ2.out _ (HB.out.chain HX2.out)).mono ?_); rintro e w3 ⟨rfl, hb⟩); have HX3 := Lib.hid (HX2.out.chain hb); clear hb; clear f2x5 f2y5 f2x6 f2y6 f2x7 f2y7 f2x8 f2y8 f2x9 f2y9))
        go_ret
        exact ⟨rfl, HB.out.chain HX3.out⟩
      | true =>
        by_cases hlen0 : n0 = m0
        · subst hlen0
          have HG : Hid (r = true ↔ All2 (fun x y => x = y) l0 k0) := Lib.hid ⟨fun h => (hr.1 h).2.2.2, fun h => hr.2 ⟨rfl, rfl, rfl, h⟩⟩
          clear hr
          have HL0 := HR0
          go_enter Tryz.func80, Tryz.ntmps80
          simp only [e4, e10]
          clear e4 hT e10 hT0
          go_wp2_with (first
            | (go_at_call 30; rw [← hW1]; clear hW1; ((with_reducible refine (HQ1.out _ (HB.out.chain HX0.out)).mono ?_); rintro e w2 ⟨rfl, hb⟩); have HX2 := Lib.hid (HX0.out.chain hb); clear hb; clear cx0 cy0 cx1 cy1 cx2 cy2 cx3 cy3 cx4 cy4 cx5 cy5 cx6 cy6 cx7 cy7 cx8 cy8 cx9 cy9; obtain ⟨-, -, -, -, -, -, -, -, -, -, f2x5, f2y5, f2x6, f2y6, f2x7, f2y7, f2x8, f2y8, f2x9, f2y9⟩ := HF.out _ HX2.out)
            | (go_at_call 30; ((with_reducible refine (HQ2.out _ (HB.out.chain HX2.out)).mono ?_); rintro e w3 ⟨rfl, hb⟩); have HX3 := Lib.hid (HX2.out.chain hb); clear hb; clear f2x5 f2y5 f2x6 f2y6 f2x7 f2y7 f2x8 f2y8 f2x9 f2y9; obtain ⟨-, -, -, -, -, -, -, -, -, -, -, -, -, -, -, -, -, -, f3x9, f3y9⟩ := HF.out _ HX3.out))
          clear f3x9 f3y9
          go_loopg [5] n0 (fun mm j wr => ∃ k : Nat, mm = n0 - k ∧ k ≤ n0 ∧ j = .int .i64 k ∧ Hid (Below W1.heap.size W1 wr ∧ ∀ (i : Nat) x y, i < k → l0[i]? = some x → k0[i]? = some y → (fun x y => x = y) x y))
          case atStart => exact ⟨0, rfl, Nat.zero_le _, (by first | rfl | go_num), Lib.hid ⟨HX3.out, fun i x y h => absurd h (Nat.not_lt_zero _)⟩⟩
          case round =>
            obtain ⟨k, rfl, hk, rfl, HI0⟩ := hrel
            by_cases hlt : k < n0
            · have hki : (k : Int) < n0 := by omega
              obtain ⟨x, hx⟩ : ∃ x, l0[k]? = some x := ⟨l0[k]'(by rw [← HL0.out.2.2.1]; exact hlt), List.getElem?_eq_getElem _⟩
              obtain ⟨y, hy⟩ : ∃ y, k0[k]? = some y := ⟨k0[k]'(by rw [← HL0.out.2.2.2]; exact hlt), List.getElem?_eq_getElem _⟩
              obtain ⟨a, cs, rfl, hab, hcs, hca, hvx⟩ := HL0.out.1 k x hx
              obtain ⟨b, ds, rfl, hbb, hds, hcb, hvy⟩ := HL0.out.2.1 k y hy
              obtain ⟨S, hS⟩ : ∃ S : World → Prop, S = fun W => Below wr.heap.size wr W := ⟨_, rfl⟩
              have HS2 : Hid (∀ W, Below wr.heap.size wr W → S W) := Lib.hid (fun W hb => by rw [hS]; exact hb)
              have HBW : Hid (∀ W, Below wr.heap.size wr W → Below w.heap.size w W) := Lib.hid (fun W hb => HB.out.chain (HI0.out.1.chain hb))
              have HFX : Hid (∀ W, S W → W.cell? ⟨w.heap.size, 9, none⟩ = some (.slice (some a) n0 ca0) ∧ W.cell? ⟨w.heap.size + 1, 9, none⟩ = some (.slice (some b) n0 cb0) ∧ (loadCellsFrom (a.add (k * 10)) 0 N0 #[]).run Tryz.prog W = .ok cs W ∧ (loadCellsFrom (b.add (k * 10)) 0 N0 #[]).run Tryz.prog W = .ok ds W) := Lib.hid (fun W hs => by
                rw [hS] at hs
                have hbw := HBW.out _ hs
                exact ⟨(HF0.out _ (HI0.out.1.chain hs)).1, (HF0.out _ (HI0.out.1.chain hs)).2, load_list (fun o v hv => (fun o (v : Value) (hv : cs[o]? = some v) => (hbw.cell (p := (a.add (k * 10)).add o) (by rw [block_adds, block_adds]; exact hab)).trans (hca o v hv)) o v hv) (hcs.trans HN0.out.symm), load_list (fun o v hv => (fun o (v : Value) (hv : ds[o]? = some v) => (hbw.cell (p := (b.add (k * 10)).add o) (by rw [block_adds, block_adds]; exact hbb)).trans (hcb o v hv)) o v hv) (hds.trans HN0.out.symm)⟩)
              obtain ⟨ok, hok⟩ := boolOf ((fun x y => x = y) x y)
              have HCC : Hid (∀ W, Below wr.heap.size wr W → Calls Tryz.prog 80 #[.agg cs, .agg ds] W fun e w' => e = .returned (.bool ok) ∧ Below W.heap.size W w') := Lib.hid (fun W hb => by
                have hbw := HBW.out _ hb
                exact HE0.out x y (List.mem_of_getElem? hx) (List.mem_of_getElem? hy) cs ds W ok (kept vcn_keeps hbw hvx) (kept vcn_keeps hbw hvy) hok)
              have HXY := Lib.hid (And.intro hx (And.intro hy hok))
              have HLT := Lib.hid (And.intro trivial hlt)
              have HX0 := Lib.hid (Below.refl wr.heap.size wr).drew
              have hmx : Tryz.prog.follows .mixedOrders = true := by kernel_rfl
              have hfw := HF0.out _ HI0.out.1
              obtain ⟨hfw1, hfw2⟩ := hfw
              clear hx hy hca hcb hcs hds hab hbb hS hok hvx hvy
              cases ok with
              | false =>
                go_wp2
                refine wp_region_held (S := S) hmx ?_
                change wpAnyH _ _ _ _ _ 12 #[false, false, false, false, false, false, false, false, false, false, false, false] _ wr.drew
                have g0 := HS2.out _ HX0.out
                refine tk 0 43 (.pointer (some ⟨w.heap.size, 9, none⟩)) g0 ?v ?_
                case v => intro Wx hSx; go_simp
                refine tk 1 44 (.slice (some a) n0 ca0) g0 ?v ?_
                case v => intro Wx hSx; have q0 := (HFX.out Wx hSx).1; go_simp
                refine tk 2 45 (.int .i64 k) g0 ?v ?_
                case v => intro Wx hSx; go_simp
                refine tk 3 46 (.pointer (some (a.add (k * 10)))) g0 ?v ?_
                case v => intro Wx hSx; go_simp
                try simp only [Act.put, List.setIfInBounds_toArray, List.set_cons_zero, List.set_cons_succ]
                refine tk 4 47 (.agg cs) g0 ?v ?_
                case v => intro Wx hSx; have q0 := (HFX.out Wx hSx).2.2.1; go_simp
                refine tk 5 48 (.pointer (some ⟨w.heap.size + 1, 9, none⟩)) g0 ?v ?_
                case v => intro Wx hSx; go_simp
                refine tk 6 49 (.slice (some b) n0 cb0) g0 ?v ?_
                case v => intro Wx hSx; have q0 := (HFX.out Wx hSx).2.1; go_simp
                refine tk 7 50 (.int .i64 k) g0 ?v ?_
                case v => intro Wx hSx; go_simp
                try simp only [Act.put, List.setIfInBounds_toArray, List.set_cons_zero, List.set_cons_succ]
                refine tk 8 51 (.pointer (some (b.add (k * 10)))) g0 ?v ?_
                case v => intro Wx hSx; go_simp
                refine tk 9 52 (.agg ds) g0 ?v ?_
                case v => intro Wx hSx; have q0 := (HFX.out Wx hSx).2.2.2; go_simp
                refine o1 10 (fun K hK => ?_)
                go_simp
                refine (HCC.out _ HX0.out).mono ?_
                rintro e v1 ⟨rfl, hb⟩
                have HX1 := Lib.hid (HX0.out.chain hb)
                clear hb
                have g1 := HS2.out _ HX1.out
                refine hK _ _ g1 ?_
                clear hK K g0
                refine tk 11 54 (.bool true) g1 ?v ?_
                case v => intro Wx hSx; go_simp
                try simp only [Act.put, List.setIfInBounds_toArray, List.set_cons_zero, List.set_cons_succ]
                refine wpAnyH_done (by kernel_rfl) ?_ _
                go_wp2
                go_ret
                refine ⟨?_, HB.out.chain (HI0.out.1.chain HX1.out)⟩
                have hrf : r = false := by
                  cases r with
                  | false => rfl
                  | true =>
                    have h2 := ((HG.out.1 rfl)).2 k _ _ HXY.out.1 HXY.out.2.1
                    exact absurd h2 (by have := HXY.out.2.2; simpa using this)
                rw [hrf]
                rfl
              | true =>
                go_wp2
                refine wp_region_held (S := S) hmx ?_
                change wpAnyH _ _ _ _ _ 12 #[false, false, false, false, false, false, false, false, false, false, false, false] _ wr.drew
                have g0 := HS2.out _ HX0.out
                refine tk 0 43 (.pointer (some ⟨w.heap.size, 9, none⟩)) g0 ?v ?_
                case v => intro Wx hSx; go_simp
                refine tk 1 44 (.slice (some a) n0 ca0) g0 ?v ?_
                case v => intro Wx hSx; have q0 := (HFX.out Wx hSx).1; go_simp
                refine tk 2 45 (.int .i64 k) g0 ?v ?_
                case v => intro Wx hSx; go_simp
                refine tk 3 46 (.pointer (some (a.add (k * 10)))) g0 ?v ?_
                case v => intro Wx hSx; go_simp
                try simp only [Act.put, List.setIfInBounds_toArray, List.set_cons_zero, List.set_cons_succ]
                refine tk 4 47 (.agg cs) g0 ?v ?_
                case v => intro Wx hSx; have q0 := (HFX.out Wx hSx).2.2.1; go_simp
                refine tk 5 48 (.pointer (some ⟨w.heap.size + 1, 9, none⟩)) g0 ?v ?_
                case v => intro Wx hSx; go_simp
                refine tk 6 49 (.slice (some b) n0 cb0) g0 ?v ?_
                case v => intro Wx hSx; have q0 := (HFX.out Wx hSx).2.1; go_simp
                refine tk 7 50 (.int .i64 k) g0 ?v ?_
                case v => intro Wx hSx; go_simp
                try simp only [Act.put, List.setIfInBounds_toArray, List.set_cons_zero, List.set_cons_succ]
                refine tk 8 51 (.pointer (some (b.add (k * 10)))) g0 ?v ?_
                case v => intro Wx hSx; go_simp
                refine tk 9 52 (.agg ds) g0 ?v ?_
                case v => intro Wx hSx; have q0 := (HFX.out Wx hSx).2.2.2; go_simp
                refine o1 10 (fun K hK => ?_)
                go_simp
                refine (HCC.out _ HX0.out).mono ?_
                rintro e v1 ⟨rfl, hb⟩
                have HX1 := Lib.hid (HX0.out.chain hb)
                clear hb
                have g1 := HS2.out _ HX1.out
                refine hK _ _ g1 ?_
                clear hK K g0
                refine tk 11 54 (.bool false) g1 ?v ?_
                case v => intro Wx hSx; go_simp
                try simp only [Act.put, List.setIfInBounds_toArray, List.set_cons_zero, List.set_cons_succ]
                refine wpAnyH_done (by kernel_rfl) ?_ _
                go_wp2
                go_roundg (n0 - (k + 1))
                case measure => have := HLT.out.2; omega
                case rel =>
                  refine ⟨k + 1, rfl, (by have := HLT.out.2; omega), by go_num, Lib.hid ⟨HI0.out.1.chain HX1.out, fun i x' y' hi hx' hy' => ?_⟩⟩
                  by_cases h : i = k
                  · subst h
                    obtain rfl := Option.some.inj (HXY.out.1.symm.trans hx')
                    obtain rfl := Option.some.inj (HXY.out.2.1.symm.trans hy')
                    exact HXY.out.2.2.1 (by first | exact rfl | exact trivial)
                  · exact HI0.out.2 i x' y' (by omega) hx' hy'
            · obtain rfl : k = n0 := by omega
              obtain ⟨hfw1, hfw2⟩ := HF0.out _ HI0.out.1
              have HA0 : Hid (All2 (fun x y => x = y) l0 k0) := Lib.hid ⟨HL0.out.2.2.1.symm.trans HL0.out.2.2.2, fun i x y hx hy => HI0.out.2 i x y (by have h1 := (List.getElem?_eq_some_iff.1 hx).1; have h2 := HL0.out.2.2.1; omega) hx hy⟩
              go_wp2
              go_ret
              refine ⟨?_, HB.out.chain HI0.out.1⟩
              have hrt : r = true := HG.out.2 HA0.out
              rw [hrt]
              rfl
        · have e : r = false := Bool.eq_false_iff.2 (fun h => hlen0 (by have h1 := HR0.out.2.2.1; have h2 := HR0.out.2.2.2; have h3 := ((hr.1 h).2.2.2).1; omega))
          have hne : ¬ (n0 : Int) = m0 := by omega
          clear hr
          subst e
          go_enter Tryz.func80, Tryz.ntmps80
          simp only [e4, e10]
          clear e4 hT e10 hT0
          go_wp2_with (first
            | (go_at_call 30; rw [← hW1]; clear hW1; ((with_reducible refine (HQ1.out _ (HB.out.chain HX0.out)).mono ?_); rintro e w2 ⟨rfl, hb⟩); have HX2 := Lib.hid (HX0.out.chain hb); clear hb; clear cx0 cy0 cx1 cy1 cx2 cy2 cx3 cy3 cx4 cy4 cx5 cy5 cx6 cy6 cx7 cy7 cx8 cy8 cx9 cy9; obtain ⟨-, -, -, -, -, -, -, -, -, -, f2x5, f2y5, f2x6, f2y6, f2x7, f2y7, f2x8, f2y8, f2x9, f2y9⟩ := HF.out _ HX2.out)
            | (go_at_call 30; ((with_reducible refine (HQ2.out _ (HB.out.chain HX2.out)).mono ?_); rintro e w3 ⟨rfl, hb⟩); have HX3 := Lib.hid (HX2.out.chain hb); clear hb; clear f2x5 f2y5 f2x6 f2y6 f2x7 f2y7 f2x8 f2y8 f2x9 f2y9; obtain ⟨-, -, -, -, -, -, -, -, -, -, -, -, -, -, -, -, -, -, f3x9, f3y9⟩ := HF.out _ HX3.out))
          go_ret
          exact ⟨rfl, HB.out.chain HX3.out⟩
  · have e : r = false := Bool.eq_false_iff.2 (fun h => by have := hr.1 h; simp [h0] at this)
    clear hr
    subst e
    go_enter Tryz.func80, Tryz.ntmps80
    simp only [e4, e10]
    clear e4 hT e10 hT0
    go_wp2
    go_ret
    rw [← hW1]
    exact ⟨rfl, HB.out.chain HX0.out⟩

set_option maxRecDepth 100000 in
set_option maxHeartbeats 20000000 in
theorem seqf_core (cs ds : Array Value) (hcs : cs.size = 3) (hds : ds.size = 3) (x0 y0 : Value) (x1 y1 : Value)
    (A0 B0 : Option Addr) (n0 m0 ca0 cb0 : Nat) (l0 k0 : List Cl) (hn0 : n0 = l0.length) (hm0 : m0 = k0.length) (bn0 : n0 ≤ maxLen) (bm0 : m0 ≤ maxLen)
    (kx0 : cs[0]? = some (x0)) (ky0 : ds[0]? = some (y0))
    (kx1 : cs[1]? = some (x1)) (ky1 : ds[1]? = some (y1))
    (kx2 : cs[2]? = some (.slice A0 n0 ca0)) (ky2 : ds[2]? = some (.slice B0 m0 cb0)) (q0 : Bool) (q1 : Bool) (w : World) (r : Bool)
    (ra0 : RowV VCl 3 w w.heap.size l0 A0) (rb0 : RowV VCl 3 w w.heap.size k0 B0) (hE0 : ∀ x y, x ∈ l0 → y ∈ k0 → EqAt 75 VCl (fun x y => x = y) x y)
    (hq0 : ∀ W, Below w.heap.size w W → Calls Tryz.prog 67 #[x0, y0] W fun e w' => e = .returned (.bool q0) ∧ Below W.heap.size W w')
    (hq1 : ∀ W, Below w.heap.size w W → Calls Tryz.prog 74 #[x1, y1] W fun e w' => e = .returned (.bool q1) ∧ Below W.heap.size W w')
    (hr : r = true ↔ q0 = true ∧ q1 = true ∧ All2 (fun x y => x = y) l0 k0) :
    Calls Tryz.prog 28 #[.agg cs, .agg ds] w fun e w' => e = .returned (.bool r) ∧ Below w.heap.size w w' := by
  obtain ⟨T, N, hT, hN, hag, hsz⟩ := hid_Formula
  have e4 : ∀ y : Operand, Op.box 38 y = Op.box T y := fun y => by rw [hT]
  obtain ⟨T0, N0, hT0, hN0, hag0, hsz0⟩ := hid_Cell
  have e10 : ∀ y : Operand, Op.load 84 y = Op.load T0 y := fun y => by rw [hT0]
  have HN0 := Lib.hid hN0
  clear hN0
  have HQ0 := Lib.hid hq0
  have HQ1 := Lib.hid hq1
  have hszc : cs.size = N := hcs.trans hN.symm
  have hszd : ds.size = N := hds.trans hN.symm
  obtain ⟨W1, hW1⟩ : ∃ W1, W1 = (w.alloc (.cells cs T)).alloc (.cells ds T) := ⟨_, rfl⟩
  have HB : Hid (Below w.heap.size w W1) := Lib.hid (by rw [hW1]; exact (below_alloc w _).chain (below_alloc _ _))
  have p1 := heap_keep (o := .cells ds T) (heap_of_alloc w (.cells cs T))
  have p2 := heap_of_alloc (w.alloc (.cells cs T)) (.cells ds T)
  rw [size_of_alloc] at p2
  rw [← hW1] at p1 p2
  have HF : Hid (∀ W, Below W1.heap.size W1 W → W.cell? ⟨w.heap.size, 0, none⟩ = some (x0) ∧ W.cell? ⟨w.heap.size + 1, 0, none⟩ = some (y0) ∧ W.cell? ⟨w.heap.size, 1, none⟩ = some (x1) ∧ W.cell? ⟨w.heap.size + 1, 1, none⟩ = some (y1) ∧ W.cell? ⟨w.heap.size, 2, none⟩ = some (.slice A0 n0 ca0) ∧ W.cell? ⟨w.heap.size + 1, 2, none⟩ = some (.slice B0 m0 cb0)) := Lib.hid (fun W hb => ⟨cell_of_block (kept_box hb p1) 0 kx0, cell_of_block (kept_box hb p2) 0 ky0, cell_of_block (kept_box hb p1) 1 kx1, cell_of_block (kept_box hb p2) 1 ky1, cell_of_block (kept_box hb p1) 2 kx2, cell_of_block (kept_box hb p2) 2 ky2⟩)
  have HF0 : Hid (∀ W, Below W1.heap.size W1 W → W.cell? ⟨w.heap.size, 2, none⟩ = some (.slice A0 n0 ca0) ∧ W.cell? ⟨w.heap.size + 1, 2, none⟩ = some (.slice B0 m0 cb0)) := Lib.hid (fun W hb => ⟨cell_of_block (kept_box hb p1) 2 kx2, cell_of_block (kept_box hb p2) 2 ky2⟩)
  have HX0 := Lib.hid (Below.refl W1.heap.size W1)
  have hF0 := HF.out _ HX0.out
  rw [hW1] at hF0
  obtain ⟨cx0, cy0, cx1, cy1, cx2, cy2⟩ := hF0
  have HR0 := Lib.hid (And.intro ra0 (And.intro rb0 (And.intro hn0 hm0)))
  have HE0 := Lib.hid hE0
  clear hq0 hq1 hN p1 p2 hcs hds kx0 ky0 kx1 ky1 kx2 ky2 ra0 rb0 hn0 hm0 hE0
  unfold maxLen at bn0 bm0
  cases q0 with
  | false =>
    have e : r = false := Bool.eq_false_iff.2 (fun h => by simpa using hr.1 h)
    clear hr
    subst e
    go_enter Tryz.func28, Tryz.ntmps28
    simp only [e4, e10]
    clear e4 hT e10 hT0
    go_wp2_with (go_at_call 67; rw [← hW1]; clear hW1; ((with_reducible refine (HQ0.out _ (HB.out.chain HX0.out)).mono ?_); rintro e w1 ⟨rfl, hb⟩); have HX1 := Lib.hid (HX0.out.chain hb); clear hb; clear cx0 cy0 cx1 cy1 cx2 cy2)
    go_ret
    exact ⟨rfl, HB.out.chain HX1.out⟩
  | true =>
    cases q1 with
    | false =>
      have e : r = false := Bool.eq_false_iff.2 (fun h => by simpa using hr.1 h)
      clear hr
      subst e
      go_enter Tryz.func28, Tryz.ntmps28
      simp only [e4, e10]
      clear e4 hT e10 hT0
      go_wp2_with (first
        | (go_at_call 67; rw [← hW1]; clear hW1; ((with_reducible refine (HQ0.out _ (HB.out.chain HX0.out)).mono ?_); rintro e w1 ⟨rfl, hb⟩); have HX1 := Lib.hid (HX0.out.chain hb); clear hb; clear cx0 cy0 cx1 cy1 cx2 cy2; obtain ⟨-, -, f1x1, f1y1, f1x2, f1y2⟩ := HF.out _ HX1.out)
        | (go_at_call 74; ((with_reducible refine (HQ1.out _ (HB.out.chain HX1.out)).mono ?_); rintro e w2 ⟨rfl, hb⟩); have HX2 := Lib.hid (HX1.out.chain hb); clear hb; clear f1x1 f1y1 f1x2 f1y2))
      go_ret
      exact ⟨rfl, HB.out.chain HX2.out⟩
    | true =>
      by_cases hlen0 : n0 = m0
      · subst hlen0
        have HG : Hid (r = true ↔ All2 (fun x y => x = y) l0 k0) := Lib.hid ⟨fun h => (hr.1 h).2.2, fun h => hr.2 ⟨rfl, rfl, h⟩⟩
        clear hr
        have HL0 := HR0
        go_enter Tryz.func28, Tryz.ntmps28
        simp only [e4, e10]
        clear e4 hT e10 hT0
        go_wp2_with (first
          | (go_at_call 67; rw [← hW1]; clear hW1; ((with_reducible refine (HQ0.out _ (HB.out.chain HX0.out)).mono ?_); rintro e w1 ⟨rfl, hb⟩); have HX1 := Lib.hid (HX0.out.chain hb); clear hb; clear cx0 cy0 cx1 cy1 cx2 cy2; obtain ⟨-, -, f1x1, f1y1, f1x2, f1y2⟩ := HF.out _ HX1.out)
          | (go_at_call 74; ((with_reducible refine (HQ1.out _ (HB.out.chain HX1.out)).mono ?_); rintro e w2 ⟨rfl, hb⟩); have HX2 := Lib.hid (HX1.out.chain hb); clear hb; clear f1x1 f1y1 f1x2 f1y2; obtain ⟨-, -, -, -, f2x2, f2y2⟩ := HF.out _ HX2.out))
        clear f2x2 f2y2
        go_loopg [5] n0 (fun mm j wr => ∃ k : Nat, mm = n0 - k ∧ k ≤ n0 ∧ j = .int .i64 k ∧ Hid (Below W1.heap.size W1 wr ∧ ∀ (i : Nat) x y, i < k → l0[i]? = some x → k0[i]? = some y → (fun x y => x = y) x y))
        case atStart => exact ⟨0, rfl, Nat.zero_le _, (by first | rfl | go_num), Lib.hid ⟨HX2.out, fun i x y h => absurd h (Nat.not_lt_zero _)⟩⟩
        case round =>
          obtain ⟨k, rfl, hk, rfl, HI0⟩ := hrel
          by_cases hlt : k < n0
          · have hki : (k : Int) < n0 := by omega
            obtain ⟨x, hx⟩ : ∃ x, l0[k]? = some x := ⟨l0[k]'(by rw [← HL0.out.2.2.1]; exact hlt), List.getElem?_eq_getElem _⟩
            obtain ⟨y, hy⟩ : ∃ y, k0[k]? = some y := ⟨k0[k]'(by rw [← HL0.out.2.2.2]; exact hlt), List.getElem?_eq_getElem _⟩
            obtain ⟨a, cs, rfl, hab, hcs, hca, hvx⟩ := HL0.out.1 k x hx
            obtain ⟨b, ds, rfl, hbb, hds, hcb, hvy⟩ := HL0.out.2.1 k y hy
            obtain ⟨S, hS⟩ : ∃ S : World → Prop, S = fun W => Below wr.heap.size wr W := ⟨_, rfl⟩
            have HS2 : Hid (∀ W, Below wr.heap.size wr W → S W) := Lib.hid (fun W hb => by rw [hS]; exact hb)
            have HBW : Hid (∀ W, Below wr.heap.size wr W → Below w.heap.size w W) := Lib.hid (fun W hb => HB.out.chain (HI0.out.1.chain hb))
            have HFX : Hid (∀ W, S W → W.cell? ⟨w.heap.size, 2, none⟩ = some (.slice (some a) n0 ca0) ∧ W.cell? ⟨w.heap.size + 1, 2, none⟩ = some (.slice (some b) n0 cb0) ∧ (loadCellsFrom (a.add (k * 3)) 0 N0 #[]).run Tryz.prog W = .ok cs W ∧ (loadCellsFrom (b.add (k * 3)) 0 N0 #[]).run Tryz.prog W = .ok ds W) := Lib.hid (fun W hs => by
              rw [hS] at hs
              have hbw := HBW.out _ hs
              exact ⟨(HF0.out _ (HI0.out.1.chain hs)).1, (HF0.out _ (HI0.out.1.chain hs)).2, load_list (fun o v hv => (fun o (v : Value) (hv : cs[o]? = some v) => (hbw.cell (p := (a.add (k * 3)).add o) (by rw [block_adds, block_adds]; exact hab)).trans (hca o v hv)) o v hv) (hcs.trans HN0.out.symm), load_list (fun o v hv => (fun o (v : Value) (hv : ds[o]? = some v) => (hbw.cell (p := (b.add (k * 3)).add o) (by rw [block_adds, block_adds]; exact hbb)).trans (hcb o v hv)) o v hv) (hds.trans HN0.out.symm)⟩)
            obtain ⟨ok, hok⟩ := boolOf ((fun x y => x = y) x y)
            have HCC : Hid (∀ W, Below wr.heap.size wr W → Calls Tryz.prog 75 #[.agg cs, .agg ds] W fun e w' => e = .returned (.bool ok) ∧ Below W.heap.size W w') := Lib.hid (fun W hb => by
              have hbw := HBW.out _ hb
              exact HE0.out x y (List.mem_of_getElem? hx) (List.mem_of_getElem? hy) cs ds W ok (kept vcl_keeps hbw hvx) (kept vcl_keeps hbw hvy) hok)
            have HXY := Lib.hid (And.intro hx (And.intro hy hok))
            have HLT := Lib.hid (And.intro trivial hlt)
            have HX0 := Lib.hid (Below.refl wr.heap.size wr).drew
            have hmx : Tryz.prog.follows .mixedOrders = true := by kernel_rfl
            have hfw := HF0.out _ HI0.out.1
            obtain ⟨hfw1, hfw2⟩ := hfw
            clear hx hy hca hcb hcs hds hab hbb hS hok hvx hvy
            cases ok with
            | false =>
              go_wp2
              refine wp_region_held (S := S) hmx ?_
              change wpAnyH _ _ _ _ _ 12 #[false, false, false, false, false, false, false, false, false, false, false, false] _ wr.drew
              have g0 := HS2.out _ HX0.out
              refine tk 0 36 (.pointer (some ⟨w.heap.size, 2, none⟩)) g0 ?v ?_
              case v => intro Wx hSx; go_simp
              refine tk 1 37 (.slice (some a) n0 ca0) g0 ?v ?_
              case v => intro Wx hSx; have q0 := (HFX.out Wx hSx).1; go_simp
              refine tk 2 38 (.int .i64 k) g0 ?v ?_
              case v => intro Wx hSx; go_simp
              refine tk 3 39 (.pointer (some (a.add (k * 3)))) g0 ?v ?_
              case v => intro Wx hSx; go_simp
              try simp only [Act.put, List.setIfInBounds_toArray, List.set_cons_zero, List.set_cons_succ]
              refine tk 4 40 (.agg cs) g0 ?v ?_
              case v => intro Wx hSx; have q0 := (HFX.out Wx hSx).2.2.1; go_simp
              refine tk 5 41 (.pointer (some ⟨w.heap.size + 1, 2, none⟩)) g0 ?v ?_
              case v => intro Wx hSx; go_simp
              refine tk 6 42 (.slice (some b) n0 cb0) g0 ?v ?_
              case v => intro Wx hSx; have q0 := (HFX.out Wx hSx).2.1; go_simp
              refine tk 7 43 (.int .i64 k) g0 ?v ?_
              case v => intro Wx hSx; go_simp
              try simp only [Act.put, List.setIfInBounds_toArray, List.set_cons_zero, List.set_cons_succ]
              refine tk 8 44 (.pointer (some (b.add (k * 3)))) g0 ?v ?_
              case v => intro Wx hSx; go_simp
              refine tk 9 45 (.agg ds) g0 ?v ?_
              case v => intro Wx hSx; have q0 := (HFX.out Wx hSx).2.2.2; go_simp
              refine o1 10 (fun K hK => ?_)
              go_simp
              refine (HCC.out _ HX0.out).mono ?_
              rintro e v1 ⟨rfl, hb⟩
              have HX1 := Lib.hid (HX0.out.chain hb)
              clear hb
              have g1 := HS2.out _ HX1.out
              refine hK _ _ g1 ?_
              clear hK K g0
              refine tk 11 47 (.bool true) g1 ?v ?_
              case v => intro Wx hSx; go_simp
              try simp only [Act.put, List.setIfInBounds_toArray, List.set_cons_zero, List.set_cons_succ]
              refine wpAnyH_done (by kernel_rfl) ?_ _
              go_wp2
              go_ret
              refine ⟨?_, HB.out.chain (HI0.out.1.chain HX1.out)⟩
              have hrf : r = false := by
                cases r with
                | false => rfl
                | true =>
                  have h2 := ((HG.out.1 rfl)).2 k _ _ HXY.out.1 HXY.out.2.1
                  exact absurd h2 (by have := HXY.out.2.2; simpa using this)
              rw [hrf]
              rfl
            | true =>
              go_wp2
              refine wp_region_held (S := S) hmx ?_
              change wpAnyH _ _ _ _ _ 12 #[false, false, false, false, false, false, false, false, false, false, false, false] _ wr.drew
              have g0 := HS2.out _ HX0.out
              refine tk 0 36 (.pointer (some ⟨w.heap.size, 2, none⟩)) g0 ?v ?_
              case v => intro Wx hSx; go_simp
              refine tk 1 37 (.slice (some a) n0 ca0) g0 ?v ?_
              case v => intro Wx hSx; have q0 := (HFX.out Wx hSx).1; go_simp
              refine tk 2 38 (.int .i64 k) g0 ?v ?_
              case v => intro Wx hSx; go_simp
              refine tk 3 39 (.pointer (some (a.add (k * 3)))) g0 ?v ?_
              case v => intro Wx hSx; go_simp
              try simp only [Act.put, List.setIfInBounds_toArray, List.set_cons_zero, List.set_cons_succ]
              refine tk 4 40 (.agg cs) g0 ?v ?_
              case v => intro Wx hSx; have q0 := (HFX.out Wx hSx).2.2.1; go_simp
              refine tk 5 41 (.pointer (some ⟨w.heap.size + 1, 2, none⟩)) g0 ?v ?_
              case v => intro Wx hSx; go_simp
              refine tk 6 42 (.slice (some b) n0 cb0) g0 ?v ?_
              case v => intro Wx hSx; have q0 := (HFX.out Wx hSx).2.1; go_simp
              refine tk 7 43 (.int .i64 k) g0 ?v ?_
              case v => intro Wx hSx; go_simp
              try simp only [Act.put, List.setIfInBounds_toArray, List.set_cons_zero, List.set_cons_succ]
              refine tk 8 44 (.pointer (some (b.add (k * 3)))) g0 ?v ?_
              case v => intro Wx hSx; go_simp
              refine tk 9 45 (.agg ds) g0 ?v ?_
              case v => intro Wx hSx; have q0 := (HFX.out Wx hSx).2.2.2; go_simp
              refine o1 10 (fun K hK => ?_)
              go_simp
              refine (HCC.out _ HX0.out).mono ?_
              rintro e v1 ⟨rfl, hb⟩
              have HX1 := Lib.hid (HX0.out.chain hb)
              clear hb
              have g1 := HS2.out _ HX1.out
              refine hK _ _ g1 ?_
              clear hK K g0
              refine tk 11 47 (.bool false) g1 ?v ?_
              case v => intro Wx hSx; go_simp
              try simp only [Act.put, List.setIfInBounds_toArray, List.set_cons_zero, List.set_cons_succ]
              refine wpAnyH_done (by kernel_rfl) ?_ _
              go_wp2
              go_roundg (n0 - (k + 1))
              case measure => have := HLT.out.2; omega
              case rel =>
                refine ⟨k + 1, rfl, (by have := HLT.out.2; omega), by go_num, Lib.hid ⟨HI0.out.1.chain HX1.out, fun i x' y' hi hx' hy' => ?_⟩⟩
                by_cases h : i = k
                · subst h
                  obtain rfl := Option.some.inj (HXY.out.1.symm.trans hx')
                  obtain rfl := Option.some.inj (HXY.out.2.1.symm.trans hy')
                  exact HXY.out.2.2.1 (by first | exact rfl | exact trivial)
                · exact HI0.out.2 i x' y' (by omega) hx' hy'
          · obtain rfl : k = n0 := by omega
            obtain ⟨hfw1, hfw2⟩ := HF0.out _ HI0.out.1
            have HA0 : Hid (All2 (fun x y => x = y) l0 k0) := Lib.hid ⟨HL0.out.2.2.1.symm.trans HL0.out.2.2.2, fun i x y hx hy => HI0.out.2 i x y (by have h1 := (List.getElem?_eq_some_iff.1 hx).1; have h2 := HL0.out.2.2.1; omega) hx hy⟩
            go_wp2
            go_ret
            refine ⟨?_, HB.out.chain HI0.out.1⟩
            have hrt : r = true := HG.out.2 HA0.out
            rw [hrt]
            rfl
      · have e : r = false := Bool.eq_false_iff.2 (fun h => hlen0 (by have h1 := HR0.out.2.2.1; have h2 := HR0.out.2.2.2; have h3 := ((hr.1 h).2.2).1; omega))
        have hne : ¬ (n0 : Int) = m0 := by omega
        clear hr
        subst e
        go_enter Tryz.func28, Tryz.ntmps28
        simp only [e4, e10]
        clear e4 hT e10 hT0
        go_wp2_with (first
          | (go_at_call 67; rw [← hW1]; clear hW1; ((with_reducible refine (HQ0.out _ (HB.out.chain HX0.out)).mono ?_); rintro e w1 ⟨rfl, hb⟩); have HX1 := Lib.hid (HX0.out.chain hb); clear hb; clear cx0 cy0 cx1 cy1 cx2 cy2; obtain ⟨-, -, f1x1, f1y1, f1x2, f1y2⟩ := HF.out _ HX1.out)
          | (go_at_call 74; ((with_reducible refine (HQ1.out _ (HB.out.chain HX1.out)).mono ?_); rintro e w2 ⟨rfl, hb⟩); have HX2 := Lib.hid (HX1.out.chain hb); clear hb; clear f1x1 f1y1 f1x2 f1y2; obtain ⟨-, -, -, -, f2x2, f2y2⟩ := HF.out _ HX2.out))
        go_ret
        exact ⟨rfl, HB.out.chain HX2.out⟩

end Go.Proofs.YtkjfgbcbeabpgaaGreatDoor

namespace Go.Proofs.YtkjfgbcbeabpgaaGreatDoor
open Go.RowKit

theorem seqExpr_any : ∀ (M : Nat) (x y : Ex), SizeOf.sizeOf x < M → EqAt 30 VEx (fun x y => x = y) x y := by
  intro M
  induction M with
  | zero => intro x y h; omega
  | succ M ih =>
    intro x y hM cs ds w r hx hy hr
    obtain ⟨k, n, s, l, A, c, rfl, rfl, b1, b2, ra⟩ := hx
    obtain ⟨k2, n2, s2, l2, A2, c2, rfl, rfl, b3, b4, rb⟩ := hy
    obtain ⟨q, hq⟩ := boolOf (l = l2)
    refine seqe_core _ _ rfl rfl k k2 n n2 s s2 (.slice A l.length c) (.slice A2 l2.length c2) rfl rfl rfl rfl rfl rfl rfl rfl q w r (fun W hb => ?_) (hr.trans (by show (_ = _) ↔ _; rw [Ex.mk.injEq, hq]))
    exact sexs_loop VEx vex_keeps _ l l2 (fun x y hx _ => ih x y (by have := List.sizeOf_lt_of_mem hx; simp at hM; omega)) A A2 c c2 W b2 b4 (ra.on hb).rowV (rb.on hb).rowV q (hq.trans (all2_eq _ _).symm)

theorem seqe_at (x y : Ex) : EqAt 30 VEx (fun x y => x = y) x y := seqExpr_any _ x y (Nat.lt_succ_self _)

theorem seqes_row (l m : List Ex) (A B : Option Addr) (ca cb : Nat) (w : World) (hl : l.length ≤ maxLen) (_hm : m.length ≤ maxLen) (ra : ExRow w w.heap.size l A) (rb : ExRow w w.heap.size m B) (r : Bool) (hr : r = true ↔ l = m) :
    Calls Tryz.prog 77 #[.slice A l.length ca, .slice B m.length cb] w fun e w' => e = .returned (.bool r) ∧ Below w.heap.size w w' :=
  sexs_loop VEx vex_keeps _ l m (fun x y _ _ => seqe_at x y) A B ca cb w hl _hm ra.rowV rb.rowV r (hr.trans (all2_eq _ _).symm)

theorem seqCond_any : ∀ (M : Nat) (x y : Cn), SizeOf.sizeOf x < M → EqAt 80 VCn (fun x y => x = y) x y := by
  intro M
  induction M with
  | zero => intro x y h; omega
  | succ M ih =>
    intro x y hM cs ds w r hx hy hr
    obtain ⟨k, ak, an, sa, al, bk, bn, sb, bl, l, Aa, ca, Ab, cb, Al, cl, rfl, rfl, ⟨b1, b2, b3, b4, b5⟩, ra, rb, rl⟩ := hx
    obtain ⟨k', ak', an', sa', al', bk', bn', sb', bl', l', Aa', ca', Ab', cb', Al', cl', rfl, rfl, ⟨b1', b2', b3', b4', b5'⟩, ra', rb', rl'⟩ := hy
    obtain ⟨q1, h1⟩ := boolOf (Ex.mk ak an sa al = Ex.mk ak' an' sa' al')
    obtain ⟨q2, h2⟩ := boolOf (Ex.mk bk bn sb bl = Ex.mk bk' bn' sb' bl')
    refine seqc_core _ _ rfl rfl k k' ak ak' an an' sa sa' (.slice Aa al.length ca) (.slice Aa' al'.length ca') bk bk' bn bn' sb sb' (.slice Ab bl.length cb) (.slice Ab' bl'.length cb') Al Al' l.length l'.length cl cl' l l' rfl rfl b5 b5'
      rfl rfl rfl rfl rfl rfl rfl rfl rfl rfl rfl rfl rfl rfl rfl rfl rfl rfl rfl rfl q1 q2 w r rl.rowV rl'.rowV (fun x y hx _ => ih x y (by have := List.sizeOf_lt_of_mem hx; simp at hM; omega)) (fun W hb => ?_) (fun W hb => ?_) (hr.trans (by show (_ = _) ↔ _; rw [Cn.mk.injEq, h1, h2, all2_eq]))
    · exact seqe_at _ _ _ _ W q1 ⟨ak, an, sa, al, Aa, ca, rfl, rfl, b1, b2, ra.on hb⟩ ⟨ak', an', sa', al', Aa', ca', rfl, rfl, b1', b2', ra'.on hb⟩ h1
    · exact seqe_at _ _ _ _ W q2 ⟨bk, bn, sb, bl, Ab, cb, rfl, rfl, b3, b4, rb.on hb⟩ ⟨bk', bn', sb', bl', Ab', cb', rfl, rfl, b3', b4', rb'.on hb⟩ h2

theorem seqc_at (x y : Cn) : EqAt 80 VCn (fun x y => x = y) x y := seqCond_any _ x y (Nat.lt_succ_self _)

theorem seqa_at (x y : At) : EqAt 124 VAt (fun x y => x = y) x y := by
  intro cs ds w r hx hy hr
  obtain ⟨k, xa, xb⟩ := x
  obtain ⟨k', ya, yb⟩ := y
  obtain ⟨ak, an, sa, al, bk, bn, sb, bl, Aa, ca, Ab, cb, e1, e2, rfl, ⟨b1, b2, b3, b4⟩, ra, rb⟩ := hx
  obtain ⟨ak', an', sa', al', bk', bn', sb', bl', Aa', ca', Ab', cb', e3, e4, rfl, ⟨b1', b2', b3', b4'⟩, ra', rb'⟩ := hy
  simp only at e1 e2 e3 e4
  subst e1 e2 e3 e4
  obtain ⟨q1, h1⟩ := boolOf (Ex.mk ak an sa al = Ex.mk ak' an' sa' al')
  obtain ⟨q2, h2⟩ := boolOf (Ex.mk bk bn sb bl = Ex.mk bk' bn' sb' bl')
  refine seqa_core _ _ rfl rfl k k' ak ak' an an' sa sa' (.slice Aa al.length ca) (.slice Aa' al'.length ca') bk bk' bn bn' sb sb' (.slice Ab bl.length cb) (.slice Ab' bl'.length cb')
    rfl rfl rfl rfl rfl rfl rfl rfl rfl rfl rfl rfl rfl rfl rfl rfl rfl rfl q1 q2 w r (fun W hb => ?_) (fun W hb => ?_) (hr.trans (by show (_ = _) ↔ _; rw [At.mk.injEq, h1, h2]))
  · exact seqe_at _ _ _ _ W q1 ⟨ak, an, sa, al, Aa, ca, rfl, rfl, b1, b2, ra.on hb⟩ ⟨ak', an', sa', al', Aa', ca', rfl, rfl, b1', b2', ra'.on hb⟩ h1
  · exact seqe_at _ _ _ _ W q2 ⟨bk, bn, sb, bl, Ab, cb, rfl, rfl, b3, b4, rb.on hb⟩ ⟨bk', bn', sb', bl', Ab', cb', rfl, rfl, b3', b4', rb'.on hb⟩ h2

theorem seqcl_at (x y : Cl) : EqAt 75 VCl (fun x y => x = y) x y := by
  intro cs ds w r hx hy hr
  obtain ⟨k, s, l⟩ := x
  obtain ⟨k', s', l'⟩ := y
  obtain ⟨A, c, rfl, b1, b2, ra⟩ := hx
  obtain ⟨A', c', rfl, b1', b2', ra'⟩ := hy
  obtain ⟨q, h⟩ := boolOf (l = l')
  refine seqcl_core _ _ rfl rfl k k' s s' (.slice A l.length c) (.slice A' l'.length c') rfl rfl rfl rfl rfl rfl q w r (fun W hb => ?_) (hr.trans (by show (_ = _) ↔ _; rw [Cl.mk.injEq, h]))
  exact seqes_row l l' A A' c c' W b2 b2' (ra.on hb) (ra'.on hb) q h

theorem seqf_at (x y : Fm) : EqAt 28 VFm (fun x y => x = y) x y := by
  intro cs ds w r hx hy hr
  obtain ⟨ps, ats, cl⟩ := x
  obtain ⟨ps', ats', cl'⟩ := y
  obtain ⟨d, rfl, ⟨b1, b2, b3⟩, r1, r2, r3⟩ := hx
  obtain ⟨d', rfl, ⟨b1', b2', b3'⟩, r1', r2', r3'⟩ := hy
  simp only at b1 b2 b3 b1' b2' b3' r1 r2 r3 r1' r2' r3' ⊢
  obtain ⟨q1, h1⟩ := boolOf (ps = ps')
  obtain ⟨q2, h2⟩ := boolOf (ats = ats')
  refine seqf_core _ _ rfl rfl (.slice d.p ps.length d.np) (.slice d'.p ps'.length d'.np) (.slice d.a ats.length d.na) (.slice d'.a ats'.length d'.na) d.c d'.c cl.length cl'.length d.nc d'.nc cl cl' rfl rfl b3 b3' rfl rfl rfl rfl rfl rfl q1 q2 w r (cl_rowV r3) (cl_rowV r3') (fun x y _ _ => seqcl_at x y) (fun W hb => ?_) (fun W hb => ?_) (hr.trans (by show (_ = _) ↔ _; rw [Fm.mk.injEq, h1, h2, all2_eq]))
  · exact sps_row ps ps' _ _ _ _ W b1 b1' (r1.on pm_keeps hb) (r1'.on pm_keeps hb) q1 h1
  · exact sats_loop VAt vat_keeps _ ats ats' (fun x y _ _ => seqa_at x y) _ _ _ _ W b2 b2' (at_rowV (r2.on at_keeps hb)) (at_rowV (r2'.on at_keeps hb)) q2 (h2.trans (all2_eq _ _).symm)

theorem sfs_row (l m : List Fm) (A B : Option Addr) (ca cb : Nat) (w : World) (hl : l.length ≤ maxLen) (_hm : m.length ≤ maxLen) (ra : FmRow w w.heap.size l A) (rb : FmRow w w.heap.size m B) (r : Bool) (hr : r = true ↔ l = m) :
    Calls Tryz.prog 68 #[.slice A l.length ca, .slice B m.length cb] w fun e w' => e = .returned (.bool r) ∧ Below w.heap.size w w' :=
  sfms_loop VFm vfm_keeps _ l m (fun x y _ _ => seqf_at x y) A B ca cb w hl _hm (fm_rowV ra) (fm_rowV rb) r (hr.trans (all2_eq _ _).symm)

end Go.Proofs.YtkjfgbcbeabpgaaGreatDoor
