/-
  The reference's comparison of statements: the walk of its loop.
-/
import Derived.Test.YtkjfgbcbeabpgaaGreatDoorTreeQ0
import Derived.Test.YtkjfgbcbeabpgaaGreatDoorTreeQ
namespace Go.Proofs.YtkjfgbcbeabpgaaGreatDoor
open Go.RowKit

/-- Two elements' parts: their cells, what the calls on them say, and when the elements are the same. -/
def PartsSame (w : World) (cs ds : Array Value) (x y : St) : Prop :=
  cs.all (·.oneCell') = true ∧ ds.all (·.oneCell') = true ∧ ∃ (x0 y0 : Int) (x3 y3 : List UInt8) (x4 y4 : List UInt8) (x5 y5 : List UInt8) (x6 y6 : Int) (x7 y7 : Int) (x8 y8 : List UInt8) (x9 y9 : Value) (x10 y10 : Int) (x11 y11 : Int) (x12 y12 : Int) (x13 y13 : List UInt8) (x14 y14 : Value) (x15 y15 : Int) (x16 y16 : Int) (x17 y17 : List UInt8) (x18 y18 : Value) (x19 y19 : Value) (x20 y20 : Value) (x21 y21 : Value) (x22 y22 : Value) (x23 y23 : Value) (q4 : Bool) (q5 : Bool) (q6 : Bool) (q7 : Bool) (q8 : Bool) (q9 : Bool) (P4 : Prop) (P5 : Prop) (P6 : Prop) (P7 : Prop) (P8 : Prop) (P9 : Prop),
    (cs[0]? = some (.int .i64 x0) ∧ ds[0]? = some (.int .i64 y0) ∧ cs[3]? = some (.string ⟨x3.toArray⟩) ∧ ds[3]? = some (.string ⟨y3.toArray⟩) ∧ cs[4]? = some (.string ⟨x4.toArray⟩) ∧ ds[4]? = some (.string ⟨y4.toArray⟩) ∧ cs[5]? = some (.string ⟨x5.toArray⟩) ∧ ds[5]? = some (.string ⟨y5.toArray⟩) ∧ cs[6]? = some (.int .i64 x6) ∧ ds[6]? = some (.int .i64 y6) ∧ cs[7]? = some (.int .i64 x7) ∧ ds[7]? = some (.int .i64 y7) ∧ cs[8]? = some (.string ⟨x8.toArray⟩) ∧ ds[8]? = some (.string ⟨y8.toArray⟩) ∧ cs[9]? = some (x9) ∧ ds[9]? = some (y9) ∧ cs[10]? = some (.int .i64 x10) ∧ ds[10]? = some (.int .i64 y10) ∧ cs[11]? = some (.int .i64 x11) ∧ ds[11]? = some (.int .i64 y11) ∧ cs[12]? = some (.int .i64 x12) ∧ ds[12]? = some (.int .i64 y12) ∧ cs[13]? = some (.string ⟨x13.toArray⟩) ∧ ds[13]? = some (.string ⟨y13.toArray⟩) ∧ cs[14]? = some (x14) ∧ ds[14]? = some (y14) ∧ cs[15]? = some (.int .i64 x15) ∧ ds[15]? = some (.int .i64 y15) ∧ cs[16]? = some (.int .i64 x16) ∧ ds[16]? = some (.int .i64 y16) ∧ cs[17]? = some (.string ⟨x17.toArray⟩) ∧ ds[17]? = some (.string ⟨y17.toArray⟩) ∧ cs[18]? = some (x18) ∧ ds[18]? = some (y18) ∧ cs[19]? = some (x19) ∧ ds[19]? = some (y19) ∧ cs[20]? = some (x20) ∧ ds[20]? = some (y20) ∧ cs[21]? = some (x21) ∧ ds[21]? = some (y21) ∧ cs[22]? = some (x22) ∧ ds[22]? = some (y22) ∧ cs[23]? = some (x23) ∧ ds[23]? = some (y23)) ∧
    ((∀ W, Below w.heap.size w W → Calls Tryz.prog 30 #[.agg #[.int .i64 x6, .int .i64 x7, .string ⟨x8.toArray⟩, x9], .agg #[.int .i64 y6, .int .i64 y7, .string ⟨y8.toArray⟩, y9]] W fun e w' => e = .returned (.bool q4) ∧ Below W.heap.size W w') ∧ (∀ W, Below w.heap.size w W → Calls Tryz.prog 80 #[.agg #[.int .i64 x10, .int .i64 x11, .int .i64 x12, .string ⟨x13.toArray⟩, x14, .int .i64 x15, .int .i64 x16, .string ⟨x17.toArray⟩, x18, x19], .agg #[.int .i64 y10, .int .i64 y11, .int .i64 y12, .string ⟨y13.toArray⟩, y14, .int .i64 y15, .int .i64 y16, .string ⟨y17.toArray⟩, y18, y19]] W fun e w' => e = .returned (.bool q5) ∧ Below W.heap.size W w') ∧ (∀ W, Below w.heap.size w W → Calls Tryz.prog 81 #[x20, y20] W fun e w' => e = .returned (.bool q6) ∧ Below W.heap.size W w') ∧ (∀ W, Below w.heap.size w W → Calls Tryz.prog 68 #[x21, y21] W fun e w' => e = .returned (.bool q7) ∧ Below W.heap.size W w') ∧ (∀ W, Below w.heap.size w W → Calls Tryz.prog 32 #[x22, y22] W fun e w' => e = .returned (.bool q8) ∧ Below W.heap.size W w') ∧ (∀ W, Below w.heap.size w W → Calls Tryz.prog 32 #[x23, y23] W fun e w' => e = .returned (.bool q9) ∧ Below W.heap.size W w')) ∧
    ((q4 = true ↔ P4) ∧ (q5 = true ↔ P5) ∧ (q6 = true ↔ P6) ∧ (q7 = true ↔ P7) ∧ (q8 = true ↔ P8) ∧ (q9 = true ↔ P9)) ∧ (SameS x y ↔ x0 = y0 ∧ x3 = y3 ∧ x4 = y4 ∧ x5 = y5 ∧ P4 ∧ P5 ∧ P6 ∧ P7 ∧ P8 ∧ P9)

theorem PartsSame.elim {w : World} {cs ds : Array Value} {x y : St} {G : Prop} (h : PartsSame w cs ds x y)
    (f : cs.all (·.oneCell') = true → ds.all (·.oneCell') = true → ∀ (x0 y0 : Int) (x3 y3 : List UInt8) (x4 y4 : List UInt8) (x5 y5 : List UInt8) (x6 y6 : Int) (x7 y7 : Int) (x8 y8 : List UInt8) (x9 y9 : Value) (x10 y10 : Int) (x11 y11 : Int) (x12 y12 : Int) (x13 y13 : List UInt8) (x14 y14 : Value) (x15 y15 : Int) (x16 y16 : Int) (x17 y17 : List UInt8) (x18 y18 : Value) (x19 y19 : Value) (x20 y20 : Value) (x21 y21 : Value) (x22 y22 : Value) (x23 y23 : Value) (q4 : Bool) (q5 : Bool) (q6 : Bool) (q7 : Bool) (q8 : Bool) (q9 : Bool) (P4 : Prop) (P5 : Prop) (P6 : Prop) (P7 : Prop) (P8 : Prop) (P9 : Prop),
      Hid (cs[0]? = some (.int .i64 x0) ∧ ds[0]? = some (.int .i64 y0) ∧ cs[3]? = some (.string ⟨x3.toArray⟩) ∧ ds[3]? = some (.string ⟨y3.toArray⟩) ∧ cs[4]? = some (.string ⟨x4.toArray⟩) ∧ ds[4]? = some (.string ⟨y4.toArray⟩) ∧ cs[5]? = some (.string ⟨x5.toArray⟩) ∧ ds[5]? = some (.string ⟨y5.toArray⟩) ∧ cs[6]? = some (.int .i64 x6) ∧ ds[6]? = some (.int .i64 y6) ∧ cs[7]? = some (.int .i64 x7) ∧ ds[7]? = some (.int .i64 y7) ∧ cs[8]? = some (.string ⟨x8.toArray⟩) ∧ ds[8]? = some (.string ⟨y8.toArray⟩) ∧ cs[9]? = some (x9) ∧ ds[9]? = some (y9) ∧ cs[10]? = some (.int .i64 x10) ∧ ds[10]? = some (.int .i64 y10) ∧ cs[11]? = some (.int .i64 x11) ∧ ds[11]? = some (.int .i64 y11) ∧ cs[12]? = some (.int .i64 x12) ∧ ds[12]? = some (.int .i64 y12) ∧ cs[13]? = some (.string ⟨x13.toArray⟩) ∧ ds[13]? = some (.string ⟨y13.toArray⟩) ∧ cs[14]? = some (x14) ∧ ds[14]? = some (y14) ∧ cs[15]? = some (.int .i64 x15) ∧ ds[15]? = some (.int .i64 y15) ∧ cs[16]? = some (.int .i64 x16) ∧ ds[16]? = some (.int .i64 y16) ∧ cs[17]? = some (.string ⟨x17.toArray⟩) ∧ ds[17]? = some (.string ⟨y17.toArray⟩) ∧ cs[18]? = some (x18) ∧ ds[18]? = some (y18) ∧ cs[19]? = some (x19) ∧ ds[19]? = some (y19) ∧ cs[20]? = some (x20) ∧ ds[20]? = some (y20) ∧ cs[21]? = some (x21) ∧ ds[21]? = some (y21) ∧ cs[22]? = some (x22) ∧ ds[22]? = some (y22) ∧ cs[23]? = some (x23) ∧ ds[23]? = some (y23)) →
      Hid ((∀ W, Below w.heap.size w W → Calls Tryz.prog 30 #[.agg #[.int .i64 x6, .int .i64 x7, .string ⟨x8.toArray⟩, x9], .agg #[.int .i64 y6, .int .i64 y7, .string ⟨y8.toArray⟩, y9]] W fun e w' => e = .returned (.bool q4) ∧ Below W.heap.size W w') ∧ (∀ W, Below w.heap.size w W → Calls Tryz.prog 80 #[.agg #[.int .i64 x10, .int .i64 x11, .int .i64 x12, .string ⟨x13.toArray⟩, x14, .int .i64 x15, .int .i64 x16, .string ⟨x17.toArray⟩, x18, x19], .agg #[.int .i64 y10, .int .i64 y11, .int .i64 y12, .string ⟨y13.toArray⟩, y14, .int .i64 y15, .int .i64 y16, .string ⟨y17.toArray⟩, y18, y19]] W fun e w' => e = .returned (.bool q5) ∧ Below W.heap.size W w') ∧ (∀ W, Below w.heap.size w W → Calls Tryz.prog 81 #[x20, y20] W fun e w' => e = .returned (.bool q6) ∧ Below W.heap.size W w') ∧ (∀ W, Below w.heap.size w W → Calls Tryz.prog 68 #[x21, y21] W fun e w' => e = .returned (.bool q7) ∧ Below W.heap.size W w') ∧ (∀ W, Below w.heap.size w W → Calls Tryz.prog 32 #[x22, y22] W fun e w' => e = .returned (.bool q8) ∧ Below W.heap.size W w') ∧ (∀ W, Below w.heap.size w W → Calls Tryz.prog 32 #[x23, y23] W fun e w' => e = .returned (.bool q9) ∧ Below W.heap.size W w')) →
      Hid ((q4 = true ↔ P4) ∧ (q5 = true ↔ P5) ∧ (q6 = true ↔ P6) ∧ (q7 = true ↔ P7) ∧ (q8 = true ↔ P8) ∧ (q9 = true ↔ P9)) → Hid (SameS x y ↔ x0 = y0 ∧ x3 = y3 ∧ x4 = y4 ∧ x5 = y5 ∧ P4 ∧ P5 ∧ P6 ∧ P7 ∧ P8 ∧ P9) → G) : G := by
  obtain ⟨h1, h2, x0, y0, x3, y3, x4, y4, x5, y5, x6, y6, x7, y7, x8, y8, x9, y9, x10, y10, x11, y11, x12, y12, x13, y13, x14, y14, x15, y15, x16, y16, x17, y17, x18, y18, x19, y19, x20, y20, x21, y21, x22, y22, x23, y23, q4, q5, q6, q7, q8, q9, P4, P5, P6, P7, P8, P9, a, b, c, d⟩ := h
  exact f h1 h2 x0 y0 x3 y3 x4 y4 x5 y5 x6 y6 x7 y7 x8 y8 x9 y9 x10 y10 x11 y11 x12 y12 x13 y13 x14 y14 x15 y15 x16 y16 x17 y17 x18 y18 x19 y19 x20 y20 x21 y21 x22 y22 x23 y23 q4 q5 q6 q7 q8 q9 P4 P5 P6 P7 P8 P9 (Lib.hid a) (Lib.hid b) (Lib.hid c) (Lib.hid d)

set_option maxRecDepth 100000 in
set_option maxHeartbeats 40000000 in
theorem sss_walk (l m : List St) (A B : Option Addr) (ca0 cb0 : Nat) (w : World) (hl : l.length ≤ maxLen) (_hm : m.length ≤ maxLen) (hA : RowV VSt 24 w w.heap.size l A) (hB : RowV VSt 24 w w.heap.size m B) (r : Bool) (hr : r = true ↔ SameL l m)
    (hP : ∀ x y, x ∈ l → y ∈ m → ∀ cs ds, VSt w w.heap.size cs x → VSt w w.heap.size ds y → PartsSame w cs ds x y) :
    Calls Tryz.prog 32 #[.slice A l.length ca0, .slice B m.length cb0] w fun e w' => e = .returned (.bool r) ∧ Below w.heap.size w w' := by
  obtain ⟨T, N, zc, hT, hN, hzc, hag, hsz, hzv⟩ := stmt_hidden2
  have e1 : ∀ y : Operand, Op.load 67 y = Op.load T y := fun y => by rw [hT]
  have e2 : ∀ y z : Operand, Op.store 67 y z = Op.store T y z := fun y z => by rw [hT]
  have e3 : Op.alloc 67 = Op.alloc T := by rw [hT]
  have HB0 := Lib.hid (Below.refl w.heap.size w)
  by_cases hlen : l.length = m.length
  · obtain ⟨n0, hnn⟩ : ∃ n, n = l.length := ⟨_, rfl⟩
    have HL0 := Lib.hid (And.intro hA (And.intro hB (And.intro hnn (hnn.trans hlen))))
    have HG := Lib.hid hr
    have HPP := Lib.hid hP
    have HN := Lib.hid (And.intro hN hzc)
    rw [← hlen, ← hnn]
    rw [← hnn] at hl
    unfold maxLen at hl
    clear hA hB hr hnn hlen _hm hN hP hzc
    go_enter Tryz.func32, Tryz.ntmps32
    simp only [e1, e2, e3]
    clear e1 e2 e3 hT
    go_wp2
    go_loopg [5] n0 (fun mm j wr => ∃ k : Nat, mm = n0 - k ∧ k ≤ n0 ∧ j = .int .i64 k ∧ Hid (Below w.heap.size w wr ∧ ∀ (i : Nat) x y, i < k → l[i]? = some x → m[i]? = some y → SameS x y))
    case atStart => exact ⟨0, rfl, Nat.zero_le _, rfl, Lib.hid ⟨HB0.out, fun i x y h => absurd h (Nat.not_lt_zero _)⟩⟩
    case round =>
      obtain ⟨k, rfl, hk, rfl, HI0⟩ := hrel
      by_cases hlt : k < n0
      · have hki : (k : Int) < n0 := by omega
        obtain ⟨x, hx⟩ : ∃ x, l[k]? = some x := ⟨l[k]'(by rw [← HL0.out.2.2.1]; exact hlt), List.getElem?_eq_getElem _⟩
        obtain ⟨y, hy⟩ : ∃ y, m[k]? = some y := ⟨m[k]'(by rw [← HL0.out.2.2.2]; exact hlt), List.getElem?_eq_getElem _⟩
        obtain ⟨a, cs, rfl, hab, hcs, hca, hvx⟩ := HL0.out.1 k x hx
        obtain ⟨b, ds, rfl, hbb, hds, hcb, hvy⟩ := HL0.out.2.1 k y hy
        refine (HPP.out x y (List.mem_of_getElem? hx) (List.mem_of_getElem? hy) cs ds hvx hvy).elim ?_
        intro h1c h1d x0 y0 x3 y3 x4 y4 x5 y5 x6 y6 x7 y7 x8 y8 x9 y9 x10 y10 x11 y11 x12 y12 x13 y13 x14 y14 x15 y15 x16 y16 x17 y17 x18 y18 x19 y19 x20 y20 x21 y21 x22 y22 x23 y23 q4 q5 q6 q7 q8 q9 P4 P5 P6 P7 P8 P9 HKK HCC HQI HSM
        obtain ⟨S, hS⟩ : ∃ S : World → Prop, S = fun W => Below wr.heap.size wr W := ⟨_, rfl⟩
        have HS2 : Hid (∀ W, Below wr.heap.size wr W → S W) := Lib.hid (fun W hb => by rw [hS]; exact hb)
        have HFX : Hid (∀ W, S W → (loadCellsFrom (a.add (k * 24)) 0 N #[]).run Tryz.prog W = .ok cs W ∧ (loadCellsFrom (b.add (k * 24)) 0 N #[]).run Tryz.prog W = .ok ds W) := Lib.hid (fun W hs => by
          rw [hS] at hs
          have hb := HI0.out.1.chain hs
          exact ⟨load_list (fun j v hv => (hb.cell (by rw [block_adds, block_adds]; exact hab)).trans (hca j v hv)) (hcs.trans HN.out.1.symm), load_list (fun j v hv => (hb.cell (by rw [block_adds, block_adds]; exact hbb)).trans (hcb j v hv)) (hds.trans HN.out.1.symm)⟩)
        have HP4 : Hid (∀ W, Below wr.heap.size wr W → Calls Tryz.prog 30 #[.agg #[.int .i64 x6, .int .i64 x7, .string ⟨x8.toArray⟩, x9], .agg #[.int .i64 y6, .int .i64 y7, .string ⟨y8.toArray⟩, y9]] W fun e w' => e = .returned (.bool q4) ∧ Below W.heap.size W w') := Lib.hid (fun W hb => HCC.out.1 W (HI0.out.1.chain hb))
        have HP5 : Hid (∀ W, Below wr.heap.size wr W → Calls Tryz.prog 80 #[.agg #[.int .i64 x10, .int .i64 x11, .int .i64 x12, .string ⟨x13.toArray⟩, x14, .int .i64 x15, .int .i64 x16, .string ⟨x17.toArray⟩, x18, x19], .agg #[.int .i64 y10, .int .i64 y11, .int .i64 y12, .string ⟨y13.toArray⟩, y14, .int .i64 y15, .int .i64 y16, .string ⟨y17.toArray⟩, y18, y19]] W fun e w' => e = .returned (.bool q5) ∧ Below W.heap.size W w') := Lib.hid (fun W hb => HCC.out.2.1 W (HI0.out.1.chain hb))
        have HP6 : Hid (∀ W, Below wr.heap.size wr W → Calls Tryz.prog 81 #[x20, y20] W fun e w' => e = .returned (.bool q6) ∧ Below W.heap.size W w') := Lib.hid (fun W hb => HCC.out.2.2.1 W (HI0.out.1.chain hb))
        have HP7 : Hid (∀ W, Below wr.heap.size wr W → Calls Tryz.prog 68 #[x21, y21] W fun e w' => e = .returned (.bool q7) ∧ Below W.heap.size W w') := Lib.hid (fun W hb => HCC.out.2.2.2.1 W (HI0.out.1.chain hb))
        have HP8 : Hid (∀ W, Below wr.heap.size wr W → Calls Tryz.prog 32 #[x22, y22] W fun e w' => e = .returned (.bool q8) ∧ Below W.heap.size W w') := Lib.hid (fun W hb => HCC.out.2.2.2.2.1 W (HI0.out.1.chain hb))
        have HP9 : Hid (∀ W, Below wr.heap.size wr W → Calls Tryz.prog 32 #[x23, y23] W fun e w' => e = .returned (.bool q9) ∧ Below W.heap.size W w') := Lib.hid (fun W hb => HCC.out.2.2.2.2.2 W (HI0.out.1.chain hb))
        have HXY := Lib.hid (And.intro hx hy)
        have HLT := Lib.hid (And.intro trivial hlt)
        have hszc : cs.size = N := hcs.trans HN.out.1.symm
        have hszd : ds.size = N := hds.trans HN.out.1.symm
        have hzc1 : zc.size = cs.size := HN.out.2.trans (HN.out.1.trans hcs.symm)
        have hzc2 : zc.size = ds.size := HN.out.2.trans (HN.out.1.trans hds.symm)
        have HX0 := Lib.hid (Below.refl wr.heap.size wr).drew
        have hmx : Tryz.prog.follows .mixedOrders = true := by kernel_rfl
        clear hx hy hca hcb hcs hds hab hbb hS hvx hvy HCC
        go_upto_region 6 with (fail)
        go_cut [6, 7] from 13 to 98 (fun v6 v7 wx => TwoBox wr T cs ds v6 v7 wx)
        case first =>
          refine wp_region_held (S := S) hmx ?_
          change wpAnyH _ _ _ _ _ 12 #[false, false, false, false, false, false, false, false, false, false, false, false] _ wr.drew
          have g0 := HS2.out _ HX0.out
          refine tk 0 19 (.slice (some a) n0 ca0) g0 ?v ?_
          case v => intro Wx hSx; go_simp
          refine tk 1 20 (.int .i64 k) g0 ?v ?_
          case v => intro Wx hSx; go_simp
          refine tk 2 21 (.pointer (some (a.add (k * 24)))) g0 ?v ?_
          case v => intro Wx hSx; go_simp
          refine tk 3 22 (.agg cs) g0 ?v ?_
          case v => intro Wx hSx; have q0 := (HFX.out Wx hSx).1; go_simp
          try simp only [Act.put, List.setIfInBounds_toArray, List.set_cons_zero, List.set_cons_succ]
          refine tk 4 23 (.slice (some b) n0 cb0) g0 ?v ?_
          case v => intro Wx hSx; go_simp
          refine tk 5 24 (.int .i64 k) g0 ?v ?_
          case v => intro Wx hSx; go_simp
          refine tk 6 25 (.pointer (some (b.add (k * 24)))) g0 ?v ?_
          case v => intro Wx hSx; go_simp
          refine tk 7 26 (.agg ds) g0 ?v ?_
          case v => intro Wx hSx; have q0 := (HFX.out Wx hSx).2; go_simp
          try simp only [Act.put, List.setIfInBounds_toArray, List.set_cons_zero, List.set_cons_succ]
          refine anyH_two 8 9 (by kernel_rfl) rfl rfl (by kernel_rfl) (by kernel_rfl) (fun K hK => ?_) (fun K hK => ?_)
          · have y1 := heap_of_alloc wr.drew (.cells zc T)
            have y2 := heap_keep (o := .cells zc T) y1
            have y3 := heap_of_alloc (wr.drew.alloc (.cells zc T)) (.cells zc T)
            have hz1 : (wr.drew.alloc (.cells zc T)).heap.size = wr.heap.size + 1 := size_of_alloc wr.drew (.cells zc T)
            rw [hz1] at y3
            have y4 := two_first (b := wr.heap.size) (c := wr.heap.size + 1) (cs := cs) (ds := ds) y2 y3 (by omega)
            have hs1 : (storeCells ⟨wr.heap.size, 0, none⟩ cs.toList).run Tryz.prog ((wr.alloc (.cells zc T)).alloc (.cells zc T)).drew = .ok () (((wr.alloc (.cells zc T)).alloc (.cells zc T)).drew.setRow (wr.heap.size) cs) := store_row y2 hzc1 h1c
            have hs2 : (storeCells ⟨wr.heap.size + 1, 0, none⟩ ds.toList).run Tryz.prog (((wr.alloc (.cells zc T)).alloc (.cells zc T)).drew.setRow (wr.heap.size) cs) = .ok () ((((wr.alloc (.cells zc T)).alloc (.cells zc T)).drew.setRow (wr.heap.size) cs).setRow (wr.heap.size + 1) ds) := store_row y4.2.2 hzc2 h1d
            have HB1 := Lib.hid (HX0.out.alloc (Nat.le_refl _) (.cells zc T))
            have HB2 := Lib.hid (HB1.out.alloc (by rw [hz1]; exact Nat.le_succ _) (.cells zc T))
            have HB3 := Lib.hid (Below.setRow HB2.out (g := wr.heap.size) (by omega) cs)
            have HB4 := Lib.hid (Below.setRow HB3.out (g := wr.heap.size + 1) (by omega) ds)
            have HY := Lib.hid (And.intro y4.1 y4.2.1)
            clear y1 y2 y3 y4 hz1
            go_simp
            have g1 := HS2.out _ HB1.out
            refine hK _ _ g1 ?_
            clear hK K
            refine o1 9 (fun K hK => ?_)
            go_simp
            refine hK _ _ (HS2.out _ HB2.out) ?_
            clear hK K
            refine o1 10 (fun K hK => ?_)
            go_simp
            refine hK _ _ (HS2.out _ HB3.out) ?_
            clear hK K
            refine o1 11 (fun K hK => ?_)
            go_simp
            refine hK _ _ (HS2.out _ HB4.out) ?_
            clear hK K
            refine wpAnyH_done (by kernel_rfl) ?_ _
            go_wp2
            go_meet
            exact ⟨_, _, _, rfl, rfl, rfl, HY.out.1, HY.out.2, HB4.out⟩
          · have y1 := heap_of_alloc wr.drew (.cells zc T)
            have y2 := heap_keep (o := .cells zc T) y1
            have y3 := heap_of_alloc (wr.drew.alloc (.cells zc T)) (.cells zc T)
            have hz1 : (wr.drew.alloc (.cells zc T)).heap.size = wr.heap.size + 1 := size_of_alloc wr.drew (.cells zc T)
            rw [hz1] at y3
            have y4 := two_first (b := wr.heap.size + 1) (c := wr.heap.size) (cs := cs) (ds := ds) y3 y2 (by omega)
            have hs1 : (storeCells ⟨wr.heap.size + 1, 0, none⟩ cs.toList).run Tryz.prog ((wr.alloc (.cells zc T)).alloc (.cells zc T)).drew = .ok () (((wr.alloc (.cells zc T)).alloc (.cells zc T)).drew.setRow (wr.heap.size + 1) cs) := store_row y3 hzc1 h1c
            have hs2 : (storeCells ⟨wr.heap.size, 0, none⟩ ds.toList).run Tryz.prog (((wr.alloc (.cells zc T)).alloc (.cells zc T)).drew.setRow (wr.heap.size + 1) cs) = .ok () ((((wr.alloc (.cells zc T)).alloc (.cells zc T)).drew.setRow (wr.heap.size + 1) cs).setRow (wr.heap.size) ds) := store_row y4.2.2 hzc2 h1d
            have HB1 := Lib.hid (HX0.out.alloc (Nat.le_refl _) (.cells zc T))
            have HB2 := Lib.hid (HB1.out.alloc (by rw [hz1]; exact Nat.le_succ _) (.cells zc T))
            have HB3 := Lib.hid (Below.setRow HB2.out (g := wr.heap.size + 1) (by omega) cs)
            have HB4 := Lib.hid (Below.setRow HB3.out (g := wr.heap.size) (by omega) ds)
            have HY := Lib.hid (And.intro y4.1 y4.2.1)
            clear y1 y2 y3 y4 hz1
            go_simp
            have g1 := HS2.out _ HB1.out
            refine hK _ _ g1 ?_
            clear hK K
            refine o1 8 (fun K hK => ?_)
            go_simp
            refine hK _ _ (HS2.out _ HB2.out) ?_
            clear hK K
            refine o1 10 (fun K hK => ?_)
            go_simp
            refine hK _ _ (HS2.out _ HB3.out) ?_
            clear hK K
            refine o1 11 (fun K hK => ?_)
            go_simp
            refine hK _ _ (HS2.out _ HB4.out) ?_
            clear hK K
            refine wpAnyH_done (by kernel_rfl) ?_ _
            go_wp2
            go_meet
            exact ⟨_, _, _, rfl, rfl, rfl, HY.out.1, HY.out.2, HB4.out⟩
        case rest =>
          obtain ⟨b6, b7, wx0, rfl, rfl, rfl, p6, p7, hbel⟩ := hcut
          have HBL := Lib.hid hbel
          have HF : Hid (∀ W, Below wx0.heap.size wx0 W → W.cell? ⟨b6, 0, none⟩ = some (.int .i64 x0) ∧ W.cell? ⟨b7, 0, none⟩ = some (.int .i64 y0) ∧ W.cell? ⟨b6, 3, none⟩ = some (.string ⟨x3.toArray⟩) ∧ W.cell? ⟨b7, 3, none⟩ = some (.string ⟨y3.toArray⟩) ∧ W.cell? ⟨b6, 4, none⟩ = some (.string ⟨x4.toArray⟩) ∧ W.cell? ⟨b7, 4, none⟩ = some (.string ⟨y4.toArray⟩) ∧ W.cell? ⟨b6, 5, none⟩ = some (.string ⟨x5.toArray⟩) ∧ W.cell? ⟨b7, 5, none⟩ = some (.string ⟨y5.toArray⟩) ∧ W.cell? ⟨b6, 6, none⟩ = some (.int .i64 x6) ∧ W.cell? ⟨b7, 6, none⟩ = some (.int .i64 y6) ∧ W.cell? ⟨b6, 7, none⟩ = some (.int .i64 x7) ∧ W.cell? ⟨b7, 7, none⟩ = some (.int .i64 y7) ∧ W.cell? ⟨b6, 8, none⟩ = some (.string ⟨x8.toArray⟩) ∧ W.cell? ⟨b7, 8, none⟩ = some (.string ⟨y8.toArray⟩) ∧ W.cell? ⟨b6, 9, none⟩ = some (x9) ∧ W.cell? ⟨b7, 9, none⟩ = some (y9) ∧ W.cell? ⟨b6, 10, none⟩ = some (.int .i64 x10) ∧ W.cell? ⟨b7, 10, none⟩ = some (.int .i64 y10) ∧ W.cell? ⟨b6, 11, none⟩ = some (.int .i64 x11) ∧ W.cell? ⟨b7, 11, none⟩ = some (.int .i64 y11) ∧ W.cell? ⟨b6, 12, none⟩ = some (.int .i64 x12) ∧ W.cell? ⟨b7, 12, none⟩ = some (.int .i64 y12) ∧ W.cell? ⟨b6, 13, none⟩ = some (.string ⟨x13.toArray⟩) ∧ W.cell? ⟨b7, 13, none⟩ = some (.string ⟨y13.toArray⟩) ∧ W.cell? ⟨b6, 14, none⟩ = some (x14) ∧ W.cell? ⟨b7, 14, none⟩ = some (y14) ∧ W.cell? ⟨b6, 15, none⟩ = some (.int .i64 x15) ∧ W.cell? ⟨b7, 15, none⟩ = some (.int .i64 y15) ∧ W.cell? ⟨b6, 16, none⟩ = some (.int .i64 x16) ∧ W.cell? ⟨b7, 16, none⟩ = some (.int .i64 y16) ∧ W.cell? ⟨b6, 17, none⟩ = some (.string ⟨x17.toArray⟩) ∧ W.cell? ⟨b7, 17, none⟩ = some (.string ⟨y17.toArray⟩) ∧ W.cell? ⟨b6, 18, none⟩ = some (x18) ∧ W.cell? ⟨b7, 18, none⟩ = some (y18) ∧ W.cell? ⟨b6, 19, none⟩ = some (x19) ∧ W.cell? ⟨b7, 19, none⟩ = some (y19) ∧ W.cell? ⟨b6, 20, none⟩ = some (x20) ∧ W.cell? ⟨b7, 20, none⟩ = some (y20) ∧ W.cell? ⟨b6, 21, none⟩ = some (x21) ∧ W.cell? ⟨b7, 21, none⟩ = some (y21) ∧ W.cell? ⟨b6, 22, none⟩ = some (x22) ∧ W.cell? ⟨b7, 22, none⟩ = some (y22) ∧ W.cell? ⟨b6, 23, none⟩ = some (x23) ∧ W.cell? ⟨b7, 23, none⟩ = some (y23)) := Lib.hid (fun W hb => ⟨cell_of_block (kept_box hb p6) 0 (HKK.out.1), cell_of_block (kept_box hb p7) 0 (HKK.out.2.1), cell_of_block (kept_box hb p6) 3 (HKK.out.2.2.1), cell_of_block (kept_box hb p7) 3 (HKK.out.2.2.2.1), cell_of_block (kept_box hb p6) 4 (HKK.out.2.2.2.2.1), cell_of_block (kept_box hb p7) 4 (HKK.out.2.2.2.2.2.1), cell_of_block (kept_box hb p6) 5 (HKK.out.2.2.2.2.2.2.1), cell_of_block (kept_box hb p7) 5 (HKK.out.2.2.2.2.2.2.2.1), cell_of_block (kept_box hb p6) 6 (HKK.out.2.2.2.2.2.2.2.2.1), cell_of_block (kept_box hb p7) 6 (HKK.out.2.2.2.2.2.2.2.2.2.1), cell_of_block (kept_box hb p6) 7 (HKK.out.2.2.2.2.2.2.2.2.2.2.1), cell_of_block (kept_box hb p7) 7 (HKK.out.2.2.2.2.2.2.2.2.2.2.2.1), cell_of_block (kept_box hb p6) 8 (HKK.out.2.2.2.2.2.2.2.2.2.2.2.2.1), cell_of_block (kept_box hb p7) 8 (HKK.out.2.2.2.2.2.2.2.2.2.2.2.2.2.1), cell_of_block (kept_box hb p6) 9 (HKK.out.2.2.2.2.2.2.2.2.2.2.2.2.2.2.1), cell_of_block (kept_box hb p7) 9 (HKK.out.2.2.2.2.2.2.2.2.2.2.2.2.2.2.2.1), cell_of_block (kept_box hb p6) 10 (HKK.out.2.2.2.2.2.2.2.2.2.2.2.2.2.2.2.2.1), cell_of_block (kept_box hb p7) 10 (HKK.out.2.2.2.2.2.2.2.2.2.2.2.2.2.2.2.2.2.1), cell_of_block (kept_box hb p6) 11 (HKK.out.2.2.2.2.2.2.2.2.2.2.2.2.2.2.2.2.2.2.1), cell_of_block (kept_box hb p7) 11 (HKK.out.2.2.2.2.2.2.2.2.2.2.2.2.2.2.2.2.2.2.2.1), cell_of_block (kept_box hb p6) 12 (HKK.out.2.2.2.2.2.2.2.2.2.2.2.2.2.2.2.2.2.2.2.2.1), cell_of_block (kept_box hb p7) 12 (HKK.out.2.2.2.2.2.2.2.2.2.2.2.2.2.2.2.2.2.2.2.2.2.1), cell_of_block (kept_box hb p6) 13 (HKK.out.2.2.2.2.2.2.2.2.2.2.2.2.2.2.2.2.2.2.2.2.2.2.1), cell_of_block (kept_box hb p7) 13 (HKK.out.2.2.2.2.2.2.2.2.2.2.2.2.2.2.2.2.2.2.2.2.2.2.2.1), cell_of_block (kept_box hb p6) 14 (HKK.out.2.2.2.2.2.2.2.2.2.2.2.2.2.2.2.2.2.2.2.2.2.2.2.2.1), cell_of_block (kept_box hb p7) 14 (HKK.out.2.2.2.2.2.2.2.2.2.2.2.2.2.2.2.2.2.2.2.2.2.2.2.2.2.1), cell_of_block (kept_box hb p6) 15 (HKK.out.2.2.2.2.2.2.2.2.2.2.2.2.2.2.2.2.2.2.2.2.2.2.2.2.2.2.1), cell_of_block (kept_box hb p7) 15 (HKK.out.2.2.2.2.2.2.2.2.2.2.2.2.2.2.2.2.2.2.2.2.2.2.2.2.2.2.2.1), cell_of_block (kept_box hb p6) 16 (HKK.out.2.2.2.2.2.2.2.2.2.2.2.2.2.2.2.2.2.2.2.2.2.2.2.2.2.2.2.2.1), cell_of_block (kept_box hb p7) 16 (HKK.out.2.2.2.2.2.2.2.2.2.2.2.2.2.2.2.2.2.2.2.2.2.2.2.2.2.2.2.2.2.1), cell_of_block (kept_box hb p6) 17 (HKK.out.2.2.2.2.2.2.2.2.2.2.2.2.2.2.2.2.2.2.2.2.2.2.2.2.2.2.2.2.2.2.1), cell_of_block (kept_box hb p7) 17 (HKK.out.2.2.2.2.2.2.2.2.2.2.2.2.2.2.2.2.2.2.2.2.2.2.2.2.2.2.2.2.2.2.2.1), cell_of_block (kept_box hb p6) 18 (HKK.out.2.2.2.2.2.2.2.2.2.2.2.2.2.2.2.2.2.2.2.2.2.2.2.2.2.2.2.2.2.2.2.2.1), cell_of_block (kept_box hb p7) 18 (HKK.out.2.2.2.2.2.2.2.2.2.2.2.2.2.2.2.2.2.2.2.2.2.2.2.2.2.2.2.2.2.2.2.2.2.1), cell_of_block (kept_box hb p6) 19 (HKK.out.2.2.2.2.2.2.2.2.2.2.2.2.2.2.2.2.2.2.2.2.2.2.2.2.2.2.2.2.2.2.2.2.2.2.1), cell_of_block (kept_box hb p7) 19 (HKK.out.2.2.2.2.2.2.2.2.2.2.2.2.2.2.2.2.2.2.2.2.2.2.2.2.2.2.2.2.2.2.2.2.2.2.2.1), cell_of_block (kept_box hb p6) 20 (HKK.out.2.2.2.2.2.2.2.2.2.2.2.2.2.2.2.2.2.2.2.2.2.2.2.2.2.2.2.2.2.2.2.2.2.2.2.2.1), cell_of_block (kept_box hb p7) 20 (HKK.out.2.2.2.2.2.2.2.2.2.2.2.2.2.2.2.2.2.2.2.2.2.2.2.2.2.2.2.2.2.2.2.2.2.2.2.2.2.1), cell_of_block (kept_box hb p6) 21 (HKK.out.2.2.2.2.2.2.2.2.2.2.2.2.2.2.2.2.2.2.2.2.2.2.2.2.2.2.2.2.2.2.2.2.2.2.2.2.2.2.1), cell_of_block (kept_box hb p7) 21 (HKK.out.2.2.2.2.2.2.2.2.2.2.2.2.2.2.2.2.2.2.2.2.2.2.2.2.2.2.2.2.2.2.2.2.2.2.2.2.2.2.2.1), cell_of_block (kept_box hb p6) 22 (HKK.out.2.2.2.2.2.2.2.2.2.2.2.2.2.2.2.2.2.2.2.2.2.2.2.2.2.2.2.2.2.2.2.2.2.2.2.2.2.2.2.2.1), cell_of_block (kept_box hb p7) 22 (HKK.out.2.2.2.2.2.2.2.2.2.2.2.2.2.2.2.2.2.2.2.2.2.2.2.2.2.2.2.2.2.2.2.2.2.2.2.2.2.2.2.2.2.1), cell_of_block (kept_box hb p6) 23 (HKK.out.2.2.2.2.2.2.2.2.2.2.2.2.2.2.2.2.2.2.2.2.2.2.2.2.2.2.2.2.2.2.2.2.2.2.2.2.2.2.2.2.2.2.1), cell_of_block (kept_box hb p7) 23 (HKK.out.2.2.2.2.2.2.2.2.2.2.2.2.2.2.2.2.2.2.2.2.2.2.2.2.2.2.2.2.2.2.2.2.2.2.2.2.2.2.2.2.2.2.2)⟩)
          have HX0' := Lib.hid (Below.refl wx0.heap.size wx0)
          obtain ⟨cx0, cy0, cx3, cy3, cx4, cy4, cx5, cy5, cx6, cy6, cx7, cy7, cx8, cy8, cx9, cy9, cx10, cy10, cx11, cy11, cx12, cy12, cx13, cy13, cx14, cy14, cx15, cy15, cx16, cy16, cx17, cy17, cx18, cy18, cx19, cy19, cx20, cy20, cx21, cy21, cx22, cy22, cx23, cy23⟩ := HF.out _ HX0'.out
          have HQ4 : Hid (∀ W, Below wx0.heap.size wx0 W → Calls Tryz.prog 30 #[.agg #[.int .i64 x6, .int .i64 x7, .string ⟨x8.toArray⟩, x9], .agg #[.int .i64 y6, .int .i64 y7, .string ⟨y8.toArray⟩, y9]] W fun e w' => e = .returned (.bool q4) ∧ Below W.heap.size W w') := Lib.hid (fun W hb => HP4.out _ (HBL.out.chain hb))
          have HQ5 : Hid (∀ W, Below wx0.heap.size wx0 W → Calls Tryz.prog 80 #[.agg #[.int .i64 x10, .int .i64 x11, .int .i64 x12, .string ⟨x13.toArray⟩, x14, .int .i64 x15, .int .i64 x16, .string ⟨x17.toArray⟩, x18, x19], .agg #[.int .i64 y10, .int .i64 y11, .int .i64 y12, .string ⟨y13.toArray⟩, y14, .int .i64 y15, .int .i64 y16, .string ⟨y17.toArray⟩, y18, y19]] W fun e w' => e = .returned (.bool q5) ∧ Below W.heap.size W w') := Lib.hid (fun W hb => HP5.out _ (HBL.out.chain hb))
          have HQ6 : Hid (∀ W, Below wx0.heap.size wx0 W → Calls Tryz.prog 81 #[x20, y20] W fun e w' => e = .returned (.bool q6) ∧ Below W.heap.size W w') := Lib.hid (fun W hb => HP6.out _ (HBL.out.chain hb))
          have HQ7 : Hid (∀ W, Below wx0.heap.size wx0 W → Calls Tryz.prog 68 #[x21, y21] W fun e w' => e = .returned (.bool q7) ∧ Below W.heap.size W w') := Lib.hid (fun W hb => HP7.out _ (HBL.out.chain hb))
          have HQ8 : Hid (∀ W, Below wx0.heap.size wx0 W → Calls Tryz.prog 32 #[x22, y22] W fun e w' => e = .returned (.bool q8) ∧ Below W.heap.size W w') := Lib.hid (fun W hb => HP8.out _ (HBL.out.chain hb))
          have HQ9 : Hid (∀ W, Below wx0.heap.size wx0 W → Calls Tryz.prog 32 #[x23, y23] W fun e w' => e = .returned (.bool q9) ∧ Below W.heap.size W w') := Lib.hid (fun W hb => HP9.out _ (HBL.out.chain hb))
          clear hbel p6 p7
          clear HX0
          have HX0 := HX0'
          clear HX0'
          by_cases h0 : x0 = y0
          · subst h0
            by_cases h3 : x3 = y3
            · subst h3
              by_cases h4 : x4 = y4
              · subst h4
                by_cases h5 : x5 = y5
                · subst h5
                  cases q4 with
                  | false =>
                    go_wp2_with (go_at_call 30; ((with_reducible refine (HQ4.out _ HX0.out).mono ?_); rintro e w5 ⟨rfl, hb⟩); have HX5 := Lib.hid (HX0.out.chain hb); clear hb; clear cx0 cy0 cx3 cy3 cx4 cy4 cx5 cy5 cx6 cy6 cx7 cy7 cx8 cy8 cx9 cy9 cx10 cy10 cx11 cy11 cx12 cy12 cx13 cy13 cx14 cy14 cx15 cy15 cx16 cy16 cx17 cy17 cx18 cy18 cx19 cy19 cx20 cy20 cx21 cy21 cx22 cy22 cx23 cy23)
                    go_ret
                    refine ⟨?_, HI0.out.1.chain (HBL.out.chain HX5.out)⟩
                    have hrf : r = false := by
                      cases r with
                      | false => rfl
                      | true =>
                        have h1 := ((sameL_all2 l m).2 (HG.out.1 rfl)).2 k _ _ HXY.out.1 HXY.out.2
                        have h2 := HSM.out.1 h1
                        have h7 := HQI.out.1; have h8 := h2.2.2.2.2.1; simp [h8] at h7
                    rw [hrf]
                    rfl
                  | true =>
                    cases q5 with
                    | false =>
                      go_wp2_with (first
                        | (go_at_call 30; ((with_reducible refine (HQ4.out _ HX0.out).mono ?_); rintro e w5 ⟨rfl, hb⟩); have HX5 := Lib.hid (HX0.out.chain hb); clear hb; clear cx0 cy0 cx3 cy3 cx4 cy4 cx5 cy5 cx6 cy6 cx7 cy7 cx8 cy8 cx9 cy9 cx10 cy10 cx11 cy11 cx12 cy12 cx13 cy13 cx14 cy14 cx15 cy15 cx16 cy16 cx17 cy17 cx18 cy18 cx19 cy19 cx20 cy20 cx21 cy21 cx22 cy22 cx23 cy23; obtain ⟨-, -, -, -, -, -, -, -, -, -, -, -, -, -, -, -, f5x10, f5y10, f5x11, f5y11, f5x12, f5y12, f5x13, f5y13, f5x14, f5y14, f5x15, f5y15, f5x16, f5y16, f5x17, f5y17, f5x18, f5y18, f5x19, f5y19, f5x20, f5y20, f5x21, f5y21, f5x22, f5y22, f5x23, f5y23⟩ := HF.out _ HX5.out)
                        | (go_at_call 80; ((with_reducible refine (HQ5.out _ HX5.out).mono ?_); rintro e w6 ⟨rfl, hb⟩); have HX6 := Lib.hid (HX5.out.chain hb); clear hb; clear f5x10 f5y10 f5x11 f5y11 f5x12 f5y12 f5x13 f5y13 f5x14 f5y14 f5x15 f5y15 f5x16 f5y16 f5x17 f5y17 f5x18 f5y18 f5x19 f5y19 f5x20 f5y20 f5x21 f5y21 f5x22 f5y22 f5x23 f5y23))
                      go_ret
                      refine ⟨?_, HI0.out.1.chain (HBL.out.chain HX6.out)⟩
                      have hrf : r = false := by
                        cases r with
                        | false => rfl
                        | true =>
                          have h1 := ((sameL_all2 l m).2 (HG.out.1 rfl)).2 k _ _ HXY.out.1 HXY.out.2
                          have h2 := HSM.out.1 h1
                          have h7 := HQI.out.2.1; have h8 := h2.2.2.2.2.2.1; simp [h8] at h7
                      rw [hrf]
                      rfl
                    | true =>
                      cases q6 with
                      | false =>
                        go_wp2_with (first
                          | (go_at_call 30; ((with_reducible refine (HQ4.out _ HX0.out).mono ?_); rintro e w5 ⟨rfl, hb⟩); have HX5 := Lib.hid (HX0.out.chain hb); clear hb; clear cx0 cy0 cx3 cy3 cx4 cy4 cx5 cy5 cx6 cy6 cx7 cy7 cx8 cy8 cx9 cy9 cx10 cy10 cx11 cy11 cx12 cy12 cx13 cy13 cx14 cy14 cx15 cy15 cx16 cy16 cx17 cy17 cx18 cy18 cx19 cy19 cx20 cy20 cx21 cy21 cx22 cy22 cx23 cy23; obtain ⟨-, -, -, -, -, -, -, -, -, -, -, -, -, -, -, -, f5x10, f5y10, f5x11, f5y11, f5x12, f5y12, f5x13, f5y13, f5x14, f5y14, f5x15, f5y15, f5x16, f5y16, f5x17, f5y17, f5x18, f5y18, f5x19, f5y19, f5x20, f5y20, f5x21, f5y21, f5x22, f5y22, f5x23, f5y23⟩ := HF.out _ HX5.out)
                          | (go_at_call 80; ((with_reducible refine (HQ5.out _ HX5.out).mono ?_); rintro e w6 ⟨rfl, hb⟩); have HX6 := Lib.hid (HX5.out.chain hb); clear hb; clear f5x10 f5y10 f5x11 f5y11 f5x12 f5y12 f5x13 f5y13 f5x14 f5y14 f5x15 f5y15 f5x16 f5y16 f5x17 f5y17 f5x18 f5y18 f5x19 f5y19 f5x20 f5y20 f5x21 f5y21 f5x22 f5y22 f5x23 f5y23; obtain ⟨-, -, -, -, -, -, -, -, -, -, -, -, -, -, -, -, -, -, -, -, -, -, -, -, -, -, -, -, -, -, -, -, -, -, -, -, f6x20, f6y20, f6x21, f6y21, f6x22, f6y22, f6x23, f6y23⟩ := HF.out _ HX6.out)
                          | (go_at_call 81; ((with_reducible refine (HQ6.out _ HX6.out).mono ?_); rintro e w7 ⟨rfl, hb⟩); have HX7 := Lib.hid (HX6.out.chain hb); clear hb; clear f6x20 f6y20 f6x21 f6y21 f6x22 f6y22 f6x23 f6y23))
                        go_ret
                        refine ⟨?_, HI0.out.1.chain (HBL.out.chain HX7.out)⟩
                        have hrf : r = false := by
                          cases r with
                          | false => rfl
                          | true =>
                            have h1 := ((sameL_all2 l m).2 (HG.out.1 rfl)).2 k _ _ HXY.out.1 HXY.out.2
                            have h2 := HSM.out.1 h1
                            have h7 := HQI.out.2.2.1; have h8 := h2.2.2.2.2.2.2.1; simp [h8] at h7
                        rw [hrf]
                        rfl
                      | true =>
                        cases q7 with
                        | false =>
                          go_wp2_with (first
                            | (go_at_call 30; ((with_reducible refine (HQ4.out _ HX0.out).mono ?_); rintro e w5 ⟨rfl, hb⟩); have HX5 := Lib.hid (HX0.out.chain hb); clear hb; clear cx0 cy0 cx3 cy3 cx4 cy4 cx5 cy5 cx6 cy6 cx7 cy7 cx8 cy8 cx9 cy9 cx10 cy10 cx11 cy11 cx12 cy12 cx13 cy13 cx14 cy14 cx15 cy15 cx16 cy16 cx17 cy17 cx18 cy18 cx19 cy19 cx20 cy20 cx21 cy21 cx22 cy22 cx23 cy23; obtain ⟨-, -, -, -, -, -, -, -, -, -, -, -, -, -, -, -, f5x10, f5y10, f5x11, f5y11, f5x12, f5y12, f5x13, f5y13, f5x14, f5y14, f5x15, f5y15, f5x16, f5y16, f5x17, f5y17, f5x18, f5y18, f5x19, f5y19, f5x20, f5y20, f5x21, f5y21, f5x22, f5y22, f5x23, f5y23⟩ := HF.out _ HX5.out)
                            | (go_at_call 80; ((with_reducible refine (HQ5.out _ HX5.out).mono ?_); rintro e w6 ⟨rfl, hb⟩); have HX6 := Lib.hid (HX5.out.chain hb); clear hb; clear f5x10 f5y10 f5x11 f5y11 f5x12 f5y12 f5x13 f5y13 f5x14 f5y14 f5x15 f5y15 f5x16 f5y16 f5x17 f5y17 f5x18 f5y18 f5x19 f5y19 f5x20 f5y20 f5x21 f5y21 f5x22 f5y22 f5x23 f5y23; obtain ⟨-, -, -, -, -, -, -, -, -, -, -, -, -, -, -, -, -, -, -, -, -, -, -, -, -, -, -, -, -, -, -, -, -, -, -, -, f6x20, f6y20, f6x21, f6y21, f6x22, f6y22, f6x23, f6y23⟩ := HF.out _ HX6.out)
                            | (go_at_call 81; ((with_reducible refine (HQ6.out _ HX6.out).mono ?_); rintro e w7 ⟨rfl, hb⟩); have HX7 := Lib.hid (HX6.out.chain hb); clear hb; clear f6x20 f6y20 f6x21 f6y21 f6x22 f6y22 f6x23 f6y23; obtain ⟨-, -, -, -, -, -, -, -, -, -, -, -, -, -, -, -, -, -, -, -, -, -, -, -, -, -, -, -, -, -, -, -, -, -, -, -, -, -, f7x21, f7y21, f7x22, f7y22, f7x23, f7y23⟩ := HF.out _ HX7.out)
                            | (go_at_call 68; ((with_reducible refine (HQ7.out _ HX7.out).mono ?_); rintro e w8 ⟨rfl, hb⟩); have HX8 := Lib.hid (HX7.out.chain hb); clear hb; clear f7x21 f7y21 f7x22 f7y22 f7x23 f7y23))
                          go_ret
                          refine ⟨?_, HI0.out.1.chain (HBL.out.chain HX8.out)⟩
                          have hrf : r = false := by
                            cases r with
                            | false => rfl
                            | true =>
                              have h1 := ((sameL_all2 l m).2 (HG.out.1 rfl)).2 k _ _ HXY.out.1 HXY.out.2
                              have h2 := HSM.out.1 h1
                              have h7 := HQI.out.2.2.2.1; have h8 := h2.2.2.2.2.2.2.2.1; simp [h8] at h7
                          rw [hrf]
                          rfl
                        | true =>
                          cases q8 with
                          | false =>
                            go_wp2_with (first
                              | (go_at_call 30; ((with_reducible refine (HQ4.out _ HX0.out).mono ?_); rintro e w5 ⟨rfl, hb⟩); have HX5 := Lib.hid (HX0.out.chain hb); clear hb; clear cx0 cy0 cx3 cy3 cx4 cy4 cx5 cy5 cx6 cy6 cx7 cy7 cx8 cy8 cx9 cy9 cx10 cy10 cx11 cy11 cx12 cy12 cx13 cy13 cx14 cy14 cx15 cy15 cx16 cy16 cx17 cy17 cx18 cy18 cx19 cy19 cx20 cy20 cx21 cy21 cx22 cy22 cx23 cy23; obtain ⟨-, -, -, -, -, -, -, -, -, -, -, -, -, -, -, -, f5x10, f5y10, f5x11, f5y11, f5x12, f5y12, f5x13, f5y13, f5x14, f5y14, f5x15, f5y15, f5x16, f5y16, f5x17, f5y17, f5x18, f5y18, f5x19, f5y19, f5x20, f5y20, f5x21, f5y21, f5x22, f5y22, f5x23, f5y23⟩ := HF.out _ HX5.out)
                              | (go_at_call 80; ((with_reducible refine (HQ5.out _ HX5.out).mono ?_); rintro e w6 ⟨rfl, hb⟩); have HX6 := Lib.hid (HX5.out.chain hb); clear hb; clear f5x10 f5y10 f5x11 f5y11 f5x12 f5y12 f5x13 f5y13 f5x14 f5y14 f5x15 f5y15 f5x16 f5y16 f5x17 f5y17 f5x18 f5y18 f5x19 f5y19 f5x20 f5y20 f5x21 f5y21 f5x22 f5y22 f5x23 f5y23; obtain ⟨-, -, -, -, -, -, -, -, -, -, -, -, -, -, -, -, -, -, -, -, -, -, -, -, -, -, -, -, -, -, -, -, -, -, -, -, f6x20, f6y20, f6x21, f6y21, f6x22, f6y22, f6x23, f6y23⟩ := HF.out _ HX6.out)
                              | (go_at_call 81; ((with_reducible refine (HQ6.out _ HX6.out).mono ?_); rintro e w7 ⟨rfl, hb⟩); have HX7 := Lib.hid (HX6.out.chain hb); clear hb; clear f6x20 f6y20 f6x21 f6y21 f6x22 f6y22 f6x23 f6y23; obtain ⟨-, -, -, -, -, -, -, -, -, -, -, -, -, -, -, -, -, -, -, -, -, -, -, -, -, -, -, -, -, -, -, -, -, -, -, -, -, -, f7x21, f7y21, f7x22, f7y22, f7x23, f7y23⟩ := HF.out _ HX7.out)
                              | (go_at_call 68; ((with_reducible refine (HQ7.out _ HX7.out).mono ?_); rintro e w8 ⟨rfl, hb⟩); have HX8 := Lib.hid (HX7.out.chain hb); clear hb; clear f7x21 f7y21 f7x22 f7y22 f7x23 f7y23; obtain ⟨-, -, -, -, -, -, -, -, -, -, -, -, -, -, -, -, -, -, -, -, -, -, -, -, -, -, -, -, -, -, -, -, -, -, -, -, -, -, -, -, f8x22, f8y22, f8x23, f8y23⟩ := HF.out _ HX8.out)
                              | (go_at_call 32; ((with_reducible refine (HQ8.out _ HX8.out).mono ?_); rintro e w9 ⟨rfl, hb⟩); have HX9 := Lib.hid (HX8.out.chain hb); clear hb; clear f8x22 f8y22 f8x23 f8y23))
                            go_ret
                            refine ⟨?_, HI0.out.1.chain (HBL.out.chain HX9.out)⟩
                            have hrf : r = false := by
                              cases r with
                              | false => rfl
                              | true =>
                                have h1 := ((sameL_all2 l m).2 (HG.out.1 rfl)).2 k _ _ HXY.out.1 HXY.out.2
                                have h2 := HSM.out.1 h1
                                have h7 := HQI.out.2.2.2.2.1; have h8 := h2.2.2.2.2.2.2.2.2.1; simp [h8] at h7
                            rw [hrf]
                            rfl
                          | true =>
                            cases q9 with
                            | false =>
                              go_wp2_with (first
                                | (go_at_call 30; ((with_reducible refine (HQ4.out _ HX0.out).mono ?_); rintro e w5 ⟨rfl, hb⟩); have HX5 := Lib.hid (HX0.out.chain hb); clear hb; clear cx0 cy0 cx3 cy3 cx4 cy4 cx5 cy5 cx6 cy6 cx7 cy7 cx8 cy8 cx9 cy9 cx10 cy10 cx11 cy11 cx12 cy12 cx13 cy13 cx14 cy14 cx15 cy15 cx16 cy16 cx17 cy17 cx18 cy18 cx19 cy19 cx20 cy20 cx21 cy21 cx22 cy22 cx23 cy23; obtain ⟨-, -, -, -, -, -, -, -, -, -, -, -, -, -, -, -, f5x10, f5y10, f5x11, f5y11, f5x12, f5y12, f5x13, f5y13, f5x14, f5y14, f5x15, f5y15, f5x16, f5y16, f5x17, f5y17, f5x18, f5y18, f5x19, f5y19, f5x20, f5y20, f5x21, f5y21, f5x22, f5y22, f5x23, f5y23⟩ := HF.out _ HX5.out)
                                | (go_at_call 80; ((with_reducible refine (HQ5.out _ HX5.out).mono ?_); rintro e w6 ⟨rfl, hb⟩); have HX6 := Lib.hid (HX5.out.chain hb); clear hb; clear f5x10 f5y10 f5x11 f5y11 f5x12 f5y12 f5x13 f5y13 f5x14 f5y14 f5x15 f5y15 f5x16 f5y16 f5x17 f5y17 f5x18 f5y18 f5x19 f5y19 f5x20 f5y20 f5x21 f5y21 f5x22 f5y22 f5x23 f5y23; obtain ⟨-, -, -, -, -, -, -, -, -, -, -, -, -, -, -, -, -, -, -, -, -, -, -, -, -, -, -, -, -, -, -, -, -, -, -, -, f6x20, f6y20, f6x21, f6y21, f6x22, f6y22, f6x23, f6y23⟩ := HF.out _ HX6.out)
                                | (go_at_call 81; ((with_reducible refine (HQ6.out _ HX6.out).mono ?_); rintro e w7 ⟨rfl, hb⟩); have HX7 := Lib.hid (HX6.out.chain hb); clear hb; clear f6x20 f6y20 f6x21 f6y21 f6x22 f6y22 f6x23 f6y23; obtain ⟨-, -, -, -, -, -, -, -, -, -, -, -, -, -, -, -, -, -, -, -, -, -, -, -, -, -, -, -, -, -, -, -, -, -, -, -, -, -, f7x21, f7y21, f7x22, f7y22, f7x23, f7y23⟩ := HF.out _ HX7.out)
                                | (go_at_call 68; ((with_reducible refine (HQ7.out _ HX7.out).mono ?_); rintro e w8 ⟨rfl, hb⟩); have HX8 := Lib.hid (HX7.out.chain hb); clear hb; clear f7x21 f7y21 f7x22 f7y22 f7x23 f7y23; obtain ⟨-, -, -, -, -, -, -, -, -, -, -, -, -, -, -, -, -, -, -, -, -, -, -, -, -, -, -, -, -, -, -, -, -, -, -, -, -, -, -, -, f8x22, f8y22, f8x23, f8y23⟩ := HF.out _ HX8.out)
                                | (go_at_call 32; ((with_reducible refine (HQ8.out _ HX8.out).mono ?_); rintro e w9 ⟨rfl, hb⟩); have HX9 := Lib.hid (HX8.out.chain hb); clear hb; clear f8x22 f8y22 f8x23 f8y23; obtain ⟨-, -, -, -, -, -, -, -, -, -, -, -, -, -, -, -, -, -, -, -, -, -, -, -, -, -, -, -, -, -, -, -, -, -, -, -, -, -, -, -, -, -, f9x23, f9y23⟩ := HF.out _ HX9.out)
                                | (go_at_call 32; ((with_reducible refine (HQ9.out _ HX9.out).mono ?_); rintro e w10 ⟨rfl, hb⟩); have HX10 := Lib.hid (HX9.out.chain hb); clear hb; clear f9x23 f9y23))
                              go_ret
                              refine ⟨?_, HI0.out.1.chain (HBL.out.chain HX10.out)⟩
                              have hrf : r = false := by
                                cases r with
                                | false => rfl
                                | true =>
                                  have h1 := ((sameL_all2 l m).2 (HG.out.1 rfl)).2 k _ _ HXY.out.1 HXY.out.2
                                  have h2 := HSM.out.1 h1
                                  have h7 := HQI.out.2.2.2.2.2; have h8 := h2.2.2.2.2.2.2.2.2.2; simp [h8] at h7
                              rw [hrf]
                              rfl
                            | true =>
                              go_wp2_with (first
                                | (go_at_call 30; ((with_reducible refine (HQ4.out _ HX0.out).mono ?_); rintro e w5 ⟨rfl, hb⟩); have HX5 := Lib.hid (HX0.out.chain hb); clear hb; clear cx0 cy0 cx3 cy3 cx4 cy4 cx5 cy5 cx6 cy6 cx7 cy7 cx8 cy8 cx9 cy9 cx10 cy10 cx11 cy11 cx12 cy12 cx13 cy13 cx14 cy14 cx15 cy15 cx16 cy16 cx17 cy17 cx18 cy18 cx19 cy19 cx20 cy20 cx21 cy21 cx22 cy22 cx23 cy23; obtain ⟨-, -, -, -, -, -, -, -, -, -, -, -, -, -, -, -, f5x10, f5y10, f5x11, f5y11, f5x12, f5y12, f5x13, f5y13, f5x14, f5y14, f5x15, f5y15, f5x16, f5y16, f5x17, f5y17, f5x18, f5y18, f5x19, f5y19, f5x20, f5y20, f5x21, f5y21, f5x22, f5y22, f5x23, f5y23⟩ := HF.out _ HX5.out)
                                | (go_at_call 80; ((with_reducible refine (HQ5.out _ HX5.out).mono ?_); rintro e w6 ⟨rfl, hb⟩); have HX6 := Lib.hid (HX5.out.chain hb); clear hb; clear f5x10 f5y10 f5x11 f5y11 f5x12 f5y12 f5x13 f5y13 f5x14 f5y14 f5x15 f5y15 f5x16 f5y16 f5x17 f5y17 f5x18 f5y18 f5x19 f5y19 f5x20 f5y20 f5x21 f5y21 f5x22 f5y22 f5x23 f5y23; obtain ⟨-, -, -, -, -, -, -, -, -, -, -, -, -, -, -, -, -, -, -, -, -, -, -, -, -, -, -, -, -, -, -, -, -, -, -, -, f6x20, f6y20, f6x21, f6y21, f6x22, f6y22, f6x23, f6y23⟩ := HF.out _ HX6.out)
                                | (go_at_call 81; ((with_reducible refine (HQ6.out _ HX6.out).mono ?_); rintro e w7 ⟨rfl, hb⟩); have HX7 := Lib.hid (HX6.out.chain hb); clear hb; clear f6x20 f6y20 f6x21 f6y21 f6x22 f6y22 f6x23 f6y23; obtain ⟨-, -, -, -, -, -, -, -, -, -, -, -, -, -, -, -, -, -, -, -, -, -, -, -, -, -, -, -, -, -, -, -, -, -, -, -, -, -, f7x21, f7y21, f7x22, f7y22, f7x23, f7y23⟩ := HF.out _ HX7.out)
                                | (go_at_call 68; ((with_reducible refine (HQ7.out _ HX7.out).mono ?_); rintro e w8 ⟨rfl, hb⟩); have HX8 := Lib.hid (HX7.out.chain hb); clear hb; clear f7x21 f7y21 f7x22 f7y22 f7x23 f7y23; obtain ⟨-, -, -, -, -, -, -, -, -, -, -, -, -, -, -, -, -, -, -, -, -, -, -, -, -, -, -, -, -, -, -, -, -, -, -, -, -, -, -, -, f8x22, f8y22, f8x23, f8y23⟩ := HF.out _ HX8.out)
                                | (go_at_call 32; ((with_reducible refine (HQ8.out _ HX8.out).mono ?_); rintro e w9 ⟨rfl, hb⟩); have HX9 := Lib.hid (HX8.out.chain hb); clear hb; clear f8x22 f8y22 f8x23 f8y23; obtain ⟨-, -, -, -, -, -, -, -, -, -, -, -, -, -, -, -, -, -, -, -, -, -, -, -, -, -, -, -, -, -, -, -, -, -, -, -, -, -, -, -, -, -, f9x23, f9y23⟩ := HF.out _ HX9.out)
                                | (go_at_call 32; ((with_reducible refine (HQ9.out _ HX9.out).mono ?_); rintro e w10 ⟨rfl, hb⟩); have HX10 := Lib.hid (HX9.out.chain hb); clear hb; clear f9x23 f9y23))
                              go_roundg (n0 - (k + 1))
                              case measure => have := HLT.out.2; omega
                              case rel =>
                                refine ⟨k + 1, rfl, (by have := HLT.out.2; omega), by go_num, Lib.hid ⟨HI0.out.1.chain (HBL.out.chain HX10.out), fun i x' y' hi hx' hy' => ?_⟩⟩
                                by_cases h : i = k
                                · subst h
                                  obtain rfl := Option.some.inj (HXY.out.1.symm.trans hx')
                                  obtain rfl := Option.some.inj (HXY.out.2.symm.trans hy')
                                  refine HSM.out.2 ⟨by first | exact rfl | exact trivial, by first | exact rfl | exact trivial, by first | exact rfl | exact trivial, by first | exact rfl | exact trivial, ?_, ?_, ?_, ?_, ?_, ?_⟩
                                  · exact HQI.out.1.1 (by first | exact rfl | exact trivial)
                                  · exact HQI.out.2.1.1 (by first | exact rfl | exact trivial)
                                  · exact HQI.out.2.2.1.1 (by first | exact rfl | exact trivial)
                                  · exact HQI.out.2.2.2.1.1 (by first | exact rfl | exact trivial)
                                  · exact HQI.out.2.2.2.2.1.1 (by first | exact rfl | exact trivial)
                                  · exact HQI.out.2.2.2.2.2.1 (by first | exact rfl | exact trivial)
                                · exact HI0.out.2 i x' y' (by omega) hx' hy'
                · have HNE := Lib.hid h5
                  have hs5 : (x5 == y5) = false := by simpa using h5
                  go_wp2
                  go_ret
                  refine ⟨?_, HI0.out.1.chain (HBL.out.chain HX0.out)⟩
                  have hrf : r = false := by
                    cases r with
                    | false => rfl
                    | true =>
                      have h1 := ((sameL_all2 l m).2 (HG.out.1 rfl)).2 k _ _ HXY.out.1 HXY.out.2
                      have h2 := HSM.out.1 h1
                      exact absurd (h2.2.2.2.1) HNE.out
                  rw [hrf]
                  rfl
              · have HNE := Lib.hid h4
                have hs4 : (x4 == y4) = false := by simpa using h4
                go_wp2
                go_ret
                refine ⟨?_, HI0.out.1.chain (HBL.out.chain HX0.out)⟩
                have hrf : r = false := by
                  cases r with
                  | false => rfl
                  | true =>
                    have h1 := ((sameL_all2 l m).2 (HG.out.1 rfl)).2 k _ _ HXY.out.1 HXY.out.2
                    have h2 := HSM.out.1 h1
                    exact absurd (h2.2.2.1) HNE.out
                rw [hrf]
                rfl
            · have HNE := Lib.hid h3
              have hs3 : (x3 == y3) = false := by simpa using h3
              go_wp2
              go_ret
              refine ⟨?_, HI0.out.1.chain (HBL.out.chain HX0.out)⟩
              have hrf : r = false := by
                cases r with
                | false => rfl
                | true =>
                  have h1 := ((sameL_all2 l m).2 (HG.out.1 rfl)).2 k _ _ HXY.out.1 HXY.out.2
                  have h2 := HSM.out.1 h1
                  exact absurd (h2.2.1) HNE.out
              rw [hrf]
              rfl
          · have HNE := Lib.hid h0
            go_wp2
            go_ret
            refine ⟨?_, HI0.out.1.chain (HBL.out.chain HX0.out)⟩
            have hrf : r = false := by
              cases r with
              | false => rfl
              | true =>
                have h1 := ((sameL_all2 l m).2 (HG.out.1 rfl)).2 k _ _ HXY.out.1 HXY.out.2
                have h2 := HSM.out.1 h1
                exact absurd (h2.1) HNE.out
            rw [hrf]
            rfl
      · obtain rfl : k = n0 := by omega
        go_wp2
        go_ret
        refine ⟨?_, HI0.out.1⟩
        have hrt : r = true := HG.out.2 ((sameL_all2 l m).1 ⟨HL0.out.2.2.1.symm.trans HL0.out.2.2.2, fun i x y hx hy => HI0.out.2 i x y (by have h1 := (List.getElem?_eq_some_iff.1 hx).1; have h2 := HL0.out.2.2.1; omega) hx hy⟩)
        rw [hrt]
        rfl
  · have hrf : r = false := by
      cases r with
      | false => rfl
      | true => exact absurd ((sameL_all2 l m).2 (hr.1 rfl)).1 hlen
    subst hrf
    obtain ⟨n1, h1⟩ : ∃ n1, n1 = l.length := ⟨_, rfl⟩
    obtain ⟨n2, h2⟩ : ∃ n2, n2 = m.length := ⟨_, rfl⟩
    rw [← h1] at hl hlen ⊢
    rw [← h2] at _hm hlen ⊢
    clear h1 h2 hA hB hr hP
    have hne : ¬ (n1 : Int) = n2 := by omega
    unfold maxLen at hl _hm
    go_enter Tryz.func32, Tryz.ntmps32
    simp only [e1, e2, e3]
    clear e1 e2 e3 hT hN
    go_wp2
    go_ret
    exact ⟨rfl, HB0.out⟩

end Go.Proofs.YtkjfgbcbeabpgaaGreatDoor
