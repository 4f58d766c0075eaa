/-
  The reference's comparison of rows of calls.
-/
import Derived.Test.YtkjfgbcbeabpgaaGreatDoorTreeQl
namespace Go.Proofs.YtkjfgbcbeabpgaaGreatDoor
open Go.RowKit

set_option maxRecDepth 100000 in
set_option maxHeartbeats 8000000 in
theorem scas_row (l m : List Cal) (A B : Option Addr) (ca0 cb0 : Nat) (w : World) (hl : l.length ≤ maxLen) (_hm : m.length ≤ maxLen) (ra : CalRow w w.heap.size l A) (rb : CalRow w w.heap.size m B) (r : Bool) (hr : r = true ↔ l = m) :
    Calls Tryz.prog 81 #[.slice A l.length ca0, .slice B m.length cb0] w fun e w' => e = .returned (.bool r) ∧ Below w.heap.size w w' := by
  have hA := cal_rowV ra
  have hB := cal_rowV rb
  have HB0 := Lib.hid (Below.refl w.heap.size w)
  clear ra rb
  by_cases hlen : l.length = m.length
  · obtain ⟨n0, hnn⟩ : ∃ n, n = l.length := ⟨_, rfl⟩
    have HL0 := Lib.hid (And.intro hA (And.intro hB (And.intro hnn (hnn.trans hlen))))
    have HG := Lib.hid hr
    rw [← hlen, ← hnn]
    rw [← hnn] at hl
    unfold maxLen at hl
    clear hA hB hr hnn hlen _hm
    go_enter Tryz.func81, Tryz.ntmps81
    go_wp2
    go_loopg [5] n0 (fun mm j wr => ∃ k : Nat, mm = n0 - k ∧ k ≤ n0 ∧ j = .int .i64 k ∧ Hid (Below w.heap.size w wr ∧ ∀ (i : Nat) x y, i < k → l[i]? = some x → m[i]? = some y → (fun x y => x = y) x y))
    case atStart => exact ⟨0, rfl, Nat.zero_le _, (by first | rfl | go_num), Lib.hid ⟨HB0.out, fun i x y h => absurd h (Nat.not_lt_zero _)⟩⟩
    case round =>
      obtain ⟨k, rfl, hk, rfl, HI0⟩ := hrel
      by_cases hlt : k < n0
      · have hki : (k : Int) < n0 := by omega
        obtain ⟨x, hx⟩ : ∃ x, l[k]? = some x := ⟨l[k]'(by rw [← HL0.out.2.2.1]; exact hlt), List.getElem?_eq_getElem _⟩
        obtain ⟨y, hy⟩ : ∃ y, m[k]? = some y := ⟨m[k]'(by rw [← HL0.out.2.2.2]; exact hlt), List.getElem?_eq_getElem _⟩
        obtain ⟨a, cs, rfl, hab, hcs, hca, hvx⟩ := HL0.out.1 k x hx
        obtain ⟨b, ds, rfl, hbb, hds, hcb, hvy⟩ := HL0.out.2.1 k y hy
        obtain ⟨S, hS⟩ : ∃ S : World → Prop, S = fun W => Below wr.heap.size wr W := ⟨_, rfl⟩
        have HS2 : Hid (∀ W, Below wr.heap.size wr W → S W) := Lib.hid (fun W hb => by rw [hS]; exact hb)
        have HBW : Hid (∀ W, Below wr.heap.size wr W → Below w.heap.size w W) := Lib.hid (fun W hb => HI0.out.1.chain hb)
        obtain ⟨s0, s1, l1⟩ := x
        obtain ⟨s0', s1', l1'⟩ := y
        obtain ⟨A1, c1, rfl, b1, b2, b3, r1⟩ := hvx
        obtain ⟨A1', c1', rfl, b1', b2', b3', r1'⟩ := hvy
        simp only at hca hcb b1 b2 b3 r1 b1' b2' b3' r1'
        have HFX : Hid (∀ W, S W → W.cell? (a.add (k * 3)) = some (.string ⟨s0.toArray⟩) ∧ W.cell? (b.add (k * 3)) = some (.string ⟨s0'.toArray⟩) ∧ W.cell? ⟨(a.add (k * 3)).block, (a.add (k * 3)).off + 1, none⟩ = some (.string ⟨s1.toArray⟩) ∧ W.cell? ⟨(b.add (k * 3)).block, (b.add (k * 3)).off + 1, none⟩ = some (.string ⟨s1'.toArray⟩) ∧ W.cell? ⟨(a.add (k * 3)).block, (a.add (k * 3)).off + 2, none⟩ = some (.slice A1 l1.length c1) ∧ W.cell? ⟨(b.add (k * 3)).block, (b.add (k * 3)).off + 2, none⟩ = some (.slice A1' l1'.length c1')) := Lib.hid (fun W hs => by
          rw [hS] at hs
          have hbw := HBW.out _ hs
          exact ⟨(by simpa [Addr.add] using ((fun o (v : Value) (hv : (#[.string ⟨s0.toArray⟩, .string ⟨s1.toArray⟩, .slice A1 l1.length c1] : Array Value)[o]? = some v) => (hbw.cell (p := (a.add (k * 3)).add o) (by rw [block_adds, block_adds]; exact hab)).trans (hca o v hv)) 0 _ rfl)), (by simpa [Addr.add] using ((fun o (v : Value) (hv : (#[.string ⟨s0'.toArray⟩, .string ⟨s1'.toArray⟩, .slice A1' l1'.length c1'] : Array Value)[o]? = some v) => (hbw.cell (p := (b.add (k * 3)).add o) (by rw [block_adds, block_adds]; exact hbb)).trans (hcb o v hv)) 0 _ rfl)), (fun o (v : Value) (hv : (#[.string ⟨s0.toArray⟩, .string ⟨s1.toArray⟩, .slice A1 l1.length c1] : Array Value)[o]? = some v) => (hbw.cell (p := (a.add (k * 3)).add o) (by rw [block_adds, block_adds]; exact hab)).trans (hca o v hv)) 1 _ rfl, (fun o (v : Value) (hv : (#[.string ⟨s0'.toArray⟩, .string ⟨s1'.toArray⟩, .slice A1' l1'.length c1'] : Array Value)[o]? = some v) => (hbw.cell (p := (b.add (k * 3)).add o) (by rw [block_adds, block_adds]; exact hbb)).trans (hcb o v hv)) 1 _ rfl, (fun o (v : Value) (hv : (#[.string ⟨s0.toArray⟩, .string ⟨s1.toArray⟩, .slice A1 l1.length c1] : Array Value)[o]? = some v) => (hbw.cell (p := (a.add (k * 3)).add o) (by rw [block_adds, block_adds]; exact hab)).trans (hca o v hv)) 2 _ rfl, (fun o (v : Value) (hv : (#[.string ⟨s0'.toArray⟩, .string ⟨s1'.toArray⟩, .slice A1' l1'.length c1'] : Array Value)[o]? = some v) => (hbw.cell (p := (b.add (k * 3)).add o) (by rw [block_adds, block_adds]; exact hbb)).trans (hcb o v hv)) 2 _ rfl⟩)
        obtain ⟨q2, hq2⟩ := boolOf (l1 = l1')
        have HC2 : Hid (∀ W, Below wr.heap.size wr W → Calls Tryz.prog 77 #[.slice A1 l1.length c1, .slice A1' l1'.length c1'] W fun e w' => e = .returned (.bool q2) ∧ Below W.heap.size W w') := Lib.hid (fun W hb => by
          have hbw := HBW.out _ hb
          exact seqes_row l1 l1' A1 A1' c1 c1' W b3 b3' (r1.on hbw) (r1'.on hbw) q2 hq2)
        have HXY := Lib.hid (And.intro hx (And.intro hy hq2))
        have HLT := Lib.hid (And.intro trivial hlt)
        have HX0 := Lib.hid (Below.refl wr.heap.size wr).drew
        have hmx : Tryz.prog.follows .mixedOrders = true := by kernel_rfl
        clear hx hy hca hcb hcs hds hab hbb hS hq2
        by_cases h0 : s0 = s0'
        · subst h0
          by_cases h1 : s1 = s1'
          · subst h1
            cases q2 with
            | false =>
              go_wp2
              refine wp_region_held (S := S) hmx ?_
              change wpAnyH _ _ _ _ _ 38 #[false, false, false, false, false, false, false, false, false, false, false, false, false, false, false, false, false, false, false, false, false, false, false, false, false, false, false, false, false, false, false, false, false, false, false, false, false, false] _ wr.drew
              have g0 := HS2.out _ HX0.out
              refine tk 0 17 (.slice (some a) n0 ca0) g0 ?v ?_
              case v => intro Wx hSx; go_simp
              refine tk 1 18 (.int .i64 k) g0 ?v ?_
              case v => intro Wx hSx; go_simp
              refine tk 2 19 (.pointer (some (a.add (k * 3)))) g0 ?v ?_
              case v => intro Wx hSx; go_simp
              refine tk 3 20 (.pointer (some (a.add (k * 3)))) g0 ?v ?_
              case v => intro Wx hSx; go_simp
              try simp only [Act.put, List.setIfInBounds_toArray, List.set_cons_zero, List.set_cons_succ]
              refine tk 4 21 (.string ⟨s0.toArray⟩) g0 ?v ?_
              case v => intro Wx hSx; have q0 := (HFX.out Wx hSx).1; go_simp
              refine tk 5 22 (.slice (some b) n0 cb0) g0 ?v ?_
              case v => intro Wx hSx; go_simp
              refine tk 6 23 (.int .i64 k) g0 ?v ?_
              case v => intro Wx hSx; go_simp
              refine tk 7 24 (.pointer (some (b.add (k * 3)))) g0 ?v ?_
              case v => intro Wx hSx; go_simp
              try simp only [Act.put, List.setIfInBounds_toArray, List.set_cons_zero, List.set_cons_succ]
              refine tk 8 25 (.pointer (some (b.add (k * 3)))) g0 ?v ?_
              case v => intro Wx hSx; go_simp
              refine tk 9 26 (.string ⟨s0.toArray⟩) g0 ?v ?_
              case v => intro Wx hSx; have q0 := (HFX.out Wx hSx).2.1; go_simp
              refine tk 10 27 (.bool false) g0 ?v ?_
              case v => intro Wx hSx; go_simp
              refine tk 11 28 (.bool false) g0 ?v ?_
              case v => intro Wx hSx; go_simp
              try simp only [Act.put, List.setIfInBounds_toArray, List.set_cons_zero, List.set_cons_succ]
              refine tk 12 29 (.slice (some a) n0 ca0) g0 ?v ?_
              case v => intro Wx hSx; go_simp
              refine tk 13 30 (.int .i64 k) g0 ?v ?_
              case v => intro Wx hSx; go_simp
              refine tk 14 31 (.pointer (some (a.add (k * 3)))) g0 ?v ?_
              case v => intro Wx hSx; go_simp
              refine tk 15 32 (.pointer (some ⟨(a.add (k * 3)).block, (a.add (k * 3)).off + 1, none⟩)) g0 ?v ?_
              case v => intro Wx hSx; go_simp
              try simp only [Act.put, List.setIfInBounds_toArray, List.set_cons_zero, List.set_cons_succ]
              refine tk 16 33 (.string ⟨s1.toArray⟩) g0 ?v ?_
              case v => intro Wx hSx; have q0 := (HFX.out Wx hSx).2.2.1; go_simp
              refine tk 17 34 (.slice (some b) n0 cb0) g0 ?v ?_
              case v => intro Wx hSx; go_simp
              refine tk 18 35 (.int .i64 k) g0 ?v ?_
              case v => intro Wx hSx; go_simp
              refine tk 19 36 (.pointer (some (b.add (k * 3)))) g0 ?v ?_
              case v => intro Wx hSx; go_simp
              try simp only [Act.put, List.setIfInBounds_toArray, List.set_cons_zero, List.set_cons_succ]
              refine tk 20 37 (.pointer (some ⟨(b.add (k * 3)).block, (b.add (k * 3)).off + 1, none⟩)) g0 ?v ?_
              case v => intro Wx hSx; go_simp
              refine tk 21 38 (.string ⟨s1.toArray⟩) g0 ?v ?_
              case v => intro Wx hSx; have q0 := (HFX.out Wx hSx).2.2.2.1; go_simp
              refine tk 22 39 (.bool false) g0 ?v ?_
              case v => intro Wx hSx; go_simp
              refine tk 23 40 (.bool false) g0 ?v ?_
              case v => intro Wx hSx; go_simp
              try simp only [Act.put, List.setIfInBounds_toArray, List.set_cons_zero, List.set_cons_succ]
              refine tk 24 41 (.bool false) g0 ?v ?_
              case v => intro Wx hSx; go_simp
              refine tk 25 42 (.slice (some a) n0 ca0) g0 ?v ?_
              case v => intro Wx hSx; go_simp
              refine tk 26 43 (.int .i64 k) g0 ?v ?_
              case v => intro Wx hSx; go_simp
              refine tk 27 44 (.pointer (some (a.add (k * 3)))) g0 ?v ?_
              case v => intro Wx hSx; go_simp
              try simp only [Act.put, List.setIfInBounds_toArray, List.set_cons_zero, List.set_cons_succ]
              refine tk 28 45 (.pointer (some ⟨(a.add (k * 3)).block, (a.add (k * 3)).off + 2, none⟩)) g0 ?v ?_
              case v => intro Wx hSx; go_simp
              refine tk 29 46 (.slice A1 l1.length c1) g0 ?v ?_
              case v => intro Wx hSx; have q0 := (HFX.out Wx hSx).2.2.2.2.1; go_simp
              refine tk 30 47 (.slice (some b) n0 cb0) g0 ?v ?_
              case v => intro Wx hSx; go_simp
              refine tk 31 48 (.int .i64 k) g0 ?v ?_
              case v => intro Wx hSx; go_simp
              try simp only [Act.put, List.setIfInBounds_toArray, List.set_cons_zero, List.set_cons_succ]
              refine tk 32 49 (.pointer (some (b.add (k * 3)))) g0 ?v ?_
              case v => intro Wx hSx; go_simp
              refine tk 33 50 (.pointer (some ⟨(b.add (k * 3)).block, (b.add (k * 3)).off + 2, none⟩)) g0 ?v ?_
              case v => intro Wx hSx; go_simp
              refine tk 34 51 (.slice A1' l1'.length c1') g0 ?v ?_
              case v => intro Wx hSx; have q0 := (HFX.out Wx hSx).2.2.2.2.2; go_simp
              refine o1 35 (fun K hK => ?_)
              go_simp
              refine (HC2.out _ HX0.out).mono ?_
              rintro e v1 ⟨rfl, hb⟩
              have HX1 := Lib.hid (HX0.out.chain hb)
              clear hb
              have g1 := HS2.out _ HX1.out
              refine hK _ _ g1 ?_
              clear hK K g0
              refine tk 36 53 (.bool true) g1 ?v ?_
              case v => intro Wx hSx; go_simp
              refine tk 37 54 (.bool true) g1 ?v ?_
              case v => intro Wx hSx; go_simp
              try simp only [Act.put, List.setIfInBounds_toArray, List.set_cons_zero, List.set_cons_succ]
              refine wpAnyH_done (by kernel_rfl) ?_ _
              go_wp2
              go_ret
              refine ⟨?_, HI0.out.1.chain HX1.out⟩
              have hrf : r = false := by
                cases r with
                | false => rfl
                | true =>
                  have h2 := ((all2_eq l m).2 (HG.out.1 rfl)).2 k _ _ HXY.out.1 HXY.out.2.1
                  exact absurd h2 (by have h0 := HXY.out.2.2; intro h2; injection h2 with h3 h4 h5; have h7 := h5; simp [h7] at h0)
              rw [hrf]
              rfl
            | true =>
              go_wp2
              refine wp_region_held (S := S) hmx ?_
              change wpAnyH _ _ _ _ _ 38 #[false, false, false, false, false, false, false, false, false, false, false, false, false, false, false, false, false, false, false, false, false, false, false, false, false, false, false, false, false, false, false, false, false, false, false, false, false, false] _ wr.drew
              have g0 := HS2.out _ HX0.out
              refine tk 0 17 (.slice (some a) n0 ca0) g0 ?v ?_
              case v => intro Wx hSx; go_simp
              refine tk 1 18 (.int .i64 k) g0 ?v ?_
              case v => intro Wx hSx; go_simp
              refine tk 2 19 (.pointer (some (a.add (k * 3)))) g0 ?v ?_
              case v => intro Wx hSx; go_simp
              refine tk 3 20 (.pointer (some (a.add (k * 3)))) g0 ?v ?_
              case v => intro Wx hSx; go_simp
              try simp only [Act.put, List.setIfInBounds_toArray, List.set_cons_zero, List.set_cons_succ]
              refine tk 4 21 (.string ⟨s0.toArray⟩) g0 ?v ?_
              case v => intro Wx hSx; have q0 := (HFX.out Wx hSx).1; go_simp
              refine tk 5 22 (.slice (some b) n0 cb0) g0 ?v ?_
              case v => intro Wx hSx; go_simp
              refine tk 6 23 (.int .i64 k) g0 ?v ?_
              case v => intro Wx hSx; go_simp
              refine tk 7 24 (.pointer (some (b.add (k * 3)))) g0 ?v ?_
              case v => intro Wx hSx; go_simp
              try simp only [Act.put, List.setIfInBounds_toArray, List.set_cons_zero, List.set_cons_succ]
              refine tk 8 25 (.pointer (some (b.add (k * 3)))) g0 ?v ?_
              case v => intro Wx hSx; go_simp
              refine tk 9 26 (.string ⟨s0.toArray⟩) g0 ?v ?_
              case v => intro Wx hSx; have q0 := (HFX.out Wx hSx).2.1; go_simp
              refine tk 10 27 (.bool false) g0 ?v ?_
              case v => intro Wx hSx; go_simp
              refine tk 11 28 (.bool false) g0 ?v ?_
              case v => intro Wx hSx; go_simp
              try simp only [Act.put, List.setIfInBounds_toArray, List.set_cons_zero, List.set_cons_succ]
              refine tk 12 29 (.slice (some a) n0 ca0) g0 ?v ?_
              case v => intro Wx hSx; go_simp
              refine tk 13 30 (.int .i64 k) g0 ?v ?_
              case v => intro Wx hSx; go_simp
              refine tk 14 31 (.pointer (some (a.add (k * 3)))) g0 ?v ?_
              case v => intro Wx hSx; go_simp
              refine tk 15 32 (.pointer (some ⟨(a.add (k * 3)).block, (a.add (k * 3)).off + 1, none⟩)) g0 ?v ?_
              case v => intro Wx hSx; go_simp
              try simp only [Act.put, List.setIfInBounds_toArray, List.set_cons_zero, List.set_cons_succ]
              refine tk 16 33 (.string ⟨s1.toArray⟩) g0 ?v ?_
              case v => intro Wx hSx; have q0 := (HFX.out Wx hSx).2.2.1; go_simp
              refine tk 17 34 (.slice (some b) n0 cb0) g0 ?v ?_
              case v => intro Wx hSx; go_simp
              refine tk 18 35 (.int .i64 k) g0 ?v ?_
              case v => intro Wx hSx; go_simp
              refine tk 19 36 (.pointer (some (b.add (k * 3)))) g0 ?v ?_
              case v => intro Wx hSx; go_simp
              try simp only [Act.put, List.setIfInBounds_toArray, List.set_cons_zero, List.set_cons_succ]
              refine tk 20 37 (.pointer (some ⟨(b.add (k * 3)).block, (b.add (k * 3)).off + 1, none⟩)) g0 ?v ?_
              case v => intro Wx hSx; go_simp
              refine tk 21 38 (.string ⟨s1.toArray⟩) g0 ?v ?_
              case v => intro Wx hSx; have q0 := (HFX.out Wx hSx).2.2.2.1; go_simp
              refine tk 22 39 (.bool false) g0 ?v ?_
              case v => intro Wx hSx; go_simp
              refine tk 23 40 (.bool false) g0 ?v ?_
              case v => intro Wx hSx; go_simp
              try simp only [Act.put, List.setIfInBounds_toArray, List.set_cons_zero, List.set_cons_succ]
              refine tk 24 41 (.bool false) g0 ?v ?_
              case v => intro Wx hSx; go_simp
              refine tk 25 42 (.slice (some a) n0 ca0) g0 ?v ?_
              case v => intro Wx hSx; go_simp
              refine tk 26 43 (.int .i64 k) g0 ?v ?_
              case v => intro Wx hSx; go_simp
              refine tk 27 44 (.pointer (some (a.add (k * 3)))) g0 ?v ?_
              case v => intro Wx hSx; go_simp
              try simp only [Act.put, List.setIfInBounds_toArray, List.set_cons_zero, List.set_cons_succ]
              refine tk 28 45 (.pointer (some ⟨(a.add (k * 3)).block, (a.add (k * 3)).off + 2, none⟩)) g0 ?v ?_
              case v => intro Wx hSx; go_simp
              refine tk 29 46 (.slice A1 l1.length c1) g0 ?v ?_
              case v => intro Wx hSx; have q0 := (HFX.out Wx hSx).2.2.2.2.1; go_simp
              refine tk 30 47 (.slice (some b) n0 cb0) g0 ?v ?_
              case v => intro Wx hSx; go_simp
              refine tk 31 48 (.int .i64 k) g0 ?v ?_
              case v => intro Wx hSx; go_simp
              try simp only [Act.put, List.setIfInBounds_toArray, List.set_cons_zero, List.set_cons_succ]
              refine tk 32 49 (.pointer (some (b.add (k * 3)))) g0 ?v ?_
              case v => intro Wx hSx; go_simp
              refine tk 33 50 (.pointer (some ⟨(b.add (k * 3)).block, (b.add (k * 3)).off + 2, none⟩)) g0 ?v ?_
              case v => intro Wx hSx; go_simp
              refine tk 34 51 (.slice A1' l1'.length c1') g0 ?v ?_
              case v => intro Wx hSx; have q0 := (HFX.out Wx hSx).2.2.2.2.2; go_simp
              refine o1 35 (fun K hK => ?_)
              go_simp
              refine (HC2.out _ HX0.out).mono ?_
              rintro e v1 ⟨rfl, hb⟩
              have HX1 := Lib.hid (HX0.out.chain hb)
              clear hb
              have g1 := HS2.out _ HX1.out
              refine hK _ _ g1 ?_
              clear hK K g0
              refine tk 36 53 (.bool false) g1 ?v ?_
              case v => intro Wx hSx; go_simp
              refine tk 37 54 (.bool false) g1 ?v ?_
              case v => intro Wx hSx; go_simp
              try simp only [Act.put, List.setIfInBounds_toArray, List.set_cons_zero, List.set_cons_succ]
              refine wpAnyH_done (by kernel_rfl) ?_ _
              go_wp2
              go_roundg (n0 - (k + 1))
              case measure => have := HLT.out.2; omega
              case rel =>
                refine ⟨k + 1, rfl, (by have := HLT.out.2; omega), by go_num, Lib.hid ⟨HI0.out.1.chain HX1.out, fun i x' y' hi hx' hy' => ?_⟩⟩
                by_cases h : i = k
                · subst h
                  obtain rfl := Option.some.inj (HXY.out.1.symm.trans hx')
                  obtain rfl := Option.some.inj (HXY.out.2.1.symm.trans hy')
                  have h7 := HXY.out.2.2.1 (by first | exact rfl | exact trivial); show (_ = _); rw [h7]
                · exact HI0.out.2 i x' y' (by omega) hx' hy'
          · have HNE := Lib.hid h1
            have hs1 : (s1 == s1') = false := by simpa using h1
            go_wp2
            refine wp_region_held (S := S) hmx ?_
            change wpAnyH _ _ _ _ _ 38 #[false, false, false, false, false, false, false, false, false, false, false, false, false, false, false, false, false, false, false, false, false, false, false, false, false, false, false, false, false, false, false, false, false, false, false, false, false, false] _ wr.drew
            have g0 := HS2.out _ HX0.out
            refine tk 0 17 (.slice (some a) n0 ca0) g0 ?v ?_
            case v => intro Wx hSx; go_simp
            refine tk 1 18 (.int .i64 k) g0 ?v ?_
            case v => intro Wx hSx; go_simp
            refine tk 2 19 (.pointer (some (a.add (k * 3)))) g0 ?v ?_
            case v => intro Wx hSx; go_simp
            refine tk 3 20 (.pointer (some (a.add (k * 3)))) g0 ?v ?_
            case v => intro Wx hSx; go_simp
            try simp only [Act.put, List.setIfInBounds_toArray, List.set_cons_zero, List.set_cons_succ]
            refine tk 4 21 (.string ⟨s0.toArray⟩) g0 ?v ?_
            case v => intro Wx hSx; have q0 := (HFX.out Wx hSx).1; go_simp
            refine tk 5 22 (.slice (some b) n0 cb0) g0 ?v ?_
            case v => intro Wx hSx; go_simp
            refine tk 6 23 (.int .i64 k) g0 ?v ?_
            case v => intro Wx hSx; go_simp
            refine tk 7 24 (.pointer (some (b.add (k * 3)))) g0 ?v ?_
            case v => intro Wx hSx; go_simp
            try simp only [Act.put, List.setIfInBounds_toArray, List.set_cons_zero, List.set_cons_succ]
            refine tk 8 25 (.pointer (some (b.add (k * 3)))) g0 ?v ?_
            case v => intro Wx hSx; go_simp
            refine tk 9 26 (.string ⟨s0.toArray⟩) g0 ?v ?_
            case v => intro Wx hSx; have q0 := (HFX.out Wx hSx).2.1; go_simp
            refine tk 10 27 (.bool false) g0 ?v ?_
            case v => intro Wx hSx; go_simp
            refine tk 11 28 (.bool false) g0 ?v ?_
            case v => intro Wx hSx; go_simp
            try simp only [Act.put, List.setIfInBounds_toArray, List.set_cons_zero, List.set_cons_succ]
            refine tk 12 29 (.slice (some a) n0 ca0) g0 ?v ?_
            case v => intro Wx hSx; go_simp
            refine tk 13 30 (.int .i64 k) g0 ?v ?_
            case v => intro Wx hSx; go_simp
            refine tk 14 31 (.pointer (some (a.add (k * 3)))) g0 ?v ?_
            case v => intro Wx hSx; go_simp
            refine tk 15 32 (.pointer (some ⟨(a.add (k * 3)).block, (a.add (k * 3)).off + 1, none⟩)) g0 ?v ?_
            case v => intro Wx hSx; go_simp
            try simp only [Act.put, List.setIfInBounds_toArray, List.set_cons_zero, List.set_cons_succ]
            refine tk 16 33 (.string ⟨s1.toArray⟩) g0 ?v ?_
            case v => intro Wx hSx; have q0 := (HFX.out Wx hSx).2.2.1; go_simp
            refine tk 17 34 (.slice (some b) n0 cb0) g0 ?v ?_
            case v => intro Wx hSx; go_simp
            refine tk 18 35 (.int .i64 k) g0 ?v ?_
            case v => intro Wx hSx; go_simp
            refine tk 19 36 (.pointer (some (b.add (k * 3)))) g0 ?v ?_
            case v => intro Wx hSx; go_simp
            try simp only [Act.put, List.setIfInBounds_toArray, List.set_cons_zero, List.set_cons_succ]
            refine tk 20 37 (.pointer (some ⟨(b.add (k * 3)).block, (b.add (k * 3)).off + 1, none⟩)) g0 ?v ?_
            case v => intro Wx hSx; go_simp
            refine tk 21 38 (.string ⟨s1'.toArray⟩) g0 ?v ?_
            case v => intro Wx hSx; have q0 := (HFX.out Wx hSx).2.2.2.1; go_simp
            refine tk 22 39 (.bool true) g0 ?v ?_
            case v => intro Wx hSx; go_simp
            refine tk 23 40 (.bool true) g0 ?v ?_
            case v => intro Wx hSx; go_simp
            try simp only [Act.put, List.setIfInBounds_toArray, List.set_cons_zero, List.set_cons_succ]
            refine tk 24 41 (.bool true) g0 ?v ?_
            case v => intro Wx hSx; go_simp
            refine sk 25 42 g0 ?_
            refine sk 26 43 g0 ?_
            refine sk 27 44 g0 ?_
            try simp only [Act.put, List.setIfInBounds_toArray, List.set_cons_zero, List.set_cons_succ]
            refine sk 28 45 g0 ?_
            refine sk 29 46 g0 ?_
            refine sk 30 47 g0 ?_
            refine sk 31 48 g0 ?_
            try simp only [Act.put, List.setIfInBounds_toArray, List.set_cons_zero, List.set_cons_succ]
            refine sk 32 49 g0 ?_
            refine sk 33 50 g0 ?_
            refine sk 34 51 g0 ?_
            refine sk 35 52 g0 ?_
            try simp only [Act.put, List.setIfInBounds_toArray, List.set_cons_zero, List.set_cons_succ]
            refine sk 36 53 g0 ?_
            refine tk 37 54 (.bool true) g0 ?v ?_
            case v => intro Wx hSx; go_simp
            try simp only [Act.put, List.setIfInBounds_toArray, List.set_cons_zero, List.set_cons_succ]
            refine wpAnyH_done (by kernel_rfl) ?_ _
            go_wp2
            go_ret
            refine ⟨?_, HI0.out.1.chain HX0.out⟩
            have hrf : r = false := by
              cases r with
              | false => rfl
              | true =>
                have h2 := ((all2_eq l m).2 (HG.out.1 rfl)).2 k _ _ HXY.out.1 HXY.out.2.1
                exact absurd h2 (by intro h2; injection h2 with h3 h4 h5; exact HNE.out h4)
            rw [hrf]
            rfl
        · have HNE := Lib.hid h0
          have hs0 : (s0 == s0') = false := by simpa using h0
          go_wp2
          refine wp_region_held (S := S) hmx ?_
          change wpAnyH _ _ _ _ _ 38 #[false, false, false, false, false, false, false, false, false, false, false, false, false, false, false, false, false, false, false, false, false, false, false, false, false, false, false, false, false, false, false, false, false, false, false, false, false, false] _ wr.drew
          have g0 := HS2.out _ HX0.out
          refine tk 0 17 (.slice (some a) n0 ca0) g0 ?v ?_
          case v => intro Wx hSx; go_simp
          refine tk 1 18 (.int .i64 k) g0 ?v ?_
          case v => intro Wx hSx; go_simp
          refine tk 2 19 (.pointer (some (a.add (k * 3)))) g0 ?v ?_
          case v => intro Wx hSx; go_simp
          refine tk 3 20 (.pointer (some (a.add (k * 3)))) g0 ?v ?_
          case v => intro Wx hSx; go_simp
          try simp only [Act.put, List.setIfInBounds_toArray, List.set_cons_zero, List.set_cons_succ]
          refine tk 4 21 (.string ⟨s0.toArray⟩) g0 ?v ?_
          case v => intro Wx hSx; have q0 := (HFX.out Wx hSx).1; go_simp
          refine tk 5 22 (.slice (some b) n0 cb0) g0 ?v ?_
          case v => intro Wx hSx; go_simp
          refine tk 6 23 (.int .i64 k) g0 ?v ?_
          case v => intro Wx hSx; go_simp
          refine tk 7 24 (.pointer (some (b.add (k * 3)))) g0 ?v ?_
          case v => intro Wx hSx; go_simp
          try simp only [Act.put, List.setIfInBounds_toArray, List.set_cons_zero, List.set_cons_succ]
          refine tk 8 25 (.pointer (some (b.add (k * 3)))) g0 ?v ?_
          case v => intro Wx hSx; go_simp
          refine tk 9 26 (.string ⟨s0'.toArray⟩) g0 ?v ?_
          case v => intro Wx hSx; have q0 := (HFX.out Wx hSx).2.1; go_simp
          refine tk 10 27 (.bool true) g0 ?v ?_
          case v => intro Wx hSx; go_simp
          refine tk 11 28 (.bool true) g0 ?v ?_
          case v => intro Wx hSx; go_simp
          try simp only [Act.put, List.setIfInBounds_toArray, List.set_cons_zero, List.set_cons_succ]
          refine sk 12 29 g0 ?_
          refine sk 13 30 g0 ?_
          refine sk 14 31 g0 ?_
          refine sk 15 32 g0 ?_
          try simp only [Act.put, List.setIfInBounds_toArray, List.set_cons_zero, List.set_cons_succ]
          refine sk 16 33 g0 ?_
          refine sk 17 34 g0 ?_
          refine sk 18 35 g0 ?_
          refine sk 19 36 g0 ?_
          try simp only [Act.put, List.setIfInBounds_toArray, List.set_cons_zero, List.set_cons_succ]
          refine sk 20 37 g0 ?_
          refine sk 21 38 g0 ?_
          refine sk 22 39 g0 ?_
          refine tk 23 40 (.bool true) g0 ?v ?_
          case v => intro Wx hSx; go_simp
          try simp only [Act.put, List.setIfInBounds_toArray, List.set_cons_zero, List.set_cons_succ]
          refine tk 24 41 (.bool true) g0 ?v ?_
          case v => intro Wx hSx; go_simp
          refine sk 25 42 g0 ?_
          refine sk 26 43 g0 ?_
          refine sk 27 44 g0 ?_
          try simp only [Act.put, List.setIfInBounds_toArray, List.set_cons_zero, List.set_cons_succ]
          refine sk 28 45 g0 ?_
          refine sk 29 46 g0 ?_
          refine sk 30 47 g0 ?_
          refine sk 31 48 g0 ?_
          try simp only [Act.put, List.setIfInBounds_toArray, List.set_cons_zero, List.set_cons_succ]
          refine sk 32 49 g0 ?_
          refine sk 33 50 g0 ?_
          refine sk 34 51 g0 ?_
          refine sk 35 52 g0 ?_
          try simp only [Act.put, List.setIfInBounds_toArray, List.set_cons_zero, List.set_cons_succ]
          refine sk 36 53 g0 ?_
          refine tk 37 54 (.bool true) g0 ?v ?_
          case v => intro Wx hSx; go_simp
          try simp only [Act.put, List.setIfInBounds_toArray, List.set_cons_zero, List.set_cons_succ]
          refine wpAnyH_done (by kernel_rfl) ?_ _
          go_wp2
          go_ret
          refine ⟨?_, HI0.out.1.chain HX0.out⟩
          have hrf : r = false := by
            cases r with
            | false => rfl
            | true =>
              have h2 := ((all2_eq l m).2 (HG.out.1 rfl)).2 k _ _ HXY.out.1 HXY.out.2.1
              exact absurd h2 (by intro h2; injection h2 with h3 h4 h5; exact HNE.out h3)
          rw [hrf]
          rfl
      · obtain rfl : k = n0 := by omega
        have HA0 : Hid (All2 (fun x y => x = y) l m) := Lib.hid ⟨HL0.out.2.2.1.symm.trans HL0.out.2.2.2, fun i x y hx hy => HI0.out.2 i x y (by have h1 := (List.getElem?_eq_some_iff.1 hx).1; have h2 := HL0.out.2.2.1; omega) hx hy⟩
        go_wp2
        go_ret
        refine ⟨?_, HI0.out.1⟩
        have hrt : r = true := HG.out.2 ((all2_eq l m).1 HA0.out)
        rw [hrt]
        rfl
  · have hrf : r = false := by
      cases r with
      | false => rfl
      | true => exact absurd (congrArg List.length (hr.1 rfl)) hlen
    subst hrf
    obtain ⟨n1, h1⟩ : ∃ n1, n1 = l.length := ⟨_, rfl⟩
    obtain ⟨n2, h2⟩ : ∃ n2, n2 = m.length := ⟨_, rfl⟩
    rw [← h1] at hl hlen ⊢
    rw [← h2] at _hm hlen ⊢
    clear h1 h2 hA hB hr
    have hne : ¬ (n1 : Int) = n2 := by omega
    unfold maxLen at hl _hm
    go_enter Tryz.func81, Tryz.ntmps81
    go_wp2
    go_ret
    exact ⟨rfl, HB0.out⟩

end Go.Proofs.YtkjfgbcbeabpgaaGreatDoor
