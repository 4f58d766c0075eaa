/-
  LeftConds.
-/
import Derived.Test.YtkjfgbcbeabpgaaGreatDoorTreeL
import Derived.Deep.RegionHeld3
namespace Go.Proofs.YtkjfgbcbeabpgaaGreatDoor
open Go.RowKit

/-- A new row of two expressions. -/
theorem pair_row {W : World} {g : Nat} {ak an bk bn : Int} {sa sb : List UInt8} {al bl : List Ex} {Aa Ab : Option Addr} {Ca Cb : Nat}
    (hg : W.heap[g]? = some (.cells #[.int .i64 ak, .int .i64 an, .string ⟨sa.toArray⟩, .slice Aa al.length Ca, .int .i64 bk, .int .i64 bn, .string ⟨sb.toArray⟩, .slice Ab bl.length Cb] 24 (0, 0)))
    (h1 : sa.length ≤ maxLen) (h2 : al.length ≤ maxLen) (h3 : sb.length ≤ maxLen) (h4 : bl.length ≤ maxLen) (ha : ExRow W W.heap.size al Aa) (hb : ExRow W W.heap.size bl Ab) :
    ExRow W W.heap.size [.mk ak an sa al, .mk bk bn sb bl] (some ⟨g, 0, none⟩) := by
  refine .row _ _ (fun i => if i = 0 then Aa else Ab) (fun i => if i = 0 then Ca else Cb) (Array.getElem?_eq_some_iff.1 hg).1 (fun i k n s l hi => ?_) (fun i k n s l hi => ?_)
  · match i, hi with
    | 0, hi =>
      injection hi with hi; injection hi with e1 e2 e3 e4; subst e1 e2 e3 e4
      simp only [add_block0]
      exact ⟨cell_of_block hg 0 rfl, cell_of_block hg 1 rfl, cell_of_block hg 2 rfl, cell_of_block hg 3 rfl, h1, h2⟩
    | 1, hi =>
      injection hi with hi; injection hi with e1 e2 e3 e4; subst e1 e2 e3 e4
      simp only [add_block0]
      exact ⟨cell_of_block hg 4 rfl, cell_of_block hg 5 rfl, cell_of_block hg 6 rfl, cell_of_block hg 7 rfl, h3, h4⟩
    | i + 2, hi => simp at hi
  · match i, hi with
    | 0, hi => injection hi with hi; injection hi with e1 e2 e3 e4; subst e4; exact ha
    | 1, hi => injection hi with hi; injection hi with e1 e2 e3 e4; subst e4; exact hb
    | i + 2, hi => simp at hi

set_option maxRecDepth 100000 in
set_option maxHeartbeats 8000000 in
theorem left_conds : ∀ (M : Nat) (cs : List Cn), SizeOf.sizeOf cs < M → ∀ (left : Int) (A : Option Addr) (c : Nat) (w : World), -1 ≤ left → left ≤ 200000 → CnRow w w.heap.size cs A → cs.length ≤ maxLen →
    Calls Tryz.prog 10 #[.int .i64 left, .slice A cs.length c] w fun e w' => ∃ r : Int, e = .returned (.int .i64 r) ∧ -1 ≤ r ∧ r ≤ 200000 ∧ Below w.heap.size w w' := by
  intro M
  induction M with
  | zero => intro cs h; omega
  | succ M ih =>
    intro cs hM left A c w h0 h1 hr hn
    obtain ⟨n, hnn⟩ : ∃ n, n = cs.length := ⟨_, rfl⟩
    have HH := Lib.hid (And.intro hr (And.intro ih (And.intro hM hnn)))
    have HB0 := Lib.hid (Below.refl w.heap.size w)
    rw [← hnn] at hn ⊢
    clear hr ih hM hnn
    unfold maxLen at hn
    go_enter Tryz.func10, Tryz.ntmps10
    go_wp2
    go_loopg [0, 5] n (fun m lf j wr => ∃ (k : Nat) (r : Int), m = n - k ∧ k ≤ n ∧ j = .int .i64 k ∧ lf = .int .i64 r ∧ -1 ≤ r ∧ r ≤ 200000 ∧ Hid (Below w.heap.size w wr))
    case atStart => exact ⟨0, left, rfl, Nat.zero_le _, rfl, rfl, h0, h1, HB0⟩
    case round =>
      obtain ⟨k, r, rfl, hk, rfl, rfl, hr0, hr1, HI⟩ := hrel
      by_cases hlt : k < n
      · by_cases hneg : 0 ≤ r
        · have hki : (k : Int) < n := by omega
          obtain ⟨⟨k0, ⟨ak, an, sa, al⟩, ⟨bk, bn, sb, bl⟩, l⟩, hi⟩ : ∃ x, cs[k]? = some x := ⟨cs[k]'(by rw [← HH.out.2.2.2]; exact hlt), List.getElem?_eq_getElem _⟩
          obtain ⟨a, Aa, Ca, Ab, Cb, Al, Cl, rfl, hab, hc, b1, b2, b3, b4, b5, ra, rb, rl⟩ := (HH.out.1.stay HI.out (Nat.le_refl _)).at_ hi
          have c1 : wr.cell? ⟨(a.add (k * 10)).block, (a.add (k * 10)).off + 1, none⟩ = some (.int .i64 ak) := hc.c1
          have c2 : wr.cell? ⟨(a.add (k * 10)).block, (a.add (k * 10)).off + 2, none⟩ = some (.int .i64 an) := hc.c2
          have c3 : wr.cell? ⟨(a.add (k * 10)).block, (a.add (k * 10)).off + 3, none⟩ = some (.string ⟨sa.toArray⟩) := hc.c3
          have c4 : wr.cell? ⟨(a.add (k * 10)).block, (a.add (k * 10)).off + 4, none⟩ = some (.slice Aa al.length Ca) := hc.c4
          have c5 : wr.cell? ⟨(a.add (k * 10)).block, (a.add (k * 10)).off + 5, none⟩ = some (.int .i64 bk) := hc.c5
          have c6 : wr.cell? ⟨(a.add (k * 10)).block, (a.add (k * 10)).off + 6, none⟩ = some (.int .i64 bn) := hc.c6
          have c7 : wr.cell? ⟨(a.add (k * 10)).block, (a.add (k * 10)).off + 7, none⟩ = some (.string ⟨sb.toArray⟩) := hc.c7
          have c8 : wr.cell? ⟨(a.add (k * 10)).block, (a.add (k * 10)).off + 8, none⟩ = some (.slice Ab bl.length Cb) := hc.c8
          have hablk : (a.add (k * 10)).block < w.heap.size := by rw [block_adds]; exact hab
          have hwr := HI.out.size
          have hsz : SizeOf.sizeOf l < M := by
            have h1 := HH.out.2.2.1
            have h2 := List.sizeOf_lt_of_mem (List.mem_of_getElem? hi)
            have h3 : SizeOf.sizeOf l < SizeOf.sizeOf (Cn.mk k0 (.mk ak an sa al) (.mk bk bn sb bl) l) := by simp; omega
            omega
          obtain ⟨PC, hPC⟩ : ∃ PC : Obj, PC = .cells #[.int .i64 ak, .int .i64 an, .string ⟨sa.toArray⟩, .slice Aa al.length Ca, .int .i64 bk, .int .i64 bn, .string ⟨sb.toArray⟩, .slice Ab bl.length Cb] 24 := ⟨_, rfl⟩
          have HE : Hid (Calls Tryz.prog 11 #[.int .i64 (r - 1), .slice (some ⟨wr.heap.size, 0, none⟩) 2 2] (wr.alloc (.cells #[.int .i64 ak, .int .i64 an, .string ⟨sa.toArray⟩, .slice Aa al.length Ca, .int .i64 bk, .int .i64 bn, .string ⟨sb.toArray⟩, .slice Ab bl.length Cb] 24)).drew fun e w' => ∃ r : Int, e = .returned (.int .i64 r) ∧ -1 ≤ r ∧ r ≤ 200000 ∧ Below wr.heap.size wr w') := Lib.hid (by
            have hba := (below_alloc wr (.cells #[.int .i64 ak, .int .i64 an, .string ⟨sa.toArray⟩, .slice Aa al.length Ca, .int .i64 bk, .int .i64 bn, .string ⟨sb.toArray⟩, .slice Ab bl.length Cb] 24)).drew
            have hgr := heap_of_alloc wr (.cells #[.int .i64 ak, .int .i64 an, .string ⟨sa.toArray⟩, .slice Aa al.length Ca, .int .i64 bk, .int .i64 bn, .string ⟨sb.toArray⟩, .slice Ab bl.length Cb] 24)
            refine (left_exprs _ [.mk ak an sa al, .mk bk bn sb bl] (Nat.lt_succ_self _) (r - 1) (some ⟨wr.heap.size, 0, none⟩) 2 _ (by omega) (by omega) (pair_row (W := (wr.alloc _).drew) hgr b1 b2 b3 b4 ((ra.stay hba hwr).more (Nat.le_trans hwr hba.size)) ((rb.stay hba hwr).more (Nat.le_trans hwr hba.size))) (show 2 ≤ maxLen by decide)).mono fun e w' ⟨r', he, q0, q1, hb⟩ => ⟨r', he, q0, q1, hba.chain hb⟩)
          have HL := Lib.hid (And.intro (HH.out.2.1 l hsz) (And.intro rl b5))
          have HLT := Lib.hid (And.intro trivial (And.intro hlt (And.intro hablk hc)))
          have hw1 : IntKind.i64.wrap (r - 1) = r - 1 := by rw [IntKind.wrap_i64]; omega
          clear hc b1 b2 b3 b4 b5 ra rb rl hi hsz hPC PC hablk hwr
          go_wp2
          go_region_held3 (fun W => W.cell? ⟨(a.add (k * 10)).block, (a.add (k * 10)).off + 1, none⟩ = some (.int .i64 ak) ∧ W.cell? ⟨(a.add (k * 10)).block, (a.add (k * 10)).off + 2, none⟩ = some (.int .i64 an) ∧ W.cell? ⟨(a.add (k * 10)).block, (a.add (k * 10)).off + 3, none⟩ = some (.string ⟨sa.toArray⟩) ∧ W.cell? ⟨(a.add (k * 10)).block, (a.add (k * 10)).off + 4, none⟩ = some (.slice Aa al.length Ca) ∧
              W.cell? ⟨(a.add (k * 10)).block, (a.add (k * 10)).off + 5, none⟩ = some (.int .i64 bk) ∧ W.cell? ⟨(a.add (k * 10)).block, (a.add (k * 10)).off + 6, none⟩ = some (.int .i64 bn) ∧ W.cell? ⟨(a.add (k * 10)).block, (a.add (k * 10)).off + 7, none⟩ = some (.string ⟨sb.toArray⟩) ∧ W.cell? ⟨(a.add (k * 10)).block, (a.add (k * 10)).off + 8, none⟩ = some (.slice Ab bl.length Cb))
            (first | go_keep | (trace_state; fail))
            (first
              | (go_at_call 11; refine HE.out.mono ?_; rintro e w3 ⟨r2, rfl, q0, q1, hb⟩; have HB3 := Lib.hid (And.intro (HI.out.chain hb) hb); obtain ⟨g0, g1, g2, g3, g4, g5, g6, g7, g8, g9⟩ := (HLT.out.2.2.2.stay hb (Nat.lt_of_lt_of_le HLT.out.2.2.1 HI.out.size)).flat; clear hb))
          all_goals
            (go_wp2_with (go_at_call 10; refine (HL.out.1 _ _ _ w3 q0 q1 ((HL.out.2.1.stay HB3.out.2 HI.out.size).more (Nat.le_trans HI.out.size HB3.out.2.size)) HL.out.2.2).mono ?_; rintro e w4 ⟨r3, rfl, p0, p1, hb4⟩; have HB4 := Lib.hid (HB3.out.1.chain hb4); clear hb4)
             go_roundg (n - (k + 1))
             case measure => have := HLT.out.2.1; omega
             case rel => exact ⟨k + 1, r3, rfl, (by have := HLT.out.2.1; omega), by go_num, rfl, p0, p1, HB4⟩)
        · have hki : (k : Int) < n := by omega
          go_wp2
          go_ret
          exact ⟨r, rfl, hr0, hr1, HI.out⟩
      · obtain rfl : k = n := by omega
        go_wp2
        go_ret
        exact ⟨r, rfl, hr0, hr1, HI.out⟩

end Go.Proofs.YtkjfgbcbeabpgaaGreatDoor
