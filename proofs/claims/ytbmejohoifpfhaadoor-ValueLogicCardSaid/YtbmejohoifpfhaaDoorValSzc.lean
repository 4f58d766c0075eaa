/-
  The law's sizeOf: the number of nodes of a condition, at most 201.
-/
import Derived.Test.YtbmejohoifpfhaaDoorValSz
import Derived.Test.YtbmejohoifpfhaaDoorValK
namespace Go.Proofs.YtbmejohoifpfhaaDoor
open Go.RowKit

set_option maxRecDepth 100000 in
set_option maxHeartbeats 8000000 in
theorem sizeOf_by : ∀ (M : Nat) (l : List Cn), SizeOf.sizeOf l < M → ∀ (k ak an : Int) (sa : List UInt8) (al : List Ex) (bk bn : Int) (sb : List UInt8) (bl : List Ex) (Aa : Option Addr) (ca : Nat) (Ab : Option Addr) (cb : Nat) (Al : Option Addr) (cl : Nat) (w : World),
    ExRow w w.heap.size al Aa → ExRow w w.heap.size bl Ab → CnRow w w.heap.size l Al → al.length ≤ maxLen → bl.length ≤ maxLen → l.length ≤ maxLen →
    Calls Tryd.prog 14 #[condV2 k ak an ⟨sa.toArray⟩ (.slice Aa al.length ca) bk bn ⟨sb.toArray⟩ (.slice Ab bl.length cb) (.slice Al l.length cl)] w (SizePost w) := by
  intro M
  induction M with
  | zero => intro l h; omega
  | succ M ih =>
    intro l hM k ak an sa al bk bn sb bl Aa ca Ab cb Al cl w ra rb rl b2 b4 b5
    obtain ⟨z, hz⟩ : ∃ z, z = l.length := ⟨_, rfl⟩
    have HH := Lib.hid (And.intro rl (And.intro ih (And.intro hM hz)))
    rw [← hz] at b5 ⊢
    obtain ⟨W1, hW1⟩ : ∃ W1, W1 = w.alloc (condC2 k ak an ⟨sa.toArray⟩ (.slice Aa al.length ca) bk bn ⟨sb.toArray⟩ (.slice Ab bl.length cb) (.slice Al z cl)) := ⟨_, rfl⟩
    have HB0 : Hid (Below w.heap.size w W1) := Lib.hid (by rw [hW1]; exact below_alloc w _)
    have HB1 : Hid (W1.heap[w.heap.size]? = some (condC2 k ak an ⟨sa.toArray⟩ (.slice Aa al.length ca) bk bn ⟨sb.toArray⟩ (.slice Ab bl.length cb) (.slice Al z cl))) := Lib.hid (by rw [hW1]; exact heap_of_alloc w _)
    obtain ⟨S, hS⟩ : ∃ S : World → Prop, S = fun W => Below W1.heap.size W1 W := ⟨_, rfl⟩
    have HS2 : Hid (∀ W, Below W1.heap.size W1 W → S W) := Lib.hid (fun W hb => by rw [hS]; exact hb)
    have HSo : Hid (∀ W, S W → W.cell? ⟨w.heap.size, 1, none⟩ = some (.int .i64 ak) ∧ W.cell? ⟨w.heap.size, 2, none⟩ = some (.int .i64 an) ∧ W.cell? ⟨w.heap.size, 3, none⟩ = some (.string ⟨sa.toArray⟩) ∧ W.cell? ⟨w.heap.size, 4, none⟩ = some (.slice Aa al.length ca) ∧
        W.cell? ⟨w.heap.size, 5, none⟩ = some (.int .i64 bk) ∧ W.cell? ⟨w.heap.size, 6, none⟩ = some (.int .i64 bn) ∧ W.cell? ⟨w.heap.size, 7, none⟩ = some (.string ⟨sb.toArray⟩) ∧ W.cell? ⟨w.heap.size, 8, none⟩ = some (.slice Ab bl.length cb)) := Lib.hid (fun W hs => by
      rw [hS] at hs
      obtain ⟨_, t1, t2, t3, t4, t5, t6, t7, t8, _⟩ := all10 (kept_box hs HB1.out)
      exact ⟨t1, t2, t3, t4, t5, t6, t7, t8⟩)
    have HCa : Hid (∀ W, Below w.heap.size w W → Calls Tryd.prog 25 #[exprV ak an ⟨sa.toArray⟩ (.slice Aa al.length ca)] W (SizePost W)) := Lib.hid (fun W hb => size_any ak an sa al Aa ca W (ra.on hb) b2)
    have HCb : Hid (∀ W, Below w.heap.size w W → Calls Tryd.prog 25 #[exprV bk bn ⟨sb.toArray⟩ (.slice Ab bl.length cb)] W (SizePost W)) := Lib.hid (fun W hb => size_any bk bn sb bl Ab cb W (rb.on hb) b4)
    have HX0 := Lib.hid (Below.refl W1.heap.size W1).drew1
    have hmx : Tryd.prog.follows .mixedOrders = true := by kernel_rfl
    clear rl ih hM hz hS ra rb
    unfold maxLen at b5
    go_enter Tryd.func14, Tryd.ntmps14
    go_wp2
    rw [← hW1]
    clear hW1
    refine wp_region_held (S := S) hmx ?_
    change wpAnyH _ _ _ _ _ 8 #[false, false, false, false, false, false, false, false] _ W1.drew
    have g0 := HS2.out _ HX0.out
    refine tk 0 6 (.pointer (some ⟨w.heap.size, 1, none⟩)) g0 ?v ?_
    case v => intro Wx hSx; go_simp
    refine tk 1 7 (exprV ak an ⟨sa.toArray⟩ (.slice Aa al.length ca)) g0 ?v ?_
    case v => intro Wx hSx; obtain ⟨q1, q2, q3, q4, q5, q6, q7, q8⟩ := HSo.out Wx hSx; go_simp
    refine tk 3 9 (.pointer (some ⟨w.heap.size, 5, none⟩)) g0 ?v ?_
    case v => intro Wx hSx; go_simp
    refine tk 4 10 (exprV bk bn ⟨sb.toArray⟩ (.slice Ab bl.length cb)) g0 ?v ?_
    case v => intro Wx hSx; obtain ⟨q1, q2, q3, q4, q5, q6, q7, q8⟩ := HSo.out Wx hSx; go_simp
    try simp only [Act.put, List.setIfInBounds_toArray, List.set_cons_zero, List.set_cons_succ]
    refine o1 2 (fun K hK => ?_)
    go_simp
    refine (HCa.out _ (HB0.out.next HX0.out)).mono ?_
    rintro e w2 ⟨r1, rfl, p0, p1, hb⟩
    have HX1 := Lib.hid (HX0.out.next hb)
    clear hb
    have g1 := HS2.out _ HX1.out
    refine hK _ _ g1 ?_
    clear hK K g0
    refine o1 5 (fun K hK => ?_)
    go_simp
    refine (HCb.out _ (HB0.out.next HX1.out)).mono ?_
    rintro e w3 ⟨r2, rfl, p2, p3, hb⟩
    have HX2 := Lib.hid (HX1.out.next hb)
    clear hb
    have g2 := HS2.out _ HX2.out
    refine hK _ _ g2 ?_
    clear hK K g1
    have hw0 : IntKind.i64.wrap (r1 + r2) = r1 + r2 := by rw [IntKind.wrap_i64]; omega
    refine tk 6 12 (.int .i64 (r1 + r2)) g2 ?v ?_
    case v => intro Wx hSx; go_simp; try rw [hw0]
    try simp only [Act.put, List.setIfInBounds_toArray, List.set_cons_zero, List.set_cons_succ]
    refine tk 7 3 (.int .i64 (r1 + r2)) g2 ?v ?_
    case v => intro Wx hSx; go_simp
    try simp only [Act.put, List.setIfInBounds_toArray, List.set_cons_zero, List.set_cons_succ]
    refine wpAnyH_done (by kernel_rfl) ?_ _
    have HB3 := Lib.hid (HB0.out.next HX2.out)
    have z9 := cell_of_block (kept_box HX2.out HB1.out) 9 (v := .slice Al z cl) rfl
    obtain ⟨r0, hr0⟩ : ∃ r0, r0 = r1 + r2 := ⟨_, rfl⟩
    rw [← hr0]
    have hr1 : 2 ≤ r0 ∧ r0 ≤ 402 := by omega
    clear hr0 hw0 g2
    go_wp2
    go_loopg [3, 16] z (fun m ac j wr => ∃ (i : Nat) (r : Int), m = z - i ∧ i ≤ z ∧ j = .int .i64 i ∧ ac = .int .i64 r ∧ 1 ≤ r ∧ r ≤ 402 ∧ Hid (Below w.heap.size w wr))
    case atStart => exact ⟨0, r0, rfl, Nat.zero_le _, rfl, rfl, by omega, by omega, HB3⟩
    case round =>
      obtain ⟨i, r, rfl, hi, rfl, rfl, hr0, hr1, HI⟩ := hrel
      by_cases hlt : i < z
      · have hii : (i : Int) < z := by omega
        obtain ⟨⟨k0, ⟨ak0, an0, sa0, al0⟩, ⟨bk0, bn0, sb0, bl0⟩, l0⟩, hg⟩ : ∃ x, l[i]? = some x := ⟨l[i]'(by rw [← HH.out.2.2.2]; exact hlt), List.getElem?_eq_getElem _⟩
        obtain ⟨a, Aa0, ca0, Ab0, cb0, Al0, cl0, rfl, hab, hcc, hlen, hra, hrb, hrl⟩ := cn_cells (HH.out.1.on HI.out) hg
        obtain ⟨q0, q1, q2, q3, q4, q5, q6, q7, q8, q9⟩ := hcc.flat
        have hsz : SizeOf.sizeOf l0 < M := by
          have h1 := HH.out.2.2.1
          have h2 := List.sizeOf_lt_of_mem (List.mem_of_getElem? hg)
          have h3 : SizeOf.sizeOf l0 < SizeOf.sizeOf (Cn.mk k0 (.mk ak0 an0 sa0 al0) (.mk bk0 bn0 sb0 bl0) l0) := by simp; omega
          omega
        have HJ := Lib.hid (below_alloc wr (condC2 k0 ak0 an0 ⟨sa0.toArray⟩ (.slice Aa0 al0.length ca0) bk0 bn0 ⟨sb0.toArray⟩ (.slice Ab0 bl0.length cb0) (.slice Al0 l0.length cl0)))
        have HC := Lib.hid (HH.out.2.1 l0 hsz k0 ak0 an0 sa0 al0 bk0 bn0 sb0 bl0 Aa0 ca0 Ab0 cb0 Al0 cl0 (wr.alloc (condC2 k0 ak0 an0 ⟨sa0.toArray⟩ (.slice Aa0 al0.length ca0) bk0 bn0 ⟨sb0.toArray⟩ (.slice Ab0 bl0.length cb0) (.slice Al0 l0.length cl0))) (hra.on HJ.out) (hrb.on HJ.out) (hrl.on HJ.out) hlen.2.1 hlen.2.2.2.1 hlen.2.2.2.2)
        have HLT := Lib.hid (And.intro trivial hlt)
        clear hcc hlen hra hrb hrl hg hsz
        by_cases hle : r ≤ 200
        · go_wp2_with fail
          refine HC.out.mono ?_
          rintro e w4 ⟨r', rfl, p4, p5, hb⟩
          have HB4 := Lib.hid (HI.out.next (HJ.out.next hb))
          clear hb
          have hw1 : IntKind.i64.wrap (r + r') = r + r' := by rw [IntKind.wrap_i64]; omega
          go_wp2
          go_roundg (z - (i + 1))
          case measure => have := HLT.out.2; omega
          case rel => exact ⟨i + 1, r + r', rfl, by have := HLT.out.2; omega, by go_num, rfl, by omega, by omega, HB4⟩
        · have HB4 := Lib.hid (HI.out.next HJ.out)
          go_wp2
          go_roundg (z - (i + 1))
          case measure => have := HLT.out.2; omega
          case rel => exact ⟨i + 1, r, rfl, by have := HLT.out.2; omega, by go_num, rfl, hr0, hr1, HB4⟩
      · obtain rfl : i = z := by omega
        have hlt' : ¬ (i : Int) < (i : Int) := by omega
        by_cases h201 : r ≤ 201
        · have hm : min r 201 = r := by omega
          go_wp2
          go_ret
          exact ⟨r, by simp, hr0, h201, HI.out⟩
        · have hm : min r 201 = 201 := by omega
          go_wp2
          go_ret
          exact ⟨201, by simp, by decide, by decide, HI.out⟩

theorem sizeOf_any (k ak an : Int) (sa : List UInt8) (al : List Ex) (bk bn : Int) (sb : List UInt8) (bl : List Ex) (l : List Cn) (Aa : Option Addr) (ca : Nat) (Ab : Option Addr) (cb : Nat) (Al : Option Addr) (cl : Nat) (w : World)
    (ra : ExRow w w.heap.size al Aa) (rb : ExRow w w.heap.size bl Ab) (rl : CnRow w w.heap.size l Al) (b2 : al.length ≤ maxLen) (b4 : bl.length ≤ maxLen) (b5 : l.length ≤ maxLen) :
    Calls Tryd.prog 14 #[condV2 k ak an ⟨sa.toArray⟩ (.slice Aa al.length ca) bk bn ⟨sb.toArray⟩ (.slice Ab bl.length cb) (.slice Al l.length cl)] w (SizePost w) :=
  sizeOf_by _ l (Nat.lt_succ_self _) k ak an sa al bk bn sb bl Aa ca Ab cb Al cl w ra rb rl b2 b4 b5

end Go.Proofs.YtbmejohoifpfhaaDoor
