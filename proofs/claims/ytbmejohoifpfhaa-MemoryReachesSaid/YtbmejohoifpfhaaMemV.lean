/-
  Contract of memory.Valid.
-/
import Derived.Test.YtbmejohoifpfhaaMemQ
import Derived.Test.YtbmejohoifpfhaaMemB
import Derived.Deep.RegionWith
import Derived.Deep.LoopGhost
import Derived.Outline
namespace Go.Proofs.Ytbmejohoifpfhaa
open Go.RowKit

def UptoOk (l : List Bk) (k : Nat) : Prop := ∀ (i : Nat) x, i < k → l[i]? = some x → StepOk l i x

theorem uptoOk_zero (l : List Bk) : UptoOk l 0 := fun i _ hi => absurd hi (Nat.not_lt_zero i)

theorem UptoOk.next {l : List Bk} {k : Nat} {x : Bk} (h : UptoOk l k) (hx : l[k]? = some x) (hs : StepOk l k x) : UptoOk l (k + 1) := by
  intro i y hi hy
  by_cases he : i = k
  · subst he
    have : y = x := Option.some.inj (hy.symm.trans hx)
    subst this
    exact hs
  · exact h i y (by omega) hy

theorem UptoOk.all {l : List Bk} {k : Nat} (h : UptoOk l k) (hk : l.length ≤ k) (h100 : l.length ≤ 100) : MemOk l :=
  ⟨h100, fun i x hx => h i x (by have := (List.getElem?_eq_some_iff.1 hx).1; omega) hx⟩

theorem not_memOk {l : List Bk} {k : Nat} {x : Bk} (hx : l[k]? = some x) (hs : ¬ StepOk l k x) : ¬ MemOk l := fun h => hs (h.2 k x hx)

/-- Cells of a block in the spelling of the walk. -/
theorem BkAt.cells {w : World} {B : Nat} {a : Addr} {i : Nat} {x : Bk} {F : Option Addr} {c : Nat} (h : BkAt w B a i x F c) :
    w.cell? (a.add (i * 3)) = some (.int .i64 x.a) ∧ w.cell? ⟨(a.add (i * 3)).block, (a.add (i * 3)).off + 1, none⟩ = some (.string ⟨x.r.toArray⟩) ∧ w.cell? ⟨(a.add (i * 3)).block, (a.add (i * 3)).off + 2, none⟩ = some (.slice F x.f.length c) := ⟨h.c0, h.c1, h.c2⟩

set_option maxRecDepth 100000 in
set_option maxHeartbeats 4000000 in
theorem valid_any (A : Option Addr) (c n : Nat) (l : List Bk) (hn : n = l.length) (hl : n ≤ maxLen) (w : World) (hm : MemAt w w.heap.size A l) (r : Bool) (hr : Tells r (MemOk l)) :
    Calls Try.prog 18 #[.slice A n c] w fun e w' => e = .returned (.bool r) ∧ Below w.heap.size w w' := by
  have HM := Lib.hid (And.intro hm hn)
  have HR := Lib.hid hr
  unfold maxLen at hl
  clear hm hn hr
  by_cases h1 : 100 < n
  · have h1' : (100 : Int) < n := by omega
    go_enter Try.func18, Try.ntmps18
    go_wp2
    go_ret
    exact ⟨ret_no HR.out (fun h => by have := h.1; have := HM.out.2; omega), Below.refl _ _⟩
  have h1' : ¬ (100 : Int) < n := by omega
  go_enter Try.func18, Try.ntmps18
  go_wp2
  go_loopg [10] n (fun m j wr => ∃ k : Nat, m = n - k ∧ k ≤ n ∧ j = .int .i64 k ∧ Hid (Below w.heap.size w wr ∧ UptoOk l k))
  case atStart => exact ⟨0, rfl, Nat.zero_le _, rfl, Lib.hid ⟨Below.refl _ _, uptoOk_zero l⟩⟩
  case round =>
    obtain ⟨k, rfl, hk, rfl, HI⟩ := hrel
    by_cases hlt : k < n
    · have hlt' : (k : Int) < n := by omega
      obtain ⟨x, hx⟩ := mem_ex (l := l) (i := k) (by rw [← HM.out.2]; exact hlt)
      obtain ⟨a, F, c', rfl, hB⟩ := (HM.out.1.later HI.out.1) k x hx
      obtain ⟨c0, c1, c2⟩ := hB.cells
      have HX := Lib.hid (And.intro hx (And.intro hB.len hB.flds))
      have HBX := Lib.hid hB
      obtain ⟨vb, hvb⟩ := says (BkOk x)
      obtain ⟨xn, hxn⟩ : ∃ xn, xn = x.f.length := ⟨_, rfl⟩
      have HV : Hid (∀ W, Below wr.heap.size wr W → Calls Try.prog 39 #[.agg #[.int .i64 x.a, .string ⟨x.r.toArray⟩, .slice F xn c']] W fun e w' => e = .returned (.bool vb) ∧ Below W.heap.size W w') :=
        Lib.hid (fun W hW => by rw [hxn]; exact validBlock_any x F c' W HX.out.2.1 (HX.out.2.2.later hW) vb hvb)
      have HVB := Lib.hid hvb
      rw [← hxn] at c2
      obtain ⟨xa, hxa⟩ : ∃ xa, xa = x.a := ⟨_, rfl⟩
      obtain ⟨xr, hxr⟩ : ∃ xr, xr = x.r := ⟨_, rfl⟩
      rw [← hxa] at c0
      rw [← hxr] at c1
      rw [← hxa, ← hxr] at HV
      have HE := Lib.hid (And.intro hxa (And.intro hxr hxn))
      clear hx hB hvb hxn hxa hxr
      have c0' := c0
      obtain ⟨W1, hW1⟩ : ∃ W1, W1 = wr.alloc (.cells #[.int .i64 xa, .string ⟨xr.toArray⟩, .slice F xn c'] 42) := ⟨_, rfl⟩
      have HJ : Hid (Below wr.heap.size wr W1) := Lib.hid (by rw [hW1]; exact below_alloc wr _)
      obtain ⟨S, hS⟩ : ∃ S : World → Prop, S = fun W => Below W1.heap.size W1 W := ⟨_, rfl⟩
      have HS2 : Hid (∀ W, Below W1.heap.size W1 W → S W) := Lib.hid (fun W hb => by rw [hS]; exact hb)
      have HX0 := Lib.hid (Below.refl W1.heap.size W1).drew1
      have hmx : Try.prog.follows .mixedOrders = true := by kernel_rfl
      have HVW : Hid (∀ W, Below W1.heap.size W1 W → Calls Try.prog 39 #[.agg #[.int .i64 xa, .string ⟨xr.toArray⟩, .slice F xn c']] W fun e w' => e = .returned (.bool vb) ∧ Below W.heap.size W w') := Lib.hid (fun W hW => HV.out W (HJ.out.next hW))
      cases vb
      · have HSo : Hid (∀ W, S W → W.cell? ⟨wr.heap.size, 0, none⟩ = some (.int .i64 xa) ∧ W.cell? ⟨wr.heap.size, 1, none⟩ = some (.string ⟨xr.toArray⟩) ∧ W.cell? ⟨wr.heap.size, 2, none⟩ = some (.slice F xn c')) := Lib.hid (fun W hs => by
          rw [hS] at hs
          exact by subst hW1; exact ⟨box_at hs 0 _ rfl, box_at hs 1 _ rfl, box_at hs 2 _ rfl⟩)
        clear hS
        go_wp2
        rw [← hW1]
        clear hW1
        refine wp_region_held (S := S) hmx ?_
        change wpAnyH _ _ _ _ _ 18 #[false, false, false, false, false, false, false, false, false, false, false, false, false, false, false, false, false, false] _ W1.drew
        have g0 := HS2.out _ HX0.out
        refine tk 0 15 (.agg #[.int .i64 xa, .string ⟨xr.toArray⟩, .slice F xn c']) g0 ?v ?_
        case v => intro Wx hSx; obtain ⟨q0, q1, q2⟩ := HSo.out Wx hSx; go_simp
        refine o1 1 (fun K hK => ?_)
        go_simp
        refine (HVW.out _ HX0.out).mono ?_
        rintro e w1z ⟨rfl, hb⟩
        have HX1 := Lib.hid (HX0.out.next hb)
        clear hb
        have g1 := HS2.out _ HX1.out
        refine hK _ _ g1 ?_
        clear hK K g0
        refine tk 2 17 (.bool true) g1 ?v ?_
        case v => intro Wx hSx; go_simp
        refine tk 3 18 (.bool true) g1 ?v ?_
        case v => intro Wx hSx; go_simp
        try simp only [Act.put, List.setIfInBounds_toArray, List.set_cons_zero, List.set_cons_succ]
        refine sk 4 19 g1 ?_
        refine sk 5 20 g1 ?_
        refine sk 6 21 g1 ?_
        refine sk 7 22 g1 ?_
        try simp only [Act.put, List.setIfInBounds_toArray, List.set_cons_zero, List.set_cons_succ]
        refine sk 8 23 g1 ?_
        refine sk 9 24 g1 ?_
        refine sk 10 25 g1 ?_
        refine sk 11 26 g1 ?_
        try simp only [Act.put, List.setIfInBounds_toArray, List.set_cons_zero, List.set_cons_succ]
        refine sk 12 27 g1 ?_
        refine sk 13 28 g1 ?_
        refine sk 14 29 g1 ?_
        refine sk 15 30 g1 ?_
        try simp only [Act.put, List.setIfInBounds_toArray, List.set_cons_zero, List.set_cons_succ]
        refine sk 16 31 g1 ?_
        refine tk 17 32 (.bool true) g1 ?v ?_
        case v => intro Wx hSx; go_simp
        try simp only [Act.put, List.setIfInBounds_toArray, List.set_cons_zero, List.set_cons_succ]
        refine wpAnyH_done (by kernel_rfl) ?_ _
        have HB3 := Lib.hid (HI.out.1.next (HJ.out.next HX1.out))
        go_wp2
        go_ret
        exact ⟨ret_no HR.out (not_memOk HX.out.1 (fun h => HVB.out.f h.1)), HB3.out⟩
      · by_cases hk0 : k = 0
        · have hk0' : ¬ (0 : Int) < (k : Int) := by omega
          have HK := Lib.hid hk0
          clear hk0
          have HSo : Hid (∀ W, S W → W.cell? ⟨wr.heap.size, 0, none⟩ = some (.int .i64 xa) ∧ W.cell? ⟨wr.heap.size, 1, none⟩ = some (.string ⟨xr.toArray⟩) ∧ W.cell? ⟨wr.heap.size, 2, none⟩ = some (.slice F xn c')) := Lib.hid (fun W hs => by
            rw [hS] at hs
            exact by subst hW1; exact ⟨box_at hs 0 _ rfl, box_at hs 1 _ rfl, box_at hs 2 _ rfl⟩)
          clear hS
          go_wp2
          rw [← hW1]
          clear hW1
          refine wp_region_held (S := S) hmx ?_
          change wpAnyH _ _ _ _ _ 18 #[false, false, false, false, false, false, false, false, false, false, false, false, false, false, false, false, false, false] _ W1.drew
          have g0 := HS2.out _ HX0.out
          refine tk 0 15 (.agg #[.int .i64 xa, .string ⟨xr.toArray⟩, .slice F xn c']) g0 ?v ?_
          case v => intro Wx hSx; obtain ⟨q0, q1, q2⟩ := HSo.out Wx hSx; go_simp
          refine o1 1 (fun K hK => ?_)
          go_simp
          refine (HVW.out _ HX0.out).mono ?_
          rintro e w1z ⟨rfl, hb⟩
          have HX1 := Lib.hid (HX0.out.next hb)
          clear hb
          have g1 := HS2.out _ HX1.out
          refine hK _ _ g1 ?_
          clear hK K g0
          refine tk 2 17 (.bool false) g1 ?v ?_
          case v => intro Wx hSx; go_simp
          refine tk 3 18 (.bool false) g1 ?v ?_
          case v => intro Wx hSx; go_simp
          try simp only [Act.put, List.setIfInBounds_toArray, List.set_cons_zero, List.set_cons_succ]
          refine tk 4 19 (.int .i64 k) g1 ?v ?_
          case v => intro Wx hSx; go_simp
          refine tk 5 20 (.bool false) g1 ?v ?_
          case v => intro Wx hSx; go_simp; exact HK.out
          refine tk 6 21 (.bool false) g1 ?v ?_
          case v => intro Wx hSx; go_simp
          refine sk 7 22 g1 ?_
          try simp only [Act.put, List.setIfInBounds_toArray, List.set_cons_zero, List.set_cons_succ]
          refine sk 8 23 g1 ?_
          refine sk 9 24 g1 ?_
          refine sk 10 25 g1 ?_
          refine sk 11 26 g1 ?_
          try simp only [Act.put, List.setIfInBounds_toArray, List.set_cons_zero, List.set_cons_succ]
          refine sk 12 27 g1 ?_
          refine sk 13 28 g1 ?_
          refine sk 14 29 g1 ?_
          refine sk 15 30 g1 ?_
          try simp only [Act.put, List.setIfInBounds_toArray, List.set_cons_zero, List.set_cons_succ]
          refine tk 16 31 (.bool false) g1 ?v ?_
          case v => intro Wx hSx; go_simp
          refine tk 17 32 (.bool false) g1 ?v ?_
          case v => intro Wx hSx; go_simp
          try simp only [Act.put, List.setIfInBounds_toArray, List.set_cons_zero, List.set_cons_succ]
          refine wpAnyH_done (by kernel_rfl) ?_ _
          have HB3 := Lib.hid (HI.out.1.next (HJ.out.next HX1.out))
          go_wp2
          go_roundg (n - (k + 1))
          case measure => omega
          case rel => exact ⟨k + 1, rfl, by omega, by go_num, Lib.hid ⟨HB3.out, HI.out.2.next HX.out.1 ⟨HVB.out.t, fun y h0 => absurd h0 (by have := HK.out; omega)⟩⟩⟩
        · obtain ⟨j, rfl⟩ : ∃ j, k = j + 1 := ⟨k - 1, by omega⟩
          clear hk0
          obtain ⟨y, hy⟩ := mem_ex (l := l) (i := j) (by rw [← HM.out.2]; omega)
          obtain ⟨a', F', c'', ha, hBy⟩ := (HM.out.1.later HI.out.1) j y hy
          obtain rfl : a = a' := Option.some.inj ha
          have HY := Lib.hid (And.intro hy hBy)
          obtain ⟨ya, hya⟩ : ∃ ya, ya = y.a := ⟨_, rfl⟩
          have HYA := Lib.hid hya
          rw [show ((j + 1 : Nat) : Int) = (j : Int) + 1 from by omega]
          have hj : (j : Int) + 1 < n := by omega
          have hjn : (0 : Int) < (j : Int) + 1 := by omega
          have hj0 : (j : Int) < n := by omega
          have hj00 : (0 : Int) ≤ (j : Int) + 1 := by omega
          have htn : ((j : Int) + 1).toNat = j + 1 := by omega
          have hjm : j ≤ 9223372036854775807 := by omega
          clear ha hy hBy hya hlt'
          by_cases hlty : ya < xa
          · have HSo : Hid (∀ W, S W → W.cell? ⟨wr.heap.size, 0, none⟩ = some (.int .i64 xa) ∧ W.cell? ⟨wr.heap.size, 1, none⟩ = some (.string ⟨xr.toArray⟩) ∧ W.cell? ⟨wr.heap.size, 2, none⟩ = some (.slice F xn c') ∧ W.cell? (a.add (j * 3)) = some (.int .i64 ya)) := Lib.hid (fun W hs => by
              rw [hS] at hs
              exact ⟨(by subst hW1; exact box_at hs 0 _ rfl), (by subst hW1; exact box_at hs 1 _ rfl), (by subst hW1; exact box_at hs 2 _ rfl), (by rw [HYA.out]; exact ((HJ.out.next hs).cell (by rw [blk_add]; exact HY.out.2.lt)).trans HY.out.2.c0)⟩)
            clear hS
            go_wp2
            rw [← hW1]
            clear hW1
            refine wp_region_held (S := S) hmx ?_
            change wpAnyH _ _ _ _ _ 18 #[false, false, false, false, false, false, false, false, false, false, false, false, false, false, false, false, false, false] _ W1.drew
            have g0 := HS2.out _ HX0.out
            refine tk 0 15 (.agg #[.int .i64 xa, .string ⟨xr.toArray⟩, .slice F xn c']) g0 ?v ?_
            case v => intro Wx hSx; obtain ⟨q0, q1, q2, q3⟩ := HSo.out Wx hSx; go_simp
            refine o1 1 (fun K hK => ?_)
            go_simp
            refine (HVW.out _ HX0.out).mono ?_
            rintro e w1z ⟨rfl, hb⟩
            have HX1 := Lib.hid (HX0.out.next hb)
            clear hb
            have g1 := HS2.out _ HX1.out
            refine hK _ _ g1 ?_
            clear hK K g0
            refine tk 2 17 (.bool false) g1 ?v ?_
            case v => intro Wx hSx; go_simp
            refine tk 3 18 (.bool false) g1 ?v ?_
            case v => intro Wx hSx; go_simp
            try simp only [Act.put, List.setIfInBounds_toArray, List.set_cons_zero, List.set_cons_succ]
            refine tk 4 19 (.int .i64 ((j : Int) + 1)) g1 ?v ?_
            case v => intro Wx hSx; go_simp
            refine tk 5 20 (.bool true) g1 ?v ?_
            case v => intro Wx hSx; go_simp
            refine tk 6 21 (.bool true) g1 ?v ?_
            case v => intro Wx hSx; go_simp
            refine tk 7 22 (.slice (some a) n c) g1 ?v ?_
            case v => intro Wx hSx; go_simp
            try simp only [Act.put, List.setIfInBounds_toArray, List.set_cons_zero, List.set_cons_succ]
            refine tk 8 23 (.int .i64 ((j : Int) + 1)) g1 ?v ?_
            case v => intro Wx hSx; go_simp
            refine tk 9 24 (.int .i64 j) g1 ?v ?_
            case v => intro Wx hSx; go_simp; exact wrap_nat hjm
            refine tk 10 25 (.pointer (some (a.add (j * 3)))) g1 ?v ?_
            case v => intro Wx hSx; go_simp
            refine tk 11 26 (.pointer (some (a.add (j * 3)))) g1 ?v ?_
            case v => intro Wx hSx; go_simp
            try simp only [Act.put, List.setIfInBounds_toArray, List.set_cons_zero, List.set_cons_succ]
            refine tk 12 27 (.int .i64 ya) g1 ?v ?_
            case v => intro Wx hSx; obtain ⟨q0, q1, q2, q3⟩ := HSo.out Wx hSx; go_simp
            refine tk 13 28 (.pointer (some ⟨wr.heap.size, 0, none⟩)) g1 ?v ?_
            case v => intro Wx hSx; go_simp
            refine tk 14 29 (.int .i64 xa) g1 ?v ?_
            case v => intro Wx hSx; obtain ⟨q0, q1, q2, q3⟩ := HSo.out Wx hSx; go_simp
            refine tk 15 30 (.bool false) g1 ?v ?_
            case v => intro Wx hSx; go_simp
            try simp only [Act.put, List.setIfInBounds_toArray, List.set_cons_zero, List.set_cons_succ]
            refine tk 16 31 (.bool false) g1 ?v ?_
            case v => intro Wx hSx; go_simp
            refine tk 17 32 (.bool false) g1 ?v ?_
            case v => intro Wx hSx; go_simp
            try simp only [Act.put, List.setIfInBounds_toArray, List.set_cons_zero, List.set_cons_succ]
            refine wpAnyH_done (by kernel_rfl) ?_ _
            have HB3 := Lib.hid (HI.out.1.next (HJ.out.next HX1.out))
            go_wp2
            go_roundg (n - (j + 1 + 1))
            case measure => omega
            case rel => exact ⟨j + 1 + 1, rfl, by omega, by go_num, Lib.hid ⟨HB3.out, HI.out.2.next HX.out.1 ⟨HVB.out.t, fun z h0 hz => by
              have hzy : z = y := Option.some.inj ((show l[j]? = some z from hz).symm.trans HY.out.1)
              rw [hzy, ← HYA.out, ← HE.out.1]; exact hlty⟩⟩⟩
          · have HSo : Hid (∀ W, S W → W.cell? ⟨wr.heap.size, 0, none⟩ = some (.int .i64 xa) ∧ W.cell? ⟨wr.heap.size, 1, none⟩ = some (.string ⟨xr.toArray⟩) ∧ W.cell? ⟨wr.heap.size, 2, none⟩ = some (.slice F xn c') ∧ W.cell? (a.add (j * 3)) = some (.int .i64 ya)) := Lib.hid (fun W hs => by
              rw [hS] at hs
              exact ⟨(by subst hW1; exact box_at hs 0 _ rfl), (by subst hW1; exact box_at hs 1 _ rfl), (by subst hW1; exact box_at hs 2 _ rfl), (by rw [HYA.out]; exact ((HJ.out.next hs).cell (by rw [blk_add]; exact HY.out.2.lt)).trans HY.out.2.c0)⟩)
            clear hS
            go_wp2
            rw [← hW1]
            clear hW1
            refine wp_region_held (S := S) hmx ?_
            change wpAnyH _ _ _ _ _ 18 #[false, false, false, false, false, false, false, false, false, false, false, false, false, false, false, false, false, false] _ W1.drew
            have g0 := HS2.out _ HX0.out
            refine tk 0 15 (.agg #[.int .i64 xa, .string ⟨xr.toArray⟩, .slice F xn c']) g0 ?v ?_
            case v => intro Wx hSx; obtain ⟨q0, q1, q2, q3⟩ := HSo.out Wx hSx; go_simp
            refine o1 1 (fun K hK => ?_)
            go_simp
            refine (HVW.out _ HX0.out).mono ?_
            rintro e w1z ⟨rfl, hb⟩
            have HX1 := Lib.hid (HX0.out.next hb)
            clear hb
            have g1 := HS2.out _ HX1.out
            refine hK _ _ g1 ?_
            clear hK K g0
            refine tk 2 17 (.bool false) g1 ?v ?_
            case v => intro Wx hSx; go_simp
            refine tk 3 18 (.bool false) g1 ?v ?_
            case v => intro Wx hSx; go_simp
            try simp only [Act.put, List.setIfInBounds_toArray, List.set_cons_zero, List.set_cons_succ]
            refine tk 4 19 (.int .i64 ((j : Int) + 1)) g1 ?v ?_
            case v => intro Wx hSx; go_simp
            refine tk 5 20 (.bool true) g1 ?v ?_
            case v => intro Wx hSx; go_simp
            refine tk 6 21 (.bool true) g1 ?v ?_
            case v => intro Wx hSx; go_simp
            refine tk 7 22 (.slice (some a) n c) g1 ?v ?_
            case v => intro Wx hSx; go_simp
            try simp only [Act.put, List.setIfInBounds_toArray, List.set_cons_zero, List.set_cons_succ]
            refine tk 8 23 (.int .i64 ((j : Int) + 1)) g1 ?v ?_
            case v => intro Wx hSx; go_simp
            refine tk 9 24 (.int .i64 j) g1 ?v ?_
            case v => intro Wx hSx; go_simp; exact wrap_nat hjm
            refine tk 10 25 (.pointer (some (a.add (j * 3)))) g1 ?v ?_
            case v => intro Wx hSx; go_simp
            refine tk 11 26 (.pointer (some (a.add (j * 3)))) g1 ?v ?_
            case v => intro Wx hSx; go_simp
            try simp only [Act.put, List.setIfInBounds_toArray, List.set_cons_zero, List.set_cons_succ]
            refine tk 12 27 (.int .i64 ya) g1 ?v ?_
            case v => intro Wx hSx; obtain ⟨q0, q1, q2, q3⟩ := HSo.out Wx hSx; go_simp
            refine tk 13 28 (.pointer (some ⟨wr.heap.size, 0, none⟩)) g1 ?v ?_
            case v => intro Wx hSx; go_simp
            refine tk 14 29 (.int .i64 xa) g1 ?v ?_
            case v => intro Wx hSx; obtain ⟨q0, q1, q2, q3⟩ := HSo.out Wx hSx; go_simp
            refine tk 15 30 (.bool true) g1 ?v ?_
            case v => intro Wx hSx; go_simp
            try simp only [Act.put, List.setIfInBounds_toArray, List.set_cons_zero, List.set_cons_succ]
            refine tk 16 31 (.bool true) g1 ?v ?_
            case v => intro Wx hSx; go_simp
            refine tk 17 32 (.bool true) g1 ?v ?_
            case v => intro Wx hSx; go_simp
            try simp only [Act.put, List.setIfInBounds_toArray, List.set_cons_zero, List.set_cons_succ]
            refine wpAnyH_done (by kernel_rfl) ?_ _
            have HB3 := Lib.hid (HI.out.1.next (HJ.out.next HX1.out))
            go_wp2
            go_ret
            exact ⟨ret_no HR.out (not_memOk HX.out.1 (fun h => by have := h.2 y (by omega) HY.out.1; rw [← HYA.out, ← HE.out.1] at this; omega)), HB3.out⟩
    · have hlt' : ¬ (k : Int) < n := by omega
      go_wp2
      go_ret
      exact ⟨ret_yes HR.out (HI.out.2.all (by rw [← HM.out.2]; omega) (by rw [← HM.out.2]; omega)), HI.out.1⟩

end Go.Proofs.Ytbmejohoifpfhaa
