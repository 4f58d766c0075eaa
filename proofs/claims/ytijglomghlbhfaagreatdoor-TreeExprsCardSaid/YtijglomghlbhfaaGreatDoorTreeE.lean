/-
  Copies of the example's statements; tree.Walk at the example's list.
-/
import Derived.Test.YtijglomghlbhfaaGreatDoorTreeD
namespace Go.Proofs.YtijglomghlbhfaaGreatDoor
open Go.RowKit

/-- A statement whose lists are all nil is its own copy. -/
theorem leaf_copy {cs : Array Value} {ek en ck ak bk : Int} (hS : NilSt cs ek en ck ak bk (.slice none 0 0)) (lv : Int) (w : World) (h : 1 ≤ lv) (h2 : lv ≤ 9223372036854775807) :
    Calls Tryz.prog 97 #[.agg cs, .int .i64 lv] w fun e w' => e = .returned (.agg cs) ∧ Below w.heap.size w w' := by
  refine (copyStmt_any (fun _ v _ => v = .slice none 0 0) (fun _ _ _ _ hv _ => hv) (fun _ _ _ _ hv _ => hv) cs ek en ck ak bk (.slice none 0 0) hS lv w h h2
    (fun W _ => (cs_nil lv W h h2).mono fun e w' ⟨he, hw⟩ => ⟨none, 0, 0, he, rfl, hw ▸ below_alloc _ _⟩)).mono fun e w' ⟨x, n, c, he, hv, hb⟩ => ⟨?_, hb⟩
  rw [he, hv, set_same hS.c22]

/-- The body: a row of one statement in new memory. -/
def OneRow (cs : Array Value) (B : Nat) (v : Value) (W : World) : Prop := ∃ (g : Nat) (cur : Array Value), v = .slice (some ⟨g, 0, none⟩) 1 1 ∧ B ≤ g ∧ W.heap[g]? = some (.cells cur 69 (0, 0)) ∧ cur.size = 24 ∧ cur = cs

theorem OneRow.part {cs : Array Value} {B : Nat} {v : Value} {W W' : World} (h : OneRow cs B v W) (hp : Part (fun b => b < B) W W') : OneRow cs B v W' := by
  obtain ⟨g, cur, hv, hg, hc, hs⟩ := h
  exact ⟨g, cur, hv, hg, (hp.block g (Array.getElem?_eq_some_iff.1 hc).1 (by omega)).trans hc, hs⟩

theorem OneRow.mono {cs : Array Value} {B B' : Nat} {v : Value} {W : World} (h : OneRow cs B v W) (hB : B' ≤ B) : OneRow cs B' v W := by
  obtain ⟨g, cur, hv, hg, hr⟩ := h
  exact ⟨g, cur, hv, Nat.le_trans hB hg, hr⟩

/-- A row of one leaf is copied into a new row of one leaf. -/
theorem one_copy {cs : Array Value} {ek en ck ak bk : Int} (hS : NilSt cs ek en ck ak bk (.slice none 0 0)) (a : Addr) (c : Nat) (lv : Int) (w : World) (h : 2 ≤ lv) (h2 : lv ≤ 9223372036854775807) (ha : a.block < w.heap.size)
    (hrow : ∀ (j : Nat) (v : Value), cs[j]? = some v → w.cell? (a.add j) = some v) :
    Calls Tryz.prog 95 #[.slice (some a) 1 c, .int .i64 lv] w fun e w' => ∃ x n c', e = .returned (.slice x n c') ∧ OneRow cs w.heap.size (.slice x n c') w' ∧ Below w.heap.size w w' := by
  refine (copyStmts_any (fun _ _ v _ => v = cs) (fun _ => ⟨fun _ _ _ _ hv _ => hv, fun _ _ _ _ hv _ => hv⟩) [cs] (fun d hd => by rw [List.mem_singleton.1 hd]; exact hS.h24) (fun i d hi => by
      have : d ∈ [cs] := List.mem_of_getElem? hi
      rw [List.mem_singleton.1 this]; exact hS.h1) a 1 c lv w (by omega) rfl ha (by omega) h2 (fun i d hi j v hv => by
      have hi0 : i = 0 := by have := (List.getElem?_eq_some_iff.1 hi).1; simpa using this
      subst hi0
      obtain rfl : cs = d := by simpa using hi
      rw [add_add_plain, show 0 * 24 + j = j by omega]
      exact hrow j v hv) (fun i d W hi hW => by
      have hm : d ∈ [cs] := List.mem_of_getElem? hi
      rw [List.mem_singleton.1 hm]
      exact (leaf_copy hS (lv - 1) W (by omega) (by omega)).mono fun e w' ⟨he, hb⟩ => ⟨cs, he, hS.h24, hS.h1, rfl, hb⟩)).mono fun e w' ⟨g, outs, he, hg, hc⟩ => ⟨_, _, _, he, ?_, hc.below⟩
  obtain ⟨cur, hcur, hsz, htk⟩ := hc.row
  refine ⟨g, cur, rfl, hg, hcur, hsz, ?_⟩
  have h1 : outs = [cs] := by
    match outs, hc.len, hc.rel with
    | [d], _, hr => rw [hr 0 d rfl]
  rw [h1] at htk
  have h24 : cur.toList.length = 24 := by simpa using hsz
  rw [List.take_of_length_le (by omega)] at htk
  have : cur.toList = cs.toList := by rw [htk]; simp [flatC]
  exact Array.toList_inj.1 this

/-- A statement with a body of one leaf. -/
theorem while_copy {cs cb : Array Value} {ek en ck ak bk ek2 en2 ck2 ak2 bk2 : Int} {a : Addr} {c : Nat} (hS : NilSt cs ek en ck ak bk (.slice (some a) 1 c)) (hSb : NilSt cb ek2 en2 ck2 ak2 bk2 (.slice none 0 0)) (lv : Int) (w : World) (h : 2 ≤ lv) (h2 : lv ≤ 9223372036854775807) (ha : a.block < w.heap.size)
    (hrow : ∀ (j : Nat) (v : Value), cb[j]? = some v → w.cell? (a.add j) = some v) :
    Calls Tryz.prog 97 #[.agg cs, .int .i64 lv] w fun e w' => ∃ v, e = .returned (.agg (cs.setIfInBounds 22 v)) ∧ OneRow cb w.heap.size v w' ∧ Below w.heap.size w w' := by
  refine (copyStmt_any (OneRow cb) (fun _ _ _ _ hv hp => hv.part hp) (fun _ _ _ _ hv hB => hv.mono hB) cs ek en ck ak bk (.slice (some a) 1 c) hS lv w (by omega) h2
    (fun W hW => one_copy hSb a c lv W h h2 (Nat.lt_of_lt_of_le ha hW.size) (fun j v hv => (hW.cell (by rw [show (a.add j).block = a.block by unfold Addr.add; split <;> rfl]; exact ha)).trans (hrow j v hv)))).mono fun e w' ⟨x, n, c', he, hv, hb⟩ => ⟨_, he, hv, hb⟩

theorem flatC_get {outs : List (Array Value)} (h : ∀ c ∈ outs, c.size = 24) : ∀ (i j : Nat) (cs : Array Value), outs[i]? = some cs → j < 24 → (flatC outs)[i * 24 + j]? = cs[j]? := by
  induction outs with
  | nil => intro i j cs hi; simp at hi
  | cons c outs ih =>
    intro i j cs hi hj
    have h1 := h c (List.mem_cons_self ..)
    have e : flatC (c :: outs) = c.toList ++ flatC outs := by unfold flatC; rw [List.flatMap_cons]
    rw [e]
    cases i with
    | zero =>
      obtain rfl : c = cs := by simpa using hi
      rw [List.getElem?_append_left (by rw [Array.length_toList]; omega)]
      simp
    | succ i =>
      rw [List.getElem?_append_right (by rw [Array.length_toList]; omega), Array.length_toList, h1, show (i + 1) * 24 + j - 24 = i * 24 + j by omega]
      exact ih (fun d hd => h d (List.mem_cons_of_mem _ hd)) i j cs (by simpa using hi) hj

theorem CpRow.cells {R : Nat → Nat → Array Value → World → Prop} {g n : Nat} {outs : List (Array Value)} {w W : World} (h : CpRow R g n n outs w W) (i : Nat) (cs : Array Value) (hi : outs[i]? = some cs) (j : Nat) (v : Value) (hv : cs[j]? = some v) :
    W.cell? (((⟨g, 0, none⟩ : Addr).add (i * 24)).add j) = some v := by
  obtain ⟨cur, hc, hs, ht⟩ := h.row
  have hj : j < 24 := by
    have := (Array.getElem?_eq_some_iff.1 hv).1
    rw [h.sz cs (List.mem_of_getElem? hi)] at this
    exact this
  rw [add_add_plain, add_block0]
  refine cell_of_block hc _ ?_
  have h1 := flatC_get h.sz i j cs hi hj
  rw [← ht, List.take_of_length_le (by rw [Array.length_toList]; omega)] at h1
  rw [← hv, ← h1]
  simp

/-- Of the first statement's copy: the body is new; the second is as it was. -/
def TwoR (csW csO csT : Array Value) (i B : Nat) (v : Array Value) (W : World) : Prop := if i = 0 then ∃ u, v = csW.setIfInBounds 22 u ∧ OneRow csO B u W else v = csT

theorem two_stays (csW csO csT : Array Value) (i : Nat) : Stays (TwoR csW csO csT i) := by
  unfold TwoR
  by_cases h : i = 0
  · simp only [if_pos h]
    exact ⟨fun _ _ _ _ ⟨u, hv, ho⟩ hp => ⟨u, hv, ho.part hp⟩, fun _ _ _ _ ⟨u, hv, ho⟩ hB => ⟨u, hv, ho.mono hB⟩⟩
  · simp only [if_neg h]
    exact ⟨fun _ _ _ _ hv _ => hv, fun _ _ _ _ hv _ => hv⟩

/-- What the copies of such a list are, in the order of the text. -/
theorem two_ord {csW csO csT : Array Value} {ek en ck ak bk ek2 en2 ck2 ak2 bk2 ek3 en3 ck3 ak3 bk3 : Int} {ab : Addr} {cb : Nat} (hW : NilSt csW ek en ck ak bk (.slice (some ab) 1 cb)) (hO : NilSt csO ek2 en2 ck2 ak2 bk2 (.slice none 0 0)) (hT : NilSt csT ek3 en3 ck3 ak3 bk3 (.slice none 0 0))
    {g : Nat} {outs : List (Array Value)} {w W : World} (hg : w.heap.size ≤ g) (h : CpRow (TwoR csW csO csT) g 2 2 outs w W) :
    ∃ (g1 : Nat), w.heap.size ≤ g1 ∧ g1 < W.heap.size ∧ W.heap[g1]? = some (.cells csO 69 (0, 0)) ∧ Ord W (fun b => b = g ∨ b = g1) (some ⟨g, 0, none⟩) 2 [csW.setIfInBounds 22 (.slice (some ⟨g1, 0, none⟩) 1 1), csO, csT] := by
  obtain ⟨v0, v1, rfl⟩ : ∃ v0 v1, outs = [v0, v1] := by
    match outs, h.len with
    | [v0, v1], _ => exact ⟨v0, v1, rfl⟩
  have r0 := h.rel 0 v0 rfl
  have r1 := h.rel 1 v1 rfl
  unfold TwoR at r0 r1
  rw [if_pos rfl] at r0
  rw [if_neg (by omega)] at r1
  obtain ⟨u, rfl, g1, cur, rfl, hg1, hcur, hcs, rfl⟩ := r0
  subst r1
  have hgs : g < W.heap.size := by
    obtain ⟨c0, hc0, _⟩ := h.row
    exact (Array.getElem?_eq_some_iff.1 hc0).1
  have hg1s := (Array.getElem?_eq_some_iff.1 hcur).1
  have hb : ((⟨g, 0, none⟩ : Addr).add 24).block = g := by rw [add_block0]
  refine ⟨g1, by omega, hg1s, hcur, ?_⟩
  refine Ord.cons ⟨g, 0, none⟩ 1 _ (some ⟨g1, 0, none⟩) none 1 0 1 0 [cur] [] [v1] (.inl rfl) hgs (h.sz _ (List.mem_cons_self ..)) (h.one _ (List.mem_cons_self ..)) (by decide) (by decide) (fun j v hv => ?_) ?_ ?_ ?_ (.nil none) ?_
  · have := h.cells 0 _ rfl j v hv
    rwa [show ((⟨g, 0, none⟩ : Addr).add (0 * 24)) = ⟨g, 0, none⟩ by simp [Addr.add]] at this
  · rw [Array.getElem?_setIfInBounds_self_of_lt (by rw [hW.h24]; omega)]
  · rw [Array.getElem?_setIfInBounds_ne (by omega)]; exact hW.c23
  · exact Ord.cons ⟨g1, 0, none⟩ 0 cur none none 0 0 0 0 [] [] [] (.inr rfl) hg1s hO.h24 hO.h1 (by decide) (by decide) (fun j v hv => by rw [add_block0]; exact cell_of_block hcur j hv) hO.c22 hO.c23 (.nil none) (.nil none) (.nil _)
  · exact Ord.cons _ 0 v1 none none 0 0 0 0 [] [] [] (.inl hb) (by rw [hb]; exact hgs) hT.h24 hT.h1 (by decide) (by decide) (fun j v hv => h.cells 1 v1 rfl j v hv) hT.c22 hT.c23 (.nil none) (.nil none) (.nil _)

set_option maxRecDepth 100000 in
set_option maxHeartbeats 4000000 in
/-- tree.Walk at a list of a statement with a body of one leaf, and a leaf. -/
theorem walk_two {csW csO csT : Array Value} {ek en ck ak bk ek2 en2 ck2 ak2 bk2 ek3 en3 ck3 ak3 bk3 : Int} {ab : Addr} {cb : Nat} (hW : NilSt csW ek en ck ak bk (.slice (some ab) 1 cb)) (hO : NilSt csO ek2 en2 ck2 ak2 bk2 (.slice none 0 0)) (hT : NilSt csT ek3 en3 ck3 ak3 bk3 (.slice none 0 0))
    (a : Addr) (c : Nat) (w : World) (ha : a.block < w.heap.size) (hab : ab.block < w.heap.size) (h0 : ∀ (j : Nat) (v : Value), csW[j]? = some v → w.cell? (a.add j) = some v) (h1 : ∀ (j : Nat) (v : Value), csT[j]? = some v → w.cell? ((a.add 24).add j) = some v) (hb : ∀ (j : Nat) (v : Value), csO[j]? = some v → w.cell? (ab.add j) = some v) :
    Calls Tryz.prog 40 #[.slice (some a) 2 c] w fun e w' => ∃ (b g g1 : Nat), e = .returned (.func (.func 96) #[] #[.pointer (some ⟨b, 0, none⟩)]) ∧ w'.cell? ⟨b, 0, none⟩ = some (.slice (some ⟨g, 0, none⟩) 2 2) ∧ b < w'.heap.size ∧ w.heap.size ≤ g ∧ g < w'.heap.size ∧ w.heap.size ≤ g1 ∧ g1 < w'.heap.size ∧ w'.heap[g1]? = some (.cells csO 69 (0, 0)) ∧
      Ord w' (fun b => b = g ∨ b = g1) (some ⟨g, 0, none⟩) 2 [csW.setIfInBounds 22 (.slice (some ⟨g1, 0, none⟩) 1 1), csO, csT] ∧ Below w.heap.size w w' := by
  have HC := Lib.hid (copyStmts_any (TwoR csW csO csT) (two_stays csW csO csT) [csW, csT] (fun d hd => by
      simp only [List.mem_cons, List.not_mem_nil, or_false] at hd
      rcases hd with rfl | rfl
      · exact hW.h24
      · exact hT.h24) (fun i d hi => by
      have hd : d ∈ [csW, csT] := List.mem_of_getElem? hi
      simp only [List.mem_cons, List.not_mem_nil, or_false] at hd
      rcases hd with rfl | rfl
      · exact hW.h1
      · exact hT.h1) a 2 c 9223372036854775807 w (by omega) rfl ha (by omega) (by omega) (fun i d hi j v hv => by
      match i, hi with
      | 0, hi =>
        obtain rfl : csW = d := by simpa using hi
        rw [show a.add (0 * 24) = a by simp [Addr.add]]
        exact h0 j v hv
      | 1, hi =>
        obtain rfl : csT = d := by simpa using hi
        exact h1 j v hv) (fun i d W hi hBW => by
      match i, hi with
      | 0, hi =>
        obtain rfl : csW = d := by simpa using hi
        exact (while_copy hW hO (9223372036854775807 - 1) W (by omega) (by omega) (Nat.lt_of_lt_of_le hab hBW.size) (fun j v hv => (hBW.cell (by rw [show (ab.add j).block = ab.block by unfold Addr.add; split <;> rfl]; exact hab)).trans (hb j v hv))).mono fun e w' ⟨v, he, hv, hbb⟩ =>
          ⟨_, he, by rw [Array.size_setIfInBounds]; exact hW.h24, (by obtain ⟨g, cur, rfl, _⟩ := hv; exact all_set hW.h1 _ _ _), (by unfold TwoR; rw [if_pos rfl]; exact ⟨v, rfl, hv⟩), hbb⟩
      | 1, hi =>
        obtain rfl : csT = d := by simpa using hi
        exact (leaf_copy hT (9223372036854775807 - 1) W (by omega) (by omega)).mono fun e w' ⟨he, hbb⟩ => ⟨csT, he, hT.h24, hT.h1, (by unfold TwoR; rw [if_neg (by omega)]), hbb⟩))
  have HS := Lib.hid (And.intro hW (And.intro hO hT))
  clear h0 h1 hb hW hO hT
  go_enter Tryz.func40, Tryz.ntmps40
  go_wp2_with (go_at_call 95; refine HC.out.mono ?_; rintro e w3 ⟨g, outs, rfl, hg, hcp⟩; have HP := Lib.hid (And.intro hg hcp); clear hg hcp)
  go_ret
  obtain ⟨g1, h1, h2, h3, ho⟩ := two_ord HS.out.1 HS.out.2.1 HS.out.2.2 HP.out.1 HP.out.2
  have hgs : g < w3.heap.size := by
    obtain ⟨c0, hc0, _⟩ := HP.out.2.row
    exact (Array.getElem?_eq_some_iff.1 hc0).1
  refine ⟨w3.heap.size, g, g1, rfl, cell_of_block (heap_of_alloc w3 _) 0 rfl, by rw [size_of_alloc]; omega, HP.out.1, by rw [size_of_alloc]; omega, h1, by rw [size_of_alloc]; omega, heap_keep h3, ho.keep (fun b hq => ?_) (fun b hq => ?_), HP.out.2.below.alloc HP.out.2.below.size _⟩
  · refine Below.heap_alloc w3 _ b ?_
    rcases hq with rfl | rfl
    · exact hgs
    · exact h2
  · rw [size_of_alloc]
    rcases hq with rfl | rfl <;> omega

end Go.Proofs.YtijglomghlbhfaaGreatDoor
