/-
  copyStmts' literal: a copy of a statement, a level further in. copyList at statements, with copyStmts' literal: a new row of copies. Copies of the example's statements; tree.Walk at the example's list.
  inOrder's iterator: its contract for any list of statements.
-/
import Derived.Test.YtllfkgggolfojaaGreatDoorTreeB
import Derived.OwnWalk
import Derived.Test.YtllfkgggolfojaaGreatDoorTreeAp
import Derived.Shelf.Abstract
import Derived.Shelf.RegionOpen
namespace Go.Proofs.YtllfkgggolfojaaGreatDoor
open Go.RowKit

/-- What holds of a copy: it speaks of blocks from B on, whatever turns below. -/
structure Stays (R : Nat → Array Value → World → Prop) : Prop where
  part : ∀ B v W W', R B v W → Part (fun b => b < B) W W' → R B v W'
  mono : ∀ B B' v W, R B v W → B' ≤ B → R B' v W

theorem load_new {W : World} {cs : Array Value} {t : TypeId} {N b : Nat} (h : W.heap[b]? = some (.cells cs t (0, 0))) (hN : cs.size = N) : (loadCellsFrom ⟨b, 0, none⟩ 0 N #[]).run Tryz.prog W = .ok cs W :=
  load_list (a := ⟨b, 0, none⟩) (fun j v hv => by rw [add_block0]; exact cell_of_block h j hv) hN

theorem part_row {W : World} {b B : Nat} (cs : Array Value) (hb : b < B) : Part (fun k => k < B) W (W.setRow b cs) :=
  ⟨rfl, rfl, rfl, by simp, fun k hk hn => by
    have hne : k ≠ b := by omega
    simp only [World.setRow, Array.getElem?_modify]
    rw [if_neg (by omega)]⟩

set_option maxRecDepth 100000 in
set_option maxHeartbeats 4000000 in
theorem cs1_any (R : Nat → Array Value → World → Prop) (hR : Stays R) (cs : Array Value) (h24 : cs.size = 24) (lv : Int) (p : Nat) (w : World) (hp : w.cell? ⟨p, 0, none⟩ = some (.int .i64 lv)) (hpl : p < w.heap.size) (h : 1 ≤ lv) (h2 : lv ≤ 9223372036854775807)
    (hC : ∀ W, Below w.heap.size w W → Calls Tryz.prog 32 #[.agg cs, .int .i64 (lv - 1)] W fun e w' => ∃ cs' : Array Value, e = .returned (.agg cs') ∧ cs'.size = 24 ∧ cs'.all (·.oneCell') = true ∧ R W.heap.size cs' w' ∧ Below W.heap.size W w') :
    Calls Tryz.prog 54 #[.agg cs, .pointer (some ⟨p, 0, none⟩)] w fun e w' => ∃ cs' : Array Value, e = .returned (.agg cs') ∧ cs'.size = 24 ∧ cs'.all (·.oneCell') = true ∧ R w.heap.size cs' w' ∧ Below w.heap.size w w' := by
  obtain ⟨T, N, zc, hT, hN, hzc, hag, hsz, hzv⟩ := stmt_hidden2
  have e1 : ∀ y : Operand, Op.load 44 y = Op.load T y := fun y => by rw [hT]
  have e2 : ∀ y z : Operand, Op.store 44 y z = Op.store T y z := fun y z => by rw [hT]
  have e3 : Op.alloc 44 = Op.alloc T := by rw [hT]
  have e4 : ∀ y : Operand, Op.box 44 y = Op.box T y := fun y => by rw [hT]
  have hszc : cs.size = N := h24.trans hN.symm
  have hb1 := heap_of_alloc w (.cells cs T)
  have hb2 := heap_keep (o := .cells zc T) hb1
  have hb3 := heap_alloc2_new w (.cells cs T) (.cells zc T)
  have hld := load_new hb2 hszc
  have hld1 := load_new hb1 hszc
  have hlb := blw (o := .cells zc T) (blw (o := .cells cs T) (Below.refl w.heap.size w))
  have HH := Lib.hid (And.intro hC (And.intro hR (And.intro hN (And.intro hT (And.intro hb3 hlb)))))
  have hl1 : lv - 1 ≤ 9223372036854775807 := by omega
  have hl0 : -9223372036854775808 ≤ lv - 1 := by omega
  clear hC hR hN hb1 hb2 hb3 hlb h24
  go_enter Tryz.func54, Tryz.ntmps54
  simp only [e1, e2, e3, e4]
  clear e1 e2 e3 e4 hT
  go_wp2_with (go_at_call 32; refine (HH.out.1 _ HH.out.2.2.2.2.2).mono ?_; rintro e w3 ⟨cs2, rfl, h24', h1', hr, hb⟩; have hres := kept_box (b := w.heap.size + 1) (o := .cells zc T (0, 0)) hb HH.out.2.2.2.2.1; have hst := store_cells (cs := cs2) hres (hzc.trans (h24'.trans HH.out.2.2.1.symm).symm) h1'; have hsz2 : cs2.size = N := h24'.trans HH.out.2.2.1.symm; have HBR := Lib.hid (And.intro hres (And.intro hr (And.intro hb (And.intro h24' h1')))); clear hres hr hb h24' h1')
  refine bodyPost_ret (results_cell_row rfl _ _ (w.heap.size + 1) T cs2 (0, 0) _ rfl (setRow_heap _ _ zc _ _ _ HBR.out.1) Tryz.underlying44 rfl (by rw [hsz2, HH.out.2.2.1]; kernel_rfl)) rfl ?_
  have hz2 : w.heap.size + 1 < ((w.alloc (.cells cs T)).alloc (.cells zc T)).heap.size := (Array.getElem?_eq_some_iff.1 HH.out.2.2.2.2.1).1
  refine ⟨cs2, rfl, HBR.out.2.2.2.1, HBR.out.2.2.2.2, ?_, below_setRow (HH.out.2.2.2.2.2.chain HBR.out.2.2.1) (Nat.le_succ _) cs2⟩
  refine HH.out.2.1.mono _ _ _ _ (HH.out.2.1.part _ _ _ _ HBR.out.2.1 (part_row cs2 hz2)) (by omega)

end Go.Proofs.YtllfkgggolfojaaGreatDoor

namespace Go.Proofs.YtllfkgggolfojaaGreatDoor
open Go.RowKit

theorem infoStmt : (Tryz.prog.info? 44).map (fun i => (i.zero, i.size, i.bytes)) = some (some (.agg #[.int .i64 0, .int .i64 0, .int .i64 0, .string ⟨#[]⟩, .string ⟨#[]⟩, .string ⟨#[]⟩, .int .i64 0, .int .i64 0, .string ⟨#[]⟩, .slice none 0 0, .int .i64 0, .int .i64 0, .int .i64 0, .string ⟨#[]⟩, .slice none 0 0, .int .i64 0, .int .i64 0, .string ⟨#[]⟩, .slice none 0 0, .slice none 0 0, .slice none 0 0, .slice none 0 0, .slice none 0 0, .slice none 0 0]), 24, 368) := by kernel_rfl

/-- The cells of the copies, one after the other. -/
def flatC (outs : List (Array Value)) : List Value := outs.flatMap (·.toList)

theorem flatC_len {outs : List (Array Value)} (h : ∀ c ∈ outs, c.size = 24) : (flatC outs).length = outs.length * 24 := by
  induction outs with
  | nil => rfl
  | cons c outs ih =>
    have h1 := h c (List.mem_cons_self ..)
    have h2 := ih fun d hd => h d (List.mem_cons_of_mem _ hd)
    unfold flatC at h2 ⊢
    rw [List.flatMap_cons, List.length_append, h2, Array.length_toList, h1, List.length_cons]
    omega

/-- Behind k rounds: the row of the copies. -/
structure CpRow (R : Nat → Nat → Array Value → World → Prop) (g n k : Nat) (outs : List (Array Value)) (w W : World) : Prop where
  len : outs.length = k
  sz : ∀ c ∈ outs, c.size = 24
  one : ∀ c ∈ outs, c.all (·.oneCell') = true
  row : ∃ cur : Array Value, W.heap[g]? = some (.cells cur 44 (0, 0)) ∧ cur.size = n * 24 ∧ cur.toList.take (k * 24) = flatC outs
  rel : ∀ i c, outs[i]? = some c → R i (g + 1) c W
  below : Below w.heap.size w W

theorem stored_take (cur : List Value) (k n : Nat) (cs : List Value) (fl : List Value) (hc : cur.length = n * 24) (hk : k < n) (h24 : cs.length = 24) (ht : cur.take (k * 24) = fl) :
    (cur.take (k * 24) ++ cs ++ cur.drop (k * 24 + 24)).length = n * 24 ∧ (cur.take (k * 24) ++ cs ++ cur.drop (k * 24 + 24)).take ((k + 1) * 24) = fl ++ cs := by
  have h1 : (cur.take (k * 24)).length = k * 24 := by rw [List.length_take]; omega
  constructor
  · simp only [List.length_append, List.length_drop, h1, h24, hc]
    omega
  · rw [List.take_append_of_le_length (by rw [List.length_append, h1, h24]; omega), List.take_of_length_le (by rw [List.length_append, h1, h24]; omega), ht]

theorem CpRow.next {R : Nat → Nat → Array Value → World → Prop} (hR : ∀ i, Stays (R i)) {g n k : Nat} {outs : List (Array Value)} {w W W3 : World} (h : CpRow R g n k outs w W) (hk : k < n) (hgw : g = w.heap.size) {cs : Array Value} (h24 : cs.size = 24) (h1 : cs.all (·.oneCell') = true)
    (hb : Below W.heap.size W W3) (hr : R k (g + 1) cs W3) : ∃ W4, (storeCells ⟨g, k * 24, none⟩ cs.toList).run Tryz.prog W3 = .ok () W4 ∧ CpRow R g n (k + 1) (outs ++ [cs]) w W4 := by
  obtain ⟨cur, hc, hs, ht⟩ := h.row
  have hc3 := kept_box hb hc
  have hrun := run_storeCells_at (P := Tryz.prog) g (k * 24) 44 cs.toList 0 cur W3 hc3 (by rw [Array.length_toList, h24, hs]; omega) (fun v hv => (Array.all_eq_true_iff_forall_mem.1 h1) v (by simpa using hv))
  refine ⟨_, hrun, ?_⟩
  obtain ⟨l1, l2⟩ := stored_take cur.toList k n cs.toList (flatC outs) (by simpa using hs) hk (by simpa using h24) ht
  have hpart : ∀ cells : Array Value, Part (fun b => b < g + 1) W3 (W3.setRow g cells) := fun cells => part_row cells (Nat.lt_succ_self g)
  refine ⟨by rw [List.length_append, h.len]; rfl, fun c hm => ?_, fun c hm => ?_, ⟨_, setRow_heap _ _ cur _ _ _ hc3, ?_, ?_⟩, fun i c hi => ?_, below_setRow (h.below.trans (hb.mono h.below.size)) (by omega) _⟩
  · rcases List.mem_append.1 hm with hm | hm
    · exact h.sz c hm
    · rw [List.mem_singleton.1 hm]; exact h24
  · rcases List.mem_append.1 hm with hm | hm
    · exact h.one c hm
    · rw [List.mem_singleton.1 hm]; exact h1
  · rw [Array.length_toList, h24] 
    simp only [Nat.add_zero, List.size_toArray]
    exact l1
  · rw [Array.length_toList, h24]
    simp only [Nat.add_zero]
    rw [l2]
    unfold flatC
    rw [List.flatMap_append]
    simp
  · by_cases hik : i < outs.length
    · rw [List.getElem?_append_left hik] at hi
      have h0 := (hR i).part _ _ _ _ (h.rel i c hi) (Part.of_below hb)
      exact (hR i).part _ _ _ _ h0 (hpart _)
    · rw [List.getElem?_append_right (by omega)] at hi
      have hi0 : i = k := by
        have := (List.getElem?_eq_some_iff.1 hi).1
        simp at this
        have := h.len
        omega
      subst hi0
      rw [h.len, Nat.sub_self] at hi
      obtain rfl : cs = c := by simpa using hi
      exact (hR i).part _ _ _ _ hr (hpart _)

theorem store_fresh {w : World} {t : TypeId} {zc cs : Array Value} (hs : zc.size = cs.size) (h1 : cs.all (·.oneCell') = true) : (storeCells ⟨w.heap.size, 0, none⟩ cs.toList).run Tryz.prog (w.alloc (.cells zc t)) = .ok () (w.alloc (.cells cs t)) := by
  have := store_cells (b := w.heap.size) (heap_of_alloc w (.cells zc t)) hs h1
  rw [World.setRow_alloc_new] at this
  exact this

set_option maxRecDepth 100000 in
set_option maxHeartbeats 4000000 in
theorem copyList_any (R : Nat → Nat → Array Value → World → Prop) (hR : ∀ i, Stays (R i)) (ins : List (Array Value)) (hin : ∀ c ∈ ins, c.size = 24) (hin1 : ∀ (i : Nat) (c : Array Value), ins[i]? = some c → c.all (·.oneCell') = true) (a : Addr) (n c p : Nat) (w : World) (hn : n ≤ 1000000) (hlen : ins.length = n) (ha : a.block < w.heap.size)
    (hrow : ∀ i cs, ins[i]? = some cs → ∀ (j : Nat) (v : Value), cs[j]? = some v → w.cell? ((a.add (i * 24)).add j) = some v)
    (hC : ∀ i cs W, ins[i]? = some cs → Below w.heap.size w W → Calls Tryz.prog 54 #[.agg cs, .pointer (some ⟨p, 0, none⟩)] W fun e w' => ∃ cs' : Array Value, e = .returned (.agg cs') ∧ cs'.size = 24 ∧ cs'.all (·.oneCell') = true ∧ R i W.heap.size cs' w' ∧ Below W.heap.size W w') :
    Calls Tryz.prog 53 #[.slice (some a) n c, .func (.func 54) #[] #[.pointer (some ⟨p, 0, none⟩)]] w fun e w' =>
      ∃ outs, e = .returned (.slice (some ⟨w.heap.size, 0, none⟩) n n) ∧ CpRow R w.heap.size n n outs w w' := by
  obtain ⟨i0, hi, hiz, his, hib⟩ := info_parts infoStmt
  obtain ⟨T, N, zc, hT, hN, hzc, hag, hsz, hzv⟩ := stmt_hidden2
  have e1 : ∀ y : Operand, Op.load 44 y = Op.load T y := fun y => by rw [hT]
  have e2 : ∀ y z : Operand, Op.store 44 y z = Op.store T y z := fun y z => by rw [hT]
  have e3 : Op.alloc 44 = Op.alloc T := by rw [hT]
  have hq := fun w => Lib.run_eql_slice_nil (P := Tryz.prog) w 31 _ (some a) n c 0 0 Tryz.underlying31
  have HH := Lib.hid (And.intro hR (And.intro hin (And.intro hrow (And.intro hC (And.intro hN (And.intro hT hin1))))))
  clear hR hin hrow hC hN hin1
  go_enter Tryz.func53, Tryz.ntmps53
  simp only [e1, e2, e3]
  clear e1 e2 e3 hT
  go_wp2_with (at_make; refine wpList_make_full _ rfl _ _ 31 rfl w.heap.size 44 i0 _ 24 Tryz.underlying31 hi hiz his _ _ _ _ n rfl rfl rfl rfl ?b2 ?b3 (Nat.le_refl _) ?_)
  case b2 => first | omega | (rw [hib]; omega)
  case b3 => unfold maxLen; omega
  intro w2 hown hgrow
  have hb0 : Below w.heap.size w w2 := ⟨hgrow.os, hgrow.tape, hgrow.output, hgrow.size, fun k hk => hgrow.block k hk (by simp)⟩
  have HS : Hid (CpRow R w.heap.size n 0 [] w w2) := Lib.hid (by
    refine ⟨rfl, (fun c h => by cases h), (fun c h => by cases h), ?_, (fun i c h => by cases h), hb0⟩
    rcases hown.2 with ⟨hv, hn0⟩ | ⟨g, cap, cur, hv, hg, hb, h1, h2, h3, h4⟩
    · cases hv
    · injection hv with hA hl hcap
      injection hA with hA
      injection hA with hA
      subst hA hcap
      refine ⟨cur, hb, ?_, rfl⟩
      exact h3)
  clear hown hgrow hb0 hi hiz his hib
  go_wp2
  go_loopg [15] n (fun m j wr => ∃ (k : Nat) (outs : List (Array Value)), m = n - k ∧ k ≤ n ∧ j = .int .i64 k ∧ CpRow R w.heap.size n k outs w wr)
  case atStart => exact ⟨0, [], rfl, Nat.zero_le _, rfl, HS.out⟩
  case round =>
    obtain ⟨k, outs, rfl, hk, rfl, hcp⟩ := hrel
    have HCp := Lib.hid hcp
    clear hcp
    by_cases hlt : k < n
    · obtain ⟨cs, hcs⟩ : ∃ cs, ins[k]? = some cs := ⟨_, List.getElem?_eq_getElem (by omega)⟩
      have hszc : cs.size = N := (HH.out.2.1 cs (List.mem_of_getElem? hcs)).trans HH.out.2.2.2.2.1.symm
      have hl1 := load_list (W := wr) (a := a.add (k * 24)) (N := N) (cs := cs) (fun j v hv => (HCp.out.below.cell (by rw [show ((a.add (k * 24)).add j).block = a.block by unfold Addr.add; split <;> split <;> rfl]; exact ha)).trans (HH.out.2.2.1 k cs hcs j v hv)) hszc
      have hst := store_fresh (w := wr) (t := T) (hzc.trans hszc.symm) (HH.out.2.2.2.2.2.2 k cs hcs)
      have hl2 := load_new (heap_of_alloc wr (.cells cs T)) hszc
      have hz := size_of_alloc wr (.cells cs T)
      have HC2 := Lib.hid (HH.out.2.2.2.1 k cs (wr.alloc (.cells cs T)) hcs (HCp.out.below.trans ((below_alloc wr _).mono HCp.out.below.size)))
      have hki : (k : Int) < n := by omega
      clear hcs
      go_wp2_with (go_at_call 54; refine HC2.out.mono ?_; rintro e w3 ⟨cs', rfl, h24', h1', hr, hb⟩; obtain ⟨w4, hw4, hcp4⟩ := HCp.out.next HH.out.1 hlt rfl h24' h1' ((below_alloc wr (.cells cs T)).chain hb) ((HH.out.1 k).mono _ _ _ _ hr (by have := HCp.out.below.size; have := HCp.out.row; obtain ⟨cur, hcur, _⟩ := this; have := (Array.getElem?_eq_some_iff.1 hcur).1; omega)); have hsz' : cs'.size = N := (h24'.trans HH.out.2.2.2.2.1.symm); have HC4 := Lib.hid hcp4; clear hcp4 h24' h1' hr hb)
      go_roundg (n - (k + 1))
      case measure => omega
      case rel => exact ⟨k + 1, outs ++ [cs'], rfl, by omega, by go_num, HC4.out⟩
    · obtain rfl : k = n := by omega
      go_wp2
      go_ret
      exact ⟨outs, rfl, HCp.out⟩

set_option maxRecDepth 100000 in
set_option maxHeartbeats 4000000 in
/-- copyStmts at a row: a new row of copies, where copyStmt does what it should with each. -/
theorem copyStmts_any (R : Nat → Nat → Array Value → World → Prop) (hR : ∀ i, Stays (R i)) (ins : List (Array Value)) (hin : ∀ c ∈ ins, c.size = 24) (hin1 : ∀ (i : Nat) (c : Array Value), ins[i]? = some c → c.all (·.oneCell') = true) (a : Addr) (n c : Nat) (lv : Int) (w : World) (hn : n ≤ 1000000) (hlen : ins.length = n) (ha : a.block < w.heap.size) (h : 1 ≤ lv) (h2 : lv ≤ 9223372036854775807)
    (hrow : ∀ i cs, ins[i]? = some cs → ∀ (j : Nat) (v : Value), cs[j]? = some v → w.cell? ((a.add (i * 24)).add j) = some v)
    (hC : ∀ i cs W, ins[i]? = some cs → Below w.heap.size w W → Calls Tryz.prog 32 #[.agg cs, .int .i64 (lv - 1)] W fun e w' => ∃ cs' : Array Value, e = .returned (.agg cs') ∧ cs'.size = 24 ∧ cs'.all (·.oneCell') = true ∧ R i W.heap.size cs' w' ∧ Below W.heap.size W w') :
    Calls Tryz.prog 29 #[.slice (some a) n c, .int .i64 lv] w fun e w' => ∃ g outs, e = .returned (.slice (some ⟨g, 0, none⟩) n n) ∧ w.heap.size ≤ g ∧ CpRow R g n n outs w w' := by
  have hz := size_of_alloc w (.cells #[.int .i64 lv] 3)
  have hb := below_alloc w (.cells #[.int .i64 lv] 3)
  have hlvc := cell_of_block (heap_of_alloc w (.cells #[.int .i64 lv] 3)) 0 (v := .int .i64 lv) rfl
  have HL := Lib.hid (copyList_any R hR ins hin hin1 a n c w.heap.size (w.alloc (.cells #[.int .i64 lv] 3)) hn hlen (by omega)
    (fun i cs hi j v hv => (hb.cell (by rw [show ((a.add (i * 24)).add j).block = a.block by unfold Addr.add; split <;> split <;> rfl]; exact ha)).trans (hrow i cs hi j v hv))
    (fun i cs W hi hW => cs1_any (R i) (hR i) cs (hin cs (List.mem_of_getElem? hi)) lv w.heap.size W ((hW.cell (p := ⟨w.heap.size, 0, none⟩) (by show w.heap.size < _; omega)).trans hlvc) (by have := hW.size; omega) h h2
      (fun W' hW' => hC i cs W' hi (hb.trans ((hW.trans (hW'.mono hW.size)).mono (by omega))))))
  have h0 : ¬ lv = 0 := by omega
  clear hR hin hin1 hrow hC hlvc
  go_enter Tryz.func29, Tryz.ntmps29
  go_wp2_with (go_at_call 53; refine HL.out.mono ?_; rintro e w3 ⟨outs, rfl, hcp⟩; have HC := Lib.hid hcp; clear hcp)
  go_ret
  have hc := HC.out
  rw [hz] at hc
  exact ⟨_, outs, rfl, Nat.le_succ _, ⟨hc.len, hc.sz, hc.one, hc.row, hc.rel, hb.chain hc.below⟩⟩

end Go.Proofs.YtllfkgggolfojaaGreatDoor

namespace Go.Proofs.YtllfkgggolfojaaGreatDoor
open Go.RowKit

/-- A statement whose lists are all nil is its own copy. -/
theorem leaf_copy {cs : Array Value} {ek en ck ak bk : Int} (hS : NilSt cs ek en ck ak bk (.slice none 0 0)) (lv : Int) (w : World) (h : 1 ≤ lv) (h2 : lv ≤ 9223372036854775807) :
    Calls Tryz.prog 32 #[.agg cs, .int .i64 lv] w fun e w' => e = .returned (.agg cs) ∧ Below w.heap.size w w' := by
  refine (copyStmt_any (fun _ v _ => v = .slice none 0 0) (fun _ _ _ _ hv _ => hv) (fun _ _ _ _ hv _ => hv) cs ek en ck ak bk (.slice none 0 0) hS lv w h h2
    (fun W _ => (cs_nil lv W h h2).mono fun e w' ⟨he, hw⟩ => ⟨none, 0, 0, he, rfl, hw ▸ below_alloc _ _⟩)).mono fun e w' ⟨x, n, c, he, hv, hb⟩ => ⟨?_, hb⟩
  rw [he, hv, set_same hS.c22]

/-- The body: a row of one statement in new memory. -/
def OneRow (cs : Array Value) (B : Nat) (v : Value) (W : World) : Prop := ∃ (g : Nat) (cur : Array Value), v = .slice (some ⟨g, 0, none⟩) 1 1 ∧ B ≤ g ∧ W.heap[g]? = some (.cells cur 44 (0, 0)) ∧ cur.size = 24 ∧ cur = cs

theorem OneRow.part {cs : Array Value} {B : Nat} {v : Value} {W W' : World} (h : OneRow cs B v W) (hp : Part (fun b => b < B) W W') : OneRow cs B v W' := by
  obtain ⟨g, cur, hv, hg, hc, hs⟩ := h
  exact ⟨g, cur, hv, hg, (hp.block g (Array.getElem?_eq_some_iff.1 hc).1 (by omega)).trans hc, hs⟩

theorem OneRow.mono {cs : Array Value} {B B' : Nat} {v : Value} {W : World} (h : OneRow cs B v W) (hB : B' ≤ B) : OneRow cs B' v W := by
  obtain ⟨g, cur, hv, hg, hr⟩ := h
  exact ⟨g, cur, hv, Nat.le_trans hB hg, hr⟩

/-- A row of one leaf is copied into a new row of one leaf. -/
theorem one_copy {cs : Array Value} {ek en ck ak bk : Int} (hS : NilSt cs ek en ck ak bk (.slice none 0 0)) (a : Addr) (c : Nat) (lv : Int) (w : World) (h : 2 ≤ lv) (h2 : lv ≤ 9223372036854775807) (ha : a.block < w.heap.size)
    (hrow : ∀ (j : Nat) (v : Value), cs[j]? = some v → w.cell? (a.add j) = some v) :
    Calls Tryz.prog 29 #[.slice (some a) 1 c, .int .i64 lv] w fun e w' => ∃ x n c', e = .returned (.slice x n c') ∧ OneRow cs w.heap.size (.slice x n c') w' ∧ Below w.heap.size w w' := by
  refine (copyStmts_any (fun _ _ v _ => v = cs) (fun _ => ⟨fun _ _ _ _ hv _ => hv, fun _ _ _ _ hv _ => hv⟩) [cs] (fun d hd => by rw [List.mem_singleton.1 hd]; exact hS.h24) (fun i d hi => by
      have : d ∈ [cs] := List.mem_of_getElem? hi
      rw [List.mem_singleton.1 this]; exact hS.h1) a 1 c lv w (by omega) rfl ha (by omega) h2 (fun i d hi j v hv => by
      have hi0 : i = 0 := by have := (List.getElem?_eq_some_iff.1 hi).1; simpa using this
      subst hi0
      obtain rfl : cs = d := by simpa using hi
      rw [add_add_plain, show 0 * 24 + j = j by omega]
      exact hrow j v hv) (fun i d W hi hW => by
      have hm : d ∈ [cs] := List.mem_of_getElem? hi
      rw [List.mem_singleton.1 hm]
      exact (leaf_copy hS (lv - 1) W (by omega) (by omega)).mono fun e w' ⟨he, hb⟩ => ⟨cs, he, hS.h24, hS.h1, rfl, hb⟩)).mono fun e w' ⟨g, outs, he, hg, hc⟩ => ⟨_, _, _, he, ?_, hc.below⟩
  obtain ⟨cur, hcur, hsz, htk⟩ := hc.row
  refine ⟨g, cur, rfl, hg, hcur, hsz, ?_⟩
  have h1 : outs = [cs] := by
    match outs, hc.len, hc.rel with
    | [d], _, hr => rw [hr 0 d rfl]
  rw [h1] at htk
  have h24 : cur.toList.length = 24 := by simpa using hsz
  rw [List.take_of_length_le (by omega)] at htk
  have : cur.toList = cs.toList := by rw [htk]; simp [flatC]
  exact Array.toList_inj.1 this

/-- A statement with a body of one leaf. -/
theorem while_copy {cs cb : Array Value} {ek en ck ak bk ek2 en2 ck2 ak2 bk2 : Int} {a : Addr} {c : Nat} (hS : NilSt cs ek en ck ak bk (.slice (some a) 1 c)) (hSb : NilSt cb ek2 en2 ck2 ak2 bk2 (.slice none 0 0)) (lv : Int) (w : World) (h : 2 ≤ lv) (h2 : lv ≤ 9223372036854775807) (ha : a.block < w.heap.size)
    (hrow : ∀ (j : Nat) (v : Value), cb[j]? = some v → w.cell? (a.add j) = some v) :
    Calls Tryz.prog 32 #[.agg cs, .int .i64 lv] w fun e w' => ∃ v, e = .returned (.agg (cs.setIfInBounds 22 v)) ∧ OneRow cb w.heap.size v w' ∧ Below w.heap.size w w' := by
  refine (copyStmt_any (OneRow cb) (fun _ _ _ _ hv hp => hv.part hp) (fun _ _ _ _ hv hB => hv.mono hB) cs ek en ck ak bk (.slice (some a) 1 c) hS lv w (by omega) h2
    (fun W hW => one_copy hSb a c lv W h h2 (Nat.lt_of_lt_of_le ha hW.size) (fun j v hv => (hW.cell (by rw [show (a.add j).block = a.block by unfold Addr.add; split <;> rfl]; exact ha)).trans (hrow j v hv)))).mono fun e w' ⟨x, n, c', he, hv, hb⟩ => ⟨_, he, hv, hb⟩

theorem flatC_get {outs : List (Array Value)} (h : ∀ c ∈ outs, c.size = 24) : ∀ (i j : Nat) (cs : Array Value), outs[i]? = some cs → j < 24 → (flatC outs)[i * 24 + j]? = cs[j]? := by
  induction outs with
  | nil => intro i j cs hi; simp at hi
  | cons c outs ih =>
    intro i j cs hi hj
    have h1 := h c (List.mem_cons_self ..)
    have e : flatC (c :: outs) = c.toList ++ flatC outs := by unfold flatC; rw [List.flatMap_cons]
    rw [e]
    cases i with
    | zero =>
      obtain rfl : c = cs := by simpa using hi
      rw [List.getElem?_append_left (by rw [Array.length_toList]; omega)]
      simp
    | succ i =>
      rw [List.getElem?_append_right (by rw [Array.length_toList]; omega), Array.length_toList, h1, show (i + 1) * 24 + j - 24 = i * 24 + j by omega]
      exact ih (fun d hd => h d (List.mem_cons_of_mem _ hd)) i j cs (by simpa using hi) hj

theorem CpRow.cells {R : Nat → Nat → Array Value → World → Prop} {g n : Nat} {outs : List (Array Value)} {w W : World} (h : CpRow R g n n outs w W) (i : Nat) (cs : Array Value) (hi : outs[i]? = some cs) (j : Nat) (v : Value) (hv : cs[j]? = some v) :
    W.cell? (((⟨g, 0, none⟩ : Addr).add (i * 24)).add j) = some v := by
  obtain ⟨cur, hc, hs, ht⟩ := h.row
  have hj : j < 24 := by
    have := (Array.getElem?_eq_some_iff.1 hv).1
    rw [h.sz cs (List.mem_of_getElem? hi)] at this
    exact this
  rw [add_add_plain, add_block0]
  refine cell_of_block hc _ ?_
  have h1 := flatC_get h.sz i j cs hi hj
  rw [← ht, List.take_of_length_le (by rw [Array.length_toList]; omega)] at h1
  rw [← hv, ← h1]
  simp

/-- Of the first statement's copy: the body is new; the second is as it was. -/
def TwoR (csW csO csT : Array Value) (i B : Nat) (v : Array Value) (W : World) : Prop := if i = 0 then ∃ u, v = csW.setIfInBounds 22 u ∧ OneRow csO B u W else v = csT

theorem two_stays (csW csO csT : Array Value) (i : Nat) : Stays (TwoR csW csO csT i) := by
  unfold TwoR
  by_cases h : i = 0
  · simp only [if_pos h]
    exact ⟨fun _ _ _ _ ⟨u, hv, ho⟩ hp => ⟨u, hv, ho.part hp⟩, fun _ _ _ _ ⟨u, hv, ho⟩ hB => ⟨u, hv, ho.mono hB⟩⟩
  · simp only [if_neg h]
    exact ⟨fun _ _ _ _ hv _ => hv, fun _ _ _ _ hv _ => hv⟩

/-- What the copies of such a list are, in the order of the text. -/
theorem two_ord {csW csO csT : Array Value} {ek en ck ak bk ek2 en2 ck2 ak2 bk2 ek3 en3 ck3 ak3 bk3 : Int} {ab : Addr} {cb : Nat} (hW : NilSt csW ek en ck ak bk (.slice (some ab) 1 cb)) (hO : NilSt csO ek2 en2 ck2 ak2 bk2 (.slice none 0 0)) (hT : NilSt csT ek3 en3 ck3 ak3 bk3 (.slice none 0 0))
    {g : Nat} {outs : List (Array Value)} {w W : World} (hg : w.heap.size ≤ g) (h : CpRow (TwoR csW csO csT) g 2 2 outs w W) :
    ∃ (g1 : Nat), w.heap.size ≤ g1 ∧ g1 < W.heap.size ∧ W.heap[g1]? = some (.cells csO 44 (0, 0)) ∧ Ord W (fun b => b = g ∨ b = g1) (some ⟨g, 0, none⟩) 2 [csW.setIfInBounds 22 (.slice (some ⟨g1, 0, none⟩) 1 1), csO, csT] := by
  obtain ⟨v0, v1, rfl⟩ : ∃ v0 v1, outs = [v0, v1] := by
    match outs, h.len with
    | [v0, v1], _ => exact ⟨v0, v1, rfl⟩
  have r0 := h.rel 0 v0 rfl
  have r1 := h.rel 1 v1 rfl
  unfold TwoR at r0 r1
  rw [if_pos rfl] at r0
  rw [if_neg (by omega)] at r1
  obtain ⟨u, rfl, g1, cur, rfl, hg1, hcur, hcs, rfl⟩ := r0
  subst r1
  have hgs : g < W.heap.size := by
    obtain ⟨c0, hc0, _⟩ := h.row
    exact (Array.getElem?_eq_some_iff.1 hc0).1
  have hg1s := (Array.getElem?_eq_some_iff.1 hcur).1
  have hb : ((⟨g, 0, none⟩ : Addr).add 24).block = g := by rw [add_block0]
  refine ⟨g1, by omega, hg1s, hcur, ?_⟩
  refine Ord.cons ⟨g, 0, none⟩ 1 _ (some ⟨g1, 0, none⟩) none 1 0 1 0 [cur] [] [v1] (.inl rfl) hgs (h.sz _ (List.mem_cons_self ..)) (h.one _ (List.mem_cons_self ..)) (by decide) (by decide) (fun j v hv => ?_) ?_ ?_ ?_ (.nil none) ?_
  · have := h.cells 0 _ rfl j v hv
    rwa [show ((⟨g, 0, none⟩ : Addr).add (0 * 24)) = ⟨g, 0, none⟩ by simp [Addr.add]] at this
  · rw [Array.getElem?_setIfInBounds_self_of_lt (by rw [hW.h24]; omega)]
  · rw [Array.getElem?_setIfInBounds_ne (by omega)]; exact hW.c23
  · exact Ord.cons ⟨g1, 0, none⟩ 0 cur none none 0 0 0 0 [] [] [] (.inr rfl) hg1s hO.h24 hO.h1 (by decide) (by decide) (fun j v hv => by rw [add_block0]; exact cell_of_block hcur j hv) hO.c22 hO.c23 (.nil none) (.nil none) (.nil _)
  · exact Ord.cons _ 0 v1 none none 0 0 0 0 [] [] [] (.inl hb) (by rw [hb]; exact hgs) hT.h24 hT.h1 (by decide) (by decide) (fun j v hv => h.cells 1 v1 rfl j v hv) hT.c22 hT.c23 (.nil none) (.nil none) (.nil _)

set_option maxRecDepth 100000 in
set_option maxHeartbeats 4000000 in
/-- tree.Walk at a list of a statement with a body of one leaf, and a leaf. -/
theorem walk_two {csW csO csT : Array Value} {ek en ck ak bk ek2 en2 ck2 ak2 bk2 ek3 en3 ck3 ak3 bk3 : Int} {ab : Addr} {cb : Nat} (hW : NilSt csW ek en ck ak bk (.slice (some ab) 1 cb)) (hO : NilSt csO ek2 en2 ck2 ak2 bk2 (.slice none 0 0)) (hT : NilSt csT ek3 en3 ck3 ak3 bk3 (.slice none 0 0))
    (a : Addr) (c : Nat) (w : World) (ha : a.block < w.heap.size) (hab : ab.block < w.heap.size) (h0 : ∀ (j : Nat) (v : Value), csW[j]? = some v → w.cell? (a.add j) = some v) (h1 : ∀ (j : Nat) (v : Value), csT[j]? = some v → w.cell? ((a.add 24).add j) = some v) (hb : ∀ (j : Nat) (v : Value), csO[j]? = some v → w.cell? (ab.add j) = some v) :
    Calls Tryz.prog 15 #[.slice (some a) 2 c] w fun e w' => ∃ (b g g1 : Nat), e = .returned (.func (.func 30) #[] #[.pointer (some ⟨b, 0, none⟩)]) ∧ w'.cell? ⟨b, 0, none⟩ = some (.slice (some ⟨g, 0, none⟩) 2 2) ∧ b < w'.heap.size ∧ w.heap.size ≤ g ∧ g < w'.heap.size ∧ w.heap.size ≤ g1 ∧ g1 < w'.heap.size ∧ w'.heap[g1]? = some (.cells csO 44 (0, 0)) ∧
      Ord w' (fun b => b = g ∨ b = g1) (some ⟨g, 0, none⟩) 2 [csW.setIfInBounds 22 (.slice (some ⟨g1, 0, none⟩) 1 1), csO, csT] ∧ Below w.heap.size w w' := by
  have HC := Lib.hid (copyStmts_any (TwoR csW csO csT) (two_stays csW csO csT) [csW, csT] (fun d hd => by
      simp only [List.mem_cons, List.not_mem_nil, or_false] at hd
      rcases hd with rfl | rfl
      · exact hW.h24
      · exact hT.h24) (fun i d hi => by
      have hd : d ∈ [csW, csT] := List.mem_of_getElem? hi
      simp only [List.mem_cons, List.not_mem_nil, or_false] at hd
      rcases hd with rfl | rfl
      · exact hW.h1
      · exact hT.h1) a 2 c 9223372036854775807 w (by omega) rfl ha (by omega) (by omega) (fun i d hi j v hv => by
      match i, hi with
      | 0, hi =>
        obtain rfl : csW = d := by simpa using hi
        rw [show a.add (0 * 24) = a by simp [Addr.add]]
        exact h0 j v hv
      | 1, hi =>
        obtain rfl : csT = d := by simpa using hi
        exact h1 j v hv) (fun i d W hi hBW => by
      match i, hi with
      | 0, hi =>
        obtain rfl : csW = d := by simpa using hi
        exact (while_copy hW hO (9223372036854775807 - 1) W (by omega) (by omega) (Nat.lt_of_lt_of_le hab hBW.size) (fun j v hv => (hBW.cell (by rw [show (ab.add j).block = ab.block by unfold Addr.add; split <;> rfl]; exact hab)).trans (hb j v hv))).mono fun e w' ⟨v, he, hv, hbb⟩ =>
          ⟨_, he, by rw [Array.size_setIfInBounds]; exact hW.h24, (by obtain ⟨g, cur, rfl, _⟩ := hv; exact all_set hW.h1 _ _ _), (by unfold TwoR; rw [if_pos rfl]; exact ⟨v, rfl, hv⟩), hbb⟩
      | 1, hi =>
        obtain rfl : csT = d := by simpa using hi
        exact (leaf_copy hT (9223372036854775807 - 1) W (by omega) (by omega)).mono fun e w' ⟨he, hbb⟩ => ⟨csT, he, hT.h24, hT.h1, (by unfold TwoR; rw [if_neg (by omega)]), hbb⟩))
  have HS := Lib.hid (And.intro hW (And.intro hO hT))
  clear h0 h1 hb hW hO hT
  go_enter Tryz.func15, Tryz.ntmps15
  go_wp2_with (go_at_call 29; refine HC.out.mono ?_; rintro e w3 ⟨g, outs, rfl, hg, hcp⟩; have HP := Lib.hid (And.intro hg hcp); clear hg hcp)
  go_ret
  obtain ⟨g1, h1, h2, h3, ho⟩ := two_ord HS.out.1 HS.out.2.1 HS.out.2.2 HP.out.1 HP.out.2
  have hgs : g < w3.heap.size := by
    obtain ⟨c0, hc0, _⟩ := HP.out.2.row
    exact (Array.getElem?_eq_some_iff.1 hc0).1
  refine ⟨w3.heap.size, g, g1, rfl, cell_of_block (heap_of_alloc w3 _) 0 rfl, by rw [size_of_alloc]; omega, HP.out.1, by rw [size_of_alloc]; omega, h1, by rw [size_of_alloc]; omega, heap_keep h3, ho.keep (fun b hq => ?_) (fun b hq => ?_), HP.out.2.below.alloc HP.out.2.below.size _⟩
  · refine Below.heap_alloc w3 _ b ?_
    rcases hq with rfl | rfl
    · exact hgs
    · exact h2
  · rw [size_of_alloc]
    rcases hq with rfl | rfl <;> omega

end Go.Proofs.YtllfkgggolfojaaGreatDoor

namespace Go.Proofs.YtllfkgggolfojaaGreatDoor
open Go.RowKit

attribute [local go_sem] Oper.semAt_some

theorem room_of_none {F : Fence} (hd : F.depth = none) (n : Nat) : F.room n := by
  intro d h
  rw [hd] at h
  cases h

theorem RoundIn.anyDepth {F : Fence} (hd : F.depth = none) {m m' : Nat} {P : Program} {l : Nat} {f : FuncId} {tmps : Array Value} {assign body : Code} {w : World} {R : Ending → World → Prop}
    (h : RoundIn F m P l f tmps assign body w R) : RoundIn F m' P l f tmps assign body w R := ⟨h.1, fun c cs _ => h.2 c cs (room_of_none hd _)⟩

theorem YieldAt.anyDepth {F : Fence} (hd : F.depth = none) {m : Nat} (m' : Nat) {P : Program} {l : Nat} {args : Array Value} {W : World} {R : Ending → World → Prop} (h : YieldAt F m P l args W R) : YieldAt F m' P l args W R := by
  obtain ⟨fn, tmps, assign, body, hy, hR⟩ := h
  exact ⟨fn, tmps, assign, body, hy, RoundIn.anyDepth hd hR⟩

set_option maxRecDepth 100000 in
set_option maxHeartbeats 1000000 in
theorem inOrder_seq (F : Fence) (m : Nat) (hd : F.depth = none) (h142 : F.fn 55) (h143 : F.fn 56) (hro : F.round = none) (b n c : Nat) (A : Option Addr) (whole : List (Array Value)) (Q : Nat → Prop) (w : World)
    (hbox : w.cell? ⟨b, 0, none⟩ = some (.slice A n c)) (hb : b < w.heap.size) (hO : Ord w Q A n whole) (hQ : ∀ b, Q b → b < w.heap.size) (hn : n ≤ maxLen) :
    SeqOwn F m Tryz.prog 55 #[.pointer (some ⟨b, 0, none⟩)] (fun cs : Array Value => #[.agg cs]) Q (fun pre x _ => pre ++ [x] <+: whole) (fun xs _ => xs = whole) (fun pre _ => pre <+: whole) w := by
  intro l J Jx W hbl hJ hJx hY h0
  have hdd : ∀ k : Nat, (F.depth.isSome = true → 1 ≤ k) := fun k h => by rw [hd] at h; cases h
  have hbox2 := (hbl.cell (p := ⟨b, 0, none⟩) hb).trans hbox
  have hO2 : Ord W Q A n whole := hO.keep (fun b hb => hbl.block b (hQ b hb)) (fun b hb => Nat.lt_of_lt_of_le (hQ b hb) hbl.size)
  have hp := ya_in F hd h143 hro l W.heap.size Q J Jx whole hJ (fun b hb => Nat.lt_of_lt_of_le (hQ b hb) hbl.size)
    (fun m' Pv pre cs W1 hj hl hg hpre => YieldAt.anyDepth hd m' (hY Pv pre cs W1 hj hl hg hpre)) (whole.length + 1) whole (Nat.lt_succ_self _) (m - 1) n c A (fun _ => False) [] W hn hO2 h0 (fun _ h => h.elim) (fun _ h => h.elim) (Nat.le_refl _) (by simp)
  have HP := Lib.hid hp
  clear hp hY hO hO2 hJ hJx h0 hQ hbox hbl
  refine callsIn_of_wp Tryz.func55 rfl h142 ?_ hro
  simp only [Tryz.ntmps55, List.size_toArray, List.length_cons, List.length_nil, Nat.reduceAdd, Nat.reduceSub, Array.replicate_succ, Array.replicate_zero, List.push_toArray, List.append_toArray, List.nil_append, List.cons_append]
  gi_wp2_with ((try refine ⟨hdd _, ?_⟩); gi_at_call 56; refine HP.out.mono ?_; rintro e W1 ⟨hk, hs, Pv1, s1, s2, s3, (⟨rfl, hj⟩ | ⟨rfl, q, hq, hx⟩)⟩)
  · go_end0
    exact ⟨⟨_, rfl⟩, Pv1, s2, .inl ⟨_, rfl, by simpa using hj⟩⟩
  · go_end0
    exact ⟨⟨_, rfl⟩, Pv1, s2, .inr ⟨q, hq, by simpa using hx⟩⟩

/-- What the two iterators of a walk keep: J's blocks, with the three boxes of Walk's literal. -/
abbrev WkPv (B : Nat) (Pv : Nat → Prop) : Nat → Prop := fun b => Pv b ∨ b = B ∨ b = B + 1 ∨ b = B + 2

/-- In the midst of Walk's literal: W0 is the world behind its boxes; B the first of them. -/
structure WkSt (Q : Nat → Prop) (J : (Nat → Prop) → List (Nat × Array Value) → World → Prop) (l B : Nat) (W0 : World) (whole : List (Array Value)) (Pv : Nat → Prop) (pre : List (Array Value)) (W : World) : Prop where
  ex : ∃ xs : List (Nat × Array Value), xs.length = pre.length ∧ J (WkPv B Pv) xs W
  pfx : pre <+: whole
  fn : W.cell? ⟨B, 0, none⟩ = some (.func (.yield l) #[] #[])
  num : W.heap[B + 1]? = some (.cells #[.int .i64 pre.length] 3 (0, 0))
  q : ∀ b, Q b → W.heap[b]? = W0.heap[b]?
  off : ∀ b, Pv b → W0.heap.size ≤ b
  size : W0.heap.size ≤ W.heap.size

theorem WkSt.abid {Q : Nat → Prop} {J : (Nat → Prop) → List (Nat × Array Value) → World → Prop} {l B : Nat} {W0 : World} {whole : List (Array Value)} (hJ : Abid J) (hB : B + 2 < W0.heap.size) (hQ : ∀ b, Q b → b < W0.heap.size) : Abid (WkSt Q J l B W0 whole) := by
  intro Pv Pv' s W W' h hp hn hl
  obtain ⟨xs, hx, hj⟩ := h.ex
  have hlt : ∀ b, b < W0.heap.size → b < W.heap.size := fun b hb => Nat.lt_of_lt_of_le hb h.size
  have hno : ∀ b, b < W0.heap.size → ¬ Pv b := fun b hb hp => by have := h.off b hp; omega
  refine ⟨⟨xs, hx, hJ _ _ _ _ _ hj (hp.mono fun b hb => Or.inl hb) (fun b hb => ?_) (fun b hb => ?_)⟩, h.pfx, (hp.cell (p := ⟨B, 0, none⟩) (hlt B (by omega)) (hno B (by omega))).trans h.fn, (hp.block (B + 1) (hlt _ (by omega)) (hno _ (by omega))).trans h.num,
    fun b hb => (hp.block b (hlt b (hQ b hb)) (hno b (hQ b hb))).trans (h.q b hb), fun b hb => ?_, Nat.le_trans h.size hp.size⟩
  · rcases hb with hb | hb
    · exact (hn b hb).imp (fun h => Or.inl h) id
    · exact Or.inl (Or.inr hb)
  · have := hp.size
    have := h.size
    rcases hb with hb | rfl | rfl | rfl
    · exact hl b hb
    · omega
    · omega
    · omega
  · rcases hn b hb with hb | hb
    · exact h.off b hb
    · exact Nat.le_trans h.size hb

/-- Walk's literal has been told to stop. -/
structure WkEnd (Jx : (Nat → Prop) → List (Nat × Array Value) → World → Prop) (B : Nat) (W0 : World) (whole : List (Array Value)) (c : Code) (Pv : Nat → Prop) (pre : List (Array Value)) (W : World) : Prop where
  ret : c = .ret
  ex : ∃ xs : List (Nat × Array Value), xs.length ≤ whole.length ∧ Jx (WkPv B Pv) xs W
  off : ∀ b, Pv b → W0.heap.size ≤ b
  size : W0.heap.size ≤ W.heap.size

theorem WkEnd.abid {Jx : (Nat → Prop) → List (Nat × Array Value) → World → Prop} {B : Nat} {W0 : World} {whole : List (Array Value)} (hJ : Abid Jx) (hB : B + 2 < W0.heap.size) (c : Code) : Abid (WkEnd Jx B W0 whole c) := by
  intro Pv Pv' s W W' h hp hn hl
  obtain ⟨xs, hx, hj⟩ := h.ex
  refine ⟨h.ret, ⟨xs, hx, hJ _ _ _ _ _ hj (hp.mono fun b hb => Or.inl hb) (fun b hb => ?_) (fun b hb => ?_)⟩, fun b hb => ?_, Nat.le_trans h.size hp.size⟩
  · rcases hb with hb | hb
    · exact (hn b hb).imp (fun h => Or.inl h) id
    · exact Or.inl (Or.inr hb)
  · have := hp.size
    have := h.size
    rcases hb with hb | rfl | rfl | rfl
    · exact hl b hb
    · omega
    · omega
    · omega
  · rcases hn b hb with hb | hb
    · exact h.off b hb
    · exact Nat.le_trans h.size hb

set_option maxRecDepth 100000 in
set_option maxHeartbeats 1000000 in
theorem inOrder_in (F : Fence) (m : Nat) (h94 : F.fn 31) (hro : F.round = none) (A : Option Addr) (n c : Nat) (w : World) :
    CallsIn F m Tryz.prog 31 #[.slice A n c] w fun e w' => e = .returned (.func (.func 55) #[] #[.pointer (some ⟨w.heap.size, 0, none⟩)]) ∧ w' = w.alloc (.cells #[.slice A n c] 31) := by
  refine callsIn_of_wp Tryz.func31 rfl h94 ?_ hro
  simp only [Tryz.ntmps31, List.size_toArray, List.length_cons, List.length_nil, Nat.reduceAdd, Nat.reduceSub, Array.replicate_succ, Array.replicate_zero, List.push_toArray, List.append_toArray, List.nil_append, List.cons_append]
  gi_wp2
  go_ret
  exact ⟨rfl, rfl⟩

set_option maxRecDepth 100000 in
set_option maxHeartbeats 4000000 in
theorem walk_seq (F : Fence) (m : Nat) (hm : 9 ≤ m) (hd : F.depth = none) (h96 : F.fn 30) (h94 : F.fn 31) (h97 : F.fn 32) (h142 : F.fn 55) (h143 : F.fn 56) (hro : F.round = none)
    (b n c : Nat) (A : Option Addr) (whole : List (Array Value)) (Q : Nat → Prop) (Rl : Nat → Array Value → World → Prop) (w : World)
    (hbox : w.cell? ⟨b, 0, none⟩ = some (.slice A n c)) (hb : b < w.heap.size) (hO : Ord w Q A n whole) (hQ : ∀ b, Q b → b < w.heap.size) (hn : n ≤ maxLen) (hlen : whole.length ≤ 1000000)
    (hcopy : ∀ m (k : Nat) cs W, whole[k]? = some cs → (∀ b, Q b → W.heap[b]? = w.heap[b]?) → CallsIn F m Tryz.prog 32 #[.agg cs, .int .i64 30] W fun e W' => ∃ cs' : Array Value, e = .returned (.agg cs') ∧ Rl k cs' W' ∧ Below W.heap.size W W') :
    SeqOwn F m Tryz.prog 30 #[.pointer (some ⟨b, 0, none⟩)] (fun x : Nat × Array Value => #[.int .i64 x.1, .agg x.2]) Q (fun pre x W => x.1 = pre.length ∧ pre.length < whole.length ∧ Rl pre.length x.2 W) (fun xs _ => xs.length = whole.length) (fun pre _ => pre.length ≤ whole.length) w := by
  intro l J Jx W hbl hJ hJx hY h0
  have hdd : ∀ k : Nat, (F.depth.isSome = true → 1 ≤ k) := fun k h => by rw [hd] at h; cases h
  have hbox2 := (hbl.cell (p := ⟨b, 0, none⟩) hb).trans hbox
  have hO2 : Ord W Q A n whole := hO.keep (fun b hb => hbl.block b (hQ b hb)) (fun b hb => Nat.lt_of_lt_of_le (hQ b hb) hbl.size)
  have hb2 : b < W.heap.size := Nat.lt_of_lt_of_le hb hbl.size
  have HI := Lib.hid (fun m' W' => inOrder_in F m' h94 hro A n c W')
  have HH := Lib.hid (And.intro hO2 (And.intro hJ (And.intro hJx (And.intro hY (And.intro h0 (And.intro hcopy (And.intro hQ hbl)))))))
  clear hO hO2 hJ hJx hY h0 hcopy hQ hbl hbox
  refine callsIn_of_wp_marks Tryz.func30 rfl h96 ?_ hro
  simp only [Tryz.ntmps30, List.size_toArray, List.length_cons, List.length_nil, Nat.reduceAdd, Nat.reduceSub, Array.replicate_succ, Array.replicate_zero, List.push_toArray, List.append_toArray, List.nil_append, List.cons_append]
  gi_wp2_with ((try refine ⟨hdd _, ?_⟩); gi_at_call 31; refine (HI.out _ _).mono ?_; rintro e W1 ⟨rfl, rfl⟩)
  obtain ⟨B, hB⟩ : ∃ B, B = W.heap.size := ⟨_, rfl⟩
  have hs1 := size_of_alloc W (.cells #[.func (.yield l) #[] #[]] 73)
  have hs2 := size_of_alloc (W.alloc (.cells #[.func (.yield l) #[] #[]] 73)) (.cells #[.int .i64 0] 3)
  have hs3 := size_of_alloc ((W.alloc (.cells #[.func (.yield l) #[] #[]] 73)).alloc (.cells #[.int .i64 0] 3)) (.cells #[.slice A n c] 31)
  have hk0 := heap_keep (o := .cells #[.slice A n c] 31) (heap_keep (o := .cells #[.int .i64 0] 3) (heap_of_alloc W (.cells #[.func (.yield l) #[] #[]] 73)))
  have hk1 := heap_keep (o := .cells #[.slice A n c] 31) (heap_of_alloc (W.alloc (.cells #[.func (.yield l) #[] #[]] 73)) (.cells #[.int .i64 0] 3))
  have hk2 := heap_of_alloc ((W.alloc (.cells #[.func (.yield l) #[] #[]] 73)).alloc (.cells #[.int .i64 0] 3)) (.cells #[.slice A n c] 31)
  have hbw : Below W.heap.size W (((W.alloc (.cells #[.func (.yield l) #[] #[]] 73)).alloc (.cells #[.int .i64 0] 3)).alloc (.cells #[.slice A n c] 31)) := ((below_alloc W _).chain (below_alloc _ _)).chain (below_alloc _ _)
  rw [hs1] at hk1 hs2
  rw [hs2] at hk2 hs3
  generalize hW0 : ((W.alloc (.cells #[.func (.yield l) #[] #[]] 73)).alloc (.cells #[.int .i64 0] 3)).alloc (.cells #[.slice A n c] 31) = W0 at *
  have HBW := Lib.hid hB
  rw [← hB] at hs1 hs2 hs3 hk0 hk1 hk2 hbw hb2 ⊢
  have hQW : ∀ b, Q b → b < B := fun b hb => by rw [HBW.out]; exact Nat.lt_of_lt_of_le (HH.out.2.2.2.2.2.2.1 b hb) HH.out.2.2.2.2.2.2.2.size
  have hOW : Ord W0 Q A n whole := HH.out.1.keep (fun b hb => hbw.block b (hQW b hb)) (fun b hb => by have := hQW b hb; omega)
  refine wpIn_rangeFunc_pv hro (by omega) (gf := 55) (lb := #[.pointer (some ⟨B + 1 + 1, 0, none⟩)]) rfl h142 (enters_of Tryz.func55 (by kernel_rfl) rfl)
    (inOrder_seq F (m - 1) hd h142 h143 hro (B + 1 + 1) n c A whole Q W0 (cell_of_block hk2 0 rfl) (by omega) hOW (fun b hb => by have := hQW b hb; omega) hn) (Below.refl _ _) (fun _ => rfl)
    (WkSt Q J l B W0 whole) (WkEnd Jx B W0 whole) (WkSt.abid HH.out.2.1 (by omega) (fun b hb => by have := hQW b hb; omega)) (fun c => WkEnd.abid HH.out.2.2.1 (by omega) c) ?start ?round (fun b hb => by have := hQW b hb; omega) (fun _ _ _ h _ => h) (fun _ _ _ h _ => h) ?done ?stop
  case start =>
    refine ⟨⟨[], rfl, HH.out.2.1 _ _ _ _ _ HH.out.2.2.2.2.1 (Part.of_below (by rw [← HBW.out]; exact hbw)) (fun b hb => ?_) (fun b hb => ?_)⟩, List.nil_prefix, cell_of_block hk0 0 rfl, hk1, fun _ _ => rfl, fun _ h => h.elim, Nat.le_refl _⟩
    · have := HBW.out
      rcases hb with hb | rfl | rfl | rfl
      · exact hb.elim
      · exact Or.inr (by omega)
      · exact Or.inr (by omega)
      · exact Or.inr (by omega)
    · rcases hb with hb | rfl | rfl | rfl
      · exact hb.elim
      · omega
      · omega
      · omega
  case round =>
    intro Pv pre cs W1 r hlt hge hD hL hr hI hy
    obtain ⟨rst, hrst⟩ := hy
    have hk : whole[pre.length]? = some cs := by rw [← hrst]; simp
    have hkl : pre.length < whole.length := (List.getElem?_eq_some_iff.1 hk).1
    have hcs := hOW.sized hk
    have hz1 := size_of_alloc W1 (.cells cs 44)
    have hbx := heap_of_alloc W1 (.cells cs 44)
    have hsz1 := hI.size
    obtain ⟨T, M, hT, hM, hag, hsz⟩ := stmt_hidden
    have e1 : ∀ y : Operand, Op.load 44 y = Op.load T y := fun y => by rw [hT]
    have e2 : ∀ y z : Operand, Op.store 44 y z = Op.store T y z := fun y z => by rw [hT]
    simp only [e1, e2]
    have hszc : cs.size = M := hcs.1.trans hM.symm
    have hst := store_new (w := W1) hcs.1 hcs.2
    have HM := Lib.hid hM
    have HR := Lib.hid (And.intro hI (And.intro hlt (And.intro hge (And.intro hD (And.intro hL (And.intro hk hrst))))))
    clear hT e1 e2 hM hlt hge hD hL hrst hr
    gi_wp2
    refine ⟨Part.alloc _ _, fun r' => ?_⟩
    have hne : W1.heap.size ≠ W0.heap.size + 1 := fun e => by have := HR.out.2.1 _ HR.out.2.2.2.2.1; omega
    obtain ⟨Wb, hWb⟩ : ∃ Wb, Wb = (W1.alloc (.cells cs 44)).putObj (W0.heap.size + 1) (.loop r') := ⟨_, rfl⟩
    have hzb : Wb.heap.size = W1.heap.size + 1 := by rw [hWb]; simp
    have hpb : Part Pv W1 Wb := by rw [hWb]; exact (Part.alloc _ _).trans (Part.putObj _ _ HR.out.2.2.2.2.1)
    have hIb : WkSt Q J l B W0 whole Pv pre Wb := WkSt.abid HH.out.2.1 (by omega) (fun b hb => by have := hQW b hb; omega) Pv Pv pre W1 Wb hI hpb (fun b hb => Or.inl hb) (fun b hb => by have := HR.out.2.1 b hb; omega)
    have hbb : Wb.heap[W1.heap.size]? = some (.cells cs 44 (0, 0)) := by rw [hWb]; exact (World.putObj_heap_other hne).trans hbx
    have hld := load_list (W := Wb) (a := ⟨W1.heap.size, 0, none⟩) (N := M) (cs := cs) (fun j v hv => by rw [add_block0]; exact cell_of_block hbb j hv) hszc
    rw [← hWb]
    have later : ∀ W3, Below Wb.heap.size Wb W3 → WkSt Q J l B W0 whole Pv pre W3 := fun W3 hb3 => WkSt.abid HH.out.2.1 (by omega) (fun b hb => by have := hQW b hb; omega) Pv Pv pre Wb W3 hIb (Part.of_below hb3) (fun b hb => Or.inl hb) (fun b hb => by have := HR.out.2.1 b hb; have := hb3.size; omega)
    have HCP : Hid (∀ m' W', Below Wb.heap.size Wb W' → CallsIn F m' Tryz.prog 32 #[.agg cs, .int .i64 30] W' fun e W3 => ∃ cs' : Array Value, e = .returned (.agg cs') ∧ Rl pre.length cs' W3 ∧ Below Wb.heap.size Wb W3) := Lib.hid (fun m' W' hb' =>
      (HH.out.2.2.2.2.2.1 m' pre.length cs W' HR.out.2.2.2.2.2.1 (fun b hb => by
        have h1 := (later W' hb').q b hb
        have h2 := hbw.block b (hQW b hb)
        have h3 := HH.out.2.2.2.2.2.2.2.block b (HH.out.2.2.2.2.2.2.1 b hb)
        rw [h1, h2, h3])).mono fun e W3 ⟨cs', he, hr, hb⟩ => ⟨cs', he, hr, hb'.trans (hb.mono hb'.size)⟩)
    have HYY : Hid (∀ m' W3 (cs' : Array Value), Rl pre.length cs' W3 → Below Wb.heap.size Wb W3 → YieldAt F m' Tryz.prog l #[.int .i64 pre.length, .agg cs'] W3 fun e W4 =>
        ∃ t : Bool, e = .returned (.bool t) ∧ W4.cell? ⟨B + 1, 0, none⟩ = some (.int .i64 pre.length) ∧ W4.frozen? ⟨B + 1, 0, none⟩ = false ∧ B + 1 < W4.heap.size ∧ W4.cell? ⟨B, 0, none⟩ = some (.func (.yield l) #[] #[]) ∧ (loadCellsFrom ⟨W1.heap.size, 0, none⟩ 0 M #[]).run Tryz.prog W4 = .ok cs W4 ∧
          Hid ((t = true → ∀ v, ownPostP (fun b => Pv b ∨ Q b) (WkSt Q J l B W0 whole Pv) (fun c => WkEnd Jx B W0 whole c Pv) (pre ++ [cs]) Wb .normal v (W4.setCell ⟨B + 1, 0, none⟩ (.int .i64 (pre.length + 1)))) ∧
            (t = false → ∀ v, ownPostP (fun b => Pv b ∨ Q b) (WkSt Q J l B W0 whole Pv) (fun c => WkEnd Jx B W0 whole c Pv) (pre ++ [cs]) Wb .ret v W4))) := Lib.hid (fun m' W3 cs' hr hb3 => by
      have h3 := later W3 hb3
      obtain ⟨xs, hx, hj1⟩ := HR.out.1.ex
      have hlt3 : ∀ b, WkPv B Pv b ∨ b = W1.heap.size → b < W3.heap.size := fun b hb => by
        have := hb3.size
        have := h3.size
        rcases hb with (hb | rfl | rfl | rfl) | rfl
        · have := HR.out.2.1 b hb; omega
        · omega
        · omega
        · omega
        · omega
      have hj : J (fun b => WkPv B Pv b ∨ b = W1.heap.size) xs W3 := HH.out.2.1 _ _ _ _ _ hj1 ((hpb.mono (fun b hb => Or.inl hb)).trans (Part.of_below hb3)) (fun b hb => hb.imp id (fun e => Nat.le_of_eq e.symm)) hlt3
      have hy0 := HH.out.2.2.2.1 (fun b => WkPv B Pv b ∨ b = W1.heap.size) xs (xs.length, cs') W3 hj hlt3 (fun b hb => by
        rw [← HBW.out]
        rcases hb with (hb | rfl | rfl | rfl) | rfl
        · have := HR.out.2.2.1 b hb; omega
        · omega
        · omega
        · omega
        · omega) ⟨rfl, by rw [hx]; exact hkl, by rw [hx]; exact hr⟩
      have hy1 := YieldAt.anyDepth hd m' hy0
      dsimp only at hy1
      rw [hx] at hy1
      refine YieldAt.mono hy1 fun e W4 ⟨hk4, hs4, ho⟩ => ?_
      have hkB : ∀ b, b < W3.heap.size → Pv b ∨ Q b → W4.heap[b]? = W3.heap[b]? := fun b hb hpq => hk4 b hb (hpq.imp (fun h => Or.inl (Or.inl h)) id)
      have hkeep : ∀ b, b < Wb.heap.size → Pv b ∨ Q b → W4.heap[b]? = Wb.heap[b]? := fun b hb hpq => (hkB b (Nat.lt_of_lt_of_le hb hb3.size) hpq).trans (hb3.block b hb)
      have hnum4 : W4.heap[B + 1]? = some (.cells #[.int .i64 pre.length] 3 (0, 0)) := (hk4 (B + 1) (hlt3 _ (Or.inl (Or.inr (Or.inr (Or.inl rfl))))) (Or.inl (Or.inl (Or.inr (Or.inr (Or.inl rfl)))))).trans h3.num
      have hfn4 : W4.cell? ⟨B, 0, none⟩ = some (.func (.yield l) #[] #[]) := (World.cell?_of_block (w := W3) (a := ⟨B, 0, none⟩) (hk4 B (hlt3 _ (Or.inl (Or.inr (Or.inl rfl)))) (Or.inl (Or.inl (Or.inr (Or.inl rfl)))))).trans h3.fn
      have hbb4 : W4.heap[W1.heap.size]? = some (.cells cs 44 (0, 0)) := (hk4 W1.heap.size (hlt3 _ (Or.inr rfl)) (Or.inl (Or.inr rfl))).trans ((hb3.block W1.heap.size (by omega)).trans hbb)
      have hld4 := load_list (W := W4) (a := ⟨W1.heap.size, 0, none⟩) (N := M) (cs := cs) (fun j v hv => by rw [add_block0]; exact cell_of_block hbb4 j hv) hszc
      have hs34 : Wb.heap.size ≤ W4.heap.size := Nat.le_trans hb3.size hs4
      have hlt4 : ∀ b, WkPv B Pv b → b < W4.heap.size := fun b hb => Nat.lt_of_lt_of_le (hlt3 b (Or.inl hb)) hs4
      have hpre : pre ++ [cs] <+: whole := ⟨rst, HR.out.2.2.2.2.2.2⟩
      have hxl : (xs ++ [(pre.length, cs')]).length = (pre ++ [cs]).length := by simp [hx]
      rcases ho with ⟨rfl, hj4⟩ | ⟨rfl, hx4⟩
      · refine ⟨true, rfl, cell_of_block hnum4 0 rfl, frozen_at hnum4 0, hlt4 _ (Or.inr (Or.inr (Or.inl rfl))), hfn4, hld4, fun _ v => ⟨fun b hb hpq => ?_, ?_, ?_⟩, fun h => by cases h⟩
        · refine (Below.heap_setCell W4 ⟨B + 1, 0, none⟩ _ b ?_).trans (hkeep b hb hpq)
          show b ≠ B + 1
          rcases hpq with hq | hq
          · have := h3.off b hq; omega
          · have := hQW b hq; omega
        · show Wb.heap.size ≤ (W4.setCell ⟨B + 1, 0, none⟩ _).heap.size
          simp [World.setCell]
          exact hs34
        · refine ⟨⟨xs ++ [(pre.length, cs')], hxl, HH.out.2.1 _ _ _ _ _ hj4 (Part.setCell W4 (a := ⟨B + 1, 0, none⟩) _ (Or.inl (Or.inr (Or.inr (Or.inl rfl))))) (fun b hb => Or.inl (Or.inl hb)) (fun b hb => by have := hlt4 b hb; simp [World.setCell]; exact this)⟩, hpre, ?_, ?_, fun b hb => ?_, h3.off, ?_⟩
          · rw [World.cell?_of_block (w := W4) (a := ⟨B, 0, none⟩) (Below.heap_setCell W4 ⟨B + 1, 0, none⟩ _ B (Nat.ne_of_lt (Nat.lt_succ_self B)))]
            exact hfn4
          · have := heap_setCell_at hnum4 0 (.int .i64 (pre.length + 1))
            rw [this]
            simp
          · refine (Below.heap_setCell W4 ⟨B + 1, 0, none⟩ _ b ?_).trans ((hkB b (by have := h3.size; have := hQW b hb; omega) (Or.inr hb)).trans (h3.q b hb))
            show b ≠ B + 1
            have := hQW b hb
            omega
          · have := h3.size
            simp [World.setCell]
            omega
      · refine ⟨false, rfl, cell_of_block hnum4 0 rfl, frozen_at hnum4 0, hlt4 _ (Or.inr (Or.inr (Or.inl rfl))), hfn4, hld4, (fun h => by cases h), fun _ v => ⟨hkeep, hs34, rfl, ⟨xs ++ [(pre.length, cs')], ?_, HH.out.2.2.1 _ _ _ _ _ hx4 (Part.refl _ _) (fun b hb => Or.inl (Or.inl hb)) hlt4⟩, h3.off, Nat.le_trans h3.size hs4⟩⟩
        have := hpre.length_le
        omega)
    have HB := Lib.hid (And.intro hIb later)
    have HBB := Lib.hid hbb
    have hfn := hIb.fn
    have hnm : Wb.cell? ⟨B + 1, 0, none⟩ = some (.int .i64 pre.length) := cell_of_block hIb.num 0 rfl
    have hldD : (loadCellsFrom ⟨W1.heap.size, 0, none⟩ 0 M #[]).run Tryz.prog Wb.drew = .ok cs Wb.drew := load_list (W := Wb.drew) (a := ⟨W1.heap.size, 0, none⟩) (N := M) (cs := cs) (fun j v hv => by rw [add_block0]; exact cell_of_block (W := Wb.drew) hbb j hv) hszc
    have hldE : (loadCellsFrom ⟨W1.heap.size, 0, none⟩ 0 M #[]).run Tryz.prog Wb.drew.drew = .ok cs Wb.drew.drew := load_list (W := Wb.drew.drew) (a := ⟨W1.heap.size, 0, none⟩) (N := M) (cs := cs) (fun j v hv => by rw [add_block0]; exact cell_of_block (W := Wb.drew.drew) hbb j hv) hszc
    clear hIb later hpb hWb hI hbb hbw hOW hQW hbx hst hk
    have hmx : Tryz.prog.follows .mixedOrders = true := by kernel_rfl
    rw [← HBW.out]
    clear hB hs1 hs2 hs3
    gi_wp2
    obtain ⟨S, hSd⟩ : ∃ S : World → Prop, S = fun Wx => Wx.cell? ⟨B, 0, none⟩ = some (.func (.yield l) #[] #[]) ∧ Wx.cell? ⟨B + 1, 0, none⟩ = some (.int .i64 pre.length) ∧ (loadCellsFrom ⟨W1.heap.size, 0, none⟩ 0 M #[]).run Tryz.prog Wx = .ok cs Wx := ⟨_, rfl⟩
    have hS0 : S Wb.drew := by rw [hSd]; exact ⟨hfn, hnm, hldD⟩
    have s1 : ∀ Wx, S Wx → Wx.cell? ⟨B, 0, none⟩ = some (.func (.yield l) #[] #[]) := fun Wx h => by rw [hSd] at h; exact h.1
    have s2 : ∀ Wx, S Wx → Wx.cell? ⟨B + 1, 0, none⟩ = some (.int .i64 pre.length) := fun Wx h => by rw [hSd] at h; exact h.2.1
    have s3 : ∀ Wx, S Wx → (loadCellsFrom ⟨W1.heap.size, 0, none⟩ 0 M #[]).run Tryz.prog Wx = .ok cs Wx := fun Wx h => by rw [hSd] at h; exact h.2.2
    have hS3 : Hid (∀ W3, Below Wb.heap.size Wb W3 → S W3) := Lib.hid (fun W3 hb3 => by
      rw [hSd]
      exact ⟨(HB.out.2 W3 hb3).fn, cell_of_block (HB.out.2 W3 hb3).num 0 rfl, load_list (W := W3) (a := ⟨W1.heap.size, 0, none⟩) (N := M) (cs := cs) (fun j v hv => by rw [add_block0]; exact cell_of_block (kept_box hb3 HBB.out) j hv) hszc⟩)
    have hS4 : Hid (∀ W4, W4.cell? ⟨B, 0, none⟩ = some (.func (.yield l) #[] #[]) → W4.cell? ⟨B + 1, 0, none⟩ = some (.int .i64 pre.length) → (loadCellsFrom ⟨W1.heap.size, 0, none⟩ 0 M #[]).run Tryz.prog W4 = .ok cs W4 → S W4) := Lib.hid (fun W4 h1 h2 h3 => by rw [hSd]; exact ⟨h1, h2, h3⟩)
    clear hSd hldD hldE hfn hnm hld
    refine wpIn_region_S S hmx ?_
    refine AnyS.take 0 (v := .func (.yield l) #[] #[]) hS0 rfl (by kernel_rfl) (by kernel_rfl) (by kernel_rfl) (by kernel_rfl) (fun _ _ _ h => h) rfl (fun _ => rfl) ?v0 ?_
    case v0 =>
      intro Wx hSx
      have q1 := s1 Wx hSx
      clear s1 s2 s3
      go_simp
    refine AnyS.take 1 (v := .int .i64 pre.length) hS0 rfl (by kernel_rfl) (by kernel_rfl) (by kernel_rfl) (by kernel_rfl) (fun _ _ _ h => h) rfl (fun _ => rfl) ?v1 ?_
    case v1 =>
      intro Wx hSx
      have q1 := s2 Wx hSx
      clear s1 s2 s3
      go_simp
    refine AnyS.take 2 (v := .agg cs) hS0 rfl (by kernel_rfl) (by kernel_rfl) (by kernel_rfl) (by kernel_rfl) (fun _ _ _ h => h) rfl (fun _ => rfl) ?v2 ?_
    case v2 =>
      intro Wx hSx
      have q1 := s3 Wx hSx
      clear s1 s2 s3
      go_simp
    clear s1 s2 s3 hS0
    refine AnyS.one 3 (by kernel_rfl) rfl rfl (fun K hK => ?_)
    go_simp
    (try refine ⟨hdd _, ?_⟩)
    refine (CallsIn.inRound (W0.heap.size + 1) (HCP.out _ _ (Below.refl _ _).drew)).mono ?_
    rintro e W3 ⟨cs', rfl, hRl, hb3⟩
    refine hK _ _ (hS3.out W3 hb3) ?_
    clear hK K
    have hS3' := hS3.out W3 hb3
    obtain ⟨fn, tmps, asg, bdy, hy2, hR⟩ := HYY.out (m - 1 - 1 - 1) W3 cs' hRl hb3
    clear hRl hb3
    refine AnyS.one 4 (by kernel_rfl) rfl rfl (fun K hK => ?_)
    go_simp
    (try refine ⟨hdd _, ?_⟩)
    refine hR.mono ?_
    rintro e W4 ⟨t, rfl, q1, q2, q3, q4, q5, HP4⟩
    have hS4' := hS4.out W4 q4 q1 q5
    refine hK _ _ hS4' ?_
    clear hK K q4 q5
    refine AnyS.take 5 (v := .bool (!t)) hS4' rfl (by kernel_rfl) (by kernel_rfl) (by kernel_rfl) (by kernel_rfl) (fun _ _ _ h => h) rfl (fun _ => rfl) ?v5 ?_
    case v5 =>
      intro Wx hSx
      go_simp
    refine AnyS.done (by kernel_rfl) ?_ _
    clear hS3' hS4' hS3 hS4
    cases t with
    | true =>
      gi_wp2
      exact HP4.out.1 trivial _
    | false =>
      gi_wp2
      exact HP4.out.2 trivial _
  case done =>
    intro Pv xs W1 hS hI hD hL hlt hdef
    have HI2 := Lib.hid (And.intro hI (And.intro hlt (And.intro hD hS)))
    clear hI hlt hD hL hS
    gi_wp2
    refine ⟨by simp, .inl ⟨_, _, rfl, run_takeDeferred hdef, ?_⟩⟩
    obtain ⟨ys, hy, hj⟩ := HI2.out.1.ex
    refine ⟨_, results_none rfl _ _ _, ⟨⟨_, rfl⟩, WkPv B Pv, fun b hb => ?_, .inl ⟨ys, by rw [hy, HI2.out.2.2.2], HH.out.2.1 _ _ _ _ _ hj (Part.putObj _ _ (Or.inl HI2.out.2.2.1)) (fun b hb => Or.inl hb) (fun b hb => ?_)⟩⟩⟩
    all_goals
      have h2 := HI2.out.1.size
      rw [show ∀ (k : Nat) (o : Obj), (W1.putObj k o).heap.size = W1.heap.size from fun k o => by simp]
      rcases hb with hb | rfl | rfl | rfl
      · exact HI2.out.2.1 b hb
      · omega
      · omega
      · omega
  case stop =>
    intro c' Pv pre W1 hS hI hD hL hlt hdef
    obtain rfl := hI.ret
    have HI2 := Lib.hid (And.intro hI (And.intro hlt (And.intro hD hS)))
    clear hI hlt hD hL hS
    gi_wp2
    refine ⟨by simp, .inl ⟨_, _, rfl, run_takeDeferred hdef, ?_⟩⟩
    obtain ⟨ys, hy, hj⟩ := HI2.out.1.ex
    refine ⟨_, results_none rfl _ _ _, ⟨⟨_, rfl⟩, WkPv B Pv, fun b hb => ?_, .inr ⟨ys, hy, HH.out.2.2.1 _ _ _ _ _ hj (Part.putObj _ _ (Or.inl HI2.out.2.2.1)) (fun b hb => Or.inl hb) (fun b hb => ?_)⟩⟩⟩
    all_goals
      have h2 := HI2.out.1.size
      rw [show ∀ (k : Nat) (o : Obj), (W1.putObj k o).heap.size = W1.heap.size from fun k o => by simp]
      rcases hb with hb | rfl | rfl | rfl
      · exact HI2.out.2.1 b hb
      · omega
      · omega
      · omega

end Go.Proofs.YtllfkgggolfojaaGreatDoor
