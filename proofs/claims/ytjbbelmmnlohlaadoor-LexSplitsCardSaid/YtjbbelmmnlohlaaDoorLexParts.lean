/-
  sepallaw01.LexParts returns true, whatever the two texts are.
-/
import Derived.Test.YtjbbelmmnlohlaaDoorLexNumbers
import Derived.Test.YtjbbelmmnlohlaaDoorLexM7
import Derived.Test.YtjbbelmmnlohlaaDoorLexQ
import Derived.Test.YtjbbelmmnlohlaaDoorLexX
namespace Go.Proofs.YtjbbelmmnlohlaaDoor
open Go.RowKit

/-- A call of Split: the tokens in a row of its own. -/
theorem split_row (l : List UInt8) (hl : l.length ≤ 60000) (w : World) (h : MaxAt w) :
    Calls Tryd.prog 12 #[.string ⟨l.toArray⟩] w fun r w' => ∃ x c, r = .returned (.tuple #[.slice x (splitN [] l (1, 1)).toks.length c, .agg #[.int .i64 (splitN [] l (1, 1)).l, .int .i64 (splitN [] l (1, 1)).c], .int .i64 (splitN [] l (1, 1)).e]) ∧
      w'.ownsRow w.heap.size 38 4 (.slice x (splitN [] l (1, 1)).toks.length c) (splitN [] l (1, 1)).toks.length (toksVals (splitN [] l (1, 1)).toks) ∧ Below w.heap.size w w' := by
  obtain ⟨hg, m, hm⟩ := h
  have hs := split_any ⟨l.toArray⟩ m w (by show l.length ≤ maxLen; unfold maxLen; omega) hg hm
  rw [List.toList_toArray, splitL_eq l (by omega)] at hs
  refine hs.mono fun r w' ⟨sv, hr, ho, hb⟩ => ?_
  obtain ⟨x, c, rfl⟩ := own_slice ho
  exact ⟨x, c, hr, ho, hb⟩

theorem count_call (l : List UInt8) (w : World) : Calls Tryd.prog 37 #[.string ⟨l.toArray⟩, .string ⟨#[10]⟩] w fun e w' => e = .returned (.int .i64 ((l.count 10 : Nat) : Int)) ∧ w = w' :=
  (Tryd.strings_Count_one ⟨l.toArray⟩ 10 w).mono fun e w' ⟨he, hw⟩ => ⟨by rw [he]; unfold Lib.countByte; rw [List.toList_toArray], hw.symm⟩

set_option maxHeartbeats 400000 in
theorem parts_long (a b : ByteArray) (m : Int) (w : World) (hs : a.size ≤ maxLen) (hs2 : b.size ≤ maxLen) (hg : 0 < w.heap.size) (hm : w.cell? ⟨0, 0, none⟩ = some (.int .i64 m)) (h : 500 < a.size ∨ 500 < b.size) :
    Calls Tryd.prog 10 #[.string a, .string b] w fun e w' => e = .returned (.bool true) ∧ Below w.heap.size w w' := by
  have HA := Lib.hid (awake_any m w hg hm)
  clear hm
  unfold maxLen at hs hs2
  by_cases h1 : (500 : Int) < a.size
  · go_enter Tryd.func10, Tryd.ntmps10
    go_wp2_with (first
      | (go_at_call 11; refine HA.out.mono ?_; rintro e w1 ⟨rfl, hb⟩; have HB := Lib.hid hb; clear hb))
    go_ret
    exact ⟨rfl, HB.out⟩
  · have h2 : (500 : Int) < b.size := by omega
    clear h
    go_enter Tryd.func10, Tryd.ntmps10
    go_wp2_with (first
      | (go_at_call 11; refine HA.out.mono ?_; rintro e w1 ⟨rfl, hb⟩; have HB := Lib.hid hb; clear hb))
    go_ret
    exact ⟨rfl, HB.out⟩

set_option maxRecDepth 100000 in
set_option maxHeartbeats 2000000 in
theorem parts_err1 (a b : List UInt8) (w : World) (hM : MaxAt w) (ha : a.length ≤ 500) (hb : b.length ≤ 500) (hE : (splitN [] a (1, 1)).e ≠ 0) :
    Calls Tryd.prog 10 #[.string ⟨a.toArray⟩, .string ⟨b.toArray⟩] w fun e w' => e = .returned (.bool true) ∧ Below w.heap.size w w' := by
  have HM := Lib.hid hM
  have HA : Hid (Calls Tryd.prog 11 #[] w fun e w' => e = .returned (.bool true) ∧ Below w.heap.size w w') := Lib.hid (by obtain ⟨hg, m, hm⟩ := hM; exact awake_any m w hg hm)
  have HS1 := Lib.hid (split_row a (by omega))
  have HS2 := Lib.hid (split_row b (by omega))
  have HS3 : Hid (∀ W, MaxAt W → Calls Tryd.prog 12 #[.string ((⟨a.toArray⟩ : ByteArray) ++ ⟨#[10]⟩ ++ ⟨b.toArray⟩)] W fun r w' => ∃ x c, r = .returned (.tuple #[.slice x 0 c, .agg #[.int .i64 (splitN [] a (1, 1)).l, .int .i64 (splitN [] a (1, 1)).c], .int .i64 (splitN [] a (1, 1)).e]) ∧ Below W.heap.size W w') := Lib.hid (fun W h => by
    have hs := split_row (a ++ 10 :: b) (by simp; omega) W h
    rw [split_two, if_neg hE, (splitN_err_toks a.length [] a (1, 1) (Nat.le_refl _)).1 hE] at hs
    rw [str_cat a [10], str_cat, List.append_assoc]
    exact hs.mono fun r w' ⟨x, c, hr, _, hb⟩ => ⟨x, c, hr, hb⟩)
  have HC := Lib.hid (count_call a)
  have hcb : (a.count 10 : Nat) ≤ 500 := Nat.le_trans (List.count_le_length) ha
  have hbl := (splitN_bd 501 b.length [] b (1, 1) (Nat.le_refl _) (by decide) (by decide) (by simp only; omega) (by simp only; omega) (fun x hx => by cases hx)).2
  unfold InB at hbl
  have hE2 : ((splitN [] a (1, 1)).e != 0) = true := bne_iff_ne.2 hE
  clear hM hE
  generalize splitN [] a (1, 1) = R1 at *
  generalize splitN [] b (1, 1) = R2 at *
  obtain ⟨t1, l1, c1, e1⟩ := R1
  obtain ⟨t2, l2, c2, e2⟩ := R2
  simp only at hE2 hbl
  generalize a.count 10 = d at *
  have h1 : ¬ (500 : Int) < a.length := by omega
  have h2 : ¬ (500 : Int) < b.length := by omega
  have hq1 : ¬ 9223372036854775807 < a.length + 1 := by omega
  have hq2 : ¬ 9223372036854775807 < a.length + 1 + b.length := by omega
  go_enter Tryd.func10, Tryd.ntmps10
  go_wp2_with (first
    | (go_at_call 11; refine HA.out.mono ?_; rintro e w1 ⟨rfl, hb⟩; have HB := Lib.hid (And.intro hb (HM.out.next hb)); clear hb)
    | (go_at_call 12; (with_reducible refine (HS1.out _ HB.out.2).mono ?_); rintro e w2 ⟨x1, k1, rfl, ho, hb⟩; have HB2 := Lib.hid (And.intro (HB.out.1.chain (hb.chain (below_alloc w2 (.cells #[.int .i64 l1, .int .i64 c1] 25)))) (HB.out.2.next (hb.chain (below_alloc w2 (.cells #[.int .i64 l1, .int .i64 c1] 25))))); clear ho hb)
    | (go_at_call 12; (with_reducible refine (HS2.out _ HB2.out.2).mono ?_); rintro e w3 ⟨x2, k2, rfl, ho, hb⟩; have HB3 := Lib.hid (And.intro (HB2.out.1.chain (hb.chain (below_alloc w3 (.cells #[.int .i64 l2, .int .i64 c2] 25)))) (HB2.out.2.next (hb.chain (below_alloc w3 (.cells #[.int .i64 l2, .int .i64 c2] 25))))); clear ho hb)
    | (go_at_call 12; (with_reducible refine (HS3.out _ HB3.out.2).mono ?_); rintro e w4 ⟨x3, k3, rfl, hb⟩; have HB4 := Lib.hid (HB3.out.1.chain hb); clear hb)
    | (go_at_call 37; refine (HC.out _).mono ?_; rintro e w5 ⟨rfl, rfl⟩))
  go_ret
  exact ⟨rfl, HB4.out.chain (below_alloc _ _)⟩

set_option maxRecDepth 100000 in
set_option maxHeartbeats 2000000 in
theorem parts_err2 (a b : List UInt8) (w : World) (hM : MaxAt w) (ha : a.length ≤ 500) (hb : b.length ≤ 500) (hE0 : (splitN [] a (1, 1)).e = 0) (hE : (splitN [] b (1, 1)).e ≠ 0) :
    Calls Tryd.prog 10 #[.string ⟨a.toArray⟩, .string ⟨b.toArray⟩] w fun e w' => e = .returned (.bool true) ∧ Below w.heap.size w w' := by
  have HM := Lib.hid hM
  have HA : Hid (Calls Tryd.prog 11 #[] w fun e w' => e = .returned (.bool true) ∧ Below w.heap.size w w') := Lib.hid (by obtain ⟨hg, m, hm⟩ := hM; exact awake_any m w hg hm)
  have HS1 := Lib.hid (split_row a (by omega))
  have HS2 := Lib.hid (split_row b (by omega))
  have HS3 : Hid (∀ W, MaxAt W → Calls Tryd.prog 12 #[.string ((⟨a.toArray⟩ : ByteArray) ++ ⟨#[10]⟩ ++ ⟨b.toArray⟩)] W fun r w' => ∃ x c, r = .returned (.tuple #[.slice x 0 c, .agg #[.int .i64 ((splitN [] b (1, 1)).l + (1 + (a.count 10 : Nat))), .int .i64 (splitN [] b (1, 1)).c], .int .i64 (splitN [] b (1, 1)).e]) ∧ Below W.heap.size W w') := Lib.hid (fun W h => by
    have hs := split_row (a ++ 10 :: b) (by simp; omega) W h
    rw [split_two, if_pos hE0, if_neg hE] at hs
    rw [str_cat a [10], str_cat, List.append_assoc]
    exact hs.mono fun r w' ⟨x, c, hr, _, hb⟩ => ⟨x, c, hr, hb⟩)
  have HC := Lib.hid (count_call a)
  have hcb : (a.count 10 : Nat) ≤ 500 := Nat.le_trans (List.count_le_length) ha
  have hbl := (splitN_bd 501 b.length [] b (1, 1) (Nat.le_refl _) (by decide) (by decide) (by simp only; omega) (by simp only; omega) (fun x hx => by cases hx)).2
  unfold InB at hbl
  have hE2 : ((splitN [] b (1, 1)).e != 0) = true := bne_iff_ne.2 hE
  clear hM hE
  generalize splitN [] a (1, 1) = R1 at *
  generalize splitN [] b (1, 1) = R2 at *
  obtain ⟨t1, l1, c1, e1⟩ := R1
  obtain ⟨t2, l2, c2, e2⟩ := R2
  simp only at hE2 hbl hE0
  subst hE0
  generalize a.count 10 = d at *
  have h1 : ¬ (500 : Int) < a.length := by omega
  have h2 : ¬ (500 : Int) < b.length := by omega
  have hq1 : ¬ 9223372036854775807 < a.length + 1 := by omega
  have hq2 : ¬ 9223372036854775807 < a.length + 1 + b.length := by omega
  go_enter Tryd.func10, Tryd.ntmps10
  go_wp2_with (first
    | (go_at_call 11; refine HA.out.mono ?_; rintro e w1 ⟨rfl, hb⟩; have HB := Lib.hid (And.intro hb (HM.out.next hb)); clear hb)
    | (go_at_call 12; (with_reducible refine (HS1.out _ HB.out.2).mono ?_); rintro e w2 ⟨x1, k1, rfl, ho, hb⟩; have HB2 := Lib.hid (And.intro (HB.out.1.chain (hb.chain (below_alloc w2 (.cells #[.int .i64 l1, .int .i64 c1] 25)))) (HB.out.2.next (hb.chain (below_alloc w2 (.cells #[.int .i64 l1, .int .i64 c1] 25))))); clear ho hb)
    | (go_at_call 12; (with_reducible refine (HS2.out _ HB2.out.2).mono ?_); rintro e w3 ⟨x2, k2, rfl, ho, hb⟩; have HW3 := Lib.hid (And.intro trivial (Nat.le_trans HB2.out.1.size hb.size)); have HB3 := Lib.hid (And.intro (HB2.out.1.chain (hb.chain (below_alloc w3 (.cells #[.int .i64 l2, .int .i64 c2] 25)))) (HB2.out.2.next (hb.chain (below_alloc w3 (.cells #[.int .i64 l2, .int .i64 c2] 25))))); clear ho hb)
    | (go_at_call 12; (with_reducible refine (HS3.out _ HB3.out.2).mono ?_); rintro e w4 ⟨x3, k3, rfl, hb⟩; obtain ⟨hp0, hp1, hz0, hz1⟩ := cells_of2 ((hb.block w3.heap.size (by rw [size_of_alloc]; omega)).trans (heap_of_alloc w3 (.cells #[.int .i64 l2, .int .i64 c2] 25))); have hlt4 : w3.heap.size < w4.heap.size := (by have := hb.size; rw [size_of_alloc] at this; omega); have HB4 := Lib.hid (HB3.out.1.chain hb); clear hb)
    | (go_at_call 37; refine (HC.out _).mono ?_; rintro e w5 ⟨rfl, rfl⟩))
  go_ret
  exact ⟨rfl, (HB4.out.setCell (p := ⟨w3.heap.size, 0, none⟩) HW3.out.2 _).chain (below_alloc _ _)⟩

/-- The first k tokens some lines lower. -/
def lowered (d : Int) (l : List Tok) (k : Nat) : List Tok := (l.take k).map (shiftT d) ++ l.drop k

theorem lowered_zero (d : Int) (l : List Tok) : lowered d l 0 = l := by simp [lowered]
theorem lowered_all (d : Int) (l : List Tok) : lowered d l l.length = l.map (shiftT d) := by simp [lowered]
theorem lowered_length (d : Int) (l : List Tok) (k : Nat) : (lowered d l k).length = l.length := by
  unfold lowered; rw [List.length_append, List.length_map, List.length_take, List.length_drop]; omega

theorem lowered_get (d : Int) (l : List Tok) (k : Nat) (h : k < l.length) : (lowered d l k).getD k ⟨0, [], 0, 0⟩ = l.getD k ⟨0, [], 0, 0⟩ := by
  unfold lowered
  rw [List.getD_eq_getElem?_getD, List.getElem?_append_right (by rw [List.length_map, List.length_take]; omega), List.getElem?_drop, List.getD_eq_getElem?_getD]
  congr 2
  rw [List.length_map, List.length_take]; omega

theorem toksVals_append (l m : List Tok) : toksVals (l ++ m) = toksVals l ++ toksVals m := by unfold toksVals; rw [List.flatMap_append]

theorem lowered_set (d : Int) (l : List Tok) (k : Nat) (h : k < l.length) : (toksVals (lowered d l k)).set (k * 4 + 2) (.int .i64 ((l.getD k ⟨0, [], 0, 0⟩).l + d)) = toksVals (lowered d l (k + 1)) := by
  have hx : l.getD k ⟨0, [], 0, 0⟩ = l[k] := by rw [List.getD_eq_getElem?_getD, List.getElem?_eq_getElem h]; rfl
  have e1 : lowered d l k = (l.take k).map (shiftT d) ++ (l[k] :: l.drop (k + 1)) := by
    unfold lowered; rw [List.drop_eq_getElem_cons h]
  have e2 : lowered d l (k + 1) = (l.take k).map (shiftT d) ++ (shiftT d l[k] :: l.drop (k + 1)) := by
    unfold lowered; rw [List.take_succ_eq_append_getElem h, List.map_append, List.append_assoc]; rfl
  have hl : (toksVals ((l.take k).map (shiftT d))).length = k * 4 := by
    rw [toksVals_length, List.length_map, List.length_take]; congr 1; omega
  have c : ∀ (x : Tok) (r : List Tok), toksVals (x :: r) = tokVals x ++ toksVals r := fun _ _ => rfl
  rw [e1, e2, toksVals_append, toksVals_append, c, c, hx, List.set_append_right _ _ (by rw [hl]; omega), hl, show k * 4 + 2 - k * 4 = 2 by omega]
  rfl

theorem toksVals_one (l : List Tok) : ∀ u ∈ toksVals l, u.oneCell' = true := by
  intro u hu
  unfold toksVals at hu
  rw [List.mem_flatMap] at hu
  obtain ⟨x, _, hx⟩ := hu
  exact tok_one x u hx

/-- The world in LexParts' loop: three rows of tokens; the second one is lowered token by token. -/
structure PartsAt (B1 B2 B3 : Nat) (v1 v2 v3 : Value) (t1 t2 t3 : List Tok) (d : Int) (k : Nat) (w0 W : World) : Prop where
  below : Below w0.heap.size w0 W
  o1 : W.ownsRow B1 38 4 v1 t1.length (toksVals t1)
  o2 : W.ownsRow B2 38 4 v2 t2.length (toksVals (lowered d t2 k))
  o3 : W.ownsRow B3 38 4 v3 t3.length (toksVals t3)
  b0 : w0.heap.size ≤ B1
  b1 : ∀ g, v1.ownBlock = some g → g < B2
  b2 : ∀ g, v2.ownBlock = some g → g < B3
  b3 : B1 ≤ B2 ∧ B2 ≤ B3 ∧ B3 ≤ W.heap.size

theorem PartsAt.step {B1 B2 B3 g c : Nat} {v1 v3 : Value} {t1 t2 t3 : List Tok} {d : Int} {k : Nat} {w0 W : World} (h : PartsAt B1 B2 B3 v1 (.slice (some ⟨g, 0, none⟩) t2.length c) v3 t1 t2 t3 d k w0 W) (hk : k < t2.length) :
    PartsAt B1 B2 B3 v1 (.slice (some ⟨g, 0, none⟩) t2.length c) v3 t1 t2 t3 d (k + 1) w0 (W.setCell ⟨g, k * 4 + 2, none⟩ (.int .i64 ((t2.getD k ⟨0, [], 0, 0⟩).l + d))) := by
  have hg := own_lt h.o2 g rfl
  have h3 := h.b3
  have hgB := h.b2 g rfl
  have hb : Below g W (W.setCell ⟨g, k * 4 + 2, none⟩ (.int .i64 ((t2.getD k ⟨0, [], 0, 0⟩).l + d))) := (Below.refl g W).setCell (p := ⟨g, k * 4 + 2, none⟩) (Nat.le_refl _) _
  refine ⟨h.below.trans (hb.mono (by have := h.b0; omega)), ?_, ?_, ?_, h.b0, h.b1, h.b2, ?_⟩
  · exact own_below h.o1 hb (fun g' hg' => by have := h.b1 g' hg'; omega)
  · have := own_set h.o2 (k * 4 + 2) (by omega) (.int .i64 ((t2.getD k ⟨0, [], 0, 0⟩).l + d))
    rw [lowered_set d t2 k hk] at this
    exact this
  · exact ownsRow_setCell_below h.o3 (a := ⟨g, k * 4 + 2, none⟩) hgB _
  · have := hb.size; omega

theorem parts_start {w w1 w2 w3 w4 : World} {x1 x2 x3 : Option Addr} {k1 k2 k3 : Nat} {t1 t2 : List Tok} {l1 c1 l2 c2 D : Int} (h0 : Below w.heap.size w w1)
    (o1 : w2.ownsRow w1.heap.size 38 4 (.slice x1 t1.length k1) t1.length (toksVals t1)) (b1 : Below w1.heap.size w1 w2)
    (o2 : w3.ownsRow (w2.alloc (.cells #[.int .i64 l1, .int .i64 c1] 25)).heap.size 38 4 (.slice x2 t2.length k2) t2.length (toksVals t2)) (b2 : Below (w2.alloc (.cells #[.int .i64 l1, .int .i64 c1] 25)).heap.size (w2.alloc (.cells #[.int .i64 l1, .int .i64 c1] 25)) w3)
    (o3 : w4.ownsRow (w3.alloc (.cells #[.int .i64 l2, .int .i64 c2] 25)).heap.size 38 4 (.slice x3 (t1.length + t2.length) k3) (t1.length + t2.length) (toksVals (t1 ++ t2.map (shiftT D)))) (b3 : Below (w3.alloc (.cells #[.int .i64 l2, .int .i64 c2] 25)).heap.size (w3.alloc (.cells #[.int .i64 l2, .int .i64 c2] 25)) w4) :
    PartsAt w1.heap.size (w2.alloc (.cells #[.int .i64 l1, .int .i64 c1] 25)).heap.size (w3.alloc (.cells #[.int .i64 l2, .int .i64 c2] 25)).heap.size (.slice x1 t1.length k1) (.slice x2 t2.length k2) (.slice x3 (t1.length + t2.length) k3) t1 t2 (t1 ++ t2.map (shiftT D)) D 0 w w4 := by
  have s1 := b1.size
  have s2 := b2.size
  have s3 := b3.size
  have s0 := h0.size
  have a1 := size_of_alloc w2 (.cells #[.int .i64 l1, .int .i64 c1] 25)
  have a2 := size_of_alloc w3 (.cells #[.int .i64 l2, .int .i64 c2] 25)
  have q1 := own_lt o1
  have q2 := own_lt o2
  refine ⟨((((h0.chain b1).chain (below_alloc _ _)).chain b2).chain (below_alloc _ _)).chain b3, ?_, ?_, ?_, s0, ?_, ?_, ?_⟩
  · refine own_below (own_below ((o1.alloc _)) b2 (fun g hg => by have := q1 g hg; omega) |>.alloc _) b3 (fun g hg => by have := q1 g hg; omega)
  · rw [lowered_zero]
    exact own_below (o2.alloc _) b3 (fun g hg => by have := q2 g hg; omega)
  · rw [List.length_append, List.length_map]; exact o3
  · exact fun g hg => by have := q1 g hg; omega
  · exact fun g hg => by have := q2 g hg; omega
  · omega

theorem PartsAt.alloc {B1 B2 B3 : Nat} {v1 v2 v3 : Value} {t1 t2 t3 : List Tok} {d : Int} {k : Nat} {w0 W : World} (h : PartsAt B1 B2 B3 v1 v2 v3 t1 t2 t3 d k w0 W) (o : Obj) : PartsAt B1 B2 B3 v1 v2 v3 t1 t2 t3 d k w0 (W.alloc o) :=
  ⟨h.below.chain (below_alloc W o), h.o1.alloc o, h.o2.alloc o, h.o3.alloc o, h.b0, h.b1, h.b2, by rw [size_of_alloc]; have := h.b3; omega⟩

/-- Behind the append. -/
theorem parts_end {B1 B2 B3 k1 k2 k3 : Nat} {x1 x2 x3 : Option Addr} {v' : Value} {t1 t2 : List Tok} {D : Int} {w W W' : World} (h : PartsAt B1 B2 B3 (.slice x1 t1.length k1) (.slice x2 t2.length k2) (.slice x3 (t1.length + t2.length) k3) t1 t2 (t1 ++ t2.map (shiftT D)) D t2.length w W)
    (hown : W'.ownsRow B1 38 4 v' (t1.length + t2.length) (toksVals t1 ++ toksVals (lowered D t2 t2.length))) (hg : W.grownBy W' (Value.slice x1 t1.length k1).ownBlock) :
    W'.ownsRow B3 38 4 (.slice x3 (t1.length + t2.length) k3) (t1 ++ t2.map (shiftT D)).length (toksVals (t1 ++ t2.map (shiftT D))) ∧ W'.ownsRow B1 38 4 v' (t1 ++ t2.map (shiftT D)).length (toksVals (t1 ++ t2.map (shiftT D))) ∧ Below w.heap.size w W' := by
  have hb3 := h.b3
  refine ⟨?_, ?_, ?_⟩
  · have q3 := own_lt h.o3
    have q1 := own_lt h.o1
    refine ⟨h.o3.1, ?_⟩
    rcases h.o3.2 with h2 | ⟨g, cap, cur, hv, hgB, hh, r⟩
    · exact Or.inl h2
    · refine Or.inr ⟨g, cap, cur, hv, hgB, ?_, r⟩
      rw [hg.block g (Array.getElem?_eq_some_iff.1 hh).1 (fun e => by have := h.b1 g e.symm; omega)]
      exact hh
  · rw [lowered_all, ← toksVals_append] at hown
    rw [List.length_append, List.length_map]
    exact hown
  · exact h.below.trans ((below_grown h.o1 hg (by omega)).mono h.b0)

theorem tokEq_call {W : World} {B B' n k3 k4 : Nat} {x3 x4 : Option Addr} {l : List Tok} (h3 : W.ownsRow B 38 4 (.slice x3 n k3) l.length (toksVals l)) (h4 : W.ownsRow B' 38 4 (.slice x4 n k4) l.length (toksVals l)) (hn : n ≤ 100000) :
    Calls Tryd.prog 38 #[.slice x3 n k3, .slice x4 n k4] W fun e w' => e = .returned (.bool true) ∧ ∃ q, w' = W.drewN q := by
  obtain ⟨a, c, e⟩ := own_slice h3
  injection e with _ hn2 _
  subst hn2
  exact tokEq_any x3 x4 k3 k4 l W hn (tokRead_of_own h3) (tokRead_of_own h4)

set_option maxRecDepth 100000 in
set_option maxHeartbeats 4000000 in
theorem parts_ok (a b : List UInt8) (w : World) (hM : MaxAt w) (ha : a.length ≤ 500) (hb : b.length ≤ 500) (hE0 : (splitN [] a (1, 1)).e = 0) (hE : (splitN [] b (1, 1)).e = 0) :
    Calls Tryd.prog 10 #[.string ⟨a.toArray⟩, .string ⟨b.toArray⟩] w fun e w' => e = .returned (.bool true) ∧ Below w.heap.size w w' := by
  have HM := Lib.hid hM
  have HA : Hid (Calls Tryd.prog 11 #[] w fun e w' => e = .returned (.bool true) ∧ Below w.heap.size w w') := Lib.hid (by obtain ⟨hg, m, hm⟩ := hM; exact awake_any m w hg hm)
  have HS1 := Lib.hid (split_row a (by omega))
  have HS2 := Lib.hid (split_row b (by omega))
  have HS3 : Hid (∀ W, MaxAt W → Calls Tryd.prog 12 #[.string ((⟨a.toArray⟩ : ByteArray) ++ ⟨#[10]⟩ ++ ⟨b.toArray⟩)] W fun r w' => ∃ x c, r = .returned (.tuple #[.slice x ((splitN [] a (1, 1)).toks.length + (splitN [] b (1, 1)).toks.length) c, .agg #[.int .i64 0, .int .i64 0], .int .i64 0]) ∧
      w'.ownsRow W.heap.size 38 4 (.slice x ((splitN [] a (1, 1)).toks.length + (splitN [] b (1, 1)).toks.length) c) ((splitN [] a (1, 1)).toks.length + (splitN [] b (1, 1)).toks.length) (toksVals ((splitN [] a (1, 1)).toks ++ (splitN [] b (1, 1)).toks.map (shiftT (1 + (a.count 10 : Nat))))) ∧ Below W.heap.size W w') := Lib.hid (fun W h => by
    have hs := split_row (a ++ 10 :: b) (by simp; omega) W h
    rw [split_two, if_pos hE0, if_pos hE] at hs
    rw [str_cat a [10], str_cat, List.append_assoc]
    simp only [List.length_append, List.length_map] at hs
    exact hs)
  have HC := Lib.hid (count_call a)
  have hcb : (a.count 10 : Nat) ≤ 500 := Nat.le_trans (List.count_le_length) ha
  have hbl := (splitN_bd 501 b.length [] b (1, 1) (Nat.le_refl _) (by decide) (by decide) (by simp only; omega) (by simp only; omega) (fun x hx => by cases hx)).1
  have hn1 := splitN_count a.length [] a (1, 1) (Nat.le_refl _)
  have hn2 := splitN_count b.length [] b (1, 1) (Nat.le_refl _)
  clear hM
  generalize splitN [] a (1, 1) = R1 at *
  generalize splitN [] b (1, 1) = R2 at *
  obtain ⟨t1, l1, c1, e1⟩ := R1
  obtain ⟨t2, l2, c2, e2⟩ := R2
  simp only at hE hE0 hbl hn1 hn2
  subst hE hE0
  have HBL : Hid (∀ k, k < t2.length → 0 ≤ (t2.getD k ⟨0, [], 0, 0⟩).l ∧ (t2.getD k ⟨0, [], 0, 0⟩).l ≤ 501) := Lib.hid (fun k hk => by
    rw [List.getD_eq_getElem?_getD, List.getElem?_eq_getElem hk]
    have := hbl t2[k] (List.getElem_mem hk)
    exact ⟨this.1, this.2.1⟩)
  have hl1 : t1.length ≤ 500 := by simp at hn1; omega
  have hl2 : t2.length ≤ 500 := by simp at hn2; omega
  clear hbl hn1 hn2
  generalize a.count 10 = d at *
  have h1 : ¬ (500 : Int) < a.length := by omega
  have h2 : ¬ (500 : Int) < b.length := by omega
  have hq1 : ¬ 9223372036854775807 < a.length + 1 := by omega
  have hq2 : ¬ 9223372036854775807 < a.length + 1 + b.length := by omega
  go_enter Tryd.func10, Tryd.ntmps10
  go_wp2_with (first
    | (go_at_call 11; refine HA.out.mono ?_; rintro e w1 ⟨rfl, hb⟩; have HB := Lib.hid (And.intro hb (HM.out.next hb)); clear hb)
    | (go_at_call 12; (with_reducible refine (HS1.out _ HB.out.2).mono ?_); rintro e w2 ⟨x1, k1, rfl, ho, hb⟩; have HO1 := Lib.hid (And.intro ho hb); have HB2 := Lib.hid (And.intro (HB.out.1.chain (hb.chain (below_alloc w2 (.cells #[.int .i64 l1, .int .i64 c1] 25)))) (HB.out.2.next (hb.chain (below_alloc w2 (.cells #[.int .i64 l1, .int .i64 c1] 25))))); clear ho hb)
    | (go_at_call 12; (with_reducible refine (HS2.out _ HB2.out.2).mono ?_); rintro e w3 ⟨x2, k2, rfl, ho, hb⟩; have HO2 := Lib.hid (And.intro ho hb); have HB3 := Lib.hid (And.intro (HB2.out.1.chain (hb.chain (below_alloc w3 (.cells #[.int .i64 l2, .int .i64 c2] 25)))) (HB2.out.2.next (hb.chain (below_alloc w3 (.cells #[.int .i64 l2, .int .i64 c2] 25))))); clear ho hb)
    | (go_at_call 12; (with_reducible refine (HS3.out _ HB3.out.2).mono ?_); rintro e w4 ⟨x3, k3, rfl, ho, hb⟩; have HO3 := Lib.hid (And.intro ho hb); have HB4 := Lib.hid (HB3.out.1.chain hb); clear ho hb)
    | (go_at_call 37; refine (HC.out _).mono ?_; rintro e w5 ⟨rfl, rfl⟩))
  obtain ⟨i0, hi, hiz, his, hib⟩ := info_parts infoTok
  have HI := Lib.hid (And.intro hi (And.intro hiz (And.intro his hib)))
  clear hi hiz his hib
  have HP := Lib.hid ((parts_start HB.out.1 HO1.out.1 HO1.out.2 HO2.out.1 HO2.out.2 HO3.out.1 HO3.out.2).alloc (.cells #[.int .i64 0, .int .i64 0] 25))
  clear HO1 HO2 HO3 HB HB2 HB3 HB4
  generalize w4.alloc (.cells #[.int .i64 0, .int .i64 0] 25) = W0 at *
  generalize hB1 : w1.heap.size = B1 at *
  generalize (w2.alloc (.cells #[.int .i64 l1, .int .i64 c1] 25)).heap.size = B2 at *
  generalize (w3.alloc (.cells #[.int .i64 l2, .int .i64 c2] 25)).heap.size = B3 at *
  clear hB1
  go_loopg [94] t2.length (fun n j wr => ∃ k : Nat, n = t2.length - k ∧ k ≤ t2.length ∧ j = .int .i64 k ∧ PartsAt B1 B2 B3 (.slice x1 t1.length k1) (.slice x2 t2.length k2) (.slice x3 (t1.length + t2.length) k3) t1 t2 (t1 ++ t2.map (shiftT (1 + (d : Int)))) (1 + (d : Int)) k w wr)
  case atStart => exact ⟨0, rfl, Nat.zero_le _, rfl, HP.out⟩
  case round =>
    clear HP
    obtain ⟨k, rfl, hk, rfl, hP⟩ := hrel
    by_cases hlt : k < t2.length
    · obtain ⟨g, cap, hT⟩ := tokRow_of_own (l := lowered (1 + (d : Int)) t2 k) (by rw [lowered_length]; exact hP.o2) (by rw [lowered_length]; omega)
      have hv := hT.val
      rw [lowered_length] at hv
      injection hv with hx2 _ hcap
      subst hx2
      have hcell := hT.c2 k (by rw [lowered_length]; exact hlt)
      rw [lowered_get _ _ _ hlt] at hcell
      have hfz := hT.fz (k * 4 + 2)
      have hxl := HBL.out k hlt
      have HS := Lib.hid (hP.step hlt)
      generalize t2.getD k ⟨0, [], 0, 0⟩ = x at *
      clear hT hP hcap
      go_wp2
      go_roundg (t2.length - (k + 1))
      case measure => omega
      case rel => exact ⟨k + 1, rfl, by omega, by go_num, HS.out⟩
    · obtain rfl : k = t2.length := by omega
      have HP := Lib.hid hP
      clear hP
      obtain ⟨hi, hiz, his, hib⟩ := HI.out
      go_wp2_with (first
        | (at_builtin; refine wpList_append_any _ rfl _ _ 23 rfl B1 38 i0 _ 4 40 Tryd.underlying23 hi hiz his hib rfl (by decide) _ _ _ rfl HP.out.o1 wr.heap.size x2 t2.length k2 _ rfl (Reads.of_own HP.out.o2) (toksVals_one _) ?c1 ?c2 ?c3 ?_))
      case c1 => unfold maxLen; omega
      case c2 => omega
      case c3 => have := HP.out.b3; omega
      intro v' w5 hown' hgrow _
      have HF := Lib.hid (parts_end HP.out hown' hgrow)
      obtain ⟨x4, k4, rfl⟩ := own_slice hown'
      clear hown' hgrow HP hi hiz his hib
      go_wp2_with (go_at_call 38; refine (tokEq_call HF.out.1 HF.out.2.1 (by omega)).mono ?_; rintro e w6 ⟨rfl, q, rfl⟩)
      go_ret
      exact ⟨rfl, below_drewN HF.out.2.2 _⟩

theorem parts_any (a b : ByteArray) (m : Int) (w : World) (hs : a.size ≤ maxLen) (hs2 : b.size ≤ maxLen) (hg : 0 < w.heap.size) (hm : w.cell? ⟨0, 0, none⟩ = some (.int .i64 m)) :
    Calls Tryd.prog 10 #[.string a, .string b] w fun e w' => e = .returned (.bool true) ∧ Below w.heap.size w w' := by
  by_cases h : 500 < a.size ∨ 500 < b.size
  · exact parts_long a b m w hs hs2 hg hm h
  · have ha : a.data.toList.length ≤ 500 := by rw [size_list]; omega
    have hb : b.data.toList.length ≤ 500 := by rw [size_list]; omega
    have key : Calls Tryd.prog 10 #[.string ⟨a.data.toList.toArray⟩, .string ⟨b.data.toList.toArray⟩] w fun e w' => e = .returned (.bool true) ∧ Below w.heap.size w w' := by
      by_cases h1 : (splitN [] a.data.toList (1, 1)).e = 0
      · by_cases h2 : (splitN [] b.data.toList (1, 1)).e = 0
        · exact parts_ok _ _ w ⟨hg, m, hm⟩ ha hb h1 h2
        · exact parts_err2 _ _ w ⟨hg, m, hm⟩ ha hb h1 h2
      · exact parts_err1 _ _ w ⟨hg, m, hm⟩ ha hb h1
    rw [str_list, str_list] at key
    exact key

end Go.Proofs.YtjbbelmmnlohlaaDoor
