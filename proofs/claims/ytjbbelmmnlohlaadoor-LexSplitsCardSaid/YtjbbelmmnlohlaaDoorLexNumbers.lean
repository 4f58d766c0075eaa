/-
  sepallaw01.LexNumbers returns true, whatever the number, the zeros and the tail are.
-/
import Derived.Test.YtjbbelmmnlohlaaDoorLexWords
import Derived.Test.YtjbbelmmnlohlaaDoorLexM6
namespace Go.Proofs.YtjbbelmmnlohlaaDoor
open Go.RowKit

def one0 (d : List UInt8) : Nat := if d = [] then 1 else 0
/-- The text of k in front of what has been written. -/
def decTo (k : Nat) (d : List UInt8) : List UInt8 := if k = 0 ∧ d = [] then [48] else decR k ++ d

theorem decTo_start (n : Nat) : decTo n [] = dec n := by
  unfold decTo dec
  by_cases h : n = 0 <;> simp [h]

theorem decTo_step (k : Nat) (d : List UInt8) (h : k ≠ 0 ∨ d = []) : decTo (k / 10) (UInt8.ofNat (48 + k % 10) :: d) = decTo k d := by
  unfold decTo
  rw [if_neg (by simp)]
  by_cases hk : k = 0
  · rcases h with h | h
    · exact absurd hk h
    · subst hk h
      simp [decR_zero]
  · rw [if_neg (by simp [hk]), decR_pos hk]
    simp

theorem decTo_end (d : List UInt8) (h : d ≠ []) : decTo 0 d = d := by
  unfold decTo
  rw [if_neg (by simp [h]), decR_zero]; rfl

theorem str_cat (x y : List UInt8) : (⟨x.toArray⟩ : ByteArray) ++ ⟨y.toArray⟩ = ⟨(x ++ y).toArray⟩ := by
  apply ByteArray.ext
  rw [ByteArray.data_append]
  simp

theorem enc_dig (k : Nat) : Utf8.encode (48 + (k : Int) % 10) = ⟨[UInt8.ofNat (48 + k % 10)].toArray⟩ := by
  have h : (48 + (k : Int) % 10).toNat = 48 + k % 10 := by omega
  have hv : Utf8.valid (48 + (k : Int) % 10) = true := by
    unfold Utf8.valid
    simp
    omega
  unfold Utf8.encode
  simp only [hv, h, if_true]
  rw [if_pos (by omega)]

theorem own_slice {W : World} {B : Nat} {e : TypeId} {size n : Nat} {v : Value} {xs : List Value} (h : W.ownsRow B e size v n xs) : ∃ a c, v = .slice a n c := by
  rcases h.2 with ⟨hv, hn⟩ | ⟨g, cap, cur, hv, _⟩
  · exact ⟨none, 0, by rw [hv, hn]⟩
  · exact ⟨_, _, hv⟩

/-- A call of Split that finds no token. -/
theorem split_fail {l : List UInt8} {a b e : Int} (h : splitN [] l (1, 1) = ⟨[], a, b, e⟩) (hl : l.length ≤ 1000) (m : Int) (w : World) (hg : 0 < w.heap.size) (hm : w.cell? ⟨0, 0, none⟩ = some (.int .i64 m)) :
    Calls Tryd.prog 12 #[.string ⟨l.toArray⟩] w fun r w' => ∃ x c, r = .returned (.tuple #[.slice x 0 c, .agg #[.int .i64 a, .int .i64 b], .int .i64 e]) ∧ Below w.heap.size w w' := by
  have hs := split_any ⟨l.toArray⟩ m w (by show l.length ≤ maxLen; unfold maxLen; omega) hg hm
  have e1 : splitL (⟨l.toArray⟩ : ByteArray).data.toList = ⟨[], a, b, e⟩ := by
    rw [List.toList_toArray, splitL_eq l (by omega), h]
  rw [e1] at hs
  refine hs.mono fun r w' ⟨sv, hr, ho, hb⟩ => ?_
  obtain ⟨x, c, rfl⟩ := own_slice ho
  exact ⟨x, c, hr, hb⟩

theorem rep_call (z : Nat) (W : World) : Calls Tryd.prog 36 #[.string ⟨#[48]⟩, .int .i64 (1 + (z : Int) % 5)] W fun e w' => e = .returned (.string ⟨(List.replicate (1 + z % 5) 48).toArray⟩) ∧ Below W.heap.size W w' := by
  have h := Tryd.strings_Repeat ⟨#[48]⟩ (1 + z % 5) W (by omega) (by show 1 * _ ≤ _; omega)
  have e1 : ((1 + z % 5 : Nat) : Int) = 1 + (z : Int) % 5 := by omega
  rw [e1] at h
  refine h.mono fun e w' ⟨he, hw⟩ => ⟨?_, hw⟩
  rw [he]
  congr 3
  show (Lib.repeatL [48] (1 + z % 5)).toArray = _
  congr 1
  have hr : ∀ c, Lib.repeatL [48] c = List.replicate c (48 : UInt8) := by
    intro c
    induction c with
    | zero => rfl
    | succ c ih => rw [List.replicate_succ, ← ih]; rfl
  exact hr _

/-- What one call of Split on a known text needs of the world. -/
def MaxAt (w : World) : Prop := 0 < w.heap.size ∧ ∃ m, w.cell? ⟨0, 0, none⟩ = some (.int .i64 m)

theorem MaxAt.later {w w' : World} (h : MaxAt w) {B : Nat} (hB : 0 < B) (hb : Below B w w') (hs : w.heap.size ≤ w'.heap.size) : MaxAt w' := by
  obtain ⟨hg, m, hm⟩ := h
  exact ⟨by omega, m, (hb.cell (p := ⟨0, 0, none⟩) hB).trans hm⟩

theorem MaxAt.next {w w' : World} (h : MaxAt w) (hb : Below w.heap.size w w') : MaxAt w' := h.later h.1 hb hb.size

set_option maxRecDepth 100000 in
set_option maxHeartbeats 2000000 in
theorem numbers_big (n z : Nat) (t : List UInt8) (m : Int) (w : World) (hbig : 1048576 < n) (hw : wordB t = true) (hn : n < 4294967296) (hz : z < 256) (ht : t.length ≤ 5) (hg : 0 < w.heap.size) (hm : w.cell? ⟨0, 0, none⟩ = some (.int .i64 m)) :
    Calls Tryd.prog 9 #[.int .u32 n, .int .u8 z, .string ⟨t.toArray⟩] w fun e w' => e = .returned (.bool true) ∧ Below w.heap.size w w' := by
  have HA := Lib.hid (awake_any m w hg hm)
  have h5 : ¬ (5 : Int) < t.length := by omega
  have HL := Lib.hid (And.intro trivial (dec_len n hn))
  have HS1 : Hid (∀ W, MaxAt W → Calls Tryd.prog 12 #[.string ⟨(dec n).toArray⟩] W fun r w' => ∃ x c, r = .returned (.tuple #[.slice x 0 c, .agg #[.int .i64 1, .int .i64 1], .int .i64 10]) ∧ Below W.heap.size W w') := Lib.hid (fun W h => by
    obtain ⟨hg, m, hm⟩ := h
    exact split_fail (by rw [split_dec, if_neg (by omega)]) (by have := HL.out.2; omega) m W hg hm)
  have HS2 : Hid (∀ W, MaxAt W → Calls Tryd.prog 12 #[.string ((⟨#[32]⟩ : ByteArray) ++ ⟨(List.replicate (1 + z % 5) 48).toArray⟩ ++ ⟨(dec n).toArray⟩)] W fun r w' => ∃ x c, r = .returned (.tuple #[.slice x 0 c, .agg #[.int .i64 1, .int .i64 2], .int .i64 3]) ∧ Below W.heap.size W w') := Lib.hid (fun W h => by
    obtain ⟨hg, m, hm⟩ := h
    rw [str_cat [32], str_cat]
    exact split_fail (split_zeros n (1 + z % 5) (by omega)) (by simp; have := HL.out.2; omega) m W hg hm)
  have HS3 : Hid (∀ W, MaxAt W → Calls Tryd.prog 12 #[.string ((⟨(dec n).toArray⟩ : ByteArray) ++ ⟨t.toArray⟩)] W fun r w' => ∃ x c, r = .returned (.tuple #[.slice x 0 c, .agg #[.int .i64 1, .int .i64 1], .int .i64 3]) ∧ Below W.heap.size W w') := Lib.hid (fun W h => by
    obtain ⟨hg, m, hm⟩ := h
    rw [str_cat]
    exact split_fail (split_tail n t hw) (by simp; have := HL.out.2; omega) m W hg hm)
  have HR := Lib.hid (rep_call z)
  have HW : Hid (∀ w, Calls Tryd.prog 35 #[.string ⟨t.toArray⟩] w fun e w' => e = .returned (.bool true) ∧ w = w') := Lib.hid (fun w => hw ▸ rword_any ⟨t.toArray⟩ w (by show t.length ≤ maxLen; unfold maxLen; omega))
  have HM : Hid (MaxAt w) := Lib.hid ⟨hg, m, hm⟩
  clear hm hw hg
  have hn2 : (1048576 : Int) < n := by omega
  go_enter Tryd.func9, Tryd.ntmps9
  go_wp2_with (first
    | (go_at_call 11; refine HA.out.mono ?_; rintro e w1 ⟨rfl, hb⟩; have HB := Lib.hid (And.intro hb (HM.out.next hb)); clear hb))
  go_loopg [7, 8] (n + 1) (fun c v j wr => wr = w1 ∧ ∃ (k : Nat) (d : List UInt8), c = k + one0 d ∧ j = .int .i64 k ∧ v = .string ⟨d.toArray⟩ ∧ k ≤ n ∧ Hid (decTo k d = dec n))
  case atStart => exact ⟨rfl, n, [], rfl, rfl, rfl, Nat.le_refl _, decTo_start n⟩
  case round =>
    obtain ⟨rfl, k, d, rfl, rfl, rfl, hk, HD⟩ := hrel
    by_cases hk0 : k = 0 ∧ d ≠ []
    · obtain ⟨rfl, hd⟩ := hk0
      have HE : Hid (d = dec n) := Lib.hid (by rw [← HD.out, decTo_end d hd])
      have hd2 : d.isEmpty = false := by cases d with | nil => exact absurd rfl hd | cons _ _ => rfl
      clear HD hd
      rw [HE.out] at hd2
      obtain rfl : d = dec n := HE.out
      have hl0 := HL.out.2
      generalize dec n = d at *
      have hq1 : ¬ 9223372036854775807 < 1 + (List.replicate (1 + z % 5) (48 : UInt8)).length := by rw [List.length_replicate]; omega
      have hq2 : ¬ 9223372036854775807 < 1 + (List.replicate (1 + z % 5) (48 : UInt8)).length + d.length := by rw [List.length_replicate]; omega
      have hq3 : ¬ 9223372036854775807 < d.length + t.length := by omega
      generalize List.replicate (1 + z % 5) (48 : UInt8) = zs at *
      go_wp2_with (first
        | (go_at_call 12; (with_reducible refine (HS1.out _ HB.out.2).mono ?_); rintro e w2 ⟨x2, c2, rfl, hb⟩; have HB2 := Lib.hid (HB.out.2.next hb); replace HB := Lib.hid (And.intro (HB.out.1.chain hb) HB.out.2); clear hb)
        | (go_at_call 36; refine (HR.out _).mono ?_; rintro e w3 ⟨rfl, hb⟩; have HB3 := Lib.hid (HB2.out.next ((below_alloc w2 _).chain hb)); replace HB := Lib.hid (And.intro (HB.out.1.chain ((below_alloc w2 _).chain hb)) trivial); clear hb)
        | (go_at_call 12; (with_reducible refine (HS2.out _ HB3.out).mono ?_); rintro e w4 ⟨x4, c4, rfl, hb⟩; have HB4 := Lib.hid (HB3.out.next hb); replace HB := Lib.hid (And.intro (HB.out.1.chain hb) trivial); clear hb)
        | (go_at_call 35; refine (HW.out _).mono ?_; rintro e w5 ⟨rfl, rfl⟩)
        | (go_at_call 12; (with_reducible refine (HS3.out _ (HB4.out.next (below_alloc w4 _))).mono ?_); rintro e w6 ⟨x6, c6, rfl, hb⟩; replace HB := Lib.hid (And.intro (HB.out.1.chain ((below_alloc w4 _).chain hb)) trivial); clear hb))
      go_ret
      exact ⟨rfl, HB.out.1.chain (below_alloc _ _)⟩
    · have hks : k ≠ 0 ∨ d = [] := by
        by_cases h : k = 0
        · exact Or.inr (Decidable.of_not_not fun h2 => hk0 ⟨h, h2⟩)
        · exact Or.inl h
      have HT := Lib.hid (decTo_step k d hks ▸ HD.out)
      have hdl : d.length ≤ 10 := by
        have := HL.out.2
        rw [← HD.out] at this
        unfold decTo at this
        split at this
        · rename_i h; rw [h.2]; simp
        · rw [List.length_append] at this; omega
      have HEn := Lib.hid (And.intro trivial (enc_dig k))
      have HZ : Hid (True ∧ (Utf8.encode (48 + (k : Int) % 10)).size = 1) := Lib.hid ⟨trivial, by rw [enc_dig]; rfl⟩
      have hlt : k / 10 + one0 (UInt8.ofNat (48 + k % 10) :: d) < k + one0 d := by
        unfold one0
        rw [if_neg (by simp)]
        rcases hks with h | h
        · omega
        · rw [if_pos h]; omega
      have hHl := Lib.hid (And.intro trivial hlt)
      have hks2 : (0 : Int) < k ∨ d = [] := by
        rcases hks with h | h
        · exact Or.inl (by omega)
        · exact Or.inr h
      clear hks hk0 HD hlt
      by_cases h0 : (0 : Int) < k
      · clear hks2
        go_wp2
        case isTrue => exfalso; have := HZ.out.2; omega
        go_roundg (k / 10 + one0 (UInt8.ofNat (48 + k % 10) :: d))
        case measure => exact hHl.out.2
        case rel => exact ⟨rfl, k / 10, _, rfl, by go_num, by rw [HEn.out.2, str_cat]; rfl, by omega, HT.out⟩
      · have hd0 : d = [] := by
          rcases hks2 with h | h
          · exact absurd h h0
          · exact h
        subst hd0
        obtain rfl : k = 0 := by omega
        clear hks2
        go_wp2
        go_roundg 0
        case measure => show 0 < 1; omega
        case rel =>
          have e48 : Utf8.encode 48 = ⟨[48].toArray⟩ := enc_dig 0
          exact ⟨rfl, 0, [48], rfl, by go_num, by rw [e48]; exact congrArg Value.string (str_cat [48] []), by omega, HT.out⟩

set_option maxRecDepth 100000 in
set_option maxHeartbeats 2000000 in
theorem numbers_big_no (n z : Nat) (t : List UInt8) (m : Int) (w : World) (hbig : 1048576 < n) (hw : wordB t = false) (hn : n < 4294967296) (hz : z < 256) (ht : t.length ≤ 5) (hg : 0 < w.heap.size) (hm : w.cell? ⟨0, 0, none⟩ = some (.int .i64 m)) :
    Calls Tryd.prog 9 #[.int .u32 n, .int .u8 z, .string ⟨t.toArray⟩] w fun e w' => e = .returned (.bool true) ∧ Below w.heap.size w w' := by
  have HA := Lib.hid (awake_any m w hg hm)
  have h5 : ¬ (5 : Int) < t.length := by omega
  have HL := Lib.hid (And.intro trivial (dec_len n hn))
  have HS1 : Hid (∀ W, MaxAt W → Calls Tryd.prog 12 #[.string ⟨(dec n).toArray⟩] W fun r w' => ∃ x c, r = .returned (.tuple #[.slice x 0 c, .agg #[.int .i64 1, .int .i64 1], .int .i64 10]) ∧ Below W.heap.size W w') := Lib.hid (fun W h => by
    obtain ⟨hg, m, hm⟩ := h
    exact split_fail (by rw [split_dec, if_neg (by omega)]) (by have := HL.out.2; omega) m W hg hm)
  have HS2 : Hid (∀ W, MaxAt W → Calls Tryd.prog 12 #[.string ((⟨#[32]⟩ : ByteArray) ++ ⟨(List.replicate (1 + z % 5) 48).toArray⟩ ++ ⟨(dec n).toArray⟩)] W fun r w' => ∃ x c, r = .returned (.tuple #[.slice x 0 c, .agg #[.int .i64 1, .int .i64 2], .int .i64 3]) ∧ Below W.heap.size W w') := Lib.hid (fun W h => by
    obtain ⟨hg, m, hm⟩ := h
    rw [str_cat [32], str_cat]
    exact split_fail (split_zeros n (1 + z % 5) (by omega)) (by simp; have := HL.out.2; omega) m W hg hm)
  have HR := Lib.hid (rep_call z)
  have HW : Hid (∀ w, Calls Tryd.prog 35 #[.string ⟨t.toArray⟩] w fun e w' => e = .returned (.bool false) ∧ w = w') := Lib.hid (fun w => hw ▸ rword_any ⟨t.toArray⟩ w (by show t.length ≤ maxLen; unfold maxLen; omega))
  have HM : Hid (MaxAt w) := Lib.hid ⟨hg, m, hm⟩
  clear hm hw hg
  have hn2 : (1048576 : Int) < n := by omega
  go_enter Tryd.func9, Tryd.ntmps9
  go_wp2_with (first
    | (go_at_call 11; refine HA.out.mono ?_; rintro e w1 ⟨rfl, hb⟩; have HB := Lib.hid (And.intro hb (HM.out.next hb)); clear hb))
  go_loopg [7, 8] (n + 1) (fun c v j wr => wr = w1 ∧ ∃ (k : Nat) (d : List UInt8), c = k + one0 d ∧ j = .int .i64 k ∧ v = .string ⟨d.toArray⟩ ∧ k ≤ n ∧ Hid (decTo k d = dec n))
  case atStart => exact ⟨rfl, n, [], rfl, rfl, rfl, Nat.le_refl _, decTo_start n⟩
  case round =>
    obtain ⟨rfl, k, d, rfl, rfl, rfl, hk, HD⟩ := hrel
    by_cases hk0 : k = 0 ∧ d ≠ []
    · obtain ⟨rfl, hd⟩ := hk0
      have HE : Hid (d = dec n) := Lib.hid (by rw [← HD.out, decTo_end d hd])
      have hd2 : d.isEmpty = false := by cases d with | nil => exact absurd rfl hd | cons _ _ => rfl
      clear HD hd
      rw [HE.out] at hd2
      obtain rfl : d = dec n := HE.out
      have hl0 := HL.out.2
      generalize dec n = d at *
      have hq1 : ¬ 9223372036854775807 < 1 + (List.replicate (1 + z % 5) (48 : UInt8)).length := by rw [List.length_replicate]; omega
      have hq2 : ¬ 9223372036854775807 < 1 + (List.replicate (1 + z % 5) (48 : UInt8)).length + d.length := by rw [List.length_replicate]; omega
      have hq3 : ¬ 9223372036854775807 < d.length + t.length := by omega
      generalize List.replicate (1 + z % 5) (48 : UInt8) = zs at *
      go_wp2_with (first
        | (go_at_call 12; (with_reducible refine (HS1.out _ HB.out.2).mono ?_); rintro e w2 ⟨x2, c2, rfl, hb⟩; have HB2 := Lib.hid (HB.out.2.next hb); replace HB := Lib.hid (And.intro (HB.out.1.chain hb) HB.out.2); clear hb)
        | (go_at_call 36; refine (HR.out _).mono ?_; rintro e w3 ⟨rfl, hb⟩; have HB3 := Lib.hid (HB2.out.next ((below_alloc w2 _).chain hb)); replace HB := Lib.hid (And.intro (HB.out.1.chain ((below_alloc w2 _).chain hb)) trivial); clear hb)
        | (go_at_call 12; (with_reducible refine (HS2.out _ HB3.out).mono ?_); rintro e w4 ⟨x4, c4, rfl, hb⟩; have HB4 := Lib.hid (HB3.out.next hb); replace HB := Lib.hid (And.intro (HB.out.1.chain hb) trivial); clear hb)
        | (go_at_call 35; refine (HW.out _).mono ?_; rintro e w5 ⟨rfl, rfl⟩))
      go_ret
      exact ⟨rfl, HB.out.1.chain (below_alloc _ _)⟩
    · have hks : k ≠ 0 ∨ d = [] := by
        by_cases h : k = 0
        · exact Or.inr (Decidable.of_not_not fun h2 => hk0 ⟨h, h2⟩)
        · exact Or.inl h
      have HT := Lib.hid (decTo_step k d hks ▸ HD.out)
      have hdl : d.length ≤ 10 := by
        have := HL.out.2
        rw [← HD.out] at this
        unfold decTo at this
        split at this
        · rename_i h; rw [h.2]; simp
        · rw [List.length_append] at this; omega
      have HEn := Lib.hid (And.intro trivial (enc_dig k))
      have HZ : Hid (True ∧ (Utf8.encode (48 + (k : Int) % 10)).size = 1) := Lib.hid ⟨trivial, by rw [enc_dig]; rfl⟩
      have hlt : k / 10 + one0 (UInt8.ofNat (48 + k % 10) :: d) < k + one0 d := by
        unfold one0
        rw [if_neg (by simp)]
        rcases hks with h | h
        · omega
        · rw [if_pos h]; omega
      have hHl := Lib.hid (And.intro trivial hlt)
      have hks2 : (0 : Int) < k ∨ d = [] := by
        rcases hks with h | h
        · exact Or.inl (by omega)
        · exact Or.inr h
      clear hks hk0 HD hlt
      by_cases h0 : (0 : Int) < k
      · clear hks2
        go_wp2
        case isTrue => exfalso; have := HZ.out.2; omega
        go_roundg (k / 10 + one0 (UInt8.ofNat (48 + k % 10) :: d))
        case measure => exact hHl.out.2
        case rel => exact ⟨rfl, k / 10, _, rfl, by go_num, by rw [HEn.out.2, str_cat]; rfl, by omega, HT.out⟩
      · have hd0 : d = [] := by
          rcases hks2 with h | h
          · exact absurd h h0
          · exact h
        subst hd0
        obtain rfl : k = 0 := by omega
        clear hks2
        go_wp2
        go_roundg 0
        case measure => show 0 < 1; omega
        case rel =>
          have e48 : Utf8.encode 48 = ⟨[48].toArray⟩ := enc_dig 0
          exact ⟨rfl, 0, [48], rfl, by go_num, by rw [e48]; exact congrArg Value.string (str_cat [48] []), by omega, HT.out⟩

set_option maxRecDepth 100000 in
set_option maxHeartbeats 2000000 in
theorem numbers_small (n z : Nat) (t : List UInt8) (m : Int) (w : World) (hbig : n ≤ 1048576) (hw : wordB t = true) (hn : n < 4294967296) (hz : z < 256) (ht : t.length ≤ 5) (hg : 0 < w.heap.size) (hm : w.cell? ⟨0, 0, none⟩ = some (.int .i64 m)) :
    Calls Tryd.prog 9 #[.int .u32 n, .int .u8 z, .string ⟨t.toArray⟩] w fun e w' => e = .returned (.bool true) ∧ Below w.heap.size w w' := by
  have HA := Lib.hid (awake_any m w hg hm)
  have h5 : ¬ (5 : Int) < t.length := by omega
  have HL := Lib.hid (And.intro trivial (dec_len n hn))
  have HS1 : Hid (∀ W, MaxAt W → Calls Tryd.prog 12 #[.string ⟨(dec n).toArray⟩] W (SplitIs ⟨[⟨2, dec n, 1, 1⟩], 0, 0, 0⟩ W)) := Lib.hid (fun W h => by
    obtain ⟨hg, m, hm⟩ := h
    have hs := split_any ⟨(dec n).toArray⟩ m W (by show (dec n).length ≤ maxLen; unfold maxLen; have := HL.out.2; omega) hg hm
    have e1 : splitL (⟨(dec n).toArray⟩ : ByteArray).data.toList = ⟨[⟨2, dec n, 1, 1⟩], 0, 0, 0⟩ := by
      rw [List.toList_toArray, splitL_eq _ (by have := HL.out.2; omega), split_dec, if_pos hbig]
    rw [e1] at hs
    exact hs)
  have HS2 : Hid (∀ W, MaxAt W → Calls Tryd.prog 12 #[.string ((⟨#[32]⟩ : ByteArray) ++ ⟨(List.replicate (1 + z % 5) 48).toArray⟩ ++ ⟨(dec n).toArray⟩)] W fun r w' => ∃ x c, r = .returned (.tuple #[.slice x 0 c, .agg #[.int .i64 1, .int .i64 2], .int .i64 3]) ∧ Below W.heap.size W w') := Lib.hid (fun W h => by
    obtain ⟨hg, m, hm⟩ := h
    rw [str_cat [32], str_cat]
    exact split_fail (split_zeros n (1 + z % 5) (by omega)) (by simp; have := HL.out.2; omega) m W hg hm)
  have HS3 : Hid (∀ W, MaxAt W → Calls Tryd.prog 12 #[.string ((⟨(dec n).toArray⟩ : ByteArray) ++ ⟨t.toArray⟩)] W fun r w' => ∃ x c, r = .returned (.tuple #[.slice x 0 c, .agg #[.int .i64 1, .int .i64 1], .int .i64 3]) ∧ Below W.heap.size W w') := Lib.hid (fun W h => by
    obtain ⟨hg, m, hm⟩ := h
    rw [str_cat]
    exact split_fail (split_tail n t hw) (by simp; have := HL.out.2; omega) m W hg hm)
  have HR := Lib.hid (rep_call z)
  have HW : Hid (∀ w, Calls Tryd.prog 35 #[.string ⟨t.toArray⟩] w fun e w' => e = .returned (.bool true) ∧ w = w') := Lib.hid (fun w => hw ▸ rword_any ⟨t.toArray⟩ w (by show t.length ≤ maxLen; unfold maxLen; omega))
  have HM : Hid (MaxAt w) := Lib.hid ⟨hg, m, hm⟩
  clear hm hw hg
  have hn2 : ¬ (1048576 : Int) < n := by omega
  go_enter Tryd.func9, Tryd.ntmps9
  go_wp2_with (first
    | (go_at_call 11; refine HA.out.mono ?_; rintro e w1 ⟨rfl, hb⟩; have HB := Lib.hid (And.intro hb (HM.out.next hb)); clear hb))
  go_loopg [7, 8] (n + 1) (fun c v j wr => wr = w1 ∧ ∃ (k : Nat) (d : List UInt8), c = k + one0 d ∧ j = .int .i64 k ∧ v = .string ⟨d.toArray⟩ ∧ k ≤ n ∧ Hid (decTo k d = dec n))
  case atStart => exact ⟨rfl, n, [], rfl, rfl, rfl, Nat.le_refl _, decTo_start n⟩
  case round =>
    obtain ⟨rfl, k, d, rfl, rfl, rfl, hk, HD⟩ := hrel
    by_cases hk0 : k = 0 ∧ d ≠ []
    · obtain ⟨rfl, hd⟩ := hk0
      have HE : Hid (d = dec n) := Lib.hid (by rw [← HD.out, decTo_end d hd])
      have hd2 : d.isEmpty = false := by cases d with | nil => exact absurd rfl hd | cons _ _ => rfl
      clear HD hd
      rw [HE.out] at hd2
      obtain rfl : d = dec n := HE.out
      have hl0 := HL.out.2
      generalize dec n = d at *
      have hq1 : ¬ 9223372036854775807 < 1 + (List.replicate (1 + z % 5) (48 : UInt8)).length := by rw [List.length_replicate]; omega
      have hq2 : ¬ 9223372036854775807 < 1 + (List.replicate (1 + z % 5) (48 : UInt8)).length + d.length := by rw [List.length_replicate]; omega
      have hq3 : ¬ 9223372036854775807 < d.length + t.length := by omega
      generalize List.replicate (1 + z % 5) (48 : UInt8) = zs at *
      go_wp2_with (first
        | (go_at_call 12; (with_reducible refine (HS1.out _ HB.out.2).mono ?_); rintro e w2 ⟨sv, rfl, ho, hb⟩; obtain ⟨g, cap, hT⟩ := tokRow_of_own ho (by simp); obtain rfl := hT.val; have q0 := hT.c0 0 (by simp); have q1 := hT.c1 0 (by simp); have qlt := hT.lt; clear hT ho; have HB2 := Lib.hid (HB.out.2.next hb); replace HB := Lib.hid (And.intro (HB.out.1.chain hb) HB.out.2); clear hb)
        | (go_at_call 36; refine (HR.out _).mono ?_; rintro e w3 ⟨rfl, hb⟩; have HB3 := Lib.hid (HB2.out.next ((below_alloc w2 _).chain hb)); replace HB := Lib.hid (And.intro (HB.out.1.chain ((below_alloc w2 _).chain hb)) trivial); clear hb)
        | (go_at_call 12; (with_reducible refine (HS2.out _ HB3.out).mono ?_); rintro e w4 ⟨x4, c4, rfl, hb⟩; have HB4 := Lib.hid (HB3.out.next hb); replace HB := Lib.hid (And.intro (HB.out.1.chain hb) trivial); clear hb)
        | (go_at_call 35; refine (HW.out _).mono ?_; rintro e w5 ⟨rfl, rfl⟩)
        | (go_at_call 12; (with_reducible refine (HS3.out _ (HB4.out.next (below_alloc w4 _))).mono ?_); rintro e w6 ⟨x6, c6, rfl, hb⟩; replace HB := Lib.hid (And.intro (HB.out.1.chain ((below_alloc w4 _).chain hb)) trivial); clear hb))
      go_ret
      exact ⟨rfl, HB.out.1.chain (below_alloc _ _)⟩
    · have hks : k ≠ 0 ∨ d = [] := by
        by_cases h : k = 0
        · exact Or.inr (Decidable.of_not_not fun h2 => hk0 ⟨h, h2⟩)
        · exact Or.inl h
      have HT := Lib.hid (decTo_step k d hks ▸ HD.out)
      have hdl : d.length ≤ 10 := by
        have := HL.out.2
        rw [← HD.out] at this
        unfold decTo at this
        split at this
        · rename_i h; rw [h.2]; simp
        · rw [List.length_append] at this; omega
      have HEn := Lib.hid (And.intro trivial (enc_dig k))
      have HZ : Hid (True ∧ (Utf8.encode (48 + (k : Int) % 10)).size = 1) := Lib.hid ⟨trivial, by rw [enc_dig]; rfl⟩
      have hlt : k / 10 + one0 (UInt8.ofNat (48 + k % 10) :: d) < k + one0 d := by
        unfold one0
        rw [if_neg (by simp)]
        rcases hks with h | h
        · omega
        · rw [if_pos h]; omega
      have hHl := Lib.hid (And.intro trivial hlt)
      have hks2 : (0 : Int) < k ∨ d = [] := by
        rcases hks with h | h
        · exact Or.inl (by omega)
        · exact Or.inr h
      clear hks hk0 HD hlt
      by_cases h0 : (0 : Int) < k
      · clear hks2
        go_wp2
        case isTrue => exfalso; have := HZ.out.2; omega
        go_roundg (k / 10 + one0 (UInt8.ofNat (48 + k % 10) :: d))
        case measure => exact hHl.out.2
        case rel => exact ⟨rfl, k / 10, _, rfl, by go_num, by rw [HEn.out.2, str_cat]; rfl, by omega, HT.out⟩
      · have hd0 : d = [] := by
          rcases hks2 with h | h
          · exact absurd h h0
          · exact h
        subst hd0
        obtain rfl : k = 0 := by omega
        clear hks2
        go_wp2
        go_roundg 0
        case measure => show 0 < 1; omega
        case rel =>
          have e48 : Utf8.encode 48 = ⟨[48].toArray⟩ := enc_dig 0
          exact ⟨rfl, 0, [48], rfl, by go_num, by rw [e48]; exact congrArg Value.string (str_cat [48] []), by omega, HT.out⟩

set_option maxRecDepth 100000 in
set_option maxHeartbeats 2000000 in
theorem numbers_small_no (n z : Nat) (t : List UInt8) (m : Int) (w : World) (hbig : n ≤ 1048576) (hw : wordB t = false) (hn : n < 4294967296) (hz : z < 256) (ht : t.length ≤ 5) (hg : 0 < w.heap.size) (hm : w.cell? ⟨0, 0, none⟩ = some (.int .i64 m)) :
    Calls Tryd.prog 9 #[.int .u32 n, .int .u8 z, .string ⟨t.toArray⟩] w fun e w' => e = .returned (.bool true) ∧ Below w.heap.size w w' := by
  have HA := Lib.hid (awake_any m w hg hm)
  have h5 : ¬ (5 : Int) < t.length := by omega
  have HL := Lib.hid (And.intro trivial (dec_len n hn))
  have HS1 : Hid (∀ W, MaxAt W → Calls Tryd.prog 12 #[.string ⟨(dec n).toArray⟩] W (SplitIs ⟨[⟨2, dec n, 1, 1⟩], 0, 0, 0⟩ W)) := Lib.hid (fun W h => by
    obtain ⟨hg, m, hm⟩ := h
    have hs := split_any ⟨(dec n).toArray⟩ m W (by show (dec n).length ≤ maxLen; unfold maxLen; have := HL.out.2; omega) hg hm
    have e1 : splitL (⟨(dec n).toArray⟩ : ByteArray).data.toList = ⟨[⟨2, dec n, 1, 1⟩], 0, 0, 0⟩ := by
      rw [List.toList_toArray, splitL_eq _ (by have := HL.out.2; omega), split_dec, if_pos hbig]
    rw [e1] at hs
    exact hs)
  have HS2 : Hid (∀ W, MaxAt W → Calls Tryd.prog 12 #[.string ((⟨#[32]⟩ : ByteArray) ++ ⟨(List.replicate (1 + z % 5) 48).toArray⟩ ++ ⟨(dec n).toArray⟩)] W fun r w' => ∃ x c, r = .returned (.tuple #[.slice x 0 c, .agg #[.int .i64 1, .int .i64 2], .int .i64 3]) ∧ Below W.heap.size W w') := Lib.hid (fun W h => by
    obtain ⟨hg, m, hm⟩ := h
    rw [str_cat [32], str_cat]
    exact split_fail (split_zeros n (1 + z % 5) (by omega)) (by simp; have := HL.out.2; omega) m W hg hm)
  have HR := Lib.hid (rep_call z)
  have HW : Hid (∀ w, Calls Tryd.prog 35 #[.string ⟨t.toArray⟩] w fun e w' => e = .returned (.bool false) ∧ w = w') := Lib.hid (fun w => hw ▸ rword_any ⟨t.toArray⟩ w (by show t.length ≤ maxLen; unfold maxLen; omega))
  have HM : Hid (MaxAt w) := Lib.hid ⟨hg, m, hm⟩
  clear hm hw hg
  have hn2 : ¬ (1048576 : Int) < n := by omega
  go_enter Tryd.func9, Tryd.ntmps9
  go_wp2_with (first
    | (go_at_call 11; refine HA.out.mono ?_; rintro e w1 ⟨rfl, hb⟩; have HB := Lib.hid (And.intro hb (HM.out.next hb)); clear hb))
  go_loopg [7, 8] (n + 1) (fun c v j wr => wr = w1 ∧ ∃ (k : Nat) (d : List UInt8), c = k + one0 d ∧ j = .int .i64 k ∧ v = .string ⟨d.toArray⟩ ∧ k ≤ n ∧ Hid (decTo k d = dec n))
  case atStart => exact ⟨rfl, n, [], rfl, rfl, rfl, Nat.le_refl _, decTo_start n⟩
  case round =>
    obtain ⟨rfl, k, d, rfl, rfl, rfl, hk, HD⟩ := hrel
    by_cases hk0 : k = 0 ∧ d ≠ []
    · obtain ⟨rfl, hd⟩ := hk0
      have HE : Hid (d = dec n) := Lib.hid (by rw [← HD.out, decTo_end d hd])
      have hd2 : d.isEmpty = false := by cases d with | nil => exact absurd rfl hd | cons _ _ => rfl
      clear HD hd
      rw [HE.out] at hd2
      obtain rfl : d = dec n := HE.out
      have hl0 := HL.out.2
      generalize dec n = d at *
      have hq1 : ¬ 9223372036854775807 < 1 + (List.replicate (1 + z % 5) (48 : UInt8)).length := by rw [List.length_replicate]; omega
      have hq2 : ¬ 9223372036854775807 < 1 + (List.replicate (1 + z % 5) (48 : UInt8)).length + d.length := by rw [List.length_replicate]; omega
      have hq3 : ¬ 9223372036854775807 < d.length + t.length := by omega
      generalize List.replicate (1 + z % 5) (48 : UInt8) = zs at *
      go_wp2_with (first
        | (go_at_call 12; (with_reducible refine (HS1.out _ HB.out.2).mono ?_); rintro e w2 ⟨sv, rfl, ho, hb⟩; obtain ⟨g, cap, hT⟩ := tokRow_of_own ho (by simp); obtain rfl := hT.val; have q0 := hT.c0 0 (by simp); have q1 := hT.c1 0 (by simp); have qlt := hT.lt; clear hT ho; have HB2 := Lib.hid (HB.out.2.next hb); replace HB := Lib.hid (And.intro (HB.out.1.chain hb) HB.out.2); clear hb)
        | (go_at_call 36; refine (HR.out _).mono ?_; rintro e w3 ⟨rfl, hb⟩; have HB3 := Lib.hid (HB2.out.next ((below_alloc w2 _).chain hb)); replace HB := Lib.hid (And.intro (HB.out.1.chain ((below_alloc w2 _).chain hb)) trivial); clear hb)
        | (go_at_call 12; (with_reducible refine (HS2.out _ HB3.out).mono ?_); rintro e w4 ⟨x4, c4, rfl, hb⟩; have HB4 := Lib.hid (HB3.out.next hb); replace HB := Lib.hid (And.intro (HB.out.1.chain hb) trivial); clear hb)
        | (go_at_call 35; refine (HW.out _).mono ?_; rintro e w5 ⟨rfl, rfl⟩))
      go_ret
      exact ⟨rfl, HB.out.1.chain (below_alloc _ _)⟩
    · have hks : k ≠ 0 ∨ d = [] := by
        by_cases h : k = 0
        · exact Or.inr (Decidable.of_not_not fun h2 => hk0 ⟨h, h2⟩)
        · exact Or.inl h
      have HT := Lib.hid (decTo_step k d hks ▸ HD.out)
      have hdl : d.length ≤ 10 := by
        have := HL.out.2
        rw [← HD.out] at this
        unfold decTo at this
        split at this
        · rename_i h; rw [h.2]; simp
        · rw [List.length_append] at this; omega
      have HEn := Lib.hid (And.intro trivial (enc_dig k))
      have HZ : Hid (True ∧ (Utf8.encode (48 + (k : Int) % 10)).size = 1) := Lib.hid ⟨trivial, by rw [enc_dig]; rfl⟩
      have hlt : k / 10 + one0 (UInt8.ofNat (48 + k % 10) :: d) < k + one0 d := by
        unfold one0
        rw [if_neg (by simp)]
        rcases hks with h | h
        · omega
        · rw [if_pos h]; omega
      have hHl := Lib.hid (And.intro trivial hlt)
      have hks2 : (0 : Int) < k ∨ d = [] := by
        rcases hks with h | h
        · exact Or.inl (by omega)
        · exact Or.inr h
      clear hks hk0 HD hlt
      by_cases h0 : (0 : Int) < k
      · clear hks2
        go_wp2
        case isTrue => exfalso; have := HZ.out.2; omega
        go_roundg (k / 10 + one0 (UInt8.ofNat (48 + k % 10) :: d))
        case measure => exact hHl.out.2
        case rel => exact ⟨rfl, k / 10, _, rfl, by go_num, by rw [HEn.out.2, str_cat]; rfl, by omega, HT.out⟩
      · have hd0 : d = [] := by
          rcases hks2 with h | h
          · exact absurd h h0
          · exact h
        subst hd0
        obtain rfl : k = 0 := by omega
        clear hks2
        go_wp2
        go_roundg 0
        case measure => show 0 < 1; omega
        case rel =>
          have e48 : Utf8.encode 48 = ⟨[48].toArray⟩ := enc_dig 0
          exact ⟨rfl, 0, [48], rfl, by go_num, by rw [e48]; exact congrArg Value.string (str_cat [48] []), by omega, HT.out⟩


set_option maxHeartbeats 400000 in
theorem numbers_long (n z : Int) (t : ByteArray) (m : Int) (w : World) (hs : t.size ≤ maxLen) (hg : 0 < w.heap.size) (hm : w.cell? ⟨0, 0, none⟩ = some (.int .i64 m)) (h : 5 < t.size) :
    Calls Tryd.prog 9 #[.int .u32 n, .int .u8 z, .string t] w fun e w' => e = .returned (.bool true) ∧ Below w.heap.size w w' := by
  have HA := Lib.hid (awake_any m w hg hm)
  clear hm
  unfold maxLen at hs
  have h2 : (5 : Int) < t.size := by omega
  go_enter Tryd.func9, Tryd.ntmps9
  go_wp2_with (first
    | (go_at_call 11; refine HA.out.mono ?_; rintro e w1 ⟨rfl, hb⟩; have HB := Lib.hid hb; clear hb))
  go_ret
  exact ⟨rfl, HB.out⟩

theorem numbers_any (n z : Int) (t : ByteArray) (m : Int) (w : World) (hn0 : 0 ≤ n) (hn : n < 4294967296) (hz0 : 0 ≤ z) (hz : z < 256) (hs : t.size ≤ maxLen) (hg : 0 < w.heap.size) (hm : w.cell? ⟨0, 0, none⟩ = some (.int .i64 m)) :
    Calls Tryd.prog 9 #[.int .u32 n, .int .u8 z, .string t] w fun e w' => e = .returned (.bool true) ∧ Below w.heap.size w w' := by
  by_cases h5 : 5 < t.size
  · exact numbers_long n z t m w hs hg hm h5
  · have hl : t.data.toList.length ≤ 5 := by rw [size_list]; omega
    have key : Calls Tryd.prog 9 #[.int .u32 (n.toNat : Int), .int .u8 (z.toNat : Int), .string ⟨t.data.toList.toArray⟩] w fun e w' => e = .returned (.bool true) ∧ Below w.heap.size w w' := by
      by_cases hb : n.toNat ≤ 1048576
      · cases hw : wordB t.data.toList with
        | true => exact numbers_small n.toNat z.toNat _ m w hb hw (by omega) (by omega) hl hg hm
        | false => exact numbers_small_no n.toNat z.toNat _ m w hb hw (by omega) (by omega) hl hg hm
      · cases hw : wordB t.data.toList with
        | true => exact numbers_big n.toNat z.toNat _ m w (by omega) hw (by omega) (by omega) hl hg hm
        | false => exact numbers_big_no n.toNat z.toNat _ m w (by omega) hw (by omega) (by omega) hl hg hm
    rw [str_list, Int.toNat_of_nonneg hn0, Int.toNat_of_nonneg hz0] at key
    exact key

end Go.Proofs.YtjbbelmmnlohlaaDoor
