/-
  Contracts of the small functions of package lex (letter, digit, checkWord, checkNumber), each as what one call returns; the world stays as it was.
-/
import Derived.Test.YtbmejohoifpfhaaRows
import Derived.Test.YtbmejohoifpfhaaLexM
import Derived.WalkKit
import Derived.WalkSpells
import Derived.WalkLawsBesides
import Derived.Lib.Hide
namespace Go.Proofs.Ytbmejohoifpfhaa
open Go.RowKit

theorem ret_int {k : IntKind} {a b : Int} (h : a = b) : Ending.returned (.int k a) = .returned (.int k b) := by rw [h]

theorem flip_same {P : Program} {f : FuncId} {args : Array Value} {w : World} {v : Value}
    (h : Calls P f args w fun e w' => e = .returned v ∧ w = w') : Calls P f args w fun e w' => e = .returned v ∧ w' = w :=
  h.mono fun _ _ ⟨he, hm⟩ => ⟨he, hm.symm⟩

/-- In a region behind an elder draw: the callee leaves the world as it is. -/
theorem quiet_again {P : Program} {f : FuncId} {args : Array Value} {w : World} {a n : Nat} {v : Value}
    (c : Calls P f args (w.drewN (a + n)) fun e w' => e = .returned v ∧ w.drewN (a + n) = w') :
    Calls P f args (w.drewN (a + n)) fun e w'' => e = .returned v ∧ ∃ m, w'' = w.drewN (a + m) :=
  c.mono fun _ _ ⟨he, hm⟩ => ⟨he, n, hm.symm⟩

set_option maxHeartbeats 400000 in
theorem letter_any (c : Int) (w : World) :
    Calls Try.prog 77 #[.int .u8 c] w fun e w' => e = .returned (.bool (isLetter c)) ∧ w = w' := by
  unfold isLetter
  by_cases h1 : 97 ≤ c <;> by_cases h2 : c ≤ 122 <;> by_cases h3 : 65 ≤ c <;> by_cases h4 : c ≤ 90
  all_goals
    go_enter Try.func77, Try.ntmps77
    go_wp2
    first
      | (exfalso; omega)
      | (go_ret; exact ⟨by simp [h1, h2, h3, h4], rfl⟩)

set_option maxHeartbeats 400000 in
theorem digit_any (c : Int) (w : World) :
    Calls Try.prog 79 #[.int .u8 c] w fun e w' => e = .returned (.bool (isDigit c)) ∧ w = w' := by
  unfold isDigit
  by_cases h1 : 48 ≤ c <;> by_cases h2 : c ≤ 57
  all_goals
    go_enter Try.func79, Try.ntmps79
    go_wp2
    first
      | (exfalso; omega)
      | (go_ret; exact ⟨by simp [h1, h2], rfl⟩)

set_option maxHeartbeats 400000 in
theorem checkWord_any (s : ByteArray) (w : World) (hs : s.size ≤ maxLen) :
    Calls Try.prog 78 #[.string s] w fun e w' => e = .returned (.int .i64 (checkLen s.data.toList)) ∧ w = w' := by
  unfold maxLen at hs
  by_cases h : s.size ≤ 20
  · rw [show checkLen s.data.toList = 0 from if_pos h]
    have h' : ¬ (20 : Int) < s.size := by omega
    go_enter Try.func78, Try.ntmps78
    go_wp2
    go_ret
    exact ⟨rfl, rfl⟩
  · rw [show checkLen s.data.toList = 5 from if_neg h]
    have h' : (20 : Int) < s.size := by omega
    go_enter Try.func78, Try.ntmps78
    go_wp2
    go_ret
    exact ⟨rfl, rfl⟩

theorem checkNum_ne (s : ByteArray) (h0 : 0 < s.size) (h : ¬ ((s[0].toNat : Int) = 48 ∧ 1 < s.size)) : checkNum s.data.toList = if s.data.toList.all dgt then (if numF s.data.toList ≤ 1048576 then 0 else 10) else 3 := by
  unfold checkNum
  rw [if_neg]
  rintro ⟨hh, h1⟩
  rw [head_eq s h0] at hh
  refine h ⟨?_, h1⟩
  rw [Option.some.inj hh]; rfl

set_option maxHeartbeats 400000 in
theorem checkNumber_zero (s : ByteArray) (w : World) (hs : s.size ≤ maxLen) (h1 : 1 < s.size) (hz : ((s[0].toNat : Int) == 48) = true) :
    Calls Try.prog 80 #[.string s] w fun e w' => e = .returned (.int .i64 3) ∧ w = w' := by
  unfold maxLen at hs
  have h1' : (1 : Int) < s.size := by omega
  have h0 : 0 < s.size := by omega
  go_enter Try.func80, Try.ntmps80
  go_wp2
  go_ret
  exact ⟨rfl, rfl⟩

set_option maxHeartbeats 1000000 in
theorem checkNumber_else (s : ByteArray) (w : World) (hs : s.size ≤ maxLen) (h0 : 0 < s.size) (hn : ¬ ((s[0].toNat : Int) = 48 ∧ 1 < s.size)) :
    Calls Try.prog 80 #[.string s] w fun e w' => e = .returned (.int .i64 (checkNum s.data.toList)) ∧ w = w' := by
  unfold maxLen at hs
  have HC := Lib.hid (checkNum_ne s h0 hn)
  generalize hc : checkNum s.data.toList = c at *
  clear hc
  by_cases hz : (s[0].toNat : Int) = 48
  · have h1 : ¬ (1 : Int) < s.size := by omega
    have hz' : ((s[0].toNat : Int) == 48) = true := by rw [beq_iff_eq]; exact hz
    clear hz hn
    go_enter Try.func80, Try.ntmps80
    go_wp2
    clear hz' h1
    go_loop [3, 15] (fun n j => ∃ k : Nat, k ≤ s.size ∧ j = .int .i64 k ∧ n = .int .i64 (numF (s.data.toList.take k)) ∧ Hid ((s.data.toList.take k).all dgt = true)) (fun _ j => s.size - (intOf j).toNat)
    case atStart => exact ⟨0, Nat.zero_le _, rfl, rfl, rfl⟩
    case round =>
      obtain ⟨k, hk, rfl, rfl, HA⟩ := hrel
      have hb := numF_bd _ HA.out
      generalize hm : numF (s.data.toList.take k) = m at *
      have HM := Lib.hid hm
      clear hm
      by_cases hlt : k < s.size
      · by_cases hd : dgt s[k] = true
        · have hbd := dgt_bd hd
          have hd' : isDigit (s[k].toNat : Int) = true := hd
          have HS : Hid (numF (s.data.toList.take (k + 1)) = min (10 * m + ((s[k].toNat : Int) - 48)) 1048577) := by
            rw [take_snoc s k hlt, numF_snoc, HM.out]; rfl
          have HT := Lib.hid (all_take_snoc s k hlt HA.out hd)
          clear hd
          go_wp2_with (go_at_call 79; refine (digit_any _ _).mono ?_; rintro e w' ⟨rfl, rfl⟩)
          go_round
          case rel => exact ⟨k + 1, by omega, by go_num, by rw [HS.out]; congr 1; omega, HT⟩
          case measure => simp [intOf]; omega
        · have hd' : isDigit (s[k].toNat : Int) = false := by simpa [dgt] using hd
          have hfin : c = 3 := by rw [HC.out, if_neg (by rw [not_all_of s k hlt (by simpa using hd)]; decide)]
          have HF := Lib.hid hfin
          clear hd hfin
          go_wp2_with (go_at_call 79; refine (digit_any _ _).mono ?_; rintro e w' ⟨rfl, rfl⟩)
          go_ret
          exact ⟨ret_int HF.out.symm, rfl⟩
      · have hke : k = s.size := by omega
        have hall : s.data.toList.take k = s.data.toList := List.take_of_length_le (by rw [size_list]; omega)
        have HA' : Hid (s.data.toList.all dgt = true) := by rw [← hall]; exact HA
        have HM' : Hid (numF s.data.toList = m) := by rw [← hall]; exact HM
        have HE : Hid (c = if m ≤ 1048576 then 0 else 10) := by rw [HC.out, if_pos HA'.out, HM'.out]; rfl
        clear hall hke
        by_cases hg : 1048576 < m
        · have HF : Hid (c = 10) := by rw [HE.out, if_neg (by omega)]; rfl
          go_wp2
          go_ret
          exact ⟨ret_int HF.out.symm, rfl⟩
        · have HF : Hid (c = 0) := by rw [HE.out, if_pos (by omega)]; rfl
          go_wp2
          go_ret
          exact ⟨ret_int HF.out.symm, rfl⟩
  · have hz' : ((s[0].toNat : Int) == 48) = false := by rw [beq_eq_false_iff_ne]; exact hz
    clear hz hn
    go_enter Try.func80, Try.ntmps80
    go_wp2
    clear hz'
    go_loop [3, 15] (fun n j => ∃ k : Nat, k ≤ s.size ∧ j = .int .i64 k ∧ n = .int .i64 (numF (s.data.toList.take k)) ∧ Hid ((s.data.toList.take k).all dgt = true)) (fun _ j => s.size - (intOf j).toNat)
    case atStart => exact ⟨0, Nat.zero_le _, rfl, rfl, rfl⟩
    case round =>
      obtain ⟨k, hk, rfl, rfl, HA⟩ := hrel
      have hb := numF_bd _ HA.out
      generalize hm : numF (s.data.toList.take k) = m at *
      have HM := Lib.hid hm
      clear hm
      by_cases hlt : k < s.size
      · by_cases hd : dgt s[k] = true
        · have hbd := dgt_bd hd
          have hd' : isDigit (s[k].toNat : Int) = true := hd
          have HS : Hid (numF (s.data.toList.take (k + 1)) = min (10 * m + ((s[k].toNat : Int) - 48)) 1048577) := by
            rw [take_snoc s k hlt, numF_snoc, HM.out]; rfl
          have HT := Lib.hid (all_take_snoc s k hlt HA.out hd)
          clear hd
          go_wp2_with (go_at_call 79; refine (digit_any _ _).mono ?_; rintro e w' ⟨rfl, rfl⟩)
          go_round
          case rel => exact ⟨k + 1, by omega, by go_num, by rw [HS.out]; congr 1; omega, HT⟩
          case measure => simp [intOf]; omega
        · have hd' : isDigit (s[k].toNat : Int) = false := by simpa [dgt] using hd
          have hfin : c = 3 := by rw [HC.out, if_neg (by rw [not_all_of s k hlt (by simpa using hd)]; decide)]
          have HF := Lib.hid hfin
          clear hd hfin
          go_wp2_with (go_at_call 79; refine (digit_any _ _).mono ?_; rintro e w' ⟨rfl, rfl⟩)
          go_ret
          exact ⟨ret_int HF.out.symm, rfl⟩
      · have hke : k = s.size := by omega
        have hall : s.data.toList.take k = s.data.toList := List.take_of_length_le (by rw [size_list]; omega)
        have HA' : Hid (s.data.toList.all dgt = true) := by rw [← hall]; exact HA
        have HM' : Hid (numF s.data.toList = m) := by rw [← hall]; exact HM
        have HE : Hid (c = if m ≤ 1048576 then 0 else 10) := by rw [HC.out, if_pos HA'.out, HM'.out]; rfl
        clear hall hke
        by_cases hg : 1048576 < m
        · have HF : Hid (c = 10) := by rw [HE.out, if_neg (by omega)]; rfl
          go_wp2
          go_ret
          exact ⟨ret_int HF.out.symm, rfl⟩
        · have HF : Hid (c = 0) := by rw [HE.out, if_pos (by omega)]; rfl
          go_wp2
          go_ret
          exact ⟨ret_int HF.out.symm, rfl⟩

theorem checkNumber_any (s : ByteArray) (w : World) (hs : s.size ≤ maxLen) (h0 : 0 < s.size) :
    Calls Try.prog 80 #[.string s] w fun e w' => e = .returned (.int .i64 (checkNum s.data.toList)) ∧ w = w' := by
  by_cases hn : (s[0].toNat : Int) = 48 ∧ 1 < s.size
  · have hfin : checkNum s.data.toList = 3 := by
      unfold checkNum
      rw [if_pos ⟨by rw [head_eq s h0]; congr 1; apply UInt8.toNat_inj.1; show s[0].toNat = 48; omega, by rw [size_list]; exact hn.2⟩]
    rw [hfin]
    exact checkNumber_zero s w hs hn.2 (by rw [beq_iff_eq]; exact hn.1)
  · exact checkNumber_else s w hs h0 hn

end Go.Proofs.Ytbmejohoifpfhaa
