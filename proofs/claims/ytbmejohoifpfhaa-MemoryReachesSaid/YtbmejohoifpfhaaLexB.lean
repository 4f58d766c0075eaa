/-
  Contracts of the function values of package lex: the literals in takeString, takeSymbol and firstOf.
-/
import Derived.Test.YtbmejohoifpfhaaLexA
import Derived.Deep.QuietTactic
import Derived.BigQuiet
namespace Go.Proofs.Ytbmejohoifpfhaa
open Go.RowKit

set_option maxHeartbeats 400000 in
theorem word_empty (s : ByteArray) (W : World) (p1 p2 p3 : Value) (he : s.toList = []) :
    Calls Try.prog 103 #[.string s, p1, p2, p3] W fun e w' => e = .returned (.tuple #[.int .i64 0, .string ⟨#[]⟩, .int .i64 3]) ∧ ∃ n, w' = W.drewN n := by
  go_enter Try.func103, Try.ntmps103
  go_wp2
  go_quiet (fail)
  go_wp2
  go_ret3
  exact ⟨rfl, _, rfl⟩

set_option maxHeartbeats 400000 in
theorem word_not (s : ByteArray) (W : World) (p2 p3 : Value) (b1 : Nat) (h1 : W.cell? ⟨b1, 0, none⟩ = some (.func (.func 77) #[] #[])) (h0 : 0 < s.size) (he : s.toList.isEmpty = false) (hb : isLetter (s[0].toNat : Int) = false) :
    Calls Try.prog 103 #[.string s, .pointer (some ⟨b1, 0, none⟩), p2, p3] W fun e w' => e = .returned (.tuple #[.int .i64 0, .string ⟨#[]⟩, .int .i64 3]) ∧ ∃ n, w' = W.drewN n := by
  go_enter Try.func103, Try.ntmps103
  go_wp2
  go_quiet ((go_at_call 77; exact Calls.quiet_of_same (flip_same (letter_any _ _))))
  go_wp2
  go_ret3
  exact ⟨rfl, _, rfl⟩

theorem slice_list (s : ByteArray) (n : Nat) : s.extract 0 n = ⟨(s.data.toList.take n).toArray⟩ := by
  rw [show s.extract 0 n = (ByteArray.mk s.data).extract 0 n from rfl, ByteArray.extract_mk]
  congr 1

theorem slice_run (s : ByteArray) (n : Nat) (h : n ≤ s.size) (ha : (s.data.toList.take n).all prt = true) (hc : ∀ _ : n < s.size, prt s[n] = false) : s.extract 0 n = ⟨(runL s.data.toList).toArray⟩ := by
  rw [slice_list, runL_of s n h ha hc]

def Hit (k : Int) (r : List UInt8) (c : Int) (W : World) (e : Ending) (w' : World) : Prop := e = .returned (.tuple #[.int .i64 k, .string ⟨r.toArray⟩, .int .i64 c]) ∧ ∃ n, w' = W.drewN n

set_option maxHeartbeats 2000000 in
theorem word_hit (s : ByteArray) (W : World) (b1 b2 b3 : Nat) (h1 : W.cell? ⟨b1, 0, none⟩ = some (.func (.func 77) #[] #[])) (h2 : W.cell? ⟨b2, 0, none⟩ = some (.int .i64 1)) (h3 : W.cell? ⟨b3, 0, none⟩ = some (.func (.func 78) #[] #[]))
    (hs : s.size ≤ maxLen) (h0 : 0 < s.size) (he : s.toList.isEmpty = false) (hb : isLetter (s[0].toNat : Int) = true) :
    Calls Try.prog 103 #[.string s, .pointer (some ⟨b1, 0, none⟩), .pointer (some ⟨b2, 0, none⟩), .pointer (some ⟨b3, 0, none⟩)] W (Hit 1 (runL s.data.toList) (checkLen (runL s.data.toList)) W) := by
  have HM := Lib.hid hs
  unfold maxLen at hs
  have HP := Lib.hid (first_prt s h0 (prt_of_ltr hb))
  have HR : Hid (∀ n, n ≤ s.size → (s.data.toList.take n).all prt = true → (∀ _ : n < s.size, prt s[n] = false) → s.extract 0 n = ⟨(runL s.data.toList).toArray⟩) := slice_run s
  generalize hr : runL s.data.toList = r at *
  clear hr
  go_enter Try.func103, Try.ntmps103
  go_wp2
  go_quiet ((go_at_call 77; exact Calls.quiet_of_same (flip_same (letter_any _ _))))
  clear hb
  go_wp2
  go_loop [8] (fun j => ∃ k : Nat, 1 ≤ k ∧ k ≤ s.size ∧ j = .int .i64 k ∧ Hid ((s.data.toList.take k).all prt = true)) (fun j => s.size - (intOf j).toNat)
  case atStart => exact ⟨1, Nat.le_refl _, h0, rfl, HP⟩
  case round =>
    obtain ⟨k, hk1, hk, rfl, HA⟩ := hrel
    by_cases hlt : k < s.size
    · by_cases hl : ltr s[k] = true
      · have hl' : isLetter (s[k].toNat : Int) = true := hl
        have HT := Lib.hid (all_prt_snoc s k hlt HA.out (prt_of_ltr hl))
        clear hl
        go_wp2_with (go_at_call 77; refine (letter_any _ _).mono ?_; rintro e w' ⟨rfl, rfl⟩)
        go_round
        case rel => exact ⟨k + 1, by omega, by omega, by go_num, HT⟩
        case measure => simp [intOf]; omega
      · have hl' : isLetter (s[k].toNat : Int) = false := by simpa [ltr] using hl
        by_cases hd : dgt s[k] = true
        · have hd' : isDigit (s[k].toNat : Int) = true := hd
          have HT := Lib.hid (all_prt_snoc s k hlt HA.out (prt_of_dgt hd))
          clear hl hd
          go_wp2_with (first | (go_at_call 77; refine (letter_any _ _).mono ?_; rintro e w' ⟨rfl, rfl⟩) | (go_at_call 79; refine (digit_any _ _).mono ?_; rintro e w' ⟨rfl, rfl⟩))
          go_round
          case rel => exact ⟨k + 1, by omega, by omega, by go_num, HT⟩
          case measure => simp [intOf]; omega
        · have hd' : isDigit (s[k].toNat : Int) = false := by simpa [dgt] using hd
          by_cases hu : s[k].toNat = 95
          · have hu' : ((s[k].toNat : Int) == 95) = true := by rw [beq_iff_eq]; omega
            have HT := Lib.hid (all_prt_snoc s k hlt HA.out (prt_of_us hu))
            clear hl hd hu
            go_wp2_with (first | (go_at_call 77; refine (letter_any _ _).mono ?_; rintro e w' ⟨rfl, rfl⟩) | (go_at_call 79; refine (digit_any _ _).mono ?_; rintro e w' ⟨rfl, rfl⟩))
            go_round
            case rel => exact ⟨k + 1, by omega, by omega, by go_num, HT⟩
            case measure => simp [intOf]; omega
          · have hu' : ((s[k].toNat : Int) == 95) = false := by rw [beq_eq_false_iff_ne]; omega
            have HE : Hid (s.extract 0 k = ⟨r.toArray⟩) := HR.out k hk HA.out (fun _ => prt_not (by simpa using hl) (by simpa using hd) hu)
            have HZ : Hid (∀ w, Calls Try.prog 78 #[.string (s.extract 0 k)] w fun e w' => e = .returned (.int .i64 (checkLen r)) ∧ w = w') := Lib.hid (fun w => by
              have h := checkWord_any (s.extract 0 k) w (by rw [ByteArray.size_extract]; have := HM.out; omega)
              have e : (s.extract 0 k).data.toList = r := by rw [HE.out]
              rw [e] at h
              exact h)
            clear hl hd hu
            go_wp2_with (first | (go_at_call 77; refine (letter_any _ _).mono ?_; rintro e w' ⟨rfl, rfl⟩) | (go_at_call 79; refine (digit_any _ _).mono ?_; rintro e w' ⟨rfl, rfl⟩))
            go_quiet ((go_at_call 78; exact quiet_again (HZ.out _)))
            go_wp2
            go_ret3
            exact ⟨by rw [← HE.out] <;> rfl, _, World.drewN_drewN ..⟩
    · have hke : k = s.size := by omega
      have HE : Hid (s.extract 0 k = ⟨r.toArray⟩) := HR.out k hk HA.out (fun h => absurd h hlt)
      have HZ : Hid (∀ w, Calls Try.prog 78 #[.string (s.extract 0 k)] w fun e w' => e = .returned (.int .i64 (checkLen r)) ∧ w = w') := Lib.hid (fun w => by
        have h := checkWord_any (s.extract 0 k) w (by rw [ByteArray.size_extract]; have := HM.out; omega)
        have e : (s.extract 0 k).data.toList = r := by rw [HE.out]
        rw [e] at h
        exact h)
      clear hke
      go_wp2
      go_quiet ((go_at_call 78; exact quiet_again (HZ.out _)))
      go_wp2
      go_ret3
      exact ⟨by rw [← HE.out] <;> rfl, _, World.drewN_drewN ..⟩

set_option maxHeartbeats 400000 in
theorem number_not (s : ByteArray) (W : World) (p2 p3 : Value) (b1 : Nat) (h1 : W.cell? ⟨b1, 0, none⟩ = some (.func (.func 79) #[] #[])) (h0 : 0 < s.size) (he : s.toList.isEmpty = false) (hb : isDigit (s[0].toNat : Int) = false) :
    Calls Try.prog 103 #[.string s, .pointer (some ⟨b1, 0, none⟩), p2, p3] W fun e w' => e = .returned (.tuple #[.int .i64 0, .string ⟨#[]⟩, .int .i64 3]) ∧ ∃ n, w' = W.drewN n := by
  go_enter Try.func103, Try.ntmps103
  go_wp2
  go_quiet ((go_at_call 79; exact Calls.quiet_of_same (flip_same (digit_any _ _))))
  go_wp2
  go_ret3
  exact ⟨rfl, _, rfl⟩

set_option maxHeartbeats 2000000 in
theorem number_hit (s : ByteArray) (W : World) (b1 b2 b3 : Nat) (h1 : W.cell? ⟨b1, 0, none⟩ = some (.func (.func 79) #[] #[])) (h2 : W.cell? ⟨b2, 0, none⟩ = some (.int .i64 2)) (h3 : W.cell? ⟨b3, 0, none⟩ = some (.func (.func 80) #[] #[]))
    (hs : s.size ≤ maxLen) (h0 : 0 < s.size) (he : s.toList.isEmpty = false) (hb : isDigit (s[0].toNat : Int) = true) :
    Calls Try.prog 103 #[.string s, .pointer (some ⟨b1, 0, none⟩), .pointer (some ⟨b2, 0, none⟩), .pointer (some ⟨b3, 0, none⟩)] W (Hit 2 (runL s.data.toList) (checkNum (runL s.data.toList)) W) := by
  have HM := Lib.hid hs
  unfold maxLen at hs
  have HP := Lib.hid (first_prt s h0 (prt_of_dgt hb))
  have HR : Hid (∀ n, n ≤ s.size → (s.data.toList.take n).all prt = true → (∀ _ : n < s.size, prt s[n] = false) → s.extract 0 n = ⟨(runL s.data.toList).toArray⟩) := slice_run s
  generalize hr : runL s.data.toList = r at *
  clear hr
  go_enter Try.func103, Try.ntmps103
  go_wp2
  go_quiet ((go_at_call 79; exact Calls.quiet_of_same (flip_same (digit_any _ _))))
  clear hb
  go_wp2
  go_loop [8] (fun j => ∃ k : Nat, 1 ≤ k ∧ k ≤ s.size ∧ j = .int .i64 k ∧ Hid ((s.data.toList.take k).all prt = true)) (fun j => s.size - (intOf j).toNat)
  case atStart => exact ⟨1, Nat.le_refl _, h0, rfl, HP⟩
  case round =>
    obtain ⟨k, hk1, hk, rfl, HA⟩ := hrel
    by_cases hlt : k < s.size
    · by_cases hl : ltr s[k] = true
      · have hl' : isLetter (s[k].toNat : Int) = true := hl
        have HT := Lib.hid (all_prt_snoc s k hlt HA.out (prt_of_ltr hl))
        clear hl
        go_wp2_with (go_at_call 77; refine (letter_any _ _).mono ?_; rintro e w' ⟨rfl, rfl⟩)
        go_round
        case rel => exact ⟨k + 1, by omega, by omega, by go_num, HT⟩
        case measure => simp [intOf]; omega
      · have hl' : isLetter (s[k].toNat : Int) = false := by simpa [ltr] using hl
        by_cases hd : dgt s[k] = true
        · have hd' : isDigit (s[k].toNat : Int) = true := hd
          have HT := Lib.hid (all_prt_snoc s k hlt HA.out (prt_of_dgt hd))
          clear hl hd
          go_wp2_with (first | (go_at_call 77; refine (letter_any _ _).mono ?_; rintro e w' ⟨rfl, rfl⟩) | (go_at_call 79; refine (digit_any _ _).mono ?_; rintro e w' ⟨rfl, rfl⟩))
          go_round
          case rel => exact ⟨k + 1, by omega, by omega, by go_num, HT⟩
          case measure => simp [intOf]; omega
        · have hd' : isDigit (s[k].toNat : Int) = false := by simpa [dgt] using hd
          by_cases hu : s[k].toNat = 95
          · have hu' : ((s[k].toNat : Int) == 95) = true := by rw [beq_iff_eq]; omega
            have HT := Lib.hid (all_prt_snoc s k hlt HA.out (prt_of_us hu))
            clear hl hd hu
            go_wp2_with (first | (go_at_call 77; refine (letter_any _ _).mono ?_; rintro e w' ⟨rfl, rfl⟩) | (go_at_call 79; refine (digit_any _ _).mono ?_; rintro e w' ⟨rfl, rfl⟩))
            go_round
            case rel => exact ⟨k + 1, by omega, by omega, by go_num, HT⟩
            case measure => simp [intOf]; omega
          · have hu' : ((s[k].toNat : Int) == 95) = false := by rw [beq_eq_false_iff_ne]; omega
            have HE : Hid (s.extract 0 k = ⟨r.toArray⟩) := HR.out k hk HA.out (fun _ => prt_not (by simpa using hl) (by simpa using hd) hu)
            have HZ : Hid (∀ w, Calls Try.prog 80 #[.string (s.extract 0 k)] w fun e w' => e = .returned (.int .i64 (checkNum r)) ∧ w = w') := Lib.hid (fun w => by
              have h := checkNumber_any (s.extract 0 k) w (by rw [ByteArray.size_extract]; have := HM.out; omega) (by rw [ByteArray.size_extract]; omega)
              have e : (s.extract 0 k).data.toList = r := by rw [HE.out]
              rw [e] at h
              exact h)
            clear hl hd hu
            go_wp2_with (first | (go_at_call 77; refine (letter_any _ _).mono ?_; rintro e w' ⟨rfl, rfl⟩) | (go_at_call 79; refine (digit_any _ _).mono ?_; rintro e w' ⟨rfl, rfl⟩))
            go_quiet ((go_at_call 80; exact quiet_again (HZ.out _)))
            go_wp2
            go_ret3
            exact ⟨by rw [← HE.out] <;> rfl, _, World.drewN_drewN ..⟩
    · have hke : k = s.size := by omega
      have HE : Hid (s.extract 0 k = ⟨r.toArray⟩) := HR.out k hk HA.out (fun h => absurd h hlt)
      have HZ : Hid (∀ w, Calls Try.prog 80 #[.string (s.extract 0 k)] w fun e w' => e = .returned (.int .i64 (checkNum r)) ∧ w = w') := Lib.hid (fun w => by
        have h := checkNumber_any (s.extract 0 k) w (by rw [ByteArray.size_extract]; have := HM.out; omega) (by rw [ByteArray.size_extract]; omega)
        have e : (s.extract 0 k).data.toList = r := by rw [HE.out]
        rw [e] at h
        exact h)
      clear hke
      go_wp2
      go_quiet ((go_at_call 80; exact quiet_again (HZ.out _)))
      go_wp2
      go_ret3
      exact ⟨by rw [← HE.out] <;> rfl, _, World.drewN_drewN ..⟩

end Go.Proofs.Ytbmejohoifpfhaa
