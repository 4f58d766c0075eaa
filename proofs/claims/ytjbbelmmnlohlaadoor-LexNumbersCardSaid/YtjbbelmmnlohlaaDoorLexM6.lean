/-
  Plain mathematics of package lex, part 6: decimal numbers.
-/
import Derived.Test.YtjbbelmmnlohlaaDoorLexM5
namespace Go.Proofs.YtjbbelmmnlohlaaDoor

def decR (n : Nat) : List UInt8 := if h : n = 0 then [] else decR (n / 10) ++ [UInt8.ofNat (48 + n % 10)]
  termination_by n
  decreasing_by omega

def dec (n : Nat) : List UInt8 := if n = 0 then [48] else decR n

theorem decR_zero : decR 0 = [] := by unfold decR; rfl
theorem decR_pos {n : Nat} (h : n ≠ 0) : decR n = decR (n / 10) ++ [UInt8.ofNat (48 + n % 10)] := by
  conv => lhs; unfold decR
  rw [dif_neg h]

theorem dig_toNat (k : Nat) (h : k < 10) : (UInt8.ofNat (48 + k)).toNat = 48 + k := by
  rw [UInt8.toNat_ofNat']; omega

theorem dig_dgt (k : Nat) (h : k < 10) : dgt (UInt8.ofNat (48 + k)) = true := by
  unfold dgt isDigit
  rw [dig_toNat k h]
  simp only [Bool.and_eq_true, decide_eq_true_eq]
  omega

theorem decR_dgt (n : Nat) : (decR n).all dgt = true := by
  induction n using Nat.strongRecOn with
  | _ n ih =>
    by_cases h : n = 0
    · rw [h, decR_zero]; rfl
    · rw [decR_pos h, List.all_append, ih (n / 10) (by omega)]
      rw [List.all_cons, List.all_nil, dig_dgt (n % 10) (by omega)]; rfl

theorem decR_num (n : Nat) : numF (decR n) = min n 1048577 := by
  induction n using Nat.strongRecOn with
  | _ n ih =>
    by_cases h : n = 0
    · rw [h, decR_zero]; rfl
    · rw [decR_pos h, numF_snoc, ih (n / 10) (by omega), dig_toNat _ (by omega)]
      omega

theorem decR_ne {n : Nat} (h : n ≠ 0) : decR n ≠ [] := by rw [decR_pos h]; simp

theorem decR_head (n : Nat) (h : n ≠ 0) : ∃ c r, decR n = c :: r ∧ c ≠ 48 ∧ dgt c = true := by
  induction n using Nat.strongRecOn with
  | _ n ih =>
    by_cases h10 : n / 10 = 0
    · refine ⟨UInt8.ofNat (48 + n % 10), [], ?_, ?_, dig_dgt _ (by omega)⟩
      · rw [decR_pos h, h10, decR_zero]; rfl
      · intro e
        have := congrArg UInt8.toNat e
        rw [dig_toNat _ (by omega)] at this
        have h48 : (48 : UInt8).toNat = 48 := rfl
        omega
    · obtain ⟨c, r, e, h1, h2⟩ := ih (n / 10) (by omega) h10
      exact ⟨c, r ++ [UInt8.ofNat (48 + n % 10)], by rw [decR_pos h, e]; rfl, h1, h2⟩

theorem decR_len : ∀ (m n : Nat), n < 10 ^ m → (decR n).length ≤ m
  | 0, n, h => by
    have : n = 0 := by rw [Nat.pow_zero] at h; omega
    rw [this, decR_zero]; exact Nat.le_refl _
  | m + 1, n, h => by
    by_cases h0 : n = 0
    · rw [h0, decR_zero]; simp
    · rw [decR_pos h0, List.length_append]
      have := decR_len m (n / 10) (by rw [Nat.pow_succ] at h; omega)
      simp; omega

theorem dec_len (n : Nat) (h : n < 4294967296) : (dec n).length ≤ 10 := by
  unfold dec
  split
  · simp
  · exact decR_len 10 n (by omega)

theorem dec_dgt (n : Nat) : (dec n).all dgt = true := by
  unfold dec
  split
  · rfl
  · exact decR_dgt n

theorem dec_head (n : Nat) : ∃ c r, dec n = c :: r ∧ dgt c = true ∧ (c = 48 → r = []) := by
  unfold dec
  by_cases h : n = 0
  · rw [if_pos h]; exact ⟨48, [], rfl, rfl, fun _ => rfl⟩
  · rw [if_neg h]
    obtain ⟨c, r, e, h1, h2⟩ := decR_head n h
    exact ⟨c, r, e, h2, fun h => absurd h h1⟩

theorem dec_num (n : Nat) : numF (dec n) = min n 1048577 := by
  unfold dec
  split
  · rename_i h; rw [h]; rfl
  · exact decR_num n

theorem dec_check (n : Nat) : checkNum (dec n) = if n ≤ 1048576 then 0 else 10 := by
  unfold checkNum
  rw [if_neg, dec_dgt, dec_num]
  · simp only [if_true]
    by_cases h : n ≤ 1048576
    · rw [if_pos h, if_pos (by omega)]
    · rw [if_neg h, if_neg (by omega)]
  · rintro ⟨h1, h2⟩
    obtain ⟨c, r, e, _, h3⟩ := dec_head n
    rw [e] at h1 h2
    rw [h3 (by simpa using h1)] at h2
    simp at h2

theorem all_prt_of_dgt {l : List UInt8} (h : l.all dgt = true) : l.all prt = true := by
  rw [List.all_eq_true] at h ⊢
  exact fun c hc => prt_of_dgt (h c hc)

theorem dgt_ltr {c : UInt8} (h : dgt c = true) : ltr c = false := by
  unfold dgt isDigit at h
  unfold ltr isLetter
  simp only [Bool.and_eq_true, decide_eq_true_eq] at h
  simp only [Bool.or_eq_false_iff, Bool.and_eq_false_iff, decide_eq_false_iff_not]
  omega

theorem ltr_dgt {c : UInt8} (h : ltr c = true) : dgt c = false := by
  cases hd : dgt c with
  | false => rfl
  | true => rw [dgt_ltr hd] at h; cases h

/-- A text that begins with a digit and consists of letters, digits, and underscores is taken whole. -/
theorem take_num {l : List UInt8} (h1 : headIs dgt l = true) (h2 : l.all prt = true) : takeK l = 2 ∧ takeT l = l ∧ takeE l = checkNum l := by
  have h3 : headIs ltr l = false := by
    cases l with
    | nil => rfl
    | cons c l => exact dgt_ltr h1
  unfold takeK takeT takeE
  rw [h1, h3, run_all h2]
  exact ⟨rfl, rfl, rfl⟩

theorem dec_headIs (n : Nat) : headIs dgt (dec n) = true := by
  obtain ⟨c, r, e, h, _⟩ := dec_head n
  rw [e]; exact h

theorem dec_ne (n : Nat) : dec n ≠ [] := by
  obtain ⟨c, r, e, _⟩ := dec_head n
  rw [e]; simp

theorem split_dec (n : Nat) : splitN [] (dec n) (1, 1) = if n ≤ 1048576 then ⟨[⟨2, dec n, 1, 1⟩], 0, 0, 0⟩ else ⟨[], 1, 1, 10⟩ := by
  have ht := take_num (dec_headIs n) (all_prt_of_dgt (dec_dgt n))
  have hc := ht.2.2.trans (dec_check n)
  by_cases h : n ≤ 1048576
  · rw [if_pos h] at hc ⊢
    have := splitN_here [] (dec n) [] (1, 1) 2 (by simp [dec_ne n]) (by rw [List.append_nil]; exact ht.1) (by rw [List.append_nil]; exact ht.2.1) (by rw [List.append_nil]; exact hc)
    rw [List.append_nil] at this
    rw [this, splitN_end _ _ _ rfl]
    rfl
  · rw [if_neg h] at hc ⊢
    have hs : skipL (dec n) = dec n := by
      obtain ⟨c, r, e, hd, _⟩ := dec_head n
      rw [e]
      have := dgt_plain hd
      unfold skipL skipM
      rw [this.1, if_neg this.2.1]; rfl
    rw [splitN_err _ _ _ (by rw [hs]; exact dec_ne n) (by rw [hs, hc]; decide), hs, hc]
    unfold nextAt
    rw [hs, Nat.sub_self, List.take_zero]
    rfl

/-- A text that begins with a digit, consists of letters, digits, and underscores, and is no number: the error ErrForm. -/
theorem split_bad {g l : List UInt8} (hg : skipL (g ++ l) = l) (h1 : headIs dgt l = true) (h2 : l.all prt = true) (h3 : checkNum l = 3) : splitN [] (g ++ l) (1, 1) = ⟨[], (afterL (1, 1) g).1, (afterL (1, 1) g).2, 3⟩ := by
  have hne : l ≠ [] := by rintro rfl; cases h1
  have ht := take_num h1 h2
  rw [splitN_err _ _ _ (by rw [hg]; exact hne) (by rw [hg, ht.2.2, h3]; decide), hg, ht.2.2, h3]
  have : nextAt (1, 1) (g ++ l) = afterL (1, 1) g := by
    unfold nextAt
    rw [hg]
    congr 1
    rw [List.length_append, Nat.add_sub_cancel, List.take_left' rfl]
  rw [this]

theorem skip_dgt {l : List UInt8} (h1 : headIs dgt l = true) : skipL l = l := by
  cases l with
  | nil => cases h1
  | cons c r =>
    have := dgt_plain h1
    unfold skipL skipM
    rw [this.1, if_neg this.2.1]; rfl

theorem split_zeros (n j : Nat) (hj : 1 ≤ j) : splitN [] (32 :: (List.replicate j 48 ++ dec n)) (1, 1) = ⟨[], 1, 2, 3⟩ := by
  obtain ⟨i, rfl⟩ : ∃ i, j = i + 1 := ⟨j - 1, by omega⟩
  have hd : headIs dgt (List.replicate (i + 1) 48 ++ dec n) = true := rfl
  have ha : (List.replicate (i + 1) 48 ++ dec n).all prt = true := by
    rw [List.all_append, all_prt_of_dgt (dec_dgt n)]
    have : (List.replicate (i + 1) (48 : UInt8)).all prt = true := by
      rw [List.all_eq_true]; intro c hc; rw [(List.mem_replicate.1 hc).2]; rfl
    rw [this]; rfl
  have hc : checkNum (List.replicate (i + 1) 48 ++ dec n) = 3 := by
    unfold checkNum
    rw [if_pos]
    refine ⟨rfl, ?_⟩
    rw [List.length_append, List.length_replicate]
    have := List.length_pos_iff.2 (dec_ne n)
    omega
  have hs : skipL ([32] ++ (List.replicate (i + 1) 48 ++ dec n)) = List.replicate (i + 1) 48 ++ dec n := by
    have e : skipL ([32] ++ (List.replicate (i + 1) 48 ++ dec n)) = skipL (List.replicate (i + 1) 48 ++ dec n) := rfl
    rw [e]; exact skip_dgt hd
  exact split_bad hs hd ha hc

def wordH (l : List UInt8) : Bool := headIs ltr l && l.all prt

theorem split_tail (n : Nat) (w : List UInt8) (hw : wordH w = true) : splitN [] (dec n ++ w) (1, 1) = ⟨[], 1, 1, 3⟩ := by
  unfold wordH at hw
  rw [Bool.and_eq_true] at hw
  obtain ⟨c, r, e, hd, hz⟩ := dec_head n
  have hwn : w ≠ [] := by rintro rfl; cases hw.1
  have hdh : headIs dgt (dec n ++ w) = true := by rw [e]; exact hd
  have ha : (dec n ++ w).all prt = true := by rw [List.all_append, all_prt_of_dgt (dec_dgt n), hw.2]; rfl
  have hc : checkNum (dec n ++ w) = 3 := by
    unfold checkNum
    by_cases h : (dec n ++ w).head? = some 48 ∧ 1 < (dec n ++ w).length
    · rw [if_pos h]
    · rw [if_neg h, if_neg]
      rw [List.all_append, dec_dgt]
      cases w with
      | nil => exact absurd rfl hwn
      | cons d w => rw [List.all_cons, ltr_dgt hw.1]; simp
  have := split_bad (g := []) (by rw [List.nil_append]; exact skip_dgt hdh) hdh ha hc
  exact this

end Go.Proofs.YtjbbelmmnlohlaaDoor
