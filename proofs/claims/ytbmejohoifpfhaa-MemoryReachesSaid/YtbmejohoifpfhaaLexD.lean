/-
  Contracts of package lex: the literal in firstOf over the three takers.
-/
import Derived.Test.YtbmejohoifpfhaaLexC
import Derived.Test.YtbmejohoifpfhaaLexM4
import Derived.LoopN
namespace Go.Proofs.Ytbmejohoifpfhaa
open Go.RowKit

theorem headIs_eq (p : UInt8 → Bool) (s : ByteArray) (h : 0 < s.size) : headIs p s.data.toList = p s[0] := by
  have := head_eq s h
  cases hl : s.data.toList with
  | nil => rw [hl] at this; cases this
  | cons c l => rw [hl] at this; rw [← Option.some.inj this]; rfl

theorem headIs_pos {p : UInt8 → Bool} {s : ByteArray} (h : headIs p s.data.toList = true) : 0 < s.size := by
  cases hl : s.data.toList with
  | nil => rw [hl] at h; cases h
  | cons c l => rw [← size_list, hl]; exact Nat.succ_pos _

theorem list_empty {s : ByteArray} (h : 0 < s.size) : s.toList.isEmpty = false := by
  rw [Lib.toList_data]
  cases hl : s.data.toList with
  | nil => rw [← size_list, hl] at h; cases h
  | cons c l => rfl

theorem word_yes (s : ByteArray) (W : World) (n : Nat) (hT : TakerAt W n) (hs : s.size ≤ maxLen) (h : headIs ltr s.data.toList = true) :
    Calls Try.prog 103 #[.string s, .pointer (some ⟨n + 1, 0, none⟩), .pointer (some ⟨n, 0, none⟩), .pointer (some ⟨n + 2, 0, none⟩)] W (Hit 1 (runL s.data.toList) (checkLen (runL s.data.toList)) W) := by
  have h0 := headIs_pos h
  rw [headIs_eq ltr s h0] at h
  exact word_hit s W _ _ _ hT.b1 hT.k1 hT.c1 hs h0 (list_empty h0) h

theorem word_no (s : ByteArray) (W : World) (n : Nat) (hT : TakerAt W n) (h : headIs ltr s.data.toList = false) :
    Calls Try.prog 103 #[.string s, .pointer (some ⟨n + 1, 0, none⟩), .pointer (some ⟨n, 0, none⟩), .pointer (some ⟨n + 2, 0, none⟩)] W (Hit 0 [] 3 W) := by
  by_cases h0 : 0 < s.size
  · rw [headIs_eq ltr s h0] at h
    exact word_not s W _ _ _ hT.b1 h0 (list_empty h0) h
  · refine word_empty s W _ _ _ ?_
    rw [Lib.toList_data]
    exact List.eq_nil_of_length_eq_zero (by rw [size_list]; omega)

theorem number_yes (s : ByteArray) (W : World) (n : Nat) (hT : TakerAt W n) (hs : s.size ≤ maxLen) (h : headIs dgt s.data.toList = true) :
    Calls Try.prog 103 #[.string s, .pointer (some ⟨n + 4, 0, none⟩), .pointer (some ⟨n + 3, 0, none⟩), .pointer (some ⟨n + 5, 0, none⟩)] W (Hit 2 (runL s.data.toList) (checkNum (runL s.data.toList)) W) := by
  have h0 := headIs_pos h
  rw [headIs_eq dgt s h0] at h
  exact number_hit s W _ _ _ hT.b2 hT.k2 hT.c2 hs h0 (list_empty h0) h

theorem number_no (s : ByteArray) (W : World) (n : Nat) (hT : TakerAt W n) (h : headIs dgt s.data.toList = false) :
    Calls Try.prog 103 #[.string s, .pointer (some ⟨n + 4, 0, none⟩), .pointer (some ⟨n + 3, 0, none⟩), .pointer (some ⟨n + 5, 0, none⟩)] W (Hit 0 [] 3 W) := by
  by_cases h0 : 0 < s.size
  · rw [headIs_eq dgt s h0] at h
    exact number_not s W _ _ _ hT.b2 h0 (list_empty h0) h
  · refine word_empty s W _ _ _ ?_
    rw [Lib.toList_data]
    exact List.eq_nil_of_length_eq_zero (by rw [size_list]; omega)

theorem TakerAt.drewN {W : World} {n : Nat} (h : TakerAt W n) (m : Nat) : TakerAt (W.drewN m) n := h.later (B := n + 10) (Nat.le_refl _) (below_drewN (Below.refl _ W) m)

/-- The contract of a taker at every later draw. -/
def Draws (P : Program) (f : FuncId) (args : Array Value) (k : Int) (r : List UInt8) (c : Int) (W : World) : Prop := ∀ m, Calls P f args (W.drewN m) (Hit k r c (W.drewN m))

set_option maxHeartbeats 1000000 in
theorem first_word (s : ByteArray) (W : World) (n : Nat) (hT : TakerAt W n) (hs : s.size ≤ maxLen) (h : headIs ltr s.data.toList = true) :
    Calls Try.prog 102 #[.string s, .pointer (some ⟨n + 9, 0, none⟩)] W (Hit 1 (runL s.data.toList) (checkLen (runL s.data.toList)) W) := by
  have HC0 : Hid (Calls Try.prog 103 #[.string s, .pointer (some ⟨n + 1, 0, none⟩), .pointer (some ⟨n, 0, none⟩), .pointer (some ⟨n + 2, 0, none⟩)] W (Hit 1 (runL s.data.toList) (checkLen (runL s.data.toList)) W)) := Lib.hid (word_yes s W n hT hs h)
  generalize runL s.data.toList = r at *
  have t0 := hT.t0
  have ts := hT.ts
  clear hT h
  go_enter Try.func102, Try.ntmps102
  go_wp2
  refine wp_loop_rounds 1 ?_
  rw [rounds_succ]
  go_wp2_with (go_at_call 103; refine HC0.out.mono ?_; rintro e w' ⟨rfl, nq, rfl⟩)
  go_ret3
  exact ⟨rfl, _, rfl⟩

set_option maxHeartbeats 1000000 in
theorem first_number (s : ByteArray) (W : World) (n : Nat) (hT : TakerAt W n) (hs : s.size ≤ maxLen) (hn : headIs ltr s.data.toList = false) (h : headIs dgt s.data.toList = true) :
    Calls Try.prog 102 #[.string s, .pointer (some ⟨n + 9, 0, none⟩)] W (Hit 2 (runL s.data.toList) (checkNum (runL s.data.toList)) W) := by
  have HC0 : Hid (Calls Try.prog 103 #[.string s, .pointer (some ⟨n + 1, 0, none⟩), .pointer (some ⟨n, 0, none⟩), .pointer (some ⟨n + 2, 0, none⟩)] W (Hit 0 [] 3 W)) := Lib.hid (word_no s W n hT hn)
  have HC1 : Draws Try.prog 103 #[.string s, .pointer (some ⟨n + 4, 0, none⟩), .pointer (some ⟨n + 3, 0, none⟩), .pointer (some ⟨n + 5, 0, none⟩)] 2 (runL s.data.toList) (checkNum (runL s.data.toList)) W := fun m => number_yes s _ n (hT.drewN m) hs h
  generalize runL s.data.toList = r at *
  have t0 := hT.t0
  have t1 := hT.t1
  have ts := hT.ts
  clear hT h hn
  go_enter Try.func102, Try.ntmps102
  go_wp2
  refine wp_loop_rounds 2 ?_
  rw [rounds_succ]
  go_wp2_with (go_at_call 103; refine HC0.out.mono ?_; rintro e w' ⟨rfl, nq, rfl⟩)
  rw [rounds_succ]
  go_wp2_with (go_at_call 103; refine (HC1 _).mono ?_; rintro e w' ⟨rfl, nq2, rfl⟩)
  go_ret3
  exact ⟨rfl, _, rfl⟩


set_option maxHeartbeats 1000000 in
theorem first_symbol (s : ByteArray) (W : World) (n : Nat) (hT : TakerAt W n) (hn : headIs ltr s.data.toList = false) (h : headIs dgt s.data.toList = false) (hy : (symFind s.data.toList).isSome = true) :
    Calls Try.prog 102 #[.string s, .pointer (some ⟨n + 9, 0, none⟩)] W (Hit 3 (symText s.data.toList) 0 W) := by
  have HC0 : Hid (Calls Try.prog 103 #[.string s, .pointer (some ⟨n + 1, 0, none⟩), .pointer (some ⟨n, 0, none⟩), .pointer (some ⟨n + 2, 0, none⟩)] W (Hit 0 [] 3 W)) := Lib.hid (word_no s W n hT hn)
  have HC1 : Draws Try.prog 103 #[.string s, .pointer (some ⟨n + 4, 0, none⟩), .pointer (some ⟨n + 3, 0, none⟩), .pointer (some ⟨n + 5, 0, none⟩)] 0 [] 3 W := fun m => number_no s _ n (hT.drewN m) h
  have HC2 : Draws Try.prog 104 #[.string s, .pointer (some ⟨n + 7, 0, none⟩)] 3 (symText s.data.toList) 0 W := fun m => by
    have hh := symbol_any s (W.drewN m) (n + 7) (n + 6) (hT.drewN m).sl (hT.drewN m).sy
    unfold symKind symErr at hh
    rw [hy] at hh
    exact hh
  generalize symText s.data.toList = r at *
  have t0 := hT.t0
  have t1 := hT.t1
  have t2 := hT.t2
  have ts := hT.ts
  clear hT h hn hy
  go_enter Try.func102, Try.ntmps102
  go_wp2
  refine wp_loop_rounds 3 ?_
  rw [rounds_succ]
  go_wp2_with (go_at_call 103; refine HC0.out.mono ?_; rintro e w' ⟨rfl, nq, rfl⟩)
  rw [rounds_succ]
  go_wp2_with (go_at_call 103; refine (HC1 _).mono ?_; rintro e w' ⟨rfl, nq2, rfl⟩)
  rw [rounds_succ]
  go_wp2_with (go_at_call 104; refine (HC2 _).mono ?_; rintro e w' ⟨rfl, nq3, rfl⟩)
  go_ret3
  exact ⟨rfl, _, rfl⟩

set_option maxHeartbeats 1000000 in
theorem first_none (s : ByteArray) (W : World) (n : Nat) (hT : TakerAt W n) (hn : headIs ltr s.data.toList = false) (h : headIs dgt s.data.toList = false) (hy : (symFind s.data.toList).isSome = false) :
    Calls Try.prog 102 #[.string s, .pointer (some ⟨n + 9, 0, none⟩)] W (Hit 0 [] 3 W) := by
  have HC0 : Hid (Calls Try.prog 103 #[.string s, .pointer (some ⟨n + 1, 0, none⟩), .pointer (some ⟨n, 0, none⟩), .pointer (some ⟨n + 2, 0, none⟩)] W (Hit 0 [] 3 W)) := Lib.hid (word_no s W n hT hn)
  have HC1 : Draws Try.prog 103 #[.string s, .pointer (some ⟨n + 4, 0, none⟩), .pointer (some ⟨n + 3, 0, none⟩), .pointer (some ⟨n + 5, 0, none⟩)] 0 [] 3 W := fun m => number_no s _ n (hT.drewN m) h
  have HC2 : Draws Try.prog 104 #[.string s, .pointer (some ⟨n + 7, 0, none⟩)] 0 [] 3 W := fun m => by
    have hh := symbol_any s (W.drewN m) (n + 7) (n + 6) (hT.drewN m).sl (hT.drewN m).sy
    unfold symKind symErr at hh
    rw [hy] at hh
    rw [show symText s.data.toList = [] by unfold symText; rw [Option.isNone_iff_eq_none.1 (Option.isSome_eq_false_iff.1 hy)]; rfl] at hh
    exact hh
  have t0 := hT.t0
  have t1 := hT.t1
  have t2 := hT.t2
  have ts := hT.ts
  clear hT h hn hy
  go_enter Try.func102, Try.ntmps102
  go_wp2
  refine wp_loop_rounds 4 ?_
  rw [rounds_succ]
  go_wp2_with (go_at_call 103; refine HC0.out.mono ?_; rintro e w' ⟨rfl, nq, rfl⟩)
  rw [rounds_succ]
  go_wp2_with (go_at_call 103; refine (HC1 _).mono ?_; rintro e w' ⟨rfl, nq2, rfl⟩)
  rw [rounds_succ]
  go_wp2_with (go_at_call 104; refine (HC2 _).mono ?_; rintro e w' ⟨rfl, nq3, rfl⟩)
  rw [rounds_succ]
  go_wp2
  go_ret3
  exact ⟨rfl, _, rfl⟩

/-- What a call of takeToken's value returns: the kind, the text, and the error of the token at the beginning of s. -/
theorem first_any (s : ByteArray) (W : World) (n : Nat) (hT : TakerAt W n) (hs : s.size ≤ maxLen) :
    Calls Try.prog 102 #[.string s, .pointer (some ⟨n + 9, 0, none⟩)] W (Hit (takeK s.data.toList) (takeT s.data.toList) (takeE s.data.toList) W) := by
  unfold takeK takeT takeE
  cases hl : headIs ltr s.data.toList with
  | true => exact first_word s W n hT hs hl
  | false =>
    cases hd : headIs dgt s.data.toList with
    | true => exact first_number s W n hT hs hl hd
    | false =>
      show Calls _ _ _ _ (Hit (symKind s.data.toList) (symText s.data.toList) (symErr s.data.toList) W)
      unfold symKind symErr
      cases hy : (symFind s.data.toList).isSome with
      | true => exact first_symbol s W n hT hl hd hy
      | false =>
        rw [show symText s.data.toList = [] by unfold symText; rw [Option.isNone_iff_eq_none.1 (Option.isSome_eq_false_iff.1 hy)]; rfl]
        exact first_none s W n hT hl hd hy

end Go.Proofs.Ytbmejohoifpfhaa
