/-
  Contracts of package lex: after, the place behind a text.
-/
import Derived.Test.YtjdcohfdanenlaaDoorLexE
import Derived.Test.YtjdcohfdanenlaaDoorLexM3
import Derived.StillTailTactics
import Derived.Deep.QuietTactic
import Derived.BigQuiet
namespace Go.Proofs.YtjdcohfdanenlaaDoor
open Go.RowKit

def PosIs (l c : Int) (w : World) (e : Ending) (w' : World) : Prop := e = .returned (.agg #[.int .i64 l, .int .i64 c]) ∧ Below w.heap.size w w'

set_option maxHeartbeats 1000000 in
theorem after_zero (a b : Int) (s : ByteArray) (w : World) (hs : s.size ≤ 65536) (hb0 : 0 ≤ b) (hb1 : b ≤ 1000000) (hc : s.data.toList.count 10 = 0) :
    Calls Tryd.prog 22 #[.agg #[.int .i64 a, .int .i64 b], .string s] w (PosIs a (b + s.size) w) := by
  have HC : Hid (∀ W, Calls Tryd.prog 43 #[.string s, .string ⟨#[10]⟩] W fun e w' => e = .returned (.int .i64 0) ∧ W = w') := Lib.hid (fun W => (Tryd.strings_Count_one s 10 W).mono fun e w' ⟨he, hw⟩ => ⟨by rw [he]; unfold Lib.countByte; rw [hc]; rfl, hw.symm⟩)
  clear hc
  go_enter Tryd.func22, Tryd.ntmps22
  go_wp2_with (go_at_call 43; refine (HC.out _).mono ?_; rintro e w1 ⟨rfl, rfl⟩)
  refine bodyPost_ret (v := .agg #[.int .i64 a, .int .i64 (b + s.size)]) (by simp [results, Tryd.results22, go_sem]) rfl ⟨rfl, ?_⟩
  ·
    repeat (first | exact Below.refl _ _ | refine Below.drew ?_ | refine Below.setCell ?_ (by dsimp only; omega) _ | refine Below.alloc ?_ (by simp) _)

set_option maxHeartbeats 1000000 in
theorem after_more (a b : Int) (s : ByteArray) (n : Nat) (w : World) (hs : s.size ≤ 65536) (ha0 : 0 ≤ a) (ha1 : a ≤ 1000000) (hn : s.data.toList.count 10 = n) (hn0 : 0 < n) (hnl : n ≤ 65536) :
    Calls Tryd.prog 22 #[.agg #[.int .i64 a, .int .i64 b], .string s] w (PosIs (a + n) (s.size - Lib.lastIndexByte s 10) w) := by
  have HC : Hid (∀ W, Calls Tryd.prog 43 #[.string s, .string ⟨#[10]⟩] W fun e w' => e = .returned (.int .i64 n) ∧ W = w') := Lib.hid (fun W => (Tryd.strings_Count_one s 10 W).mono fun e w' ⟨he, hw⟩ => ⟨by rw [he]; unfold Lib.countByte; rw [hn], hw.symm⟩)
  have HL : Hid (∀ W, Calls Tryd.prog 44 #[.string s, .int .u8 10] W fun e w' => e = .returned (.int .i64 (Lib.lastIndexByte s 10)) ∧ w' = W) := Lib.hid (fun W => Tryd.strings_LastIndexByte s 10 (by omega) W)
  have hne : ((n : Int) == 0) = false := by rw [beq_eq_false_iff_ne]; omega
  have hli : -1 ≤ Lib.lastIndexByte s 10 ∧ Lib.lastIndexByte s 10 < s.size := by
    unfold Lib.lastIndexByte
    rcases Lib.lastIdx_spec s 10 s.size with ⟨h, _⟩ | ⟨i, hi, h, _⟩ <;> rw [h] <;> omega
  generalize Lib.lastIndexByte s 10 = j at *
  clear hn
  go_enter Tryd.func22, Tryd.ntmps22
  go_wp2_with (go_at_call 43; refine (HC.out _).mono ?_; rintro e w1 ⟨rfl, rfl⟩)
  go_region_with ((go_at_call 44; refine (HL.out _).mono ?_; rintro e w1 ⟨rfl, rfl⟩))
  all_goals go_wp2
  all_goals
    refine bodyPost_ret (v := .agg #[.int .i64 (a + n), .int .i64 (s.size - j)]) (by simp [results, Tryd.results22, go_sem]; exact ⟨IntWalk.i64_in _ (by omega), IntWalk.i64_in _ (by omega)⟩) rfl ⟨rfl, ?_⟩
    repeat (first | exact Below.refl _ _ | refine Below.drew ?_ | refine Below.setCell ?_ (by dsimp only; omega) _ | refine Below.alloc ?_ (by simp) _)

/-- The place behind s, if s begins at (a, b). -/
theorem after_any (a b : Int) (s : ByteArray) (w : World) (hs : s.size ≤ 65536) (ha0 : 0 ≤ a) (ha1 : a ≤ 1000000) (hb0 : 0 ≤ b) (hb1 : b ≤ 1000000) :
    Calls Tryd.prog 22 #[.agg #[.int .i64 a, .int .i64 b], .string s] w (PosIs (afterL (a, b) s.data.toList).1 (afterL (a, b) s.data.toList).2 w) := by
  rw [after_all]
  by_cases h : s.data.toList.count 10 = 0
  · rw [if_pos h]
    exact after_zero a b s w hs hb0 hb1 h
  · rw [if_neg h]
    refine after_more a b s _ w hs ha0 ha1 rfl (by omega) ?_
    have := List.count_le_length (a := 10) (l := s.data.toList)
    rw [size_list] at this
    omega

end Go.Proofs.YtjdcohfdanenlaaDoor
