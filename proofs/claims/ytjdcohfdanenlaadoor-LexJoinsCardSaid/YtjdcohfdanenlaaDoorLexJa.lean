/-
  Contract of slices.ContainsFunc with the law's literal: whether a token's text is longer than 100 bytes.
-/
import Derived.Test.YtjdcohfdanenlaaDoorLexYj
namespace Go.Proofs.YtjdcohfdanenlaaDoor
open Go.RowKit

def longB (x : Tok) : Bool := decide (100 < x.t.length)

set_option maxHeartbeats 1000000 in
theorem lit_long (x : Tok) (w : World) (hx : x.t.length ≤ maxLen) :
    Calls Tryd.prog 7 #[tokV x] w fun e w' => e = .returned (.bool (longB x)) ∧ Below w.heap.size w w' := by
  obtain ⟨k, t, l, c⟩ := x
  have h0 : t.length ≤ maxLen := hx
  unfold maxLen at h0
  clear hx
  go_enter Tryd.func7, Tryd.ntmps7
  go_wp2
  go_ret
  refine ⟨?_, below_alloc w _⟩
  congr 2
  unfold longB
  simp
  omega

theorem any_take {l : List Tok} {k : Nat} (hk : k < l.length) (h : (l.take k).any longB = false) (hx : longB (l.getD k ⟨0, [], 0, 0⟩) = false) : (l.take (k + 1)).any longB = false := by
  rw [List.take_succ_eq_append_getElem hk, List.any_append, h]
  rw [List.getD_eq_getElem?_getD, List.getElem?_eq_getElem hk] at hx
  simpa using hx

theorem any_at {l : List Tok} {k : Nat} (hk : k < l.length) (hx : longB (l.getD k ⟨0, [], 0, 0⟩) = true) : l.any longB = true := by
  rw [List.any_eq_true]
  refine ⟨_, ?_, hx⟩
  rw [List.getD_eq_getElem?_getD, List.getElem?_eq_getElem hk]
  exact List.getElem_mem _

set_option maxRecDepth 100000 in
set_option maxHeartbeats 2000000 in
theorem indexf_any (A : Option Addr) (c : Nat) (l : List Tok) (w : World) (hl : l.length ≤ 1000) (h : ArgRead w A l) (ht : ∀ x ∈ l, x.t.length ≤ maxLen) :
    Calls Tryd.prog 18 #[.slice A l.length c, .func (.func 7) #[] #[]] w fun e w' => (∃ j : Int, e = .returned (.int .i64 j) ∧ decide (0 ≤ j) = l.any longB) ∧ Below w.heap.size w w' := by
  have HR := Lib.hid (And.intro h ht)
  have HL : Hid (∀ (x : Tok) (w : World), x.t.length ≤ maxLen → Calls Tryd.prog 7 #[tokV x] w fun e w' => e = .returned (.bool (longB x)) ∧ Below w.heap.size w w') := Lib.hid lit_long
  clear h ht
  generalize hq : l.any longB = q
  have HQ := Lib.hid hq
  clear hq
  go_enter Tryd.func18, Tryd.ntmps18
  go_wp2
  go_loopg [8] l.length (fun n j wr => ∃ k : Nat, n = l.length - k ∧ k ≤ l.length ∧ j = .int .i64 k ∧ (l.take k).any longB = false ∧ Below w.heap.size w wr)
  case atStart => exact ⟨0, rfl, Nat.zero_le _, rfl, rfl, Below.refl _ _⟩
  case round =>
    obtain ⟨k, rfl, hk, rfl, hno, hbel⟩ := hrel
    have HB := Lib.hid hbel
    have HNo := Lib.hid hno
    clear hbel hno
    by_cases hlt : k < l.length
    · obtain ⟨a, rfl, hT⟩ := (HR.out.1.later HB.out) (by omega)
      have t1 := hT.at_ hlt
      have HM := Lib.hid (HR.out.2 (l.getD k ⟨0, [], 0, 0⟩) (by rw [List.getD_eq_getElem?_getD, List.getElem?_eq_getElem hlt]; exact List.getElem_mem _))
      have HS1 := Lib.hid (fun hx => any_take hlt HNo.out (hx : longB (l.getD k ⟨0, [], 0, 0⟩) = false))
      have HS2 := Lib.hid (fun hx => any_at hlt (hx : longB (l.getD k ⟨0, [], 0, 0⟩) = true))
      clear hT
      generalize l.getD k ⟨0, [], 0, 0⟩ = x at *
      obtain ⟨b1, p0, p1, p2, p3⟩ := t1
      cases hlb : longB x with
      | true =>
        have HLx : Hid (∀ w : World, Calls Tryd.prog 7 #[tokV x] w fun e w' => e = .returned (.bool true) ∧ Below w.heap.size w w') := Lib.hid (fun w => hlb ▸ HL.out x w HM.out)
        have HF : Hid (q = true) := Lib.hid (by rw [← HQ.out]; exact HS2.out hlb)
        clear hlb
        go_wp2_with (go_at_call 7; refine (HLx.out _).mono ?_; rintro e w3 ⟨rfl, hb⟩; have HB3 := Lib.hid (HB.out.trans (hb.mono HB.out.size)); clear hb)
        go_ret
        exact ⟨⟨_, rfl, by rw [HF.out]; exact decide_eq_true (Int.natCast_nonneg k)⟩, HB3.out⟩
      | false =>
        have HLx : Hid (∀ w : World, Calls Tryd.prog 7 #[tokV x] w fun e w' => e = .returned (.bool false) ∧ Below w.heap.size w w') := Lib.hid (fun w => hlb ▸ HL.out x w HM.out)
        have HN2 := Lib.hid (HS1.out hlb)
        clear hlb
        go_wp2_with (go_at_call 7; refine (HLx.out _).mono ?_; rintro e w3 ⟨rfl, hb⟩; have HB3 := Lib.hid (HB.out.trans (hb.mono HB.out.size)); clear hb)
        go_roundg (l.length - (k + 1))
        case measure => omega
        case rel => exact ⟨k + 1, rfl, by omega, by go_num, HN2.out, HB3.out⟩
    · have HF : Hid (q = false) := Lib.hid (by rw [← HQ.out, ← HNo.out, List.take_of_length_le (by omega)])
      go_wp2
      go_ret
      exact ⟨⟨_, rfl, by rw [HF.out]; rfl⟩, HB.out⟩

set_option maxHeartbeats 1000000 in
theorem containsf_any (A : Option Addr) (c : Nat) (l : List Tok) (w : World) (hl : l.length ≤ 1000) (h : ArgRead w A l) (ht : ∀ x ∈ l, x.t.length ≤ maxLen) :
    Calls Tryd.prog 6 #[.slice A l.length c, .func (.func 7) #[] #[]] w fun e w' => e = .returned (.bool (l.any longB)) ∧ Below w.heap.size w w' := by
  have HI := Lib.hid (indexf_any A c l w hl h ht)
  clear h ht
  go_enter Tryd.func6, Tryd.ntmps6
  go_wp2_with (go_at_call 18; refine HI.out.mono ?_; rintro e w3 ⟨⟨j, rfl, hj⟩, hb⟩; have HB3 := Lib.hid (And.intro hb hj); clear hb hj)
  go_ret
  refine ⟨?_, HB3.out.1⟩
  rw [← HB3.out.2]
  trace_state
  rfl

end Go.Proofs.YtjdcohfdanenlaaDoor
