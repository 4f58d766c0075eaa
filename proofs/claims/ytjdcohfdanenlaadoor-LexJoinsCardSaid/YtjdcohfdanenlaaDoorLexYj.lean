/-
  slices.EqualFunc with the law's literal: kinds and texts are the same.
-/
import Derived.Test.YtjdcohfdanenlaaDoorLexY
namespace Go.Proofs.YtjdcohfdanenlaaDoor
open Go.RowKit

set_option maxHeartbeats 1000000 in
theorem lit_joins (x y : Tok) (w : World) (hk : x.k = y.k) (ht : x.t = y.t) :
    Calls Tryd.prog 13 #[tokV x, tokV y] w fun e w' => e = .returned (.bool true) ∧ Below w.heap.size w w' := by
  obtain ⟨k, t, l, c⟩ := x
  obtain ⟨k2, t2, l2, c2⟩ := y
  have hk' : k = k2 := hk
  have ht' : t = t2 := ht
  subst hk' ht'
  unfold tokV
  go_enter Tryd.func13, Tryd.ntmps13
  go_wp2
  go_ret
  exact ⟨rfl, (below_alloc w _).chain (below_alloc _ _)⟩

set_option maxRecDepth 100000 in
set_option maxHeartbeats 2000000 in
theorem eqf_jpos (a1 a2 : Addr) (c1 c2 : Nat) (l m : List Tok) (w : World) (hl : l.length ≤ 1000) (hkt : l.map (fun x => (x.k, x.t)) = m.map (fun x => (x.k, x.t))) (h1 : ArgCells w a1 l) (h2 : ArgCells w a2 m) :
    Calls Tryd.prog 12 #[.slice (some a1) l.length c1, .slice (some a2) l.length c2, .func (.func 13) #[] #[]] w fun e w' => e = .returned (.bool true) ∧ Below w.heap.size w w' := by
  have HR := Lib.hid (And.intro h1 h2)
  have HK := Lib.hid (ge_k hkt)
  have HM := Lib.hid (len_kt hkt)
  have HL : Hid (∀ (x y : Tok) (w : World), x.k = y.k → x.t = y.t → Calls Tryd.prog 13 #[tokV x, tokV y] w fun e w' => e = .returned (.bool true) ∧ Below w.heap.size w w') := Lib.hid lit_joins
  clear h1 h2 hkt
  go_enter Tryd.func12, Tryd.ntmps12
  go_wp2
  go_loopg [17] l.length (fun n j wr => ∃ k : Nat, n = l.length - k ∧ k ≤ l.length ∧ j = .int .i64 k ∧ Below w.heap.size w wr)
  case atStart => exact ⟨0, rfl, Nat.zero_le _, rfl, Below.refl _ _⟩
  case round =>
    obtain ⟨k, rfl, hk, rfl, hbel⟩ := hrel
    have HB := Lib.hid hbel
    clear hbel
    by_cases hlt : k < l.length
    · have r1 := HR.out.1.later HB.out
      have r2 := HR.out.2.later HB.out
      have hlt2 : k < m.length := by rw [← HM.out]; exact hlt
      have t1 := r1.at_ hlt
      have t2 := r2.at_ hlt2
      have HS := Lib.hid (HK.out k)
      clear r1 r2 hlt2
      generalize l.getD k ⟨0, [], 0, 0⟩ = x at *
      generalize m.getD k ⟨0, [], 0, 0⟩ = y at *
      obtain ⟨b1, p0, p1, p2, p3⟩ := t1
      obtain ⟨b2, q0, q1, q2, q3⟩ := t2
      go_wp2_with (go_at_call 13; refine (HL.out x y _ HS.out.1 HS.out.2).mono ?_; rintro e w3 ⟨rfl, hb⟩; have HB3 := Lib.hid (HB.out.trans ((((below_alloc wr _).chain (below_alloc _ _)).chain hb).mono HB.out.size)); clear hb)
      go_roundg (l.length - (k + 1))
      case measure => omega
      case rel => exact ⟨k + 1, rfl, by omega, by go_num, HB3.out⟩
    · go_wp2
      go_ret
      exact ⟨rfl, HB.out⟩

set_option maxHeartbeats 400000 in
theorem eqf_jnil (A1 A2 : Option Addr) (c1 c2 : Nat) (w : World) :
    Calls Tryd.prog 12 #[.slice A1 0 c1, .slice A2 0 c2, .func (.func 13) #[] #[]] w fun e w' => e = .returned (.bool true) ∧ Below w.heap.size w w' := by
  go_enter Tryd.func12, Tryd.ntmps12
  go_wp2
  refine wp_loop_rounds 1 ?_
  rw [rounds_succ]
  go_wp2
  go_ret
  exact ⟨rfl, Below.refl _ _⟩

theorem eqf_joins (A1 A2 : Option Addr) (n1 n2 c1 c2 : Nat) (l m : List Tok) (w : World) (hl : l.length ≤ 1000) (hkt : l.map (fun x => (x.k, x.t)) = m.map (fun x => (x.k, x.t))) (hn1 : n1 = l.length) (hn2 : n2 = m.length) (h1 : ArgRead w A1 l) (h2 : ArgRead w A2 m) :
    Calls Tryd.prog 12 #[.slice A1 n1 c1, .slice A2 n2 c2, .func (.func 13) #[] #[]] w fun e w' => e = .returned (.bool true) ∧ Below w.heap.size w w' := by
  have hm := len_kt hkt
  subst hn1 hn2
  rw [← hm]
  by_cases h0 : 0 < l.length
  · obtain ⟨a1, rfl, t1⟩ := h1 h0
    obtain ⟨a2, rfl, t2⟩ := h2 (by omega)
    exact eqf_jpos a1 a2 c1 c2 l m w hl hkt t1 t2
  · rw [show l.length = 0 by omega]
    exact eqf_jnil A1 A2 c1 c2 w

end Go.Proofs.YtjdcohfdanenlaaDoor
