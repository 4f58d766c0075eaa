/-
  Rows of tokens that are read: contract of slices.Equal at []lex.Token, where both lists are the same.
-/
import Derived.Test.YtjbbelmmnlohlaaDoorLexH
import Derived.Deep.QuietTactic
import Derived.BigQuiet
namespace Go.Proofs.YtjbbelmmnlohlaaDoor
open Go.RowKit

def tok0 : Tok := ⟨0, [], 0, 0⟩

/-- The slice at A reads as these tokens. -/
structure TokCells (W : World) (g : Nat) (l : List Tok) : Prop where
  lt : g < W.heap.size
  c0 : ∀ k, k < l.length → W.cell? ⟨g, k * 4, none⟩ = some (.int .i64 (l.getD k ⟨0, [], 0, 0⟩).k)
  c1 : ∀ k, k < l.length → W.cell? ⟨g, k * 4 + 1, none⟩ = some (.string ⟨(l.getD k ⟨0, [], 0, 0⟩).t.toArray⟩)
  c2 : ∀ k, k < l.length → W.cell? ⟨g, k * 4 + 2, none⟩ = some (.int .i64 (l.getD k ⟨0, [], 0, 0⟩).l)
  c3 : ∀ k, k < l.length → W.cell? ⟨g, k * 4 + 3, none⟩ = some (.int .i64 (l.getD k ⟨0, [], 0, 0⟩).c)

def TokRead (W : World) (A : Option Addr) (l : List Tok) : Prop := 0 < l.length → ∃ g, A = some ⟨g, 0, none⟩ ∧ TokCells W g l

theorem tokRead_of_own {W : World} {B c : Nat} {A : Option Addr} {l : List Tok} (h : W.ownsRow B 38 4 (.slice A l.length c) l.length (toksVals l)) : TokRead W A l := by
  intro hl
  obtain ⟨g, cap, hT⟩ := tokRow_of_own h hl
  have hv := hT.val
  injection hv with hA
  exact ⟨g, hA, hT.lt, hT.c0, hT.c1, hT.c2, hT.c3⟩

theorem TokRead.later {W W' : World} {A : Option Addr} {l : List Tok} (h : TokRead W A l) (hb : Below W.heap.size W W') : TokRead W' A l := by
  intro hl
  obtain ⟨g, hA, hT⟩ := h hl
  exact ⟨g, hA, Nat.lt_of_lt_of_le hT.lt hb.size, fun k hk => (hb.cell (p := ⟨g, k * 4, none⟩) hT.lt).trans (hT.c0 k hk), fun k hk => (hb.cell (p := ⟨g, k * 4 + 1, none⟩) hT.lt).trans (hT.c1 k hk),
    fun k hk => (hb.cell (p := ⟨g, k * 4 + 2, none⟩) hT.lt).trans (hT.c2 k hk), fun k hk => (hb.cell (p := ⟨g, k * 4 + 3, none⟩) hT.lt).trans (hT.c3 k hk)⟩

set_option maxRecDepth 100000 in
set_option maxHeartbeats 1000000 in
theorem tokEq_pos (g1 g2 c1 c2 : Nat) (l : List Tok) (W : World) (hl0 : 0 < l.length) (hl : l.length ≤ 100000) (h1 : TokCells W g1 l) (h2 : TokCells W g2 l) :
    Calls Tryd.prog 38 #[.slice (some ⟨g1, 0, none⟩) l.length c1, .slice (some ⟨g2, 0, none⟩) l.length c2] W fun e w' => e = .returned (.bool true) ∧ ∃ q, w' = W.drewN q := by
  have H1 := Lib.hid h1
  have H2 := Lib.hid h2
  clear h1 h2
  go_enter Tryd.func38, Tryd.ntmps38
  go_wp2
  go_loopg [13] l.length (fun n j wr => ∃ k q : Nat, n = l.length - k ∧ k ≤ l.length ∧ j = .int .i64 k ∧ wr = W.drewN q)
  case atStart => exact ⟨0, 0, rfl, Nat.zero_le _, rfl, rfl⟩
  case round =>
    obtain ⟨k, q, rfl, hk, rfl, rfl⟩ := hrel
    by_cases hlt : k < l.length
    · have hlt2 : (k : Int) < l.length := by omega
      have hk0 : (0 : Int) ≤ k := by omega
      have p0 := H1.out.c0 k hlt
      have p1 := H1.out.c1 k hlt
      have p2 := H1.out.c2 k hlt
      have p3 := H1.out.c3 k hlt
      have q0 := H2.out.c0 k hlt
      have q1 := H2.out.c1 k hlt
      have q2 := H2.out.c2 k hlt
      have q3 := H2.out.c3 k hlt
      generalize l.getD k ⟨0, [], 0, 0⟩ = x at *
      go_wp2
      go_quiet (fail)
      go_wp2
      go_roundg (l.length - (k + 1))
      case measure => omega
      case rel => exact ⟨k + 1, _, rfl, by omega, by go_num, rfl⟩
    · go_wp2
      go_ret
      exact ⟨rfl, q, rfl⟩

set_option maxHeartbeats 400000 in
theorem tokEq_nil (A1 A2 : Option Addr) (c1 c2 : Nat) (W : World) :
    Calls Tryd.prog 38 #[.slice A1 0 c1, .slice A2 0 c2] W fun e w' => e = .returned (.bool true) ∧ ∃ q, w' = W.drewN q := by
  go_enter Tryd.func38, Tryd.ntmps38
  go_wp2
  refine wp_loop_rounds 1 ?_
  rw [rounds_succ]
  go_wp2
  go_ret
  exact ⟨rfl, 0, rfl⟩

theorem tokEq_any (A1 A2 : Option Addr) (c1 c2 : Nat) (l : List Tok) (W : World) (hl : l.length ≤ 100000) (h1 : TokRead W A1 l) (h2 : TokRead W A2 l) :
    Calls Tryd.prog 38 #[.slice A1 l.length c1, .slice A2 l.length c2] W fun e w' => e = .returned (.bool true) ∧ ∃ q, w' = W.drewN q := by
  by_cases h0 : 0 < l.length
  · obtain ⟨g1, rfl, t1⟩ := h1 h0
    obtain ⟨g2, rfl, t2⟩ := h2 h0
    exact tokEq_pos g1 g2 c1 c2 l W h0 hl t1 t2
  · rw [show l.length = 0 by omega]
    exact tokEq_nil A1 A2 c1 c2 W

end Go.Proofs.YtjbbelmmnlohlaaDoor
