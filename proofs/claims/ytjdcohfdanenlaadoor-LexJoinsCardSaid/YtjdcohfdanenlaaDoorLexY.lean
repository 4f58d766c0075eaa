/-
  Contracts of slices.EqualFunc at []lex.Token with the literals of the laws: kinds and texts are the same.
-/
import Derived.Test.YtjdcohfdanenlaaDoorLexO
import Derived.Test.YtjdcohfdanenlaaDoorLexX
import Derived.Deep.QuietTactic
import Derived.BigQuiet
namespace Go.Proofs.YtjdcohfdanenlaaDoor
open Go.RowKit

abbrev tokV (x : Tok) : Value := .agg #[.int .i64 x.k, .string ⟨x.t.toArray⟩, .int .i64 x.l, .int .i64 x.c]

theorem list_beq_self (l : List UInt8) : (l == l) = true := by simp

theorem add_plain' (g n : Nat) : (⟨g, 0, none⟩ : Addr).add n = ⟨g, n, none⟩ := by
  unfold Addr.add
  split
  · next h => subst h; rfl
  · simp

theorem argRead_of_tok {W : World} {l : List Tok} {A : Option Addr} {n : Nat} {c : Nat} {B : Nat} (h : W.ownsRow B 28 4 (.slice A n c) l.length (toksVals l)) : ArgRead W A l := by
  intro hl
  obtain ⟨g, cap, hT⟩ := tokRow_of_own h hl
  have hv := hT.val
  injection hv with hA
  refine ⟨⟨g, 0, none⟩, hA, fun _ => hT.lt, ?_, ?_, ?_, ?_⟩
  · intro k hk; rw [add_plain']; exact hT.c0 k hk
  · intro k hk; rw [add_plain']; exact hT.c1 k hk
  · intro k hk; rw [add_plain']; exact hT.c2 k hk
  · intro k hk; rw [add_plain']; exact hT.c3 k hk

/-- The four cells of a token at an address. -/
structure TokAt4 (W : World) (e : Addr) (x : Tok) : Prop where
  lt : e.block < W.heap.size
  c0 : W.cell? e = some (.int .i64 x.k)
  c1 : W.cell? { block := e.block, off := e.off + 1 } = some (.string ⟨x.t.toArray⟩)
  c2 : W.cell? { block := e.block, off := e.off + 2 } = some (.int .i64 x.l)
  c3 : W.cell? { block := e.block, off := e.off + 3 } = some (.int .i64 x.c)

theorem add_pos (a : Addr) (n j : Nat) (h : 0 < j) : a.add (n + j) = { block := (a.add n).block, off := (a.add n).off + j } := by
  unfold Addr.add
  rw [if_neg (by omega)]
  by_cases h0 : n = 0
  · rw [if_pos h0]; subst h0; simp
  · rw [if_neg h0]; simp; omega

theorem ArgCells.at_ {W : World} {a : Addr} {l : List Tok} (h : ArgCells W a l) {k : Nat} (hk : k < l.length) : TokAt4 W (a.add (k * 4)) (l.getD k ⟨0, [], 0, 0⟩) where
  lt := by rw [block_add]; exact h.lt (by omega)
  c0 := h.c0 k hk
  c1 := by rw [← add_pos a (k * 4) 1 (by omega)]; exact h.c1 k hk
  c2 := by rw [← add_pos a (k * 4) 2 (by omega)]; exact h.c2 k hk
  c3 := by rw [← add_pos a (k * 4) 3 (by omega)]; exact h.c3 k hk

theorem ge_k {l m : List Tok} (h : l.map (fun x => (x.k, x.t)) = m.map (fun x => (x.k, x.t))) (k : Nat) : (l.getD k ⟨0, [], 0, 0⟩).k = (m.getD k ⟨0, [], 0, 0⟩).k ∧ (l.getD k ⟨0, [], 0, 0⟩).t = (m.getD k ⟨0, [], 0, 0⟩).t := by
  have h1 : (l.map (fun x => (x.k, x.t)))[k]? = (m.map (fun x => (x.k, x.t)))[k]? := by rw [h]
  rw [List.getElem?_map, List.getElem?_map] at h1
  rw [List.getD_eq_getElem?_getD, List.getD_eq_getElem?_getD]
  cases e1 : l[k]? with
  | none =>
    rw [e1] at h1
    cases e2 : m[k]? with
    | none => exact ⟨rfl, rfl⟩
    | some y => rw [e2] at h1; cases h1
  | some x =>
    rw [e1] at h1
    cases e2 : m[k]? with
    | none => rw [e2] at h1; cases h1
    | some y =>
      rw [e2] at h1
      simp only [Option.map_some, Option.some.injEq, Prod.mk.injEq] at h1
      exact h1

theorem len_kt {l m : List Tok} (h : l.map (fun x => (x.k, x.t)) = m.map (fun x => (x.k, x.t))) : l.length = m.length := by
  have := congrArg List.length h
  simpa using this

end Go.Proofs.YtjdcohfdanenlaaDoor
