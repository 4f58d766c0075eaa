/-
  Contracts of package lex: the list of symbols, the literal in takeSymbol.
-/
import Derived.Test.YtbmejohoifpfhaaLexB
import Derived.Test.YtbmejohoifpfhaaShelf
namespace Go.Proofs.Ytbmejohoifpfhaa
open Go.RowKit

def symVals : Array Value := (syms.map fun l => Value.string ⟨l.toArray⟩).toArray

set_option maxHeartbeats 400000 in
theorem symbols_any (w : World) :
    Calls Try.prog 82 #[] w fun e w' => e = .returned (.slice (some ⟨w.heap.size, 0, none⟩) 22 22) ∧ w' = w.alloc (.cells symVals 9) := by
  go_enter Try.func82, Try.ntmps82
  go_wp2
  go_ret
  exact ⟨rfl, rfl⟩

set_option maxHeartbeats 1000000 in
theorem symbol_any (s : ByteArray) (W : World) (b1 b2 : Nat) (h1 : W.cell? ⟨b1, 0, none⟩ = some (.slice (some ⟨b2, 0, none⟩) 22 22)) (h2 : ∀ k, k < 22 → W.cell? ⟨b2, k, none⟩ = some (.string ⟨(syms.getD k []).toArray⟩)) :
    Calls Try.prog 104 #[.string s, .pointer (some ⟨b1, 0, none⟩)] W (Hit (symKind s.data.toList) (symText s.data.toList) (symErr s.data.toList) W) := by
  have HK := Lib.hid (symText_at s.data.toList)
  have HN := Lib.hid (symText_none s.data.toList)
  have H2 := Lib.hid h2
  clear h2
  generalize symKind s.data.toList = rk at *
  generalize symText s.data.toList = rt at *
  generalize symErr s.data.toList = re at *
  go_enter Try.func104, Try.ntmps104
  go_wp2
  go_loop [10] (fun j => ∃ k : Nat, k ≤ 22 ∧ j = .int .i64 k ∧ Hid (∀ i, i < k → Lib.hasPrefix s.data.toList (syms.getD i []) = false)) (fun j => 22 - (intOf j).toNat)
  case atStart => exact ⟨0, by omega, rfl, fun i hi => absurd hi (Nat.not_lt_zero i)⟩
  case round =>
    obtain ⟨k, hk, rfl, HA⟩ := hrel
    by_cases hlt : k < 22
    · have hcell := H2.out k hlt
      by_cases hp : Lib.hasPrefix s.data.toList (syms.getD k []) = true
      · have HC : Hid (∀ w, Calls Try.prog 105 #[.string s, .string ⟨(syms.getD k []).toArray⟩] w fun e w' => e = .returned (.bool true) ∧ w' = w) := Lib.hid (fun w => by
          have h := Try.strings_HasPrefix s ⟨(syms.getD k []).toArray⟩ w
          rw [List.toList_toArray, hp] at h
          exact h)
        have HF := Lib.hid (HK.out k hlt HA.out hp)
        clear hp
        generalize hg : syms.getD k [] = t at *
        clear hg
        go_wp2_with (go_at_call 105; refine (HC.out _).mono ?_; rintro e w' ⟨rfl, rfl⟩)
        go_ret3
        exact ⟨by rw [HF.out.1, HF.out.2.1, HF.out.2.2] <;> rfl, 0, rfl⟩
      · have HC : Hid (∀ w, Calls Try.prog 105 #[.string s, .string ⟨(syms.getD k []).toArray⟩] w fun e w' => e = .returned (.bool false) ∧ w' = w) := Lib.hid (fun w => by
          have h := Try.strings_HasPrefix s ⟨(syms.getD k []).toArray⟩ w
          rw [List.toList_toArray, show Lib.hasPrefix s.data.toList (syms.getD k []) = false by simpa using hp] at h
          exact h)
        have HT : Hid (∀ i, i < k + 1 → Lib.hasPrefix s.data.toList (syms.getD i []) = false) := Lib.hid (fun i hi => by
          by_cases e : i = k
          · subst e; simpa using hp
          · exact HA.out i (by omega))
        clear hp
        generalize hg : syms.getD k [] = t at *
        clear hg
        go_wp2_with (go_at_call 105; refine (HC.out _).mono ?_; rintro e w' ⟨rfl, rfl⟩)
        go_round
        case rel => exact ⟨k + 1, by omega, by go_num, HT⟩
        case measure => simp [intOf]; omega
    · have hke : k = 22 := by omega
      have HF := Lib.hid (HN.out (fun i hi => HA.out i (by omega)))
      clear hke
      go_wp2
      go_ret3
      exact ⟨by rw [HF.out.1, HF.out.2.1, HF.out.2.2] <;> rfl, 0, rfl⟩

/-- What a value of takeToken stands on: the blocks from n on. -/
structure TakerAt (W : World) (n : Nat) : Prop where
  k1 : W.cell? ⟨n, 0, none⟩ = some (.int .i64 1)
  b1 : W.cell? ⟨n + 1, 0, none⟩ = some (.func (.func 77) #[] #[])
  c1 : W.cell? ⟨n + 2, 0, none⟩ = some (.func (.func 78) #[] #[])
  k2 : W.cell? ⟨n + 3, 0, none⟩ = some (.int .i64 2)
  b2 : W.cell? ⟨n + 4, 0, none⟩ = some (.func (.func 79) #[] #[])
  c2 : W.cell? ⟨n + 5, 0, none⟩ = some (.func (.func 80) #[] #[])
  sy : ∀ k, k < 22 → W.cell? ⟨n + 6, k, none⟩ = some (.string ⟨(syms.getD k []).toArray⟩)
  sl : W.cell? ⟨n + 7, 0, none⟩ = some (.slice (some ⟨n + 6, 0, none⟩) 22 22)
  t0 : W.cell? ⟨n + 8, 0, none⟩ = some (.func (.func 103) #[] #[.pointer (some ⟨n + 1, 0, none⟩), .pointer (some ⟨n, 0, none⟩), .pointer (some ⟨n + 2, 0, none⟩)])
  t1 : W.cell? ⟨n + 8, 1, none⟩ = some (.func (.func 103) #[] #[.pointer (some ⟨n + 4, 0, none⟩), .pointer (some ⟨n + 3, 0, none⟩), .pointer (some ⟨n + 5, 0, none⟩)])
  t2 : W.cell? ⟨n + 8, 2, none⟩ = some (.func (.func 104) #[] #[.pointer (some ⟨n + 7, 0, none⟩)])
  ts : W.cell? ⟨n + 9, 0, none⟩ = some (.slice (some ⟨n + 8, 0, none⟩) 3 3)

theorem TakerAt.later {W W' : World} {n : Nat} (h : TakerAt W n) {B : Nat} (hB : n + 10 ≤ B) (hb : Below B W W') : TakerAt W' n where
  k1 := (hb.cell (p := ⟨n, 0, none⟩) (by show n < B; omega)).trans h.k1
  b1 := (hb.cell (p := ⟨n + 1, 0, none⟩) (by show n + 1 < B; omega)).trans h.b1
  c1 := (hb.cell (p := ⟨n + 2, 0, none⟩) (by show n + 2 < B; omega)).trans h.c1
  k2 := (hb.cell (p := ⟨n + 3, 0, none⟩) (by show n + 3 < B; omega)).trans h.k2
  b2 := (hb.cell (p := ⟨n + 4, 0, none⟩) (by show n + 4 < B; omega)).trans h.b2
  c2 := (hb.cell (p := ⟨n + 5, 0, none⟩) (by show n + 5 < B; omega)).trans h.c2
  sy := fun k hk => (hb.cell (p := ⟨n + 6, k, none⟩) (by show n + 6 < B; omega)).trans (h.sy k hk)
  sl := (hb.cell (p := ⟨n + 7, 0, none⟩) (by show n + 7 < B; omega)).trans h.sl
  t0 := (hb.cell (p := ⟨n + 8, 0, none⟩) (by show n + 8 < B; omega)).trans h.t0
  t1 := (hb.cell (p := ⟨n + 8, 1, none⟩) (by show n + 8 < B; omega)).trans h.t1
  t2 := (hb.cell (p := ⟨n + 8, 2, none⟩) (by show n + 8 < B; omega)).trans h.t2
  ts := (hb.cell (p := ⟨n + 9, 0, none⟩) (by show n + 9 < B; omega)).trans h.ts

def takerW (w : World) : World := (((((((((w.alloc (.cells #[.int .i64 1] 3)).alloc (.cells #[.func (.func 77) #[] #[]] 100)).alloc (.cells #[.func (.func 78) #[] #[]] 101)).alloc (.cells #[.int .i64 2] 3)).alloc (.cells #[.func (.func 79) #[] #[]] 100)).alloc (.cells #[.func (.func 80) #[] #[]] 101)).alloc (.cells symVals 9)).alloc (.cells #[.slice (some ⟨w.heap.size + 6, 0, none⟩) 22 22] 96)).alloc (.cells #[.func (.func 103) #[] #[.pointer (some ⟨w.heap.size + 1, 0, none⟩), .pointer (some ⟨w.heap.size, 0, none⟩), .pointer (some ⟨w.heap.size + 2, 0, none⟩)], .func (.func 103) #[] #[.pointer (some ⟨w.heap.size + 4, 0, none⟩), .pointer (some ⟨w.heap.size + 3, 0, none⟩), .pointer (some ⟨w.heap.size + 5, 0, none⟩)], .func (.func 104) #[] #[.pointer (some ⟨w.heap.size + 7, 0, none⟩)]] 77)).alloc (.cells #[.slice (some ⟨w.heap.size + 8, 0, none⟩) 3 3] 118)

theorem takerW_block (w : World) : (takerW w).heap = w.heap ++ #[.cells #[.int .i64 1] 3, .cells #[.func (.func 77) #[] #[]] 100, .cells #[.func (.func 78) #[] #[]] 101, .cells #[.int .i64 2] 3, .cells #[.func (.func 79) #[] #[]] 100, .cells #[.func (.func 80) #[] #[]] 101, .cells symVals 9, .cells #[.slice (some ⟨w.heap.size + 6, 0, none⟩) 22 22] 96, .cells #[.func (.func 103) #[] #[.pointer (some ⟨w.heap.size + 1, 0, none⟩), .pointer (some ⟨w.heap.size, 0, none⟩), .pointer (some ⟨w.heap.size + 2, 0, none⟩)], .func (.func 103) #[] #[.pointer (some ⟨w.heap.size + 4, 0, none⟩), .pointer (some ⟨w.heap.size + 3, 0, none⟩), .pointer (some ⟨w.heap.size + 5, 0, none⟩)], .func (.func 104) #[] #[.pointer (some ⟨w.heap.size + 7, 0, none⟩)]] 77, .cells #[.slice (some ⟨w.heap.size + 8, 0, none⟩) 3 3] 118] := by
  rfl

theorem takerW_size (w : World) : (takerW w).heap.size = w.heap.size + 10 := by rw [takerW_block, Array.size_append]; rfl

theorem takerW_below (w : World) : Below w.heap.size w (takerW w) := by
  unfold takerW
  exact (((((((((((Below.refl _ w).alloc (by simp) _).alloc (by simp <;> omega) _).alloc (by simp <;> omega) _).alloc (by simp <;> omega) _).alloc (by simp <;> omega) _).alloc (by simp <;> omega) _).alloc (by simp <;> omega) _).alloc (by simp <;> omega) _).alloc (by simp <;> omega) _).alloc (by simp <;> omega) _)

set_option maxHeartbeats 400000 in
theorem takeToken_world (w : World) :
    Calls Try.prog 52 #[] w fun e w' => e = .returned (.func (.func 102) #[] #[.pointer (some ⟨w.heap.size + 9, 0, none⟩)]) ∧ w' = takerW w := by
  go_enter Try.func52, Try.ntmps52
  go_wp2_with (first | (go_at_call 82; refine (symbols_any _).mono ?_; rintro e w' ⟨rfl, rfl⟩) | go_in)
  go_ret
  exact ⟨rfl, rfl⟩

theorem taker_cell (w : World) (i j : Nat) (v : Value) (B : Array Obj) (hB : (takerW w).heap = w.heap ++ B) (h : (match B[i]? with | some (.cells c _ _) => c[j]? | _ => none) = some v) : (takerW w).cell? ⟨w.heap.size + i, j, none⟩ = some v := by
  have e : (takerW w).heap[w.heap.size + i]? = B[i]? := by rw [hB, Array.getElem?_append_right (by omega), Nat.add_sub_cancel_left]
  unfold World.cell?
  simp only [e]
  revert h
  cases B[i]? with
  | none => exact id
  | some o => cases o <;> exact id

theorem sym_cell : ∀ k, k < 22 → symVals[k]? = some (.string ⟨(syms.getD k []).toArray⟩) := by
  intro k hk
  have h2 : k < syms.length := hk
  unfold symVals
  rw [List.getElem?_toArray, List.getElem?_map, List.getD_eq_getElem?_getD, List.getElem?_eq_getElem h2]
  rfl

theorem takerW_at (w : World) : TakerAt (takerW w) w.heap.size where
  k1 := taker_cell w 0 0 _ _ (takerW_block w) rfl
  b1 := taker_cell w 1 0 _ _ (takerW_block w) rfl
  c1 := taker_cell w 2 0 _ _ (takerW_block w) rfl
  k2 := taker_cell w 3 0 _ _ (takerW_block w) rfl
  b2 := taker_cell w 4 0 _ _ (takerW_block w) rfl
  c2 := taker_cell w 5 0 _ _ (takerW_block w) rfl
  sy := fun k hk => taker_cell w 6 k _ _ (takerW_block w) (sym_cell k hk)
  sl := taker_cell w 7 0 _ _ (takerW_block w) rfl
  t0 := taker_cell w 8 0 _ _ (takerW_block w) rfl
  t1 := taker_cell w 8 1 _ _ (takerW_block w) rfl
  t2 := taker_cell w 8 2 _ _ (takerW_block w) rfl
  ts := taker_cell w 9 0 _ _ (takerW_block w) rfl

theorem takeToken_any (w : World) :
    Calls Try.prog 52 #[] w fun e w' => e = .returned (.func (.func 102) #[] #[.pointer (some ⟨w.heap.size + 9, 0, none⟩)]) ∧ TakerAt w' w.heap.size ∧ Below w.heap.size w w' ∧ w.heap.size + 10 ≤ w'.heap.size :=
  (takeToken_world w).mono fun _ _ ⟨he, hw⟩ => ⟨he, hw ▸ takerW_at w, hw ▸ takerW_below w, hw ▸ Nat.le_of_eq (takerW_size w).symm⟩

end Go.Proofs.Ytbmejohoifpfhaa
