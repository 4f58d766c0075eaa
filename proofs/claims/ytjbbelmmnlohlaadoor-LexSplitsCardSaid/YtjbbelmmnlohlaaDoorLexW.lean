/-
  Rows of strings; contracts of sepalref01.Keywords, Symbols, has, Name and of lex.Name.
-/
import Derived.Test.YtjbbelmmnlohlaaDoorLexK
import Derived.Test.YtjbbelmmnlohlaaDoorLexM5
namespace Go.Proofs.YtjbbelmmnlohlaaDoor
open Go.RowKit

def strVals (l : List (List UInt8)) : Array Value := (l.map fun x => Value.string ⟨x.toArray⟩).toArray

/-- The cells of block n from 0 on hold these strings. -/
def StrRow (W : World) (n : Nat) (l : List (List UInt8)) : Prop := ∀ k, k < l.length → W.cell? ⟨n, k, none⟩ = some (.string ⟨(l.getD k []).toArray⟩)

theorem strRow_alloc (w : World) (l : List (List UInt8)) (t : TypeId) : StrRow (w.alloc (.cells (strVals l) t)) w.heap.size l := by
  intro k hk
  have hb := heap_of_alloc w (.cells (strVals l) t)
  have e1 : (w.alloc (.cells (strVals l) t)).cell? ⟨w.heap.size, k, none⟩ = (strVals l)[k]? := by
    unfold World.cell?
    simp only [hb]
    simp
  rw [e1]
  unfold strVals
  rw [List.getElem?_toArray, List.getElem?_map, List.getD_eq_getElem?_getD, List.getElem?_eq_getElem hk]
  rfl

theorem StrRow.later {W W' : World} {n B : Nat} {l : List (List UInt8)} (h : StrRow W n l) (hn : n < B) (hb : Below B W W') : StrRow W' n l :=
  fun k hk => (hb.cell (p := ⟨n, k, none⟩) hn).trans (h k hk)

theorem symVals_eq : symVals = strVals syms := rfl

set_option maxHeartbeats 400000 in
theorem rsymbols_any (w : World) :
    Calls Tryd.prog 29 #[] w fun e w' => e = .returned (.slice (some ⟨w.heap.size, 0, none⟩) 22 22) ∧ w' = w.alloc (.cells (strVals syms) 9) := by
  go_enter Tryd.func29, Tryd.ntmps29
  go_wp2
  go_ret
  exact ⟨rfl, rfl⟩

set_option maxHeartbeats 400000 in
theorem rkeywords_any (w : World) :
    Calls Tryd.prog 24 #[] w fun e w' => e = .returned (.slice (some ⟨w.heap.size, 0, none⟩) 24 24) ∧ w' = w.alloc (.cells (strVals kws) 9) := by
  go_enter Tryd.func24, Tryd.ntmps24
  go_wp2
  go_ret
  exact ⟨rfl, rfl⟩

/-- A row of strings behind a call that makes it. -/
def RowOf (l : List (List UInt8)) (w : World) (e : Ending) (w' : World) : Prop := ∃ n, n = w.heap.size ∧ e = .returned (.slice (some ⟨n, 0, none⟩) l.length l.length) ∧ StrRow w' n l ∧ Below w.heap.size w w' ∧ n < w'.heap.size

theorem rowOf_alloc (l : List (List UInt8)) (w : World) (t : TypeId) : RowOf l w (.returned (.slice (some ⟨w.heap.size, 0, none⟩) l.length l.length)) (w.alloc (.cells (strVals l) t)) :=
  ⟨w.heap.size, rfl, rfl, strRow_alloc w l t, below_alloc _ _, by rw [size_of_alloc]; omega⟩

theorem symbols_rowOf (w : World) : Calls Tryd.prog 28 #[] w (RowOf syms w) := (symbols_any w).mono fun _ _ ⟨he, hw⟩ => by subst he hw; exact rowOf_alloc syms w _
theorem rsymbols_rowOf (w : World) : Calls Tryd.prog 29 #[] w (RowOf syms w) := (rsymbols_any w).mono fun _ _ ⟨he, hw⟩ => by subst he hw; exact rowOf_alloc syms w _
theorem rkeywords_rowOf (w : World) : Calls Tryd.prog 24 #[] w (RowOf kws w) := (rkeywords_any w).mono fun _ _ ⟨he, hw⟩ => by subst he hw; exact rowOf_alloc kws w _

theorem str_eq_iff (x y : List UInt8) : ((⟨x.toArray⟩ : ByteArray) = ⟨y.toArray⟩) ↔ x = y := by
  constructor
  · intro h
    have := congrArg (fun b => b.data.toList) h
    simpa using this
  · rintro rfl; rfl

theorem not_contains_take {l : List (List UInt8)} {s : List UInt8} {k : Nat} (h : k < l.length) (h1 : (l.take k).contains s = false) (h2 : l.getD k [] ≠ s) : (l.take (k + 1)).contains s = false := by
  rw [List.take_succ_eq_append_getElem h, List.contains_eq_any_beq, List.any_append, ← List.contains_eq_any_beq, h1]
  rw [List.getD_eq_getElem?_getD, List.getElem?_eq_getElem h] at h2
  simp only [Option.getD_some] at h2
  simp only [List.any_cons, List.any_nil, Bool.or_false, Bool.false_or]
  rw [beq_eq_false_iff_ne]
  exact fun e => h2 e.symm

theorem contains_at {l : List (List UInt8)} {s : List UInt8} {k : Nat} (h : k < l.length) (h2 : l.getD k [] = s) : l.contains s = true := by
  rw [List.contains_iff_mem, ← h2, List.getD_eq_getElem?_getD, List.getElem?_eq_getElem h]
  exact List.getElem_mem h

set_option maxHeartbeats 1000000 in
theorem has_any (n c : Nat) (l : List (List UInt8)) (s : List UInt8) (w : World) (hl : l.length ≤ 1000) (hr : StrRow w n l) :
    Calls Tryd.prog 51 #[.slice (some ⟨n, 0, none⟩) l.length c, .string ⟨s.toArray⟩] w fun e w' => e = .returned (.bool (l.contains s)) ∧ w = w' := by
  have HR := Lib.hid hr
  clear hr
  generalize hq : l.contains s = q
  have HQ := Lib.hid hq
  clear hq
  go_enter Tryd.func51, Tryd.ntmps51
  go_wp2
  go_loop [5] (fun j => ∃ k : Nat, k ≤ l.length ∧ j = .int .i64 k ∧ Hid ((l.take k).contains s = false)) (fun j => l.length - (intOf j).toNat)
  case atStart => exact ⟨0, Nat.zero_le _, rfl, rfl⟩
  case round =>
    obtain ⟨k, hk, rfl, HA⟩ := hrel
    by_cases hlt : k < l.length
    · have hcell := HR.out k hlt
      by_cases he : l.getD k [] = s
      · have HF : Hid (q = true) := Lib.hid (HQ.out ▸ contains_at hlt he)
        rw [he] at hcell
        clear he
        go_wp2
        go_ret
        exact ⟨by rw [HF.out] <;> rfl, rfl⟩
      · have HT := Lib.hid (not_contains_take hlt HA.out he)
        generalize l.getD k [] = t at *
        have hne : (t == s) = false := beq_eq_false_iff_ne.2 he
        clear he
        go_wp2
        go_round
        case rel => exact ⟨k + 1, by omega, by go_num, HT⟩
        case measure => simp [intOf]; omega
    · have hke : k = l.length := by omega
      have HF : Hid (q = false) := Lib.hid (by rw [← HQ.out, ← HA.out, List.take_of_length_le (by omega)])
      clear hke
      go_wp2
      go_ret
      exact ⟨by rw [HF.out] <;> rfl, rfl⟩

/-- What lex.Name answers. -/
def nameL (l : List UInt8) : Bool := takeE l == 0 && takeK l == 1 && takeT l == l && !kws.contains l
/-- What sepalref01.Name answers. -/
def nameR (l : List UInt8) : Bool := wordB l && decide (l.length ≤ 20) && !kws.contains l

theorem takeK_one {l : List UInt8} (h : takeK l = 1) : headIs ltr l = true := by
  unfold takeK at h
  cases hl : headIs ltr l with
  | true => rfl
  | false =>
    rw [hl] at h
    simp only [Bool.false_eq_true, if_false] at h
    split at h
    · exact absurd h (by decide)
    · unfold symKind at h; split at h <;> exact absurd h (by decide)

theorem name_eq (l : List UInt8) : nameL l = nameR l := by
  unfold nameL nameR
  congr 1
  rw [Bool.eq_iff_iff]
  simp only [Bool.and_eq_true, beq_iff_eq, decide_eq_true_eq]
  unfold wordB
  rw [Bool.and_eq_true]
  constructor
  · rintro ⟨⟨hE, hK⟩, hT⟩
    have hl := takeK_one hK
    unfold takeT takeE at *
    rw [hl] at hT hE
    simp only [if_true] at hT hE
    refine ⟨⟨hl, ?_⟩, ?_⟩
    · rw [List.all_eq_true]
      intro c hc
      rw [← hT] at hc
      exact mem_run l c hc
    · rw [hT] at hE
      unfold checkLen at hE
      split at hE
      · assumption
      · exact absurd hE (by decide)
  · rintro ⟨⟨h1, h2⟩, h3⟩
    have := take_word h1 h2
    exact ⟨⟨this.2.2.trans (if_pos h3), this.1⟩, this.2.1⟩

set_option maxHeartbeats 1000000 in
theorem rname_any (l : List UInt8) (w : World) (hl : l.length ≤ 1000) :
    Calls Tryd.prog 26 #[.string ⟨l.toArray⟩] w fun e w' => e = .returned (.bool (nameR l)) ∧ Below w.heap.size w w' := by
  have HW : Hid (∀ w, Calls Tryd.prog 35 #[.string ⟨l.toArray⟩] w fun e w' => e = .returned (.bool (wordB l)) ∧ w = w') := Lib.hid (fun w => rword_any ⟨l.toArray⟩ w (by show l.length ≤ maxLen; unfold maxLen; omega))
  unfold nameR
  generalize wordB l = wb at *
  have HH : Hid (∀ n W, StrRow W n kws → Calls Tryd.prog 51 #[.slice (some ⟨n, 0, none⟩) 24 24, .string ⟨l.toArray⟩] W fun e w' => e = .returned (.bool (kws.contains l)) ∧ W = w') := Lib.hid (fun n W h => has_any n 24 kws l W (by decide) h)
  generalize kws.contains l = kb at *
  cases wb with
  | false =>
    go_enter Tryd.func26, Tryd.ntmps26
    go_wp2_with (go_at_call 35; refine (HW.out _).mono ?_; rintro e w2 ⟨rfl, rfl⟩)
    go_ret
    exact ⟨rfl, Below.refl _ _⟩
  | true =>
    by_cases h : l.length ≤ 20
    · have h2 : (l.length : Int) ≤ 20 := by omega
      have hd : Hid (decide (l.length ≤ 20) = true) := decide_eq_true h
      rw [hd.out]
      go_enter Tryd.func26, Tryd.ntmps26
      go_wp2_with (first
        | (go_at_call 35; refine (HW.out _).mono ?_; rintro e w2 ⟨rfl, rfl⟩)
        | (go_at_call 24; refine (rkeywords_rowOf _).mono ?_; rintro e w1 ⟨n, hn, rfl, hr, hb, hlt⟩; have HR := Lib.hid (And.intro hr hb); clear hn hr hb hlt)
        | (go_at_call 51; refine (HH.out _ _ HR.out.1).mono ?_; rintro e w2 ⟨rfl, rfl⟩))
      go_ret
      exact ⟨by cases kb <;> rfl, HR.out.2⟩
    · have h2 : ¬ (l.length : Int) ≤ 20 := by omega
      have hd : Hid (decide (l.length ≤ 20) = false) := decide_eq_false h
      rw [hd.out]
      go_enter Tryd.func26, Tryd.ntmps26
      go_wp2_with (first
        | (go_at_call 35; refine (HW.out _).mono ?_; rintro e w2 ⟨rfl, rfl⟩))
      go_ret
      exact ⟨rfl, Below.refl _ _⟩

set_option maxRecDepth 100000 in
set_option maxHeartbeats 2000000 in
theorem name_any (l : List UInt8) (w : World) (hl : l.length ≤ 1000) :
    Calls Tryd.prog 25 #[.string ⟨l.toArray⟩] w fun e w' => e = .returned (.bool (nameL l)) ∧ Below w.heap.size w w' := by
  have HK : Hid (∀ W, Calls Tryd.prog 22 #[.string ⟨l.toArray⟩] W fun e w' => e = .returned (.bool (kws.contains l)) ∧ Below W.heap.size W w') := Lib.hid (fun W => keyword_any ⟨l.toArray⟩ W (by show l.length ≤ maxLen; unfold maxLen; omega))
  have HF : Hid (∀ W n, TakerAt W n → Calls Tryd.prog 78 #[.string ⟨l.toArray⟩, .pointer (some ⟨n + 9, 0, none⟩)] W (Hit (takeK l) (takeT l) (takeE l) W)) := Lib.hid (fun W n h => first_any ⟨l.toArray⟩ W n h (by show l.length ≤ maxLen; unfold maxLen; omega))
  unfold nameL
  generalize takeK l = tk at *
  generalize takeT l = tt at *
  generalize takeE l = te at *
  generalize kws.contains l = kb at *
  generalize hr : (te == 0 && tk == 1 && tt == l && !kb) = r
  have HQ := Lib.hid hr
  clear hr
  cases h1 : (te == 0) <;> cases h2 : (tk == 1) <;> cases h3 : (tt == l)
  all_goals
    have HE := Lib.hid (And.intro h1 (And.intro h2 h3))
    go_enter Tryd.func25, Tryd.ntmps25
    go_wp2_with (first
      | (go_at_call 40; refine (takeToken_any _).mono ?_; rintro e w1 ⟨rfl, hT, hb, hz⟩; have HT := Lib.hid (And.intro hT hb); clear hT hb hz)
      | (go_at_call 78; refine (HF.out _ _ HT.out.1).mono ?_; rintro e w2 ⟨rfl, nq, rfl⟩)
      | (go_at_call 22; refine (HK.out _).mono ?_; rintro e w3 ⟨rfl, hb3⟩; have HB3 := Lib.hid hb3; clear hb3))
    go_ret
    refine ⟨by rw [← HQ.out, HE.out.1, HE.out.2.1, HE.out.2.2] <;> rfl, ?_⟩
    first
      | exact below_drewN HT.out.2 _
      | exact (below_drewN HT.out.2 _).trans (HB3.out.mono (by have := HT.out.2.size; show _ ≤ w1.heap.size; omega))

end Go.Proofs.YtjbbelmmnlohlaaDoor
