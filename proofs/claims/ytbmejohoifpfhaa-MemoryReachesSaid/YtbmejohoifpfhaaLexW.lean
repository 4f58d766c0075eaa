/-
  Rows of strings; contracts of sepalref01.Keywords, Symbols, has, Name and of lex.Name.
-/
import Derived.Test.YtbmejohoifpfhaaLexK
import Derived.Test.YtbmejohoifpfhaaLexU
import Derived.Test.YtbmejohoifpfhaaLexM5
namespace Go.Proofs.Ytbmejohoifpfhaa
open Go.RowKit

set_option maxHeartbeats 400000 in
theorem rkeywords_any (w : World) :
    Calls Try.prog 74 #[] w fun e w' => e = .returned (.slice (some ⟨w.heap.size, 0, none⟩) 24 24) ∧ w' = w.alloc (.cells (strVals kws) 9) := by
  go_enter Try.func74, Try.ntmps74
  go_wp2
  go_ret
  exact ⟨rfl, rfl⟩

theorem symbols_rowOf (w : World) : Calls Try.prog 82 #[] w (RowOf syms w) := (symbols_any w).mono fun _ _ ⟨he, hw⟩ => by subst he hw; exact rowOf_alloc syms w _
theorem rkeywords_rowOf (w : World) : Calls Try.prog 74 #[] w (RowOf kws w) := (rkeywords_any w).mono fun _ _ ⟨he, hw⟩ => by subst he hw; exact rowOf_alloc kws w _

/-- What lex.Name answers. -/
def nameL (l : List UInt8) : Bool := takeE l == 0 && takeK l == 1 && takeT l == l && !kws.contains l
/-- What sepalref01.Name answers. -/
def nameR (l : List UInt8) : Bool := wordB l && decide (l.length ≤ 20) && !kws.contains l

theorem takeK_one {l : List UInt8} (h : takeK l = 1) : headIs ltr l = true := by
  unfold takeK at h
  cases hl : headIs ltr l with
  | true => rfl
  | false =>
    rw [hl] at h
    simp only [Bool.false_eq_true, if_false] at h
    split at h
    · exact absurd h (by decide)
    · unfold symKind at h; split at h <;> exact absurd h (by decide)

theorem name_eq (l : List UInt8) : nameL l = nameR l := by
  unfold nameL nameR
  congr 1
  rw [Bool.eq_iff_iff]
  simp only [Bool.and_eq_true, beq_iff_eq, decide_eq_true_eq]
  unfold wordB
  rw [Bool.and_eq_true]
  constructor
  · rintro ⟨⟨hE, hK⟩, hT⟩
    have hl := takeK_one hK
    unfold takeT takeE at *
    rw [hl] at hT hE
    simp only [if_true] at hT hE
    refine ⟨⟨hl, ?_⟩, ?_⟩
    · rw [List.all_eq_true]
      intro c hc
      rw [← hT] at hc
      exact mem_run l c hc
    · rw [hT] at hE
      unfold checkLen at hE
      split at hE
      · assumption
      · exact absurd hE (by decide)
  · rintro ⟨⟨h1, h2⟩, h3⟩
    have := take_word h1 h2
    exact ⟨⟨this.2.2.trans (if_pos h3), this.1⟩, this.2.1⟩

set_option maxHeartbeats 1000000 in
theorem rname_any (l : List UInt8) (w : World) (hl : l.length ≤ maxLen) :
    Calls Try.prog 50 #[.string ⟨l.toArray⟩] w fun e w' => e = .returned (.bool (nameR l)) ∧ Below w.heap.size w w' := by
  have HW : Hid (∀ w, Calls Try.prog 72 #[.string ⟨l.toArray⟩] w fun e w' => e = .returned (.bool (wordB l)) ∧ w = w') := Lib.hid (fun w => rword_any ⟨l.toArray⟩ w hl)
  unfold nameR
  generalize wordB l = wb at *
  have HH : Hid (∀ n W, StrRow W n kws → Calls Try.prog 73 #[.slice (some ⟨n, 0, none⟩) 24 24, .string ⟨l.toArray⟩] W fun e w' => e = .returned (.bool (kws.contains l)) ∧ W = w') := Lib.hid (fun n W h => has_any n 24 kws l W (by decide) h)
  generalize kws.contains l = kb at *
  cases wb with
  | false =>
    go_enter Try.func50, Try.ntmps50
    go_wp2_with (go_at_call 72; refine (HW.out _).mono ?_; rintro e w2 ⟨rfl, rfl⟩)
    go_ret
    exact ⟨rfl, Below.refl _ _⟩
  | true =>
    by_cases h : l.length ≤ 20
    · have h2 : (l.length : Int) ≤ 20 := by omega
      have hd : Hid (decide (l.length ≤ 20) = true) := decide_eq_true h
      rw [hd.out]
      go_enter Try.func50, Try.ntmps50
      go_wp2_with (first
        | (go_at_call 72; refine (HW.out _).mono ?_; rintro e w2 ⟨rfl, rfl⟩)
        | (go_at_call 74; refine (rkeywords_rowOf _).mono ?_; rintro e w1 ⟨n, hn, rfl, hr, hb, hlt⟩; have HR := Lib.hid (And.intro hr hb); clear hn hr hb hlt)
        | (go_at_call 73; refine (HH.out _ _ HR.out.1).mono ?_; rintro e w2 ⟨rfl, rfl⟩))
      go_ret
      exact ⟨by cases kb <;> rfl, HR.out.2⟩
    · have h2 : ¬ (l.length : Int) ≤ 20 := by omega
      have hd : Hid (decide (l.length ≤ 20) = false) := decide_eq_false h
      rw [hd.out]
      go_enter Try.func50, Try.ntmps50
      go_wp2_with (first
        | (go_at_call 72; refine (HW.out _).mono ?_; rintro e w2 ⟨rfl, rfl⟩))
      go_ret
      exact ⟨rfl, Below.refl _ _⟩

set_option maxRecDepth 100000 in
set_option maxHeartbeats 2000000 in
theorem name_any (l : List UInt8) (w : World) (hl : l.length ≤ maxLen) :
    Calls Try.prog 36 #[.string ⟨l.toArray⟩] w fun e w' => e = .returned (.bool (nameL l)) ∧ Below w.heap.size w w' := by
  have HK : Hid (∀ W, Calls Try.prog 53 #[.string ⟨l.toArray⟩] W fun e w' => e = .returned (.bool (kws.contains l)) ∧ Below W.heap.size W w') := Lib.hid (fun W => keyword_any ⟨l.toArray⟩ W hl)
  have HF : Hid (∀ W n, TakerAt W n → Calls Try.prog 102 #[.string ⟨l.toArray⟩, .pointer (some ⟨n + 9, 0, none⟩)] W (Hit (takeK l) (takeT l) (takeE l) W)) := Lib.hid (fun W n h => first_any ⟨l.toArray⟩ W n h hl)
  unfold nameL
  generalize takeK l = tk at *
  generalize takeT l = tt at *
  generalize takeE l = te at *
  generalize kws.contains l = kb at *
  generalize hr : (te == 0 && tk == 1 && tt == l && !kb) = r
  have HQ := Lib.hid hr
  clear hr
  cases h1 : (te == 0) <;> cases h2 : (tk == 1) <;> cases h3 : (tt == l)
  all_goals
    have HE := Lib.hid (And.intro h1 (And.intro h2 h3))
    go_enter Try.func36, Try.ntmps36
    go_wp2_with (first
      | (go_at_call 52; refine (takeToken_any _).mono ?_; rintro e w1 ⟨rfl, hT, hb, hz⟩; have HT := Lib.hid (And.intro hT hb); clear hT hb hz)
      | (go_at_call 102; refine (HF.out _ _ HT.out.1).mono ?_; rintro e w2 ⟨rfl, nq, rfl⟩)
      | (go_at_call 53; refine (HK.out _).mono ?_; rintro e w3 ⟨rfl, hb3⟩; have HB3 := Lib.hid hb3; clear hb3))
    go_ret
    refine ⟨by rw [← HQ.out, HE.out.1, HE.out.2.1, HE.out.2.2] <;> rfl, ?_⟩
    first
      | exact below_drewN HT.out.2 _
      | exact (below_drewN HT.out.2 _).trans (HB3.out.mono (by have := HT.out.2.size; show _ ≤ w1.heap.size; omega))

end Go.Proofs.Ytbmejohoifpfhaa
