/-
  Plain mathematics of package lex, part 10: splitting byte by byte, as the reference does.
-/
import Derived.Test.YtjbbelmmnlohlaaDoorLexM7
namespace Go.Proofs.YtjbbelmmnlohlaaDoor

/-- Splitting from within a comment (true), or from without one. -/
def splitM (f : Bool) (acc : List Tok) (u : List UInt8) (p : Int × Int) : Res := splitN acc (skipM f u) (afterL p (u.take (u.length - (skipM f u).length)))

theorem skipM_idem10 : ∀ (f : Bool) (t : List UInt8), skipM false (skipM f t) = skipM f t
  | true, [] => rfl
  | false, [] => rfl
  | true, c :: r => by
    show skipM false (if c = 10 then skipM false r else skipM true r) = (if c = 10 then skipM false r else skipM true r)
    split
    · exact skipM_idem10 false r
    · exact skipM_idem10 true r
  | false, c :: r => by
    show skipM false (if wsList.contains c then skipM false r else if c = 35 then skipM true r else c :: r) = (if wsList.contains c then skipM false r else if c = 35 then skipM true r else c :: r)
    by_cases h : wsList.contains c = true
    · rw [if_pos h]; exact skipM_idem10 false r
    · rw [if_neg h]
      by_cases h2 : c = 35
      · rw [if_pos h2]; exact skipM_idem10 true r
      · rw [if_neg h2]
        show (if wsList.contains c then skipM false r else if c = 35 then skipM true r else c :: r) = c :: r
        rw [if_neg h, if_neg h2]

theorem nextAt_id (p : Int × Int) (t : List UInt8) (h : skipL t = t) : nextAt p t = p := by
  unfold nextAt
  rw [h, Nat.sub_self, List.take_zero]; rfl

theorem splitM_false (acc : List Tok) (u : List UInt8) (p : Int × Int) : splitM false acc u p = splitN acc u p := by
  unfold splitM
  refine splitN_congr _ _ _ _ _ (skipM_idem10 false u) ?_
  rw [nextAt_id _ _ (skipM_idem10 false u)]
  rfl

theorem splitM_cons (f g : Bool) (acc : List Tok) (c : UInt8) (r : List UInt8) (p : Int × Int) (h : skipM f (c :: r) = skipM g r) : splitM f acc (c :: r) p = splitM g acc r (posStep p c) := by
  unfold splitM
  have hl : (skipM g r).length ≤ r.length := (skipM_suffix g r).length_le
  rw [h, List.length_cons, show r.length + 1 - (skipM g r).length = (r.length - (skipM g r).length) + 1 by omega, List.take_succ_cons]
  rfl

theorem splitM_same (f g : Bool) (acc : List Tok) (u : List UInt8) (p : Int × Int) (h : skipM f u = skipM g u) : splitM f acc u p = splitM g acc u p := by
  unfold splitM; rw [h]

/-- A blank that is no newline. -/
theorem splitN_blank (acc : List Tok) (c : UInt8) (r : List UInt8) (p : Int × Int) (h : wsList.contains c = true) : splitN acc (c :: r) p = splitN acc r (posStep p c) := by
  rw [← splitM_false, ← splitM_false]
  refine splitM_cons false false acc c r p ?_
  show (if wsList.contains c then skipM false r else if c = 35 then skipM true r else c :: r) = skipM false r
  rw [if_pos h]

theorem splitN_hash (acc : List Tok) (r : List UInt8) (p : Int × Int) : splitN acc (35 :: r) p = splitM true acc (35 :: r) p := by
  rw [← splitM_false]; exact splitM_same _ _ _ _ _ rfl

theorem splitM_in (acc : List Tok) (c : UInt8) (r : List UInt8) (p : Int × Int) (h : c ≠ 10) : splitM true acc (c :: r) p = splitM true acc r (p.1, p.2 + 1) := by
  rw [splitM_cons true true acc c r p (show (if c = 10 then skipM false r else skipM true r) = skipM true r by rw [if_neg h])]
  unfold posStep
  rw [if_neg h]

theorem splitM_out (acc : List Tok) (u : List UInt8) (p : Int × Int) (h : u = [] ∨ ∃ r, u = 10 :: r) : splitM true acc u p = splitN acc u p := by
  rw [← splitM_false]
  refine splitM_same _ _ _ _ _ ?_
  rcases h with rfl | ⟨r, rfl⟩ <;> rfl

theorem skip_plain (c : UInt8) (r : List UInt8) (h1 : wsList.contains c = false) (h2 : c ≠ 35) : skipL (c :: r) = c :: r := by
  show (if wsList.contains c then skipM false r else if c = 35 then skipM true r else c :: r) = c :: r
  rw [h1, if_neg h2]; rfl

theorem splitN_take (acc : List Tok) (t : List UInt8) (p : Int × Int) (hs : skipL t = t) (hn : t ≠ []) (hE : takeE t = 0) :
    splitN acc t p = splitN (acc ++ [⟨takeK t, takeT t, p.1, p.2⟩]) (t.drop (takeT t).length) (p.1, p.2 + (takeT t).length) := by
  rw [splitN_tok acc t p (by rw [hs]; exact hn) (by rw [hs]; exact hE), hs, nextAt_id p t hs, after_plain p _ (takeT_nl t)]

theorem splitN_fail (acc : List Tok) (t : List UInt8) (p : Int × Int) (hs : skipL t = t) (hn : t ≠ []) (hE : takeE t ≠ 0) :
    splitN acc t p = ⟨[], p.1, p.2, takeE t⟩ := by
  rw [splitN_err acc t p (by rw [hs]; exact hn) (by rw [hs]; exact hE), hs, nextAt_id p t hs]

/-- The first symbol from the j-th one on that stands at the beginning of a text. -/
def symFrom (j : Nat) (l : List UInt8) : List UInt8 := ((syms.drop j).find? (fun x => x.isPrefixOf l)).getD []

theorem symFrom_end (l : List UInt8) : symFrom 22 l = [] := rfl
theorem symFrom_zero (l : List UInt8) : symFrom 0 l = symText l := rfl
theorem symFrom_hit (j : Nat) (l : List UInt8) (hj : j < 22) (h : (syms.getD j []).isPrefixOf l = true) : symFrom j l = syms.getD j [] := by
  have h2 : j < syms.length := hj
  unfold symFrom
  rw [List.getD_eq_getElem?_getD, List.getElem?_eq_getElem h2] at h ⊢
  simp only [Option.getD_some] at h ⊢
  rw [List.drop_eq_getElem_cons h2, List.find?_cons, h]; rfl
theorem symFrom_miss (j : Nat) (l : List UInt8) (hj : j < 22) (h : (syms.getD j []).isPrefixOf l = false) : symFrom j l = symFrom (j + 1) l := by
  have h2 : j < syms.length := hj
  unfold symFrom
  rw [List.getD_eq_getElem?_getD, List.getElem?_eq_getElem h2] at h
  simp only [Option.getD_some] at h
  rw [List.drop_eq_getElem_cons h2, List.find?_cons, h]

theorem symText_err (l : List UInt8) : symErr l = if symText l = [] then 3 else 0 := by
  unfold symErr symText
  cases h : symFind l with
  | none => rfl
  | some x =>
    have := syms_pos x (List.mem_of_find?_eq_some h)
    have hx : x ≠ [] := by rintro rfl; simp at this
    simp [hx]

theorem symText_kind (l : List UInt8) (h : symText l ≠ []) : symKind l = 3 := by
  unfold symKind
  cases h2 : symFind l with
  | none => unfold symText at h; rw [h2] at h; exact absurd rfl h
  | some x => rfl

end Go.Proofs.YtjbbelmmnlohlaaDoor
