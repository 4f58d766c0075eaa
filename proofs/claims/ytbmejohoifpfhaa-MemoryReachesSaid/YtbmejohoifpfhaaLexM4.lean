/-
  Plain mathematics of package lex, part 4: the token at the beginning of a text, and the tokens of a text.
-/
import Derived.Test.YtbmejohoifpfhaaLexM3
namespace Go.Proofs.Ytbmejohoifpfhaa

def headIs (p : UInt8 → Bool) (l : List UInt8) : Bool := match l with | [] => false | c :: _ => p c
def takeK (l : List UInt8) : Int := if headIs ltr l then 1 else if headIs dgt l then 2 else symKind l
def takeT (l : List UInt8) : List UInt8 := if headIs ltr l then runL l else if headIs dgt l then runL l else symText l
def takeE (l : List UInt8) : Int := if headIs ltr l then checkLen (runL l) else if headIs dgt l then checkNum (runL l) else symErr l

/-- A token: its kind, its text, and its place. -/
structure Tok where
  k : Int
  t : List UInt8
  l : Int
  c : Int

/-- What Split returns: tokens, the place of an error, an error. -/
structure Res where
  toks : List Tok
  l : Int
  c : Int
  e : Int

/-- The place of the next token of t, if t begins at p. -/
def nextAt (p : Int × Int) (t : List UInt8) : Int × Int := afterL p (t.take (t.length - (skipL t).length))

def splitF : Nat → List Tok → List UInt8 → Int × Int → Res
  | 0, acc, _, _ => ⟨acc, 0, 0, 0⟩
  | f + 1, acc, t, p =>
    if skipL t = [] then ⟨acc, 0, 0, 0⟩
    else if takeE (skipL t) = 0 then splitF f (acc ++ [⟨takeK (skipL t), takeT (skipL t), (nextAt p t).1, (nextAt p t).2⟩]) ((skipL t).drop (takeT (skipL t)).length) (afterL (nextAt p t) (takeT (skipL t)))
    else ⟨[], (nextAt p t).1, (nextAt p t).2, takeE (skipL t)⟩

/-- What lex.Split returns. -/
def splitL (s : List UInt8) : Res := if 65536 < s.length then ⟨[], 0, 0, 5⟩ else splitF (s.length + 1) [] s (1, 1)

theorem skipM_suffix : ∀ (b : Bool) (l : List UInt8), skipM b l <:+ l
  | _, [] => by unfold skipM; exact List.suffix_refl _
  | true, c :: r => by
    show (if c = 10 then skipM false r else skipM true r) <:+ c :: r
    split
    · exact (skipM_suffix false r).trans (List.suffix_cons c r)
    · exact (skipM_suffix true r).trans (List.suffix_cons c r)
  | false, c :: r => by
    show (if wsList.contains c then skipM false r else if c = 35 then skipM true r else c :: r) <:+ c :: r
    split
    · exact (skipM_suffix false r).trans (List.suffix_cons c r)
    · split
      · exact (skipM_suffix true r).trans (List.suffix_cons c r)
      · exact List.suffix_refl _

theorem skip_length (l : List UInt8) : (skipL l).length ≤ l.length := (skipM_suffix false l).length_le

theorem run_length (l : List UInt8) : (runL l).length ≤ l.length := (List.takeWhile_prefix _).length_le

theorem symText_prefix (l : List UInt8) : symText l <+: l := by
  unfold symText
  cases h : symFind l with
  | none => exact List.nil_prefix
  | some x =>
    have := List.find?_some h
    exact List.isPrefixOf_iff_prefix.1 this

theorem takeT_prefix (l : List UInt8) : takeT l <+: l := by
  unfold takeT runL
  split
  · exact List.takeWhile_prefix _
  · split
    · exact List.takeWhile_prefix _
    · exact symText_prefix l

theorem run_pos {l : List UInt8} (h : headIs prt l = true) : 0 < (runL l).length := by
  cases l with
  | nil => cases h
  | cons c r =>
    have hc : prt c = true := h
    unfold runL
    rw [List.takeWhile_cons, hc]
    simp

theorem headIs_mono {p q : UInt8 → Bool} (hpq : ∀ c, p c = true → q c = true) {l : List UInt8} (h : headIs p l = true) : headIs q l = true := by
  cases l with
  | nil => cases h
  | cons c r => exact hpq c h

theorem syms_pos : ∀ x ∈ syms, 0 < x.length := by decide

theorem takeT_pos (l : List UInt8) (h : takeE l = 0) : 0 < (takeT l).length := by
  unfold takeE at h
  unfold takeT
  cases hl : headIs ltr l with
  | true => exact run_pos (headIs_mono (fun _ => prt_of_ltr) hl)
  | false =>
    rw [hl] at h
    cases hd : headIs dgt l with
    | true => exact run_pos (headIs_mono (fun _ => prt_of_dgt) hd)
    | false =>
      rw [hd] at h
      simp only [Bool.false_eq_true, if_false] at h ⊢
      unfold symErr at h
      unfold symText
      cases hf : symFind l with
      | none => rw [hf] at h; simp at h
      | some x => exact syms_pos x (List.mem_of_find?_eq_some hf)

end Go.Proofs.Ytbmejohoifpfhaa
