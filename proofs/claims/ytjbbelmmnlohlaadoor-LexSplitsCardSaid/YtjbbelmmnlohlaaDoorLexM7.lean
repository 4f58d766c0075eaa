/-
  Plain mathematics of package lex, part 7: the tokens of two lines.
-/
import Derived.Test.YtjbbelmmnlohlaaDoorLexM5
namespace Go.Proofs.YtjbbelmmnlohlaaDoor

theorem skipM_nl : ∀ (f : Bool) (t b : List UInt8), skipM f (t ++ 10 :: b) = if skipM f t = [] then skipM false b else skipM f t ++ 10 :: b
  | true, [], b => rfl
  | false, [], b => rfl
  | true, c :: r, b => by
    show (if c = 10 then skipM false (r ++ 10 :: b) else skipM true (r ++ 10 :: b)) = if (if c = 10 then skipM false r else skipM true r) = [] then skipM false b else (if c = 10 then skipM false r else skipM true r) ++ 10 :: b
    by_cases h : c = 10
    · rw [if_pos h, if_pos h, skipM_nl false r b]
    · rw [if_neg h, if_neg h, skipM_nl true r b]
  | false, c :: r, b => by
    show (if wsList.contains c then skipM false (r ++ 10 :: b) else if c = 35 then skipM true (r ++ 10 :: b) else c :: (r ++ 10 :: b)) =
      if (if wsList.contains c then skipM false r else if c = 35 then skipM true r else c :: r) = [] then skipM false b else (if wsList.contains c then skipM false r else if c = 35 then skipM true r else c :: r) ++ 10 :: b
    by_cases h : wsList.contains c = true
    · rw [if_pos h, if_pos h, skipM_nl false r b]
    · rw [if_neg h, if_neg h]
      by_cases h2 : c = 35
      · rw [if_pos h2, if_pos h2, skipM_nl true r b]
      · rw [if_neg h2, if_neg h2, if_neg (by simp)]; rfl

theorem skip_nl (t b : List UInt8) : skipL (t ++ 10 :: b) = if skipL t = [] then skipL b else skipL t ++ 10 :: b := skipM_nl false t b

/-- Splitting sees what is left behind blanks and comments, and the place there. -/
theorem splitN_congr (acc : List Tok) (u v : List UInt8) (p q : Int × Int) (h : skipL u = skipL v) (hp : nextAt p u = nextAt q v) : splitN acc u p = splitN acc v q := by
  by_cases h1 : skipL v = []
  · rw [splitN_end _ _ _ h1, splitN_end _ _ _ (h.trans h1)]
  · by_cases h2 : takeE (skipL v) = 0
    · rw [splitN_tok _ _ _ h1 h2, splitN_tok _ _ _ (by rw [h]; exact h1) (by rw [h]; exact h2), h, hp]
    · rw [splitN_err _ _ _ h1 h2, splitN_err _ _ _ (by rw [h]; exact h1) (by rw [h]; exact h2), h, hp]

/-- A text is what is skipped, and what is left. -/
theorem skip_parts (t : List UInt8) : ∃ g, t = g ++ skipL t ∧ g = t.take (t.length - (skipL t).length) := by
  obtain ⟨g, hg⟩ := skipM_suffix false t
  refine ⟨g, hg.symm, ?_⟩
  have hl : t.length = g.length + (skipL t).length := by
    have := congrArg List.length hg
    rw [List.length_append] at this
    exact this.symm
  rw [hl, Nat.add_sub_cancel]
  have : t.take g.length = (g ++ skipM false t).take g.length := by rw [hg]
  rw [this, List.take_left' rfl]

theorem nextAt_nl_end (t b : List UInt8) (p : Int × Int) (h : skipL t = []) : nextAt p (t ++ 10 :: b) = nextAt (afterL p (t ++ [10])) b := by
  have hs : skipL (t ++ 10 :: b) = skipL b := by rw [skip_nl, if_pos h]
  unfold nextAt
  rw [hs, ← afterL_append]
  congr 1
  have hb := skip_length b
  have e : (t ++ 10 :: b).length - (skipL b).length = (t ++ [10]).length + (b.length - (skipL b).length) := by
    simp only [List.length_append, List.length_cons, List.length_nil]; omega
  rw [e, show t ++ 10 :: b = (t ++ [10]) ++ b by simp, List.take_length_add_append]

theorem nextAt_nl (t b : List UInt8) (p : Int × Int) (h : skipL t ≠ []) : nextAt p (t ++ 10 :: b) = nextAt p t := by
  have hs : skipL (t ++ 10 :: b) = skipL t ++ 10 :: b := by rw [skip_nl, if_neg h]
  unfold nextAt
  rw [hs]
  congr 1
  have hb := skip_length t
  have e : (t ++ 10 :: b).length - (skipL t ++ 10 :: b).length = t.length - (skipL t).length := by
    simp only [List.length_append, List.length_cons]; omega
  rw [e, List.take_append_of_le_length (by omega)]

def ResOk (r : Res) : Prop := r.e = 0

/-- A newline and a text behind a text: what was found before stays found; an error stays the error. -/
theorem splitN_nl (acc : List Tok) (t b : List UInt8) (p : Int × Int) : splitN acc (t ++ 10 :: b) p = if (splitN acc t p).e = 0 then splitN (splitN acc t p).toks b (afterL p (t ++ [10])) else splitN acc t p := by
  have key : ∀ (n : Nat) (acc : List Tok) (t : List UInt8) (p : Int × Int), t.length ≤ n → splitN acc (t ++ 10 :: b) p = if (splitN acc t p).e = 0 then splitN (splitN acc t p).toks b (afterL p (t ++ [10])) else splitN acc t p := by
    intro n
    induction n with
    | zero =>
      intro acc t p hn
      have ht : t = [] := List.eq_nil_of_length_eq_zero (by omega)
      subst ht
      rw [splitN_end acc [] p rfl]
      simp only [if_true]
      exact splitN_congr _ _ _ _ _ (by rw [skip_nl]; rfl) (nextAt_nl_end [] b p rfl)
    | succ n ih =>
      intro acc t p hn
      by_cases h : skipL t = []
      · rw [splitN_end acc t p h]
        simp only [if_true]
        exact splitN_congr _ _ _ _ _ (by rw [skip_nl, if_pos h]) (nextAt_nl_end t b p h)
      · have hs : skipL (t ++ 10 :: b) = skipL t ++ 10 :: b := by rw [skip_nl, if_neg h]
        have hne : skipL (t ++ 10 :: b) ≠ [] := by rw [hs]; simp
        have tk := take_sep (skipL t) 10 b h (by decide)
        by_cases hE : takeE (skipL t) = 0
        · have hpos := takeT_pos _ hE
          have hle := (takeT_prefix (skipL t)).length_le
          have hsl := skip_length t
          rw [splitN_tok acc t p h hE, splitN_tok acc (t ++ 10 :: b) p hne (by rw [hs, tk.2.2]; exact hE), hs, tk.1, tk.2.1, nextAt_nl t b p h]
          rw [List.drop_append_of_le_length hle]
          rw [ih _ _ _ (by rw [List.length_drop]; omega)]
          have e : afterL (afterL (nextAt p t) (takeT (skipL t))) (List.drop (takeT (skipL t)).length (skipL t) ++ [10]) = afterL p (t ++ [10]) := by
            obtain ⟨g, hg, hg2⟩ := skip_parts t
            obtain ⟨r, hr⟩ := takeT_prefix (skipL t)
            have hd : List.drop (takeT (skipL t)).length (skipL t) = r := by
              have : List.drop (takeT (skipL t)).length (takeT (skipL t) ++ r) = r := List.drop_left' rfl
              rw [hr] at this
              exact this
            rw [hd]
            have hn : nextAt p t = afterL p g := by rw [hg2]; rfl
            rw [hn, ← afterL_append, ← afterL_append]
            congr 1
            rw [← List.append_assoc, ← List.append_assoc, List.append_assoc g, hr, ← hg]
          rw [e]
        · rw [splitN_err acc t p h hE, splitN_err acc (t ++ 10 :: b) p hne (by rw [hs, tk.2.2]; exact hE), hs, tk.2.2, nextAt_nl t b p h]
          simp only
          rw [if_neg hE]
  exact key t.length acc t p (Nat.le_refl _)

def shiftT (d : Int) (x : Tok) : Tok := ⟨x.k, x.t, x.l + d, x.c⟩
def shiftP (d : Int) (p : Int × Int) : Int × Int := (p.1 + d, p.2)

theorem after_shift (d : Int) (p : Int × Int) (t : List UInt8) : afterL (shiftP d p) t = shiftP d (afterL p t) := by
  induction t generalizing p with
  | nil => rfl
  | cons c r ih =>
    have e : ∀ q, afterL q (c :: r) = afterL (posStep q c) r := fun _ => rfl
    rw [e, e, ← ih]
    congr 1
    unfold posStep shiftP
    split
    · simp only; congr 1; omega
    · rfl

theorem nextAt_shift (d : Int) (p : Int × Int) (t : List UInt8) : nextAt (shiftP d p) t = shiftP d (nextAt p t) := after_shift d p _

/-- Splitting some lines lower, behind other tokens. -/
theorem splitN_shift (d : Int) (pre : List Tok) (b : List UInt8) : ∀ (n : Nat) (acc : List Tok) (b : List UInt8) (p : Int × Int), b.length ≤ n →
    splitN (pre ++ acc.map (shiftT d)) b (shiftP d p) = if (splitN acc b p).e = 0 then ⟨pre ++ (splitN acc b p).toks.map (shiftT d), 0, 0, 0⟩ else ⟨[], (splitN acc b p).l + d, (splitN acc b p).c, (splitN acc b p).e⟩ := by
  intro n
  induction n with
  | zero =>
    intro acc b p hn
    have hb : b = [] := List.eq_nil_of_length_eq_zero (by omega)
    subst hb
    rw [splitN_end _ _ _ rfl, splitN_end _ _ _ rfl]
    rfl
  | succ n ih =>
    intro acc b p hn
    by_cases h : skipL b = []
    · rw [splitN_end _ _ _ h, splitN_end _ _ _ h]
      rfl
    · by_cases hE : takeE (skipL b) = 0
      · have hpos := takeT_pos _ hE
        have hsl := skip_length b
        rw [splitN_tok _ b _ h hE, splitN_tok _ b _ h hE, nextAt_shift, after_shift]
        have := ih (acc ++ [⟨takeK (skipL b), takeT (skipL b), (nextAt p b).1, (nextAt p b).2⟩]) ((skipL b).drop (takeT (skipL b)).length) (afterL (nextAt p b) (takeT (skipL b))) (by rw [List.length_drop]; omega)
        rw [← this, List.map_append, List.append_assoc]
        rfl
      · rw [splitN_err _ b _ h hE, splitN_err _ b _ h hE, nextAt_shift]
        simp only
        rw [if_neg hE]
        rfl

theorem after_nl (p : Int × Int) (t : List UInt8) : afterL p (t ++ [10]) = (p.1 + (t.count 10 : Nat) + 1, 1) := by
  have h1 : ∀ (p : Int × Int) (t : List UInt8), (afterL p t).1 = p.1 + (t.count 10 : Nat) := by
    intro p t
    induction t generalizing p with
    | nil => simp [afterL]
    | cons c r ih =>
      have e : afterL p (c :: r) = afterL (posStep p c) r := rfl
      rw [e, ih, List.count_cons]
      unfold posStep
      by_cases hc : c = 10
      · rw [if_pos hc, hc]; simp; omega
      · rw [if_neg hc, if_neg (by simpa using hc)]; simp
  rw [afterL_snoc]
  unfold posStep
  rw [if_pos rfl, h1]

/-- What splitting two lines gives, in terms of splitting each. -/
theorem split_two (a b : List UInt8) : splitN [] (a ++ 10 :: b) (1, 1) =
    if (splitN [] a (1, 1)).e = 0 then
      (if (splitN [] b (1, 1)).e = 0 then ⟨(splitN [] a (1, 1)).toks ++ (splitN [] b (1, 1)).toks.map (shiftT (1 + (a.count 10 : Nat))), 0, 0, 0⟩
        else ⟨[], (splitN [] b (1, 1)).l + (1 + (a.count 10 : Nat)), (splitN [] b (1, 1)).c, (splitN [] b (1, 1)).e⟩)
    else splitN [] a (1, 1) := by
  rw [splitN_nl]
  split
  · rw [after_nl]
    have := splitN_shift (1 + (a.count 10 : Nat)) (splitN [] a (1, 1)).toks [] b.length [] b (1, 1) (Nat.le_refl _)
    rw [List.map_nil, List.append_nil] at this
    rw [← this]
    congr 1
    unfold shiftP
    simp only
    congr 1
    omega
  · rfl

/-- An error leaves no tokens; without one the place is zero. -/
theorem splitN_err_toks : ∀ (n : Nat) (acc : List Tok) (t : List UInt8) (p : Int × Int), t.length ≤ n → ((splitN acc t p).e ≠ 0 → (splitN acc t p).toks = []) ∧ ((splitN acc t p).e = 0 → (splitN acc t p).l = 0 ∧ (splitN acc t p).c = 0) := by
  intro n
  induction n with
  | zero =>
    intro acc t p hn
    have ht : t = [] := List.eq_nil_of_length_eq_zero (by omega)
    subst ht
    rw [splitN_end _ _ _ rfl]
    exact ⟨fun h => absurd rfl h, fun _ => ⟨rfl, rfl⟩⟩
  | succ n ih =>
    intro acc t p hn
    by_cases h : skipL t = []
    · rw [splitN_end _ _ _ h]
      exact ⟨fun h => absurd rfl h, fun _ => ⟨rfl, rfl⟩⟩
    · by_cases hE : takeE (skipL t) = 0
      · have hpos := takeT_pos _ hE
        have hsl := skip_length t
        rw [splitN_tok _ t _ h hE]
        exact ih _ _ _ (by rw [List.length_drop]; omega)
      · rw [splitN_err _ t _ h hE]
        exact ⟨fun _ => rfl, fun h => absurd h hE⟩

def InB (N : Int) (a b : Int) : Prop := 0 ≤ a ∧ a ≤ N ∧ 0 ≤ b ∧ b ≤ N

/-- All places lie within the text. -/
theorem splitN_bd (N : Int) : ∀ (n : Nat) (acc : List Tok) (t : List UInt8) (p : Int × Int), t.length ≤ n → 0 ≤ p.1 → 1 ≤ p.2 → p.1 + t.length ≤ N → p.2 + t.length ≤ N → (∀ x ∈ acc, InB N x.l x.c) → (∀ x ∈ (splitN acc t p).toks, InB N x.l x.c) ∧ InB N (splitN acc t p).l (splitN acc t p).c := by
  intro n
  induction n with
  | zero =>
    intro acc t p hn h1 h2 h3 h4 ha
    have ht : t = [] := List.eq_nil_of_length_eq_zero (by omega)
    subst ht
    rw [splitN_end _ _ _ rfl]
    exact ⟨ha, by unfold InB; simp at h3; simp; omega⟩
  | succ n ih =>
    intro acc t p hn h1 h2 h3 h4 ha
    have hsl := skip_length t
    have hat := after_bd p (t.take (t.length - (skipL t).length))
    have hn1 : nextAt p t = afterL p (t.take (t.length - (skipL t).length)) := rfl
    rw [← hn1, List.length_take, Nat.min_eq_left (by omega)] at hat
    have hc := hat.2.2 h2
    by_cases h : skipL t = []
    · rw [splitN_end _ _ _ h]
      exact ⟨ha, by unfold InB; simp; omega⟩
    · by_cases hE : takeE (skipL t) = 0
      · have hpos := takeT_pos _ hE
        have hle := (takeT_prefix (skipL t)).length_le
        rw [splitN_tok _ t _ h hE]
        have hb := after_bd (nextAt p t) (takeT (skipL t))
        have hbc := hb.2.2 hc.1
        refine ih _ _ _ (by rw [List.length_drop]; omega) (by omega) (by omega) (by rw [List.length_drop]; omega) (by rw [List.length_drop]; omega) ?_
        intro x hx
        rw [List.mem_append] at hx
        rcases hx with hx | hx
        · exact ha x hx
        · rw [List.mem_singleton] at hx
          subst hx
          unfold InB; simp only; omega
      · rw [splitN_err _ t _ h hE]
        refine ⟨(fun x hx => by cases hx), ?_⟩
        unfold InB; simp only; omega

theorem splitN_count : ∀ (n : Nat) (acc : List Tok) (t : List UInt8) (p : Int × Int), t.length ≤ n → (splitN acc t p).toks.length ≤ acc.length + t.length := by
  intro n
  induction n with
  | zero =>
    intro acc t p hn
    have ht : t = [] := List.eq_nil_of_length_eq_zero (by omega)
    subst ht
    rw [splitN_end _ _ _ rfl]; simp
  | succ n ih =>
    intro acc t p hn
    by_cases h : skipL t = []
    · rw [splitN_end _ _ _ h]; simp
    · by_cases hE : takeE (skipL t) = 0
      · have hpos := takeT_pos _ hE
        have hle := (takeT_prefix (skipL t)).length_le
        have hsl := skip_length t
        rw [splitN_tok _ t _ h hE]
        have := ih (acc ++ [⟨takeK (skipL t), takeT (skipL t), (nextAt p t).1, (nextAt p t).2⟩]) ((skipL t).drop (takeT (skipL t)).length) (afterL (nextAt p t) (takeT (skipL t))) (by rw [List.length_drop]; omega)
        rw [List.length_append, List.length_drop] at this
        simp only [List.length_cons, List.length_nil] at this
        omega
      · rw [splitN_err _ t _ h hE]; simp

end Go.Proofs.YtjbbelmmnlohlaaDoor
