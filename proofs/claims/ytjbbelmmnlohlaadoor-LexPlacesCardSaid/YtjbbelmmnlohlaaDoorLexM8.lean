/-
  Plain mathematics of package lex, part 8: lines, and the places of tokens in them.
-/
import Derived.Test.YtjbbelmmnlohlaaDoorLexM7
namespace Go.Proofs.YtjbbelmmnlohlaaDoor

/-- The lines of a text, if the first one begins with acc. -/
def segsA : List UInt8 → List UInt8 → List (List UInt8)
  | acc, [] => [acc]
  | acc, c :: r => if c = 10 then acc :: segsA [] r else segsA (acc ++ [c]) r

def lastSeg : List UInt8 → List UInt8 → List UInt8
  | acc, [] => acc
  | acc, c :: r => if c = 10 then lastSeg [] r else lastSeg (acc ++ [c]) r

def firstSeg (l : List UInt8) : List UInt8 := l.takeWhile (· != 10)

theorem segsA_length (acc l : List UInt8) : (segsA acc l).length = l.count 10 + 1 := by
  induction l generalizing acc with
  | nil => rfl
  | cons c r ih =>
    unfold segsA
    rw [List.count_cons]
    by_cases h : c = 10
    · rw [if_pos h, List.length_cons, ih, if_pos (by simpa using h)]
    · rw [if_neg h, ih, if_neg (by simpa using h)]

theorem segsA_first (acc rest : List UInt8) : (segsA acc rest).getD 0 [] = acc ++ firstSeg rest := by
  induction rest generalizing acc with
  | nil => simp [segsA, firstSeg]
  | cons c r ih =>
    unfold segsA firstSeg
    rw [List.takeWhile_cons]
    by_cases h : c = 10
    · rw [if_pos h, h]; simp
    · rw [if_neg h, ih]
      simp [h, firstSeg]

theorem segsA_at (acc pre rest : List UInt8) : (segsA acc (pre ++ rest)).getD (pre.count 10) [] = lastSeg acc pre ++ firstSeg rest := by
  induction pre generalizing acc with
  | nil => exact segsA_first acc rest
  | cons c r ih =>
    rw [List.cons_append]
    unfold segsA lastSeg
    rw [List.count_cons]
    by_cases h : c = 10
    · rw [if_pos h, if_pos h, if_pos (by simpa using h), List.getD_cons_succ, ih]
    · rw [if_neg h, if_neg h, if_neg (by simpa using h), Nat.add_zero, ih]

theorem afterL_seg (a : Int) (acc pre : List UInt8) : (afterL (a, 1 + (acc.length : Int)) pre).1 = a + ((pre.count 10 : Nat) : Int) ∧ (afterL (a, 1 + (acc.length : Int)) pre).2 = 1 + ((lastSeg acc pre).length : Int) := by
  induction pre generalizing a acc with
  | nil => simp [afterL, lastSeg]
  | cons c r ih =>
    have e : afterL (a, 1 + (acc.length : Int)) (c :: r) = afterL (posStep (a, 1 + (acc.length : Int)) c) r := rfl
    rw [e]
    unfold posStep lastSeg
    rw [List.count_cons]
    by_cases h : c = 10
    · rw [if_pos h, if_pos h, if_pos (by simpa using h)]
      have := ih (a + 1) []
      have e1 : (1 : Int) + (([] : List UInt8).length : Int) = 1 := rfl
      rw [e1] at this
      simp only
      exact ⟨by rw [this.1]; omega, this.2⟩
    · rw [if_neg h, if_neg h, if_neg (by simpa using h)]
      have := ih a (acc ++ [c])
      have e2 : (1 : Int) + ((acc ++ [c]).length : Int) = 1 + (acc.length : Int) + 1 := by rw [List.length_append]; simp; omega
      rw [e2] at this
      simp only
      exact this

/-- The place of what stands behind pre: its line, and its column there. -/
theorem place_eq (pre : List UInt8) : afterL (1, 1) pre = (1 + ((pre.count 10 : Nat) : Int), 1 + ((lastSeg [] pre).length : Int)) := by
  have := afterL_seg 1 [] pre
  have e1 : (1 : Int) + (([] : List UInt8).length : Int) = 1 := rfl
  rw [e1] at this
  exact Prod.ext this.1 this.2

/-- What is at a place: the text of a token there. -/
structure At (s : List UInt8) (l c : Int) (t : List UInt8) : Prop where
  l1 : 1 ≤ l
  l2 : l ≤ (segsA [] s).length
  c1 : 1 ≤ c
  c2 : c - 1 + t.length ≤ ((segsA [] s).getD (l - 1).toNat []).length
  pre : t.isPrefixOf (((segsA [] s).getD (l - 1).toNat []).drop (c - 1).toNat) = true

theorem firstSeg_append (t rest : List UInt8) (h : ∀ c ∈ t, c ≠ 10) : firstSeg (t ++ rest) = t ++ firstSeg rest := by
  unfold firstSeg
  induction t with
  | nil => rfl
  | cons c t ih =>
    rw [List.cons_append, List.takeWhile_cons, if_pos (by simpa using h c (List.mem_cons_self ..)), ih (fun d hd => h d (List.mem_cons_of_mem _ hd))]; rfl

theorem at_of {s pre t rest : List UInt8} (hs : s = pre ++ (t ++ rest)) (hn : ∀ c ∈ t, c ≠ 10) : At s (afterL (1, 1) pre).1 (afterL (1, 1) pre).2 t := by
  have hseg : (segsA [] s).getD (pre.count 10) [] = lastSeg [] pre ++ (t ++ firstSeg rest) := by
    rw [hs, segsA_at, firstSeg_append t rest hn]
  have hlen : (segsA [] s).length = s.count 10 + 1 := segsA_length [] s
  have hcnt : pre.count 10 ≤ s.count 10 := by rw [hs, List.count_append]; omega
  rw [place_eq]
  have e1 : (1 + ((pre.count 10 : Nat) : Int) - 1).toNat = pre.count 10 := by omega
  have e2 : (1 + ((lastSeg [] pre).length : Int) - 1).toNat = (lastSeg [] pre).length := by omega
  refine ⟨by simp only; omega, by simp only; omega, by simp only; omega, ?_, ?_⟩
  · simp only
    rw [e1, hseg, List.length_append, List.length_append]
    omega
  · simp only
    rw [e1, e2, hseg, List.drop_left' rfl]
    rw [List.isPrefixOf_iff_prefix]
    exact ⟨_, rfl⟩

/-- The tokens stand at their places, and the places ascend. -/
def GoodAll (s : List UInt8) : Int × Int → List Tok → Prop
  | _, [] => True
  | q, x :: r => (q.1 < x.l ∨ q.1 = x.l ∧ q.2 < x.c) ∧ At s x.l x.c x.t ∧ x.t ≠ [] ∧ GoodAll s (x.l, x.c) r

theorem GoodAll.snoc {s : List UInt8} {q : Int × Int} {l : List Tok} {x : Tok} (h : GoodAll s q l) (hx : At s x.l x.c x.t) (hn : x.t ≠ []) (hq : ∀ y, l.getLast? = some y → y.l < x.l ∨ y.l = x.l ∧ y.c < x.c) (hq0 : l = [] → q.1 < x.l ∨ q.1 = x.l ∧ q.2 < x.c) : GoodAll s q (l ++ [x]) := by
  induction l generalizing q with
  | nil => exact ⟨hq0 rfl, hx, hn, trivial⟩
  | cons y r ih =>
    obtain ⟨h1, h2, h3, h4⟩ := h
    refine ⟨h1, h2, h3, ih h4 (fun z hz => ?_) (fun hr => ?_)⟩
    · apply hq
      cases r with
      | nil => cases hz
      | cons a r => rw [List.getLast?_cons_cons]; exact hz
    · subst hr
      exact hq y rfl

theorem after_lex (p : Int × Int) (l : List UInt8) : p.1 < (afterL p l).1 ∨ p.1 = (afterL p l).1 ∧ p.2 ≤ (afterL p l).2 := by
  induction l generalizing p with
  | nil => exact Or.inr ⟨rfl, Int.le_refl _⟩
  | cons c r ih =>
    have e : afterL p (c :: r) = afterL (posStep p c) r := rfl
    rw [e]
    have := ih (posStep p c)
    unfold posStep at *
    by_cases h : c = 10
    · rw [if_pos h] at this ⊢
      simp only at this ⊢
      omega
    · rw [if_neg h] at this ⊢
      simp only at this ⊢
      omega

theorem skipM_idem : ∀ (f : Bool) (t : List UInt8), skipM false (skipM f t) = skipM f t
  | true, [] => rfl
  | false, [] => rfl
  | true, c :: r => by
    show skipM false (if c = 10 then skipM false r else skipM true r) = (if c = 10 then skipM false r else skipM true r)
    split
    · exact skipM_idem false r
    · exact skipM_idem true r
  | false, c :: r => by
    show skipM false (if wsList.contains c then skipM false r else if c = 35 then skipM true r else c :: r) = (if wsList.contains c then skipM false r else if c = 35 then skipM true r else c :: r)
    by_cases h : wsList.contains c = true
    · rw [if_pos h]; exact skipM_idem false r
    · rw [if_neg h]
      by_cases h2 : c = 35
      · rw [if_pos h2]; exact skipM_idem true r
      · rw [if_neg h2]
        show (if wsList.contains c then skipM false r else if c = 35 then skipM true r else c :: r) = c :: r
        rw [if_neg h, if_neg h2]

theorem skip_idem (t : List UInt8) : skipL (skipL t) = skipL t := skipM_idem false t

/-- What holds while a text is split: pre has been read, t is left, the last token ends at most at the place. -/
structure SplitInv (s : List UInt8) (acc : List Tok) (t : List UInt8) (p : Int × Int) : Prop where
  ex : ∃ pre, s = pre ++ t ∧ afterL (1, 1) pre = p
  good : GoodAll s (1, 0) acc
  last : ∀ y, acc.getLast? = some y → y.l < p.1 ∨ y.l = p.1 ∧ y.c < p.2

theorem split_places : ∀ (n : Nat) (s : List UInt8) (acc : List Tok) (t : List UInt8) (p : Int × Int), t.length ≤ n → SplitInv s acc t p →
    ((splitN acc t p).e = 0 → GoodAll s (1, 0) (splitN acc t p).toks) ∧ ((splitN acc t p).e ≠ 0 → ∃ c, At s (splitN acc t p).l (splitN acc t p).c [c]) := by
  intro n
  induction n with
  | zero =>
    intro s acc t p hn h
    have ht : t = [] := List.eq_nil_of_length_eq_zero (by omega)
    subst ht
    rw [splitN_end _ _ _ rfl]
    exact ⟨fun _ => h.good, fun h => absurd rfl h⟩
  | succ n ih =>
    intro s acc t p hn h
    obtain ⟨pre, hs, hp⟩ := h.ex
    obtain ⟨g, hg, hg2⟩ := skip_parts t
    have hnx : nextAt p t = afterL (1, 1) (pre ++ g) := by
      unfold nextAt
      rw [← hg2, afterL_append, hp]
    have hs2 : s = (pre ++ g) ++ skipL t := by rw [List.append_assoc, ← hg]; exact hs
    by_cases hk : skipL t = []
    · rw [splitN_end _ _ _ hk]
      exact ⟨fun _ => h.good, fun h => absurd rfl h⟩
    · by_cases hE : takeE (skipL t) = 0
      · have hpos := takeT_pos _ hE
        have hsl := skip_length t
        rw [splitN_tok _ t _ hk hE]
        refine ih s _ _ _ (by rw [List.length_drop]; omega) ?_
        obtain ⟨r, hr⟩ := takeT_prefix (skipL t)
        have hd : List.drop (takeT (skipL t)).length (skipL t) = r := by
          have : List.drop (takeT (skipL t)).length (takeT (skipL t) ++ r) = r := List.drop_left' rfl
          rw [hr] at this
          exact this
        have hat : At s (nextAt p t).1 (nextAt p t).2 (takeT (skipL t)) := by
          rw [hnx]
          exact at_of (rest := r) (by rw [hr]; exact hs2) (takeT_nl _)
        have hlex := after_lex p (t.take (t.length - (skipL t).length))
        have hnx2 : nextAt p t = afterL p (t.take (t.length - (skipL t).length)) := rfl
        rw [← hnx2] at hlex
        refine ⟨⟨pre ++ g ++ takeT (skipL t), ?_, ?_⟩, ?_, ?_⟩
        · rw [hd, List.append_assoc, hr]; exact hs2
        · rw [afterL_append, ← hnx]
        · refine h.good.snoc hat (by intro e; simp only at e; rw [e] at hpos; exact absurd hpos (Nat.lt_irrefl 0)) (fun y hy => ?_) (fun _ => ?_)
          · have := h.last y hy
            simp only
            omega
          · have h1 := hat.l1
            have h2 := hat.c1
            simp only
            omega
        · intro y hy
          rw [List.getLast?_append, List.getLast?_singleton] at hy
          simp at hy
          subst hy
          rw [after_plain (nextAt p t) (takeT (skipL t)) (takeT_nl (skipL t))]
          exact Or.inr ⟨rfl, by show (nextAt p t).2 < (nextAt p t).2 + ((takeT (skipL t)).length : Int); omega⟩
      · rw [splitN_err _ t _ hk hE]
        refine ⟨fun h => absurd h hE, fun _ => ?_⟩
        simp only
        obtain ⟨c, u, hu⟩ : ∃ c u, skipL t = c :: u := by cases e : skipL t with | nil => exact absurd e hk | cons c u => exact ⟨c, u, rfl⟩
        refine ⟨c, ?_⟩
        rw [hnx]
        have hc : c ≠ 10 := by
          rintro rfl
          have : skipL (skipL t) = skipL t := skip_idem t
          rw [hu] at this
          have e : skipL (10 :: u) = skipL u := rfl
          rw [e] at this
          have hl := skip_length u
          rw [this] at hl
          simp at hl
          omega
        exact at_of (rest := u) (by rw [hs2, hu]; simp) (fun d hd => by rw [List.mem_singleton] at hd; subst hd; exact hc)

end Go.Proofs.YtjbbelmmnlohlaaDoor
