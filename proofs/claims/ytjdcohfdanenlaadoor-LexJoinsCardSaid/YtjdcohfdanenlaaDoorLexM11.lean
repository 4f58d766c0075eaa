/-
  Plain mathematics of package lex, part 11: texts made of tokens with gaps between them are split into these tokens.
-/
import Derived.Test.YtjdcohfdanenlaaDoorLexV
namespace Go.Proofs.YtjdcohfdanenlaaDoor

/-- A gap: it parts the token before it from what follows, and it is passed over. -/
structure GapOK (g : List UInt8) : Prop where
  head : ∃ c r, g = c :: r ∧ sepc c = true
  skip : ∀ r, skipL (g ++ r) = skipL r

/-- Gap, token, gap, token, .., and a last gap. -/
def flatG : List (List UInt8 × Tok) → List UInt8 → List UInt8
  | [], last => last
  | (g, t) :: l, last => g ++ (t.t ++ flatG l last)

/-- What kinds and texts these are. -/
def kt (l : List Tok) : List (Int × List UInt8) := l.map fun x => (x.k, x.t)

theorem flatG_head : ∀ (l : List (List UInt8 × Tok)) (last : List UInt8), (∀ x ∈ l, GapOK x.1) → (last = [] ∨ GapOK last) → flatG l last = [] ∨ ∃ c r, flatG l last = c :: r ∧ sepc c = true
  | [], last, _, h => by
    rcases h with rfl | h
    · exact Or.inl rfl
    · obtain ⟨c, r, rfl, hc⟩ := h.head; exact Or.inr ⟨c, r, rfl, hc⟩
  | (g, t) :: l, last, h, _ => by
    obtain ⟨c, r, hg, hc⟩ := (h (g, t) (List.mem_cons_self ..)).head
    have hg' : g = c :: r := hg
    subst hg'
    exact Or.inr ⟨c, r ++ (t.t ++ flatG l last), rfl, hc⟩

theorem take_rest {t rest : List UInt8} {k : Int} (hv : validB k t = true) (hr : rest = [] ∨ ∃ c r, rest = c :: r ∧ sepc c = true) :
    takeK (t ++ rest) = k ∧ takeT (t ++ rest) = t ∧ takeE (t ++ rest) = 0 ∧ t ++ rest ≠ [] := by
  obtain ⟨h1, h2, h3, h4⟩ := valid_take hv
  have hne : t ++ rest ≠ [] := by simp [h4]
  rcases hr with rfl | ⟨c, r, rfl, hc⟩
  · rw [List.append_nil]; exact ⟨h1, h2, h3, h4⟩
  · obtain ⟨g1, g2, g3⟩ := take_sep t c r h4 hc
    exact ⟨g1.trans h1, g2.trans h2, g3.trans h3, hne⟩

/-- A text of gaps and valid tokens is split into these. -/
theorem split_flat : ∀ (l : List (List UInt8 × Tok)) (last : List UInt8) (acc : List Tok) (p : Int × Int), (∀ x ∈ l, validB x.2.k x.2.t = true ∧ ∀ r, skipL (x.1 ++ r) = skipL r) →
    (∀ x ∈ l.drop 1, GapOK x.1) → (last = [] ∨ GapOK last) → ∃ m, splitN acc (flatG l last) p = ⟨acc ++ m, 0, 0, 0⟩ ∧ kt m = kt (l.map (·.2))
  | [], last, acc, p, _, _, hl => by
    refine ⟨[], ?_, rfl⟩
    rw [List.append_nil]
    refine splitN_end acc last p ?_
    rcases hl with rfl | h
    · rfl
    · have := h.skip []; rw [List.append_nil] at this; rw [this]; rfl
  | (g, t) :: l, last, acc, p, h, hg, hl => by
    obtain ⟨hv, hs⟩ := h (g, t) (List.mem_cons_self ..)
    have hg' : ∀ x ∈ l, GapOK x.1 := hg
    obtain ⟨a1, a2, a3, a4⟩ := take_rest hv (flatG_head l last hg' hl)
    have hskip : skipL (g ++ (t.t ++ flatG l last)) = t.t ++ flatG l last := (hs _).trans (skip_tok _ a3)
    obtain ⟨m, hm, hk⟩ := split_flat l last (acc ++ [⟨t.k, t.t, (afterL p g).1, (afterL p g).2⟩]) ((afterL p g).1, (afterL p g).2 + t.t.length)
      (fun x hx => h x (List.mem_cons_of_mem _ hx)) (fun x hx => hg' x (List.mem_of_mem_drop hx)) hl
    refine ⟨⟨t.k, t.t, (afterL p g).1, (afterL p g).2⟩ :: m, ?_, ?_⟩
    · show splitN acc (g ++ (t.t ++ flatG l last)) p = _
      rw [splitN_gap acc g t.t (flatG l last) p t.k hskip a4 a1 a2 a3, hm, List.append_assoc]; rfl
    · unfold kt at hk ⊢
      rw [List.map_cons, List.map_cons, List.map_cons, hk]

theorem skip_ws {c : UInt8} (hc : wsList.contains c = true) (r : List UInt8) : skipL (c :: r) = skipL r := by
  unfold skipL
  conv => lhs; unfold skipM
  rw [hc]; rfl

theorem skip_remark (a : List UInt8) (ha : (10 : UInt8) ∉ a) (r : List UInt8) : skipM true (a ++ 10 :: r) = skipL r := by
  rw [skipM_true]
  congr 1
  induction a with
  | nil => rfl
  | cons c a ih =>
    have h1 : c ≠ 10 := fun e => ha (e ▸ List.mem_cons_self ..)
    show (if c = 10 then a ++ 10 :: r else afterNl (a ++ 10 :: r)) = r
    rw [if_neg h1]
    exact ih fun h => ha (List.mem_cons_of_mem _ h)

/-- The gaps of the law. -/
def gaps (remark : List UInt8) : List (List UInt8) := [[32], [9, 9], [13, 10], [10, 10, 32], [32, 35] ++ remark ++ [10], [35, 32, 35, 10, 9]]

theorem gap_ws {g : List UInt8} (h0 : g ≠ []) (h : ∀ c ∈ g, wsList.contains c = true) : GapOK g := by
  refine ⟨?_, ?_⟩
  · cases g with
    | nil => exact absurd rfl h0
    | cons c r =>
      refine ⟨c, r, rfl, ?_⟩
      have := h c (List.mem_cons_self ..)
      have hm : c ∈ wsList := by simpa [List.contains_iff_mem] using this
      unfold wsList at hm
      simp only [List.mem_cons, List.not_mem_nil, or_false] at hm
      rcases hm with rfl | rfl | rfl | rfl <;> rfl
  · clear h0
    induction g with
    | nil => intro r; rfl
    | cons c g ih => intro r; rw [List.cons_append, skip_ws (h c (List.mem_cons_self ..))]; exact ih (fun d hd => h d (List.mem_cons_of_mem _ hd)) r

theorem gaps_ok {remark : List UInt8} (h : (10 : UInt8) ∉ remark) : ∀ g ∈ gaps remark, GapOK g := by
  intro g hg
  unfold gaps at hg
  simp only [List.mem_cons, List.not_mem_nil, or_false] at hg
  rcases hg with rfl | rfl | rfl | rfl | rfl | rfl
  · exact gap_ws (by simp) (by decide)
  · exact gap_ws (by simp) (by decide)
  · exact gap_ws (by simp) (by decide)
  · exact gap_ws (by simp) (by decide)
  · refine ⟨⟨32, 35 :: (remark ++ [10]), by simp, rfl⟩, fun r => ?_⟩
    have e : [32, 35] ++ remark ++ [10] ++ r = (32 : UInt8) :: 35 :: (remark ++ 10 :: r) := by simp
    rw [e, skip_ws (by decide)]
    unfold skipL
    conv => lhs; unfold skipM
    rw [if_neg (by decide), if_pos rfl]
    exact skip_remark remark h r
  · refine ⟨⟨35, [32, 35, 10, 9], rfl, rfl⟩, fun r => ?_⟩
    have e : ([35, 32, 35, 10, 9] : List UInt8) ++ r = 35 :: ([32, 35] ++ 10 :: (9 :: r)) := rfl
    rw [e]
    unfold skipL
    conv => lhs; unfold skipM
    rw [if_neg (by decide), if_pos rfl, skip_remark [32, 35] (by decide)]
    exact skip_ws (by decide) r

theorem gaps_len (remark : List UInt8) (h : remark.length ≤ 50) : ∀ g ∈ gaps remark, g.length ≤ 60 := by
  intro g hg
  unfold gaps at hg
  simp only [List.mem_cons, List.not_mem_nil, or_false] at hg
  rcases hg with rfl | rfl | rfl | rfl | rfl | rfl <;> simp <;> omega

end Go.Proofs.YtjdcohfdanenlaaDoor
