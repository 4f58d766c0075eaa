/-
  Plain mathematics of package lex, part 5: a token in front of a text that does not go on with it; splitting without a count of rounds.
-/
import Derived.Test.YtbmejohoifpfhaaLexM4
namespace Go.Proofs.Ytbmejohoifpfhaa

/-- The bytes of symbols behind their first one. -/
def tailSym (c : UInt8) : Bool := c == 61 || c == 62 || c == 38 || c == 124
/-- A byte that goes on with no token. -/
def sepc (c : UInt8) : Bool := !prt c && !tailSym c

theorem syms_tail : ∀ x ∈ syms, ∀ c ∈ x.drop 1, tailSym c = true := by decide
theorem syms_head : ∀ x ∈ syms, (match x with | [] => false | c :: _ => !wsList.contains c && c != 35 && !ltr c && !dgt c) = true := by decide
theorem syms_nl : ∀ x ∈ syms, ∀ c ∈ x, c ≠ 10 := by decide

theorem prefix_tail : ∀ (x s : List UInt8) (c : UInt8) (r : List UInt8), (∀ d ∈ x, tailSym d = true) → tailSym c = false → x.isPrefixOf (s ++ c :: r) = x.isPrefixOf s
  | [], s, c, r, _, _ => by rw [List.isPrefixOf_nil_left, List.isPrefixOf_nil_left]
  | y :: x, [], c, r, hx, hc => by
    have : (y == c) = false := by
      rw [beq_eq_false_iff_ne]; rintro rfl
      have := hx y (List.mem_cons_self ..)
      rw [this] at hc; cases hc
    rw [List.nil_append, List.isPrefixOf_cons_cons, this, List.isPrefixOf_cons_nil]; rfl
  | y :: x, a :: s, c, r, hx, hc => by
    rw [List.cons_append, List.isPrefixOf_cons_cons, List.isPrefixOf_cons_cons, prefix_tail x s c r (fun d hd => hx d (List.mem_cons_of_mem _ hd)) hc]

theorem prefix_glue (x s : List UInt8) (c : UInt8) (r : List UInt8) (hs : s ≠ []) (hx : ∀ d ∈ x.drop 1, tailSym d = true) (hc : tailSym c = false) : x.isPrefixOf (s ++ c :: r) = x.isPrefixOf s := by
  cases x with
  | nil => rw [List.isPrefixOf_nil_left, List.isPrefixOf_nil_left]
  | cons y x =>
    cases s with
    | nil => exact absurd rfl hs
    | cons a s =>
      rw [List.cons_append, List.isPrefixOf_cons_cons, List.isPrefixOf_cons_cons, prefix_tail x s c r hx hc]

theorem find_congr {α : Type} {p q : α → Bool} : ∀ (l : List α), (∀ x ∈ l, p x = q x) → l.find? p = l.find? q
  | [], _ => rfl
  | x :: l, h => by
    rw [List.find?_cons, List.find?_cons, h x (List.mem_cons_self ..), find_congr l fun y hy => h y (List.mem_cons_of_mem _ hy)]

theorem symFind_glue (s : List UInt8) (c : UInt8) (r : List UInt8) (hs : s ≠ []) (hc : tailSym c = false) : symFind (s ++ c :: r) = symFind s :=
  find_congr syms fun x hx => prefix_glue x s c r hs (syms_tail x hx) hc

theorem runL_glue (s : List UInt8) (c : UInt8) (r : List UInt8) (hc : prt c = false) : runL (s ++ c :: r) = runL s := by
  unfold runL
  induction s with
  | nil => rw [List.nil_append, List.takeWhile_cons, hc]; rfl
  | cons a s ih => rw [List.cons_append, List.takeWhile_cons, List.takeWhile_cons, ih]

theorem headIs_glue (p : UInt8 → Bool) (s r : List UInt8) (hs : s ≠ []) : headIs p (s ++ r) = headIs p s := by
  cases s with
  | nil => exact absurd rfl hs
  | cons a s => rfl

/-- What takes a token sees only what goes on with it. -/
theorem take_glue (s : List UInt8) (c : UInt8) (r : List UInt8) (hs : s ≠ []) (hw : headIs ltr s = true ∨ headIs dgt s = true → prt c = false) (hy : headIs ltr s = false → headIs dgt s = false → tailSym c = false) :
    takeK (s ++ c :: r) = takeK s ∧ takeT (s ++ c :: r) = takeT s ∧ takeE (s ++ c :: r) = takeE s := by
  unfold takeK takeT takeE
  rw [headIs_glue ltr s _ hs, headIs_glue dgt s _ hs]
  cases hl : headIs ltr s with
  | true =>
    rw [runL_glue s c r (hw (Or.inl hl))]
    exact ⟨rfl, rfl, rfl⟩
  | false =>
    cases hd : headIs dgt s with
    | true =>
      rw [runL_glue s c r (hw (Or.inr hd))]
      exact ⟨rfl, rfl, rfl⟩
    | false =>
      have := symFind_glue s c r hs (hy hl hd)
      unfold symKind symText symErr
      rw [this]
      exact ⟨rfl, rfl, rfl⟩

theorem take_sep (s : List UInt8) (c : UInt8) (r : List UInt8) (hs : s ≠ []) (hc : sepc c = true) :
    takeK (s ++ c :: r) = takeK s ∧ takeT (s ++ c :: r) = takeT s ∧ takeE (s ++ c :: r) = takeE s := by
  unfold sepc at hc
  rw [Bool.and_eq_true, Bool.not_eq_true', Bool.not_eq_true'] at hc
  exact take_glue s c r hs (fun _ => hc.1) (fun _ _ => hc.2)

theorem ltr_plain {c : UInt8} (h : ltr c = true) : wsList.contains c = false ∧ c ≠ 35 ∧ c ≠ 10 := by
  have : ∀ c : UInt8, ltr c = true → wsList.contains c = false ∧ c ≠ 35 ∧ c ≠ 10 := by
    intro c h
    refine ⟨?_, ?_, ?_⟩
    · unfold wsList
      rw [Bool.eq_false_iff]
      intro hc
      simp at hc
      rcases hc with rfl | rfl | rfl | rfl <;> exact absurd h (by decide)
    · rintro rfl; exact absurd h (by decide)
    · rintro rfl; exact absurd h (by decide)
  exact this c h

theorem dgt_plain {c : UInt8} (h : dgt c = true) : wsList.contains c = false ∧ c ≠ 35 ∧ c ≠ 10 := by
  refine ⟨?_, ?_, ?_⟩
  · unfold wsList
    rw [Bool.eq_false_iff]
    intro hc
    simp at hc
    rcases hc with rfl | rfl | rfl | rfl <;> exact absurd h (by decide)
  · rintro rfl; exact absurd h (by decide)
  · rintro rfl; exact absurd h (by decide)

theorem prt_nl {c : UInt8} (h : prt c = true) : c ≠ 10 := by
  rintro rfl; exact absurd h (by decide)

/-- A text at whose beginning a token stands has no blank and no comment there. -/
theorem skip_tok (t : List UInt8) (h : takeE t = 0) : skipL t = t := by
  cases t with
  | nil => rfl
  | cons c r =>
    have key : wsList.contains c = false ∧ c ≠ 35 := by
      unfold takeE at h
      cases hl : headIs ltr (c :: r) with
      | true => exact ⟨(ltr_plain hl).1, (ltr_plain hl).2.1⟩
      | false =>
        cases hd : headIs dgt (c :: r) with
        | true => exact ⟨(dgt_plain hd).1, (dgt_plain hd).2.1⟩
        | false =>
          rw [hl, hd] at h
          simp only [Bool.false_eq_true, if_false] at h
          unfold symErr at h
          cases hf : symFind (c :: r) with
          | none => rw [hf] at h; simp at h
          | some x =>
            have hp := List.find?_some hf
            have hm := syms_head x (List.mem_of_find?_eq_some hf)
            cases x with
            | nil => cases hm
            | cons d x =>
              rw [List.isPrefixOf_cons_cons, Bool.and_eq_true, beq_iff_eq] at hp
              obtain ⟨rfl, _⟩ := hp
              simp only [Bool.and_eq_true, Bool.not_eq_true', bne_iff_ne, ne_eq] at hm
              exact ⟨hm.1.1.1, hm.1.1.2⟩
    unfold skipL skipM
    rw [key.1, if_neg key.2]
    rfl

theorem mem_run : ∀ (t : List UInt8) (c : UInt8), c ∈ runL t → prt c = true
  | [], c, h => by cases h
  | a :: t, c, h => by
    unfold runL at h
    rw [List.takeWhile_cons] at h
    cases ha : prt a with
    | true =>
      rw [ha] at h
      rcases List.mem_cons.1 h with rfl | h
      · exact ha
      · exact mem_run t c h
    | false => rw [ha] at h; cases h

theorem takeT_nl (t : List UInt8) : ∀ c ∈ takeT t, c ≠ 10 := by
  have hr : ∀ c ∈ runL t, c ≠ 10 := fun c hc => prt_nl (mem_run t c hc)
  unfold takeT
  split
  · exact hr
  · split
    · exact hr
    · unfold symText
      cases hf : symFind t with
      | none => intro c hc; cases hc
      | some x => exact syms_nl x (List.mem_of_find?_eq_some hf)

theorem after_plain (p : Int × Int) (l : List UInt8) (h : ∀ c ∈ l, c ≠ 10) : afterL p l = (p.1, p.2 + l.length) := by
  induction l generalizing p with
  | nil => simp [afterL]
  | cons c l ih =>
    have e : afterL p (c :: l) = afterL (posStep p c) l := rfl
    rw [e, ih _ (fun d hd => h d (List.mem_cons_of_mem _ hd))]
    unfold posStep
    rw [if_neg (h c (List.mem_cons_self ..))]
    simp only [List.length_cons]
    congr 1
    omega

theorem splitF_fuel : ∀ (f g : Nat) (acc : List Tok) (t : List UInt8) (p : Int × Int), t.length < f → t.length < g → splitF f acc t p = splitF g acc t p
  | 0, _, _, _, _, h, _ => absurd h (Nat.not_lt_zero _)
  | _ + 1, 0, _, _, _, _, h => absurd h (Nat.not_lt_zero _)
  | f + 1, g + 1, acc, t, p, hf, hg => by
    unfold splitF
    split
    · rfl
    · rename_i hne
      split
      · rename_i hE
        have h1 := takeT_pos _ hE
        have h2 := (takeT_prefix (skipL t)).length_le
        have h3 := skip_length t
        exact splitF_fuel f g _ _ _ (by rw [List.length_drop]; omega) (by rw [List.length_drop]; omega)
      · rfl

/-- Splitting, without a count of rounds. -/
def splitN (acc : List Tok) (t : List UInt8) (p : Int × Int) : Res := splitF (t.length + 1) acc t p

theorem splitL_eq (s : List UInt8) (h : s.length ≤ 65536) : splitL s = splitN [] s (1, 1) := by
  unfold splitL splitN
  rw [if_neg (by omega)]

theorem splitN_end (acc : List Tok) (t : List UInt8) (p : Int × Int) (h : skipL t = []) : splitN acc t p = ⟨acc, 0, 0, 0⟩ := by
  unfold splitN splitF; rw [if_pos h]

theorem splitN_err (acc : List Tok) (t : List UInt8) (p : Int × Int) (h : skipL t ≠ []) (hE : takeE (skipL t) ≠ 0) : splitN acc t p = ⟨[], (nextAt p t).1, (nextAt p t).2, takeE (skipL t)⟩ := by
  unfold splitN splitF; rw [if_neg h, if_neg hE]

theorem splitN_tok (acc : List Tok) (t : List UInt8) (p : Int × Int) (h : skipL t ≠ []) (hE : takeE (skipL t) = 0) :
    splitN acc t p = splitN (acc ++ [⟨takeK (skipL t), takeT (skipL t), (nextAt p t).1, (nextAt p t).2⟩]) ((skipL t).drop (takeT (skipL t)).length) (afterL (nextAt p t) (takeT (skipL t))) := by
  unfold splitN
  conv => lhs; unfold splitF
  rw [if_neg h, if_pos hE]
  have h1 := takeT_pos _ hE
  have h2 := (takeT_prefix (skipL t)).length_le
  have h3 := skip_length t
  exact splitF_fuel _ _ _ _ _ (by rw [List.length_drop]; omega) (by rw [List.length_drop]; omega)

/-- A token behind a gap, in front of a text that does not go on with it. -/
theorem splitN_gap (acc : List Tok) (gap t rest : List UInt8) (p : Int × Int) (k : Int) (hg : skipL (gap ++ (t ++ rest)) = t ++ rest) (hne : t ++ rest ≠ [])
    (hK : takeK (t ++ rest) = k) (hT : takeT (t ++ rest) = t) (hE : takeE (t ++ rest) = 0) :
    splitN acc (gap ++ (t ++ rest)) p = splitN (acc ++ [⟨k, t, (afterL p gap).1, (afterL p gap).2⟩]) rest ((afterL p gap).1, (afterL p gap).2 + t.length) := by
  have hn : nextAt p (gap ++ (t ++ rest)) = afterL p gap := by
    unfold nextAt
    rw [hg]
    congr 1
    rw [List.length_append, Nat.add_sub_cancel, List.take_left' rfl]
  rw [splitN_tok _ _ _ (by rw [hg]; exact hne) (by rw [hg]; exact hE), hg, hK, hT, hn, List.drop_left' rfl]
  rw [after_plain _ t (hT ▸ takeT_nl (t ++ rest))]

theorem splitN_here (acc : List Tok) (t rest : List UInt8) (p : Int × Int) (k : Int) (hne : t ++ rest ≠ [])
    (hK : takeK (t ++ rest) = k) (hT : takeT (t ++ rest) = t) (hE : takeE (t ++ rest) = 0) :
    splitN acc (t ++ rest) p = splitN (acc ++ [⟨k, t, p.1, p.2⟩]) rest (p.1, p.2 + t.length) :=
  splitN_gap acc [] t rest p k (skip_tok _ hE) hne hK hT hE

theorem run_all {l : List UInt8} (h : l.all prt = true) : runL l = l := by
  have := takeWhile_of prt l l.length (Nat.le_refl _) (by rw [List.take_length]; exact h) (fun c hc => by simp at hc)
  rw [List.take_length] at this
  exact this

/-- The symbols are themselves. -/
theorem sym_self : ∀ x ∈ syms, symFind x = some x ∧ headIs ltr x = false ∧ headIs dgt x = false ∧ x ≠ [] := by decide

theorem take_sym {x : List UInt8} (h : x ∈ syms) : takeK x = 3 ∧ takeT x = x ∧ takeE x = 0 := by
  obtain ⟨h1, h2, h3, _⟩ := sym_self x h
  unfold takeK takeT takeE symKind symText symErr
  rw [h1, h2, h3]
  exact ⟨rfl, rfl, rfl⟩

theorem take_word {x : List UInt8} (h1 : headIs ltr x = true) (h2 : x.all prt = true) : takeK x = 1 ∧ takeT x = x ∧ takeE x = checkLen x := by
  unfold takeK takeT takeE
  rw [h1, run_all h2]
  exact ⟨rfl, rfl, rfl⟩

theorem ltr_sepc {c : UInt8} (h : ltr c = true) : tailSym c = false := by
  unfold tailSym
  rw [Bool.eq_false_iff]
  intro hc
  simp at hc
  rcases hc with ((rfl | rfl) | rfl) | rfl <;> exact absurd h (by decide)

/-- A word, a symbol, and a word that stand directly after each other. -/
theorem tight_split (a x b : List UInt8) (ha : headIs ltr a = true) (ha2 : a.all prt = true) (hal : a.length ≤ 20) (hx : x ∈ syms) (hb : headIs ltr b = true) (hb2 : b.all prt = true) (hbl : b.length ≤ 20) :
    splitN [] (a ++ (x ++ b)) (1, 1) = ⟨[⟨1, a, 1, 1⟩, ⟨3, x, 1, 1 + a.length⟩, ⟨1, b, 1, 1 + a.length + x.length⟩], 0, 0, 0⟩ := by
  obtain ⟨_, hxl, hxd, hxn⟩ := sym_self x hx
  have han : a ≠ [] := by rintro rfl; cases ha
  have hbn : b ≠ [] := by rintro rfl; cases hb
  obtain ⟨d, b', rfl⟩ : ∃ d b', b = d :: b' := by cases b with | nil => exact absurd rfl hbn | cons d b' => exact ⟨d, b', rfl⟩
  obtain ⟨c, x', rfl⟩ : ∃ c x', x = c :: x' := by cases x with | nil => exact absurd rfl hxn | cons c x' => exact ⟨c, x', rfl⟩
  have hcp : prt c = false := by
    have h1 : ltr c = false := hxl
    have h2 : dgt c = false := hxd
    have h3 : c ≠ 95 := by
      rintro rfl
      have : ∀ x ∈ syms, headIs (· == 95) x = false := by decide
      have := this _ hx
      cases this
    unfold prt
    rw [h1, h2, beq_eq_false_iff_ne.2 h3]; rfl
  have wa := take_word ha ha2
  have wb := take_word hb hb2
  have wx := take_sym hx
  have ga := take_glue a c (x' ++ d :: b') han (fun _ => hcp) (fun h => by rw [ha] at h; cases h)
  have gx := take_glue (c :: x') d b' hxn (fun h => absurd h (by rw [hxl, hxd]; simp)) (fun _ _ => ltr_sepc hb)
  have ea : checkLen a = 0 := if_pos hal
  have eb : checkLen (d :: b') = 0 := if_pos hbl
  rw [splitN_here [] a (c :: x' ++ d :: b') (1, 1) 1 (by simp [han]) (ga.1.trans wa.1) (ga.2.1.trans wa.2.1) (ga.2.2.trans (wa.2.2.trans ea))]
  rw [splitN_here _ (c :: x') (d :: b') _ 3 (by simp) (gx.1.trans wx.1) (gx.2.1.trans wx.2.1) (gx.2.2.trans wx.2.2)]
  have := splitN_here ([] ++ [⟨1, a, 1, 1⟩] ++ [⟨3, c :: x', 1, 1 + a.length⟩]) (d :: b') [] (1, 1 + a.length + (c :: x').length) 1 (by simp) (by rw [List.append_nil]; exact wb.1) (by rw [List.append_nil]; exact wb.2.1) (by rw [List.append_nil]; exact wb.2.2.trans eb)
  rw [List.append_nil] at this
  rw [this, splitN_end _ _ _ rfl]
  rfl

end Go.Proofs.Ytbmejohoifpfhaa
