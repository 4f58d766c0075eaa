/-
  Plain mathematics of a store's Set: the code's way, the reference's way, what it does to names.
-/
import Derived.Test.YtbmejohoifpfhaaGreatDoorValE
namespace Go.Proofs.YtbmejohoifpfhaaGreatDoor
open Go.RowKit

/-- The store with the name at its place. -/
def setL (S : List Bd) (t : List UInt8) (v : Int) (i : Nat) (has : Bool) : List Bd := S.take i ++ ⟨t, v⟩ :: S.drop (if has then i + 1 else i)

theorem StOk.pw {l : List Bd} (h : StOk l) : (∀ x ∈ l, BdOk x) ∧ l.Pairwise (fun x y => Op.bytesLess x.n y.n = true) := by
  refine ⟨fun x hx => ?_, ?_⟩
  · obtain ⟨i, hi⟩ := List.getElem?_of_mem hx
    exact (h i x hi).1
  · rw [List.pairwise_iff_getElem]
    intro i j hi hj hij
    exact h.lt hij (List.getElem?_eq_getElem hi) (List.getElem?_eq_getElem hj)

theorem StOk.of_pw {l : List Bd} (h1 : ∀ x ∈ l, BdOk x) (h2 : l.Pairwise (fun x y => Op.bytesLess x.n y.n = true)) : StOk l := by
  intro i x hx
  refine ⟨h1 x (List.mem_of_getElem? hx), fun y h0 hy => ?_⟩
  rw [List.pairwise_iff_getElem] at h2
  obtain ⟨hi, e1⟩ := List.getElem?_eq_some_iff.1 hx
  obtain ⟨hj, e2⟩ := List.getElem?_eq_some_iff.1 hy
  rw [← e1, ← e2]
  exact h2 _ _ hj hi (by omega)

/-- A name's place parts the store: smaller names before it, greater ones behind it. -/
structure Cut (S : List Bd) (t : List UInt8) (i : Nat) (has : Bool) : Prop where
  le : i ≤ S.length
  pre : ∀ x ∈ S.take i, Op.bytesLess x.n t = true
  post : ∀ x ∈ S.drop (if has then i + 1 else i), Op.bytesLess t x.n = true
  at_ : has = true → ∃ x, S[i]? = some x ∧ x.n = t

theorem cut_of {S : List Bd} (hS : StOk S) {t : List UInt8} {i : Nat} {has : Bool} (h1 : IsLbN S t i) (h2 : Tells has (HasN S t i)) : Cut S t i has := by
  refine ⟨h1.1, fun x hx => ?_, fun x hx => ?_, fun h => ?_⟩
  · obtain ⟨k, hk⟩ := List.getElem?_of_mem hx
    rw [List.getElem?_take] at hk
    split at hk
    · rename_i hlt; exact h1.2.1 k x hlt hk
    · cases hk
  · obtain ⟨k, hk⟩ := List.getElem?_of_mem hx
    rw [List.getElem?_drop] at hk
    cases has
    · simp only [Bool.false_eq_true, if_false] at hk
      have h3 := h1.2.2 (i + k) x (by omega) hk
      cases h4 : Op.bytesLess t x.n with
      | true => rfl
      | false =>
        have e := bl_tri h3 h4
        have hi : IsLbN S t (i + k) := HasN.lb ⟨x, hk, e⟩ hS
        have := hi.uniq h1
        have : k = 0 := by omega
        subst this
        exact absurd ⟨x, hk, e⟩ h2.f
    · simp only [if_true] at hk
      obtain ⟨y, hy, rfl⟩ := h2.t
      exact hS.lt (by omega) hy hk
  · subst h; exact h2.t

theorem Cut.parts {S : List Bd} {t : List UInt8} {i : Nat} {has : Bool} (h : Cut S t i has) : ∃ m : List Bd, S = S.take i ++ (m ++ S.drop (if has then i + 1 else i)) ∧ (∀ x ∈ m, x.n = t) ∧ m.length = (if has then 1 else 0) := by
  cases has
  · exact ⟨[], by simp, fun x hx => (by cases hx), rfl⟩
  · obtain ⟨x, hx, e⟩ := h.at_ rfl
    refine ⟨[x], ?_, fun y hy => by obtain rfl := List.mem_singleton.1 hy; exact e, rfl⟩
    obtain ⟨hi, hx⟩ := List.getElem?_eq_some_iff.1 hx
    have : S.drop i = x :: S.drop (i + 1) := by rw [List.drop_eq_getElem_cons hi, hx]
    simp only [if_true]
    rw [show [x] ++ S.drop (i + 1) = S.drop i from this.symm, List.take_append_drop]

theorem Cut.ok {S : List Bd} (hS : StOk S) {t : List UInt8} {v : Int} {i : Nat} {has : Bool} (h : Cut S t i has) (hb : BdOk ⟨t, v⟩) : StOk (setL S t v i has) := by
  obtain ⟨m, e, _, _⟩ := h.parts
  have hp := hS.pw
  refine .of_pw (fun x hx => ?_) ?_
  · unfold setL at hx
    rcases List.mem_append.1 hx with hx | hx
    · exact hp.1 x (List.mem_of_mem_take hx)
    · rcases List.mem_cons.1 hx with rfl | hx
      · exact hb
      · exact hp.1 x (List.mem_of_mem_drop hx)
  · unfold setL
    rw [List.pairwise_append]
    refine ⟨hp.2.sublist (List.take_sublist _ _), ?_, fun a ha b hb => ?_⟩
    · rw [List.pairwise_cons]
      exact ⟨fun x hx => h.post x hx, hp.2.sublist (List.drop_sublist _ _)⟩
    · rcases List.mem_cons.1 hb with rfl | hb
      · exact h.pre a ha
      · exact bl_trans (h.pre a ha) (h.post b hb)

theorem getS_skip {u : List UInt8} {y : Bd} (hy : y.n ≠ u) : ∀ (l r : List Bd), getS (l ++ y :: r) u = getS (l ++ r) u
  | [], r => by
    show getS (y :: r) u = getS r u
    rw [getS, if_neg hy]
  | x :: l, r => by
    show getS (x :: (l ++ y :: r)) u = getS (x :: (l ++ r)) u
    rw [getS, getS, getS_skip hy l r]

theorem getS_skips {u : List UInt8} (l r : List Bd) : ∀ (m : List Bd), (∀ y ∈ m, y.n ≠ u) → getS (l ++ (m ++ r)) u = getS (l ++ r) u
  | [], _ => rfl
  | y :: m, h => by
    show getS (l ++ y :: (m ++ r)) u = _
    rw [getS_skip (h y (by simp)), getS_skips l r m (fun z hz => h z (by simp [hz]))]

theorem Cut.other {S : List Bd} {t u : List UInt8} {v : Int} {i : Nat} {has : Bool} (h : Cut S t i has) (hu : u ≠ t) : getS (setL S t v i has) u = getS S u := by
  obtain ⟨m, e, hm, _⟩ := h.parts
  unfold setL
  rw [getS_skip (y := ⟨t, v⟩) (fun e => hu e.symm)]
  conv => rhs; rw [e]
  rw [getS_skips _ _ _ (fun y hy e2 => hu ((hm y hy) ▸ e2).symm)]

theorem Cut.same {S : List Bd} (hS : StOk S) {t : List UInt8} {v : Int} {i : Nat} {has : Bool} (h : Cut S t i has) (hb : BdOk ⟨t, v⟩) : getS (setL S t v i has) t = (v, 0) := by
  have hl : (S.take i).length = i := by rw [List.length_take]; have := h.le; omega
  have hi : (setL S t v i has)[i]? = some ⟨t, v⟩ := by
    unfold setL
    rw [List.getElem?_append_right (by omega), hl, Nat.sub_self]; rfl
  exact getS_has (h.ok hS hb) hi

theorem Cut.had {S : List Bd} (hS : StOk S) {t : List UInt8} {i : Nat} {has : Bool} (h : Cut S t i has) : getB S t = has := by
  unfold getB
  cases has
  · have : NoN S t := fun k x hx e => by
      have hm : x ∈ S := List.mem_of_getElem? hx
      rw [← List.take_append_drop i S] at hm
      rcases List.mem_append.1 hm with hm | hm
      · exact bl_ne (h.pre x hm) e
      · exact bl_ne (h.post x (by simpa using hm)) e.symm
    rw [getS_no this]; rfl
  · obtain ⟨x, hx, rfl⟩ := h.at_ rfl
    rw [getS_has hS hx]; rfl

theorem Cut.len {S : List Bd} {t : List UInt8} {v : Int} {i : Nat} {has : Bool} (h : Cut S t i has) : (setL S t v i has).length = S.length + (if has then 0 else 1) := by
  have hle := h.le
  unfold setL
  rw [List.length_append, List.length_take, List.length_cons, List.length_drop]
  cases has
  · simp only [Bool.false_eq_true, if_false]; omega
  · obtain ⟨x, hx, _⟩ := h.at_ rfl
    have := (List.getElem?_eq_some_iff.1 hx).1
    simp only [if_true]; omega

/-- One round of the reference. -/
def stepR (t : List UInt8) (v : Int) (p : List Bd × Bool) (b : Bd) : List Bd × Bool :=
  if b.n = t then p else if p.2 = false ∧ Op.bytesLess t b.n = true then (p.1 ++ [⟨t, v⟩] ++ [b], true) else (p.1 ++ [b], p.2)

/-- The reference's rows behind some rounds. -/
def outR (S : List Bd) (t : List UInt8) (v : Int) (k : Nat) : List Bd × Bool := (S.take k).foldl (stepR t v) ([], false)

theorem outR_next {S : List Bd} {t : List UInt8} {v : Int} {k : Nat} {x : Bd} (h : S[k]? = some x) : outR S t v (k + 1) = stepR t v (outR S t v k) x := by
  unfold outR
  rw [List.take_add_one, h, List.foldl_append]; rfl

theorem fold_lt {t : List UInt8} {v : Int} : ∀ (l : List Bd) (o : List Bd) (d : Bool), (∀ x ∈ l, Op.bytesLess x.n t = true) → l.foldl (stepR t v) (o, d) = (o ++ l, d)
  | [], o, d, _ => by simp
  | x :: l, o, d, h => by
    have hx := h x (by simp)
    have : stepR t v (o, d) x = (o ++ [x], d) := by
      unfold stepR
      rw [if_neg (bl_ne hx), if_neg (fun ⟨_, e⟩ => by rw [bl_asymm hx] at e; cases e)]
    rw [List.foldl_cons, this, fold_lt l _ d (fun y hy => h y (by simp [hy]))]; simp

theorem fold_gt {t : List UInt8} {v : Int} : ∀ (l : List Bd) (o : List Bd), (∀ x ∈ l, Op.bytesLess t x.n = true) → l.foldl (stepR t v) (o, true) = (o ++ l, true)
  | [], o, _ => by simp
  | x :: l, o, h => by
    have hx := h x (by simp)
    have : stepR t v (o, true) x = (o ++ [x], true) := by
      unfold stepR
      rw [if_neg (fun e => bl_ne hx e.symm), if_neg (fun ⟨e, _⟩ => by cases e)]
    rw [List.foldl_cons, this, fold_gt l _ (fun y hy => h y (by simp [hy]))]; simp

theorem fold_eq {t : List UInt8} {v : Int} (p : List Bd × Bool) : ∀ (l : List Bd), (∀ x ∈ l, x.n = t) → l.foldl (stepR t v) p = p
  | [], _ => rfl
  | x :: l, h => by
    rw [List.foldl_cons, stepR, if_pos (h x (by simp)), fold_eq p l (fun y hy => h y (by simp [hy]))]

/-- What the reference returns. -/
def endR (t : List UInt8) (v : Int) (p : List Bd × Bool) : List Bd := if p.2 then p.1 else p.1 ++ [⟨t, v⟩]

theorem Cut.ref {S : List Bd} {t : List UInt8} {v : Int} {i : Nat} {has : Bool} (h : Cut S t i has) {k : Nat} (hk : S.length ≤ k) : endR t v (outR S t v k) = setL S t v i has := by
  obtain ⟨m, e, hm, _⟩ := h.parts
  unfold outR
  rw [List.take_of_length_le hk]
  conv => lhs; rw [e]
  rw [List.foldl_append, List.foldl_append, fold_lt _ _ _ h.pre, fold_eq _ _ hm]
  have hpo := h.post
  unfold setL
  generalize S.drop (if has then i + 1 else i) = D at hpo ⊢
  cases D with
  | nil => simp [endR]
  | cons x D =>
    have hx := hpo x (by simp)
    have : stepR t v ([] ++ S.take i, false) x = (([] ++ S.take i) ++ [⟨t, v⟩] ++ [x], true) := by
      unfold stepR
      rw [if_neg (fun e => bl_ne hx e.symm), if_pos ⟨rfl, hx⟩]
    rw [List.foldl_cons, this, fold_gt _ _ (fun y hy => hpo y (by simp [hy]))]
    simp [endR]

theorem outR_len (S : List Bd) (t : List UInt8) (v : Int) (k : Nat) : (outR S t v k).1.length ≤ 2 * k := by
  have : ∀ (l : List Bd) (p : List Bd × Bool), (l.foldl (stepR t v) p).1.length ≤ p.1.length + 2 * l.length := by
    intro l
    induction l with
    | nil => intro p; simp
    | cons x l ih =>
      intro p
      rw [List.foldl_cons]
      have h1 := ih (stepR t v p x)
      have h2 : (stepR t v p x).1.length ≤ p.1.length + 2 := by
        unfold stepR
        split
        · omega
        · split <;> simp
      rw [List.length_cons]; omega
  have h := this (S.take k) ([], false)
  have h3 : (S.take k).length ≤ k := by rw [List.length_take]; omega
  unfold outR
  simp only [List.length_nil] at h
  omega

end Go.Proofs.YtbmejohoifpfhaaGreatDoor
