/-
  Plain mathematics of what is reached: by marking from an address on, and by passes over the memory.
-/
import Derived.Test.YtbmejohoifpfhaaMemHs
namespace Go.Proofs.Ytbmejohoifpfhaa
open Go.RowKit

/-- There is a block at the address. -/
def Dom (l : List Bk) (t : Int) : Prop := ∃ x ∈ l, x.a = t

theorem dom_has {l : List Bk} {t : Int} : Dom l t ↔ ∃ i, HasAt l t i := by
  constructor
  · rintro ⟨x, hx, e⟩
    obtain ⟨i, hi⟩ := List.getElem?_of_mem hx
    exact ⟨i, x, hi, e⟩
  · rintro ⟨i, x, hx, e⟩
    exact ⟨x, List.mem_of_getElem? hx, e⟩

/-- What is reached from these addresses. -/
inductive Rc (l : List Bk) (f : List Int) : Int → Prop
  | root (t : Int) (h : t ∈ f) (hd : Dom l t) : Rc l f t
  | next (x : Bk) (t : Int) (hx : x ∈ l) (h : Rc l f x.a) (ht : t ∈ x.f) (hd : Dom l t) : Rc l f t

theorem Rc.dom {l : List Bk} {f : List Int} {t : Int} (h : Rc l f t) : Dom l t := by cases h <;> assumption

theorem Rc.mono {l : List Bk} {f g : List Int} (hfg : ∀ t ∈ f, t ∈ g) {t : Int} (h : Rc l f t) : Rc l g t := by
  induction h with
  | root t h hd => exact .root t (hfg t h) hd
  | next x t hx _ ht hd ih => exact .next x t hx ih ht hd

/-- The ascending list of what is reached. -/
def IsReach (l : List Bk) (f g : List Int) : Prop := g.Pairwise (· < ·) ∧ ∀ t, t ∈ g ↔ Rc l f t

theorem asc_ext : ∀ {g h : List Int}, g.Pairwise (· < ·) → h.Pairwise (· < ·) → (∀ t, t ∈ g ↔ t ∈ h) → g = h
  | [], [], _, _, _ => rfl
  | [], b :: h, _, _, e => absurd ((e b).2 List.mem_cons_self) (by simp)
  | a :: g, [], _, _, e => absurd ((e a).1 List.mem_cons_self) (by simp)
  | a :: g, b :: h, hg, hh, e => by
    rw [List.pairwise_cons] at hg hh
    have hab : a = b := by
      rcases List.mem_cons.1 ((e a).1 List.mem_cons_self) with h1 | h1
      · exact h1
      · rcases List.mem_cons.1 ((e b).2 List.mem_cons_self) with h2 | h2
        · exact h2.symm
        · have := hh.1 a h1; have := hg.1 b h2; omega
    subst hab
    congr 1
    refine asc_ext hg.2 hh.2 (fun t => ⟨fun ht => ?_, fun ht => ?_⟩)
    · rcases List.mem_cons.1 ((e t).1 (List.mem_cons_of_mem _ ht)) with h1 | h1
      · subst h1; exact absurd (hg.1 t ht) (by omega)
      · exact h1
    · rcases List.mem_cons.1 ((e t).2 (List.mem_cons_of_mem _ ht)) with h1 | h1
      · subst h1; exact absurd (hh.1 t ht) (by omega)
      · exact h1

theorem IsReach.uniq {l : List Bk} {f g h : List Int} (h1 : IsReach l f g) (h2 : IsReach l f h) : g = h :=
  asc_ext h1.1 h2.1 (fun t => (h1.2 t).trans (h2.2 t).symm)

/-- The rest of the memory has no part in it. -/
theorem IsReach.part {l : List Bk} {f g : List Int} (h : IsReach l f g) : IsReach (pickIn g l) f g := by
  have hdom : ∀ t, t ∈ g → Dom (pickIn g l) t := fun t ht => by
    obtain ⟨x, hx, rfl⟩ := ((h.2 t).1 ht).dom
    exact ⟨x, List.mem_filter.2 ⟨hx, decide_eq_true ht⟩, rfl⟩
  refine ⟨h.1, fun t => ?_⟩
  rw [h.2 t]
  constructor
  · intro hr
    induction hr with
    | root t h' hd => exact .root t h' (hdom t ((h.2 t).2 (.root t h' hd)))
    | next x t hx h' ht hd ih => exact .next x t (List.mem_filter.2 ⟨hx, decide_eq_true ((h.2 x.a).2 h')⟩) ih ht (hdom t ((h.2 t).2 (.next x t hx h' ht hd)))
  · intro hr
    induction hr with
    | root t h' hd => exact .root t h' (by obtain ⟨x, hx, e⟩ := hd; exact ⟨x, (List.mem_filter.1 hx).1, e⟩)
    | next x t hx _ ht hd ih => exact .next x t (List.mem_filter.1 hx).1 ih ht (by obtain ⟨x, hx, e⟩ := hd; exact ⟨x, (List.mem_filter.1 hx).1, e⟩)

/-- What is reached reaches no more. -/
theorem IsReach.again {l : List Bk} {f g : List Int} (h : IsReach l f g) : IsReach l g g := by
  refine ⟨h.1, fun t => ⟨fun ht => .root t ht ((h.2 t).1 ht).dom, fun hr => ?_⟩⟩
  induction hr with
  | root t h' _ => exact h'
  | next x t hx _ ht hd ih => exact (h.2 t).2 (.next x t hx ((h.2 x.a).1 ih) ht hd)

/-- What a visit of these addresses adds to what was marked. -/
structure VisIs (l : List Bk) (f vs vs' : List Int) : Prop where
  keep : ∀ t ∈ vs, t ∈ vs'
  all : ∀ t ∈ f, Dom l t → t ∈ vs'
  new : ∀ t ∈ vs', t ∈ vs ∨ (Rc l f t ∧ ∀ x ∈ l, x.a = t → ∀ u ∈ x.f, Dom l u → u ∈ vs')

theorem VisIs.nil (l : List Bk) (vs : List Int) : VisIs l [] vs vs := ⟨fun _ h => h, fun t h => (by cases h), fun _ h => .inl h⟩

/-- An address that adds nothing. -/
theorem VisIs.skip {l : List Bk} {f : List Int} {k : Nat} {vs vk : List Int} {a : Int} (h : VisIs l (f.take k) vs vk) (ha : f[k]? = some a) (hn : ¬ Dom l a ∨ a ∈ vk) : VisIs l (f.take (k + 1)) vs vk := by
  have e : f.take (k + 1) = f.take k ++ [a] := by rw [List.take_add_one, ha]; rfl
  rw [e]
  refine ⟨h.keep, fun t ht hd => ?_, fun t ht => ?_⟩
  · rcases List.mem_append.1 ht with ht | ht
    · exact h.all t ht hd
    · obtain rfl := List.mem_singleton.1 ht
      rcases hn with hn | hn
      · exact absurd hd hn
      · exact hn
  · rcases h.new t ht with h1 | ⟨h1, h2⟩
    · exact .inl h1
    · exact .inr ⟨h1.mono (fun u hu => List.mem_append_left _ hu), h2⟩

/-- An address that is marked and visited. -/
theorem VisIs.mark {l : List Bk} (hl : MemOk l) {f : List Int} {k : Nat} {vs vk v2 : List Int} {x : Bk} (h : VisIs l (f.take k) vs vk) (ha : f[k]? = some x.a) (hx : x ∈ l) (h2 : VisIs l x.f (vk ++ [x.a]) v2) : VisIs l (f.take (k + 1)) vs v2 := by
  have e : f.take (k + 1) = f.take k ++ [x.a] := by rw [List.take_add_one, ha]; rfl
  have hk : ∀ t ∈ vk, t ∈ v2 := fun t ht => h2.keep t (List.mem_append_left _ ht)
  have hroot : Rc l (f.take k ++ [x.a]) x.a := .root _ (List.mem_append_right _ (List.mem_singleton.2 rfl)) ⟨x, hx, rfl⟩
  have hsub : ∀ t, Rc l x.f t → Rc l (f.take k ++ [x.a]) t := fun t ht => by
    induction ht with
    | root t h' hd => exact .next x t hx hroot h' hd
    | next y t hy _ ht hd ih => exact .next y t hy ih ht hd
  rw [e]
  refine ⟨fun t ht => hk t (h.keep t ht), fun t ht hd => ?_, fun t ht => ?_⟩
  · rcases List.mem_append.1 ht with ht | ht
    · exact hk t (h.all t ht hd)
    · obtain rfl := List.mem_singleton.1 ht
      exact h2.keep _ (List.mem_append_right _ (List.mem_singleton.2 rfl))
  · rcases h2.new t ht with h1 | ⟨h1, h3⟩
    · rcases List.mem_append.1 h1 with h1 | h1
      · rcases h.new t h1 with h4 | ⟨h4, h5⟩
        · exact .inl h4
        · exact .inr ⟨h4.mono (fun u hu => List.mem_append_left _ hu), fun y hy hya u hu hd => hk u (h5 y hy hya u hu hd)⟩
      · obtain rfl := List.mem_singleton.1 h1
        refine .inr ⟨hroot, fun y hy hya u hu hd => ?_⟩
        obtain ⟨i, hi⟩ := List.getElem?_of_mem hx
        obtain ⟨j, hj⟩ := List.getElem?_of_mem hy
        obtain rfl := hl.eq hj hi hya
        obtain rfl := Option.some.inj (hi.symm.trans hj)
        exact h2.all u hu hd
    · exact .inr ⟨hsub t h1, h3⟩

/-- What is marked from nothing is what is reached. -/
theorem VisIs.reach {l : List Bk} {f vs : List Int} (h : VisIs l f [] vs) (hd : ∀ t ∈ vs, Dom l t) (t : Int) : t ∈ vs ↔ Rc l f t := by
  constructor
  · intro ht
    rcases h.new t ht with h1 | ⟨h1, _⟩
    · cases h1
    · exact h1
  · intro hr
    induction hr with
    | root t h' hd => exact h.all t h' hd
    | next x t hx _ ht hd ih =>
      rcases h.new _ ih with h1 | ⟨_, h2⟩
      · cases h1
      · exact h2 x hx rfl t ht hd

theorem nodup_sub : ∀ (vs l : List Int), vs.Nodup → (∀ t ∈ vs, t ∈ l) → vs.length ≤ l.length
  | [], _, _, _ => Nat.zero_le _
  | a :: vs, l, hn, hs => by
    rw [List.nodup_cons] at hn
    have ha := hs a List.mem_cons_self
    have := nodup_sub vs (l.erase a) hn.2 (fun t ht => (List.mem_erase_of_ne (fun e : t = a => hn.1 (by rw [← e]; exact ht))).2 (hs t (List.mem_cons_of_mem _ ht)))
    rw [List.length_erase_of_mem ha] at this
    have hp := List.length_pos_of_mem ha
    rw [List.length_cons]
    omega

theorem marked_len {l : List Bk} {vs : List Int} (hn : vs.Nodup) (hs : ∀ t ∈ vs, Dom l t) : vs.length ≤ l.length := by
  have := nodup_sub vs (l.map (·.a)) hn (fun t ht => by obtain ⟨x, hx, rfl⟩ := hs t ht; exact List.mem_map.2 ⟨x, hx, rfl⟩)
  simpa using this

/-- Sound: what a pass sees. -/
def Sound (l : List Bk) (f S : List Int) : Prop := ∀ t ∈ S, t ∈ f ∨ ∃ x ∈ l, Rc l f x.a ∧ t ∈ x.f

theorem Sound.rc {l : List Bk} {f S : List Int} (h : Sound l f S) {t : Int} (ht : t ∈ S) (hd : Dom l t) : Rc l f t := by
  rcases h t ht with h1 | ⟨x, hx, h1, h2⟩
  · exact .root t h1 hd
  · exact .next x t hx h1 h2 hd

theorem Sound.add {l : List Bk} {f S : List Int} (h : Sound l f S) {x : Bk} (hx : x ∈ l) (ha : x.a ∈ S) : Sound l f (S ++ x.f) := fun t ht => by
  rcases List.mem_append.1 ht with ht | ht
  · exact h t ht
  · exact .inr ⟨x, hx, h.rc ha ⟨x, hx, rfl⟩, ht⟩

/-- Nothing more is added. -/
def Closed (l : List Bk) (S : List Int) : Prop := ∀ x ∈ l, x.a ∈ S → ∀ t ∈ x.f, t ∈ S

def act (l : List Bk) (S : List Int) : Nat := l.countP (fun x => decide (x.a ∈ S))

/-- Within a pass that began with S. -/
structure Pass (l : List Bk) (f S : List Int) (i : Nat) (T : List Int) : Prop where
  sound : Sound l f T
  sub : ∀ t ∈ S, t ∈ T
  did : ∀ (j : Nat) x, j < i → l[j]? = some x → x.a ∈ S → ∀ t ∈ x.f, t ∈ T
  same : Closed l S → ∀ t ∈ T, t ∈ S

theorem Pass.start {l : List Bk} {f S : List Int} (h : Sound l f S) : Pass l f S 0 S := ⟨h, fun _ h => h, fun j x hj => absurd hj (Nat.not_lt_zero j), fun _ _ h => h⟩

theorem Pass.next {l : List Bk} {f S T : List Int} {i : Nat} {x : Bk} (h : Pass l f S i T) (hx : l[i]? = some x) : (x.a ∈ T → Pass l f S (i + 1) (T ++ x.f)) ∧ (x.a ∉ T → Pass l f S (i + 1) T) := by
  have hm := List.mem_of_getElem? hx
  refine ⟨fun ha => ⟨h.sound.add hm ha, fun t ht => List.mem_append_left _ (h.sub t ht), fun j y hj hy hs t ht => ?_, fun hc t ht => ?_⟩, fun ha => ⟨h.sound, h.sub, fun j y hj hy hs t ht => ?_, h.same⟩⟩
  · by_cases e : j = i
    · subst e
      obtain rfl := Option.some.inj (hx.symm.trans hy)
      exact List.mem_append_right _ ht
    · exact List.mem_append_left _ (h.did j y (by omega) hy hs t ht)
  · rcases List.mem_append.1 ht with ht | ht
    · exact h.same hc t ht
    · exact hc x hm (h.same hc _ ha) t ht
  · by_cases e : j = i
    · subst e
      obtain rfl := Option.some.inj (hx.symm.trans hy)
      exact absurd (h.sub _ hs) ha
    · exact h.did j y (by omega) hy hs t ht

theorem countP_le_of {α : Type} (p q : α → Bool) (hpq : ∀ x, p x = true → q x = true) : ∀ (l : List α), l.countP p ≤ l.countP q ∧ (l.countP p = l.countP q → ∀ x ∈ l, q x = true → p x = true)
  | [] => ⟨Nat.le_refl _, fun _ x hx => (by cases hx)⟩
  | y :: l => by
    obtain ⟨h1, h2⟩ := countP_le_of p q hpq l
    rw [List.countP_cons, List.countP_cons]
    cases hp : p y with
    | true =>
      rw [hpq y hp]
      refine ⟨by simpa using h1, fun e x hx hq => ?_⟩
      rcases List.mem_cons.1 hx with rfl | hx
      · exact hp
      · exact h2 (by simpa using e) x hx hq
    | false =>
      cases hq : q y with
      | true => refine ⟨by simp; omega, fun e => ?_⟩; simp at e; omega
      | false =>
        refine ⟨by simpa using h1, fun e x hx hq' => ?_⟩
        rcases List.mem_cons.1 hx with rfl | hx
        · rw [hq] at hq'; cases hq'
        · exact h2 (by simpa using e) x hx hq'

/-- Behind n passes nothing more is added, or at least n blocks are reached. -/
def Done (l : List Bk) (n : Nat) (S : List Int) : Prop := Closed l S ∨ n ≤ act l S

theorem Pass.done {l : List Bk} {f S T : List Int} {n i : Nat} (h : Pass l f S i T) (hi : l.length ≤ i) (hd : Done l n S) : Done l (n + 1) T := by
  have hle := countP_le_of (fun x : Bk => decide (x.a ∈ S)) (fun x => decide (x.a ∈ T)) (fun x hx => decide_eq_true (h.sub _ (of_decide_eq_true hx))) l
  by_cases hc : Closed l S
  · refine .inl (fun x hx ha t ht => h.sub t (hc x hx (h.same hc _ ha) t ht))
  · rcases hd with hd | hd
    · exact absurd hd hc
    · by_cases e : act l S = act l T
      · refine .inl (fun x hx ha t ht => ?_)
        have := of_decide_eq_true (hle.2 e x hx (decide_eq_true ha))
        obtain ⟨j, hj⟩ := List.getElem?_of_mem hx
        exact h.did j x (by have := (List.getElem?_eq_some_iff.1 hj).1; omega) hj this t ht
      · refine .inr ?_
        have := hle.1
        unfold act at hd e ⊢
        omega

theorem Done.closed {l : List Bk} {n : Nat} {S : List Int} (h : Done l n S) (hn : l.length < n) : Closed l S := by
  rcases h with h | h
  · exact h
  · have : act l S ≤ l.length := List.countP_le_length
    omega

/-- The addresses that are seen. -/
def seenIn (S : List Int) (l : List Bk) : List Int := (l.filter (fun x => decide (x.a ∈ S))).map (·.a)

theorem seenIn_next {S : List Int} {l : List Bk} {k : Nat} {x : Bk} (hx : l[k]? = some x) : seenIn S (l.take (k + 1)) = seenIn S (l.take k) ++ (if x.a ∈ S then [x.a] else []) := by
  unfold seenIn
  rw [List.take_add_one, hx, List.filter_append, List.map_append]
  by_cases h : x.a ∈ S <;> simp [h]

theorem seen_reach {l : List Bk} (hl : MemOk l) {f S : List Int} (hs : Sound l f S) (hr : ∀ t ∈ f, t ∈ S) (hc : Closed l S) : IsReach l f (seenIn S l) := by
  refine ⟨?_, fun t => ?_⟩
  · unfold seenIn
    rw [List.pairwise_map]
    refine List.Pairwise.filter _ ?_
    rw [List.pairwise_iff_getElem]
    intro i j hi hj hij
    exact hl.lt hij (List.getElem?_eq_getElem hi) (List.getElem?_eq_getElem hj)
  · unfold seenIn
    rw [List.mem_map]
    constructor
    · rintro ⟨x, hx, rfl⟩
      obtain ⟨h1, h2⟩ := List.mem_filter.1 hx
      exact hs.rc (of_decide_eq_true h2) ⟨x, h1, rfl⟩
    · intro h
      have ht : t ∈ S := by
        induction h with
        | root t h' _ => exact hr t h'
        | next x t hx _ ht _ ih => exact hc x hx ih t ht
      obtain ⟨x, hx, rfl⟩ := h.dom
      exact ⟨x, List.mem_filter.2 ⟨hx, decide_eq_true ht⟩, rfl⟩

end Go.Proofs.Ytbmejohoifpfhaa
