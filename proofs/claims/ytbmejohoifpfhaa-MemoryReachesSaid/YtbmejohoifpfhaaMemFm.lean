/-
  Plain mathematics of the frame: what is done to a block of one of two disjoint memories is done to it in their join.
-/
import Derived.Test.YtbmejohoifpfhaaMemJm
import Derived.Test.YtbmejohoifpfhaaMemWm
import Derived.Test.YtbmejohoifpfhaaMemN
namespace Go.Proofs.Ytbmejohoifpfhaa

theorem MemOk.all {l : List Bk} (h : MemOk l) {x : Bk} (hx : x ∈ l) : BkOk x := by
  obtain ⟨i, hi⟩ := List.getElem?_of_mem hx
  exact (h.2 i x hi).1

theorem MemOk.of {l : List Bk} (h1 : l.length ≤ 100) (h2 : ∀ x ∈ l, BkOk x) (h3 : Asc l) : MemOk l :=
  ⟨h1, fun i x hx => ⟨h2 x (List.mem_of_getElem? hx), fun y h0 hy => h3 (i - 1) i y x (by omega) hy hx⟩⟩

/-- W is the join of l and m. -/
structure Joined (l m W : List Bk) : Prop where
  okl : MemOk l
  okm : MemOk m
  apart : ¬ Meets l m
  len : l.length + m.length ≤ 80
  perm : W.Perm (l ++ m)
  asc : Asc W

theorem Joined.ok {l m W : List Bk} (h : Joined l m W) : MemOk W := by
  refine MemOk.of (by have := h.perm.length_eq; rw [List.length_append] at this; have := h.len; omega) (fun x hx => ?_) h.asc
  rcases List.mem_append.1 (h.perm.mem_iff.1 hx) with hx | hx
  · exact h.okl.all hx
  · exact h.okm.all hx

theorem Joined.size {l m W : List Bk} (h : Joined l m W) : W.length ≤ 80 := by
  have := h.perm.length_eq
  rw [List.length_append] at this
  have := h.len
  omega

theorem Joined.has {l m W : List Bk} (h : Joined l m W) {i : Nat} {x : Bk} (hx : l[i]? = some x) : ∃ j : Nat, W[j]? = some x :=
  List.getElem?_of_mem (h.perm.mem_iff.2 (List.mem_append.2 (.inl (List.mem_of_getElem? hx))))

/-- An access that succeeds in a part succeeds in the whole. -/
theorem Joined.access {l m W : List Bk} (h : Joined l m W) {t : Int} {rc : List UInt8} {fd : Int} {i : Nat} {v : Int} (ha : Access l t rc fd i v 0) :
    ∃ (x : Bk) (j : Nat), l[i]? = some x ∧ x.a = t ∧ W[j]? = some x ∧ Access W t rc fd j v 0 ∧ x.r = rc ∧ 0 ≤ fd ∧ x.f[fd.toNat]? = some v := by
  obtain ⟨x, h1, hx, hr, h0, hf, ht, y, hy, hyt⟩ := access_ok ha
  obtain rfl : x = y := Option.some.inj (hx.symm.trans hy)
  obtain ⟨j, hj⟩ := h.has hx
  exact ⟨x, j, hx, hyt, hj, .inr (.inr (.inr ⟨x, .inr (.inr (.inr ⟨h.ok, ht, ⟨x, hj, hyt⟩, rfl⟩)), hj, hr, h0, hf, rfl⟩)), hr, h0, hf⟩

def others (l : List Bk) (i : Nat) : List Bk := l.take i ++ l.drop (i + 1)

theorem others_perm {l : List Bk} {i : Nat} {x : Bk} (h : l[i]? = some x) : l.Perm (x :: others l i) := by
  obtain ⟨hi, rfl⟩ := List.getElem?_eq_some_iff.1 h
  have h1 : l = l.take i ++ l[i] :: l.drop (i + 1) := by simp
  exact (List.Perm.of_eq h1).trans List.perm_middle

theorem put_perm {l : List Bk} {i : Nat} {x : Bk} (h : l[i]? = some x) (y : Bk) : (l.set i y).Perm (y :: others l i) := by
  obtain ⟨hi, rfl⟩ := List.getElem?_eq_some_iff.1 h
  have h1 : l.set i y = l.take i ++ y :: l.drop (i + 1) := List.set_eq_take_append_cons_drop ▸ by rw [if_pos hi]
  exact (List.Perm.of_eq h1).trans List.perm_middle

theorem Joined.rest {l m W : List Bk} (h : Joined l m W) {i j : Nat} {x : Bk} (hi : l[i]? = some x) (hj : W[j]? = some x) : (others W j).Perm (others l i ++ m) := by
  have h1 : (x :: others W j).Perm (x :: (others l i ++ m)) := (others_perm hj).symm.trans (h.perm.trans ((others_perm hi).append_right m))
  exact h1.cons_inv

theorem Asc.of_pairwise {l : List Bk} (h : l.Pairwise (fun x y => x.a < y.a)) : Asc l := fun i j x y hij hx hy => by
  obtain ⟨hi, rfl⟩ := List.getElem?_eq_some_iff.1 hx
  obtain ⟨hj, rfl⟩ := List.getElem?_eq_some_iff.1 hy
  exact List.pairwise_iff_getElem.1 h i j hi hj hij

theorem Asc.pairwise {l : List Bk} (h : Asc l) : l.Pairwise (fun x y => x.a < y.a) :=
  List.pairwise_iff_getElem.2 fun i j hi hj hij => h i j _ _ hij (List.getElem?_eq_getElem hi) (List.getElem?_eq_getElem hj)

theorem others_sub (l : List Bk) (i : Nat) : (others l i).Sublist l := by
  unfold others
  have h : l.take i ++ l.drop i = l := List.take_append_drop i l
  have h2 : (l.drop (i + 1)).Sublist (l.drop i) := by
    rw [← List.drop_drop]
    exact List.drop_sublist _ _
  have h3 := h2.append_left (l.take i)
  rwa [h] at h3

theorem Asc.others {l : List Bk} (h : Asc l) (i : Nat) : Asc (others l i) := .of_pairwise (h.pairwise.sublist (others_sub l i))

theorem MemOk.others {l : List Bk} (h : MemOk l) (i : Nat) : MemOk (others l i) :=
  .of (Nat.le_trans (others_sub l i).length_le h.1) (fun _ hx => h.all ((others_sub l i).subset hx)) (h.asc.others i)

/-- A block changed but for its address. -/
theorem Asc.put {l : List Bk} (h : Asc l) {i : Nat} {x : Bk} (hx : l[i]? = some x) {y : Bk} (hy : y.a = x.a) : Asc (l.set i y) := by
  have key : ∀ (k : Nat) z, (l.set i y)[k]? = some z → ∃ u, l[k]? = some u ∧ u.a = z.a := fun k z hz => by
    by_cases e : i = k
    · subst e
      have := (List.getElem?_eq_some_iff.1 hx).1
      rw [List.getElem?_set_self this] at hz
      obtain rfl := Option.some.inj hz
      exact ⟨x, hx, hy.symm⟩
    · rw [List.getElem?_set_ne e] at hz
      exact ⟨z, hz, rfl⟩
  intro a b u v hab hu hv
  obtain ⟨u', h1, h2⟩ := key a u hu
  obtain ⟨v', h3, h4⟩ := key b v hv
  have := h a b u' v' hab h1 h3
  omega

theorem MemOk.put {l : List Bk} (h : MemOk l) {i : Nat} {x : Bk} (hx : l[i]? = some x) {y : Bk} (hy : y.a = x.a) (hb : BkOk y) : MemOk (l.set i y) :=
  .of (by rw [List.length_set]; exact h.1) (fun z hz => by
    rcases List.mem_or_eq_of_mem_set hz with hz | rfl
    · exact h.all hz
    · exact hb) (h.asc.put hx hy)

theorem BkOk.write {x : Bk} (h : BkOk x) {val : Int} (hv : InR val) (k : Nat) : BkOk ⟨x.a, x.r, x.f.set k val⟩ :=
  ⟨h.1, h.2.1, by show 1 ≤ (x.f.set k val).length ∧ _; rw [List.length_set]; exact h.2.2.1, fun n hn => by
    rcases List.mem_or_eq_of_mem_set hn with hn | rfl
    · exact h.2.2.2 n hn
    · exact hv⟩

theorem JoinIs.ok_of {l m y : List Bk} {e : Int} (h : JoinIs l m y e) (h1 : MemOk l) (h2 : MemOk m) (h3 : ¬ Meets l m) (h4 : l.length + m.length ≤ 80) : e = 0 ∧ Joined l m y := by
  rcases h with ⟨g, _⟩ | ⟨_, _, g, _⟩ | ⟨_, _, _, g, _⟩ | ⟨_, _, _, _, g1, g2, rfl⟩
  · exact absurd ⟨h1, h2⟩ g
  · exact absurd g h3
  · omega
  · exact ⟨rfl, h1, h2, h3, h4, g1, g2⟩

theorem JoinIs.zero {l m y : List Bk} {e : Int} (h : JoinIs l m y e) (he : e = 0) (hl : l.length ≤ 40) (hm : m.length ≤ 40) : Joined l m y := by
  rcases h with ⟨_, _, g⟩ | ⟨_, _, _, _, g⟩ | ⟨_, _, _, _, _, g⟩ | ⟨g1, g2, g3, g4, g5, g6, _⟩
  · omega
  · omega
  · omega
  · exact ⟨g1, g2, g3, by omega, g5, g6⟩

/-- Writing in a part, and in the whole. -/
theorem Joined.write {l m W : List Bk} (h : Joined l m W) {i j : Nat} {x : Bk} (hi : l[i]? = some x) (hj : W[j]? = some x) {val : Int} (hv : InR val) (k : Nat) {y : List Bk} {e : Int}
    (hJ : JoinIs (l.set i ⟨x.a, x.r, x.f.set k val⟩) m y e) : e = 0 ∧ y = W.set j ⟨x.a, x.r, x.f.set k val⟩ ∧ MemOk y := by
  have hb := (h.okl.2 i x hi).1.write hv k
  have hok := h.okl.put hi (y := ⟨x.a, x.r, x.f.set k val⟩) rfl hb
  have hap : ¬ Meets (l.set i ⟨x.a, x.r, x.f.set k val⟩) m := by
    rintro ⟨u, hu, v, hv, e⟩
    rcases List.mem_or_eq_of_mem_set hu with hu | rfl
    · exact h.apart ⟨u, hu, v, hv, e⟩
    · exact h.apart ⟨x, List.mem_of_getElem? hi, v, hv, e⟩
  obtain ⟨h1, h2⟩ := hJ.ok_of hok h.okm hap (by rw [List.length_set]; exact h.len)
  refine ⟨h1, h2.asc.uniq (h.asc.put hj rfl) (h2.perm.trans ?_), h2.ok⟩
  exact (((put_perm hi _).append_right m).trans ((h.rest hi hj).symm.cons _)).trans (put_perm hj _).symm

/-- Freeing in a part, and in the whole. -/
theorem Joined.free {l m W : List Bk} (h : Joined l m W) {i j : Nat} {x : Bk} (hi : l[i]? = some x) (hj : W[j]? = some x) {y : List Bk} {e : Int}
    (hJ : JoinIs (others l i) m y e) : e = 0 ∧ y = others W j ∧ MemOk y := by
  have hap : ¬ Meets (others l i) m := by
    rintro ⟨u, hu, v, hv, e⟩
    exact h.apart ⟨u, (others_sub l i).subset hu, v, hv, e⟩
  obtain ⟨h1, h2⟩ := hJ.ok_of (h.okl.others i) h.okm hap (by have := (others_sub l i).length_le; have := h.len; omega)
  exact ⟨h1, h2.asc.uniq (h.asc.others j) (h2.perm.trans (h.rest hi hj).symm), h2.ok⟩

/-- Where a block was freed there is none. -/
theorem others_no {W : List Bk} (hW : Asc W) {j : Nat} {x : Bk} (hj : W[j]? = some x) : NoAt (others W j) x.a := by
  intro k z hz e
  have hp := hW.pairwise
  have h1 : (x :: others W j).Pairwise (fun a b => a.a ≠ b.a) := (others_perm hj).pairwise_iff (fun h e => h e.symm) |>.1 (hp.imp (fun h e => by omega))
  exact (List.pairwise_cons.1 h1).1 z (List.mem_of_getElem? hz) e.symm

theorem Joined.dead {W : List Bk} (hW : MemOk W) {j : Nat} {x : Bk} (hj : W[j]? = some x) {t : Int} (hx : x.a = t) (ht : t ≠ 0) (rc : List UInt8) (fd : Int) : Access (others W j) t rc fd 0 0 16 :=
  .inl ⟨.inr (.inr (.inl ⟨hW.others j, ht, hx ▸ others_no hW.asc hj, rfl, rfl⟩)), by decide, rfl⟩

theorem count_more {α : Type} (p q : α → Bool) (hpq : ∀ x, p x = true → q x = true) : ∀ {l : List α}, (∃ x ∈ l, p x = false ∧ q x = true) → l.countP p + 1 ≤ l.countP q
  | [], ⟨x, hx, _⟩ => by cases hx
  | y :: l, ⟨x, hx, h1, h2⟩ => by
    have hm : l.countP p ≤ l.countP q := List.countP_mono_left fun x _ h => hpq x h
    rw [List.countP_cons, List.countP_cons]
    rcases List.mem_cons.1 hx with rfl | hx
    · rw [h1, h2]; simp; omega
    · have := count_more p q hpq ⟨x, hx, h1, h2⟩
      have h3 := hpq y
      cases hp : p y
      · simp; omega
      · rw [h3 hp]; simp; omega

theorem free_count (l : List Bk) : ∀ m, m ≤ freeBelow l m + l.countP (fun x => decide (x.a ≤ (m : Int)))
  | 0 => Nat.zero_le _
  | m + 1 => by
    have ih := free_count l m
    have hm : l.countP (fun x => decide (x.a ≤ (m : Int))) ≤ l.countP (fun x => decide (x.a ≤ ((m + 1 : Nat) : Int))) :=
      List.countP_mono_left fun x _ h => by simp only [decide_eq_true_eq] at h ⊢; omega
    rcases at_or_not l ((m + 1 : Nat) : Int) with ⟨i, hi⟩ | hn
    · rw [free_no hi]
      obtain ⟨x, hx, hxa⟩ := hi
      have := count_more (l := l) (fun x => decide (x.a ≤ (m : Int))) (fun x => decide (x.a ≤ ((m + 1 : Nat) : Int))) (fun x h => by simp only [decide_eq_true_eq] at h ⊢; omega)
        ⟨x, List.mem_of_getElem? hx, by simp only [decide_eq_false_iff_not]; omega, by simp only [decide_eq_true_eq]; omega⟩
      omega
    · rw [free_yes hn]
      omega

/-- A new block's address is small. -/
theorem free_small {l : List Bk} {k : Nat} {a : Int} (h : IsFree l k a) (hk : k ≤ 3) (hl : l.length ≤ 80) : 1 ≤ a ∧ a ≤ 1048576 ∧ NoAt l a := by
  obtain ⟨m, rfl, h1, h2⟩ := h
  have h3 := free_count l m
  have h4 := List.countP_le_length (p := fun x : Bk => decide (x.a ≤ (m : Int))) (l := l)
  exact ⟨by omega, by omega, h1⟩

/-- The whole with a new block. -/
structure NewIn (W : List Bk) (rc : List UInt8) (at_ : Int) (i : Nat) (M : List Bk) : Prop where
  ok : MemOk M
  no : NoAt W at_
  ne : at_ ≠ 0
  has : M[i]? = some ⟨at_, rc, [0, 0]⟩
  back : others M i = W

theorem new_in {W : List Bk} (hW : MemOk W) (hl : W.length ≤ 80) {ch : Int} {rc : List UInt8} (hrc : nameL rc = true) {M : List Bk} {a e : Int} (h : NewIs W ch rc 2 M a e) : e = 0 ∧ ∃ i, NewIn W rc a i M := by
  rcases h with ⟨h, _⟩ | ⟨_, h, _⟩ | ⟨_, _, h, _⟩ | ⟨_, _, _, h, _⟩ | ⟨⟨_, _, _, _, h1, i, h2, h3⟩, he⟩
  · exact absurd hW h
  · rw [hrc] at h; cases h
  · omega
  · omega
  · obtain ⟨s1, s2, s3⟩ := free_small h1 (kOf_le ch) hl
    have hti : (W.take i).length = i := by rw [List.length_take]; have := h2.1; omega
    have hget : M[i]? = some ⟨a, rc, [0, 0]⟩ := by
      rw [h3, List.getElem?_append_right (by omega), hti, Nat.sub_self]
      rfl
    have hoth : others M i = W := by
      unfold others
      rw [h3, List.take_append_of_le_length (by omega), List.take_of_length_le (by omega), List.drop_append, List.drop_of_length_le (by omega : (W.take i).length ≤ i + 1), hti, show i + 1 - i = 1 from by omega]
      show W.take i ++ ([] ++ W.drop i) = W
      rw [List.nil_append, List.take_append_drop]
    refine ⟨he, i, ?_, s3, by omega, hget, hoth⟩
    have hp : M.Perm (⟨a, rc, [0, 0]⟩ :: W) := by
      have := others_perm hget
      rwa [hoth] at this
    refine MemOk.of (by have := hp.length_eq; rw [List.length_cons] at this; omega) (fun x hx => ?_) ?_
    · rcases List.mem_cons.1 (hp.mem_iff.1 hx) with rfl | hx
      · exact ⟨⟨s1, s2⟩, hrc, ⟨by show 1 ≤ 2; decide, by show 2 ≤ 8; decide⟩, fun n hn => by
          have : n = 0 := by simpa using hn
          rw [this]; exact ⟨by decide, by decide⟩⟩
      · exact hW.all hx
    · rw [h3]
      refine .of_pairwise (List.pairwise_append.2 ⟨hW.asc.pairwise.sublist (List.take_sublist _ _), List.pairwise_cons.2 ⟨fun y hy => ?_, hW.asc.pairwise.sublist (List.drop_sublist _ _)⟩, fun x hx y hy => ?_⟩)
      · obtain ⟨k, hk⟩ := List.getElem?_of_mem hy
        rw [List.getElem?_drop] at hk
        have g1 := h2.2.2 (i + k) y (by omega) hk
        have g2 := s3 (i + k) y hk
        show a < y.a
        omega
      · obtain ⟨k, hk⟩ := List.getElem?_of_mem hx
        have hki : k < i := by have := (List.getElem?_eq_some_iff.1 hk).1; omega
        rw [List.getElem?_take_of_lt hki] at hk
        have g1 := h2.2.1 k x hki hk
        rcases List.mem_cons.1 hy with rfl | hy
        · exact g1
        · obtain ⟨q, hq⟩ := List.getElem?_of_mem hy
          rw [List.getElem?_drop] at hq
          have g2 := h2.2.2 (i + q) y (by omega) hq
          omega

theorem NewIn.located {W : List Bk} {rc : List UInt8} {a : Int} {i : Nat} {M : List Bk} (h : NewIn W rc a i M) (hW : MemOk W) : Located W a 0 16 := .inr (.inr (.inl ⟨hW, h.ne, h.no, rfl, rfl⟩))

theorem NewIn.at_ {W : List Bk} {rc : List UInt8} {a : Int} {i : Nat} {M : List Bk} (h : NewIn W rc a i M) : Located M a i 0 := .inr (.inr (.inr ⟨h.ok, h.ne, ⟨_, h.has, rfl⟩, rfl⟩))

theorem NewIn.zero {W : List Bk} {rc : List UInt8} {a : Int} {i : Nat} {M : List Bk} (h : NewIn W rc a i M) : Access M a rc 1 i 0 0 := .inr (.inr (.inr ⟨_, h.at_, h.has, rfl, by decide, rfl, rfl⟩))

theorem wr_ok_of {l lw : List Bk} {i : Nat} {fd val er : Int} {x : Bk} (h : WrIs l i fd val er lw 0) (hx : l[i]? = some x) : InR val ∧ lw = l.set i ⟨x.a, x.r, x.f.set fd.toNat val⟩ := by
  rcases h with ⟨h, _, g⟩ | ⟨_, _, _, g⟩ | ⟨_, hv, _, y, hy, g⟩
  · exact absurd g.symm h
  · exact absurd g (by decide)
  · obtain rfl : x = y := Option.some.inj (hx.symm.trans hy)
    exact ⟨hv, g⟩

theorem wr_err_of {l lw : List Bk} {i : Nat} {fd val er e : Int} (h : WrIs l i fd val er lw e) (he : er ≠ 0) : e ≠ 0 := by
  rcases h with ⟨h, _, rfl⟩ | ⟨h, _⟩ | ⟨h, _⟩
  · exact h
  · exact absurd h he
  · exact absurd h he

theorem access_located {l : List Bk} {t : Int} {rc : List UInt8} {fd : Int} {i : Nat} {v : Int} (h : Access l t rc fd i v 0) : Located l t i 0 := by
  obtain ⟨x, h1, _, _, _, _, h2, h3⟩ := access_ok h
  exact .inr (.inr (.inr ⟨h1, h2, h3, rfl⟩))

theorem located_access {l : List Bk} {t : Int} {rc : List UInt8} {fd : Int} {i i0 : Nat} {v e0 : Int} (h : Located l t i0 e0) (g : Access l t rc fd i v 0) : e0 = 0 := by
  obtain ⟨x, h1, _, _, _, _, h2, y, hy, h3⟩ := access_ok g
  rcases h with ⟨h, _⟩ | ⟨_, h, _⟩ | ⟨_, _, h, _⟩ | ⟨_, _, _, h⟩
  · exact absurd h1 h
  · exact absurd h h2
  · exact absurd h3 (h i y hy)
  · exact h

theorem put_access {W : List Bk} {j : Nat} {x : Bk} {t : Int} {rc : List UInt8} {fd v val : Int} (h : MemOk (W.set j ⟨x.a, x.r, x.f.set fd.toNat val⟩)) (hj : W[j]? = some x) (ht : x.a = t) (h0 : t ≠ 0) (hr : x.r = rc) (hf : 0 ≤ fd) (hv : x.f[fd.toNat]? = some v) :
    Access (W.set j ⟨x.a, x.r, x.f.set fd.toNat val⟩) t rc fd j val 0 := by
  have h1 : (W.set j ⟨x.a, x.r, x.f.set fd.toNat val⟩)[j]? = some ⟨x.a, x.r, x.f.set fd.toNat val⟩ := List.getElem?_set_self (List.getElem?_eq_some_iff.1 hj).1
  exact .inr (.inr (.inr ⟨_, .inr (.inr (.inr ⟨h, h0, ⟨_, h1, ht⟩, rfl⟩)), h1, hr, hf, List.getElem?_set_self (List.getElem?_eq_some_iff.1 hv).1, rfl⟩))

end Go.Proofs.Ytbmejohoifpfhaa
