/-
  Plain mathematics of package memory: blocks, valid memories, the block at an address, the outcome of an access.
-/
import Derived.Test.YtbmejohoifpfhaaLexW
namespace Go.Proofs.Ytbmejohoifpfhaa

/-- A block: its address, its record and its fields. -/
structure Bk where
  a : Int
  r : List UInt8
  f : List Int

def InR (n : Int) : Prop := -1048576 ≤ n ∧ n ≤ 1048576

def BkOk (b : Bk) : Prop := (1 ≤ b.a ∧ b.a ≤ 1048576) ∧ nameL b.r = true ∧ (1 ≤ b.f.length ∧ b.f.length ≤ 8) ∧ ∀ n ∈ b.f, InR n

/-- The element at i is valid, and stands behind the one before it. -/
def StepOk (l : List Bk) (i : Nat) (x : Bk) : Prop := BkOk x ∧ ∀ y, 0 < i → l[i - 1]? = some y → y.a < x.a

def MemOk (l : List Bk) : Prop := l.length ≤ 100 ∧ ∀ i x, l[i]? = some x → StepOk l i x

theorem MemOk.sorted {l : List Bk} (h : MemOk l) : ∀ (d i : Nat) (x y : Bk), l[i]? = some x → l[i + d + 1]? = some y → x.a < y.a
  | 0, i, x, y, hx, hy => (h.2 _ y hy).2 x (by omega) hx
  | d + 1, i, x, y, hx, hy => by
    have hlt : i + d + 1 < l.length := by
      have := (List.getElem?_eq_some_iff.1 hy).1
      omega
    have h1 := h.sorted d i x l[i + d + 1] hx (List.getElem?_eq_getElem hlt)
    have h2 := (h.2 (i + d + 1 + 1) y hy).2 l[i + d + 1] (by omega) (List.getElem?_eq_getElem hlt)
    omega

theorem MemOk.lt {l : List Bk} (h : MemOk l) {i j : Nat} {x y : Bk} (hij : i < j) (hx : l[i]? = some x) (hy : l[j]? = some y) : x.a < y.a :=
  h.sorted (j - i - 1) i x y hx (by rwa [show i + (j - i - 1) + 1 = j from by omega])

theorem MemOk.eq {l : List Bk} (h : MemOk l) {i j : Nat} {x y : Bk} (hx : l[i]? = some x) (hy : l[j]? = some y) (he : x.a = y.a) : i = j := by
  rcases Nat.lt_trichotomy i j with h1 | h1 | h1
  · have := h.lt h1 hx hy; omega
  · exact h1
  · have := h.lt h1 hy hx; omega

/-- The block at the index has the address. -/
def HasAt (l : List Bk) (t : Int) (i : Nat) : Prop := ∃ x, l[i]? = some x ∧ x.a = t
/-- No block has the address. -/
def NoAt (l : List Bk) (t : Int) : Prop := ∀ (i : Nat) x, l[i]? = some x → x.a ≠ t

theorem HasAt.lt {l : List Bk} {t : Int} {i : Nat} (h : HasAt l t i) : i < l.length := by
  obtain ⟨x, hx, _⟩ := h
  exact (List.getElem?_eq_some_iff.1 hx).1

theorem at_or_not (l : List Bk) (t : Int) : (∃ i, HasAt l t i) ∨ NoAt l t := by
  by_cases h : ∃ i, HasAt l t i
  · exact .inl h
  · exact .inr fun i x hx e => h ⟨i, x, hx, e⟩

/-- Blocks below the index have smaller addresses, the others have not. -/
def IsLb (l : List Bk) (t : Int) (i : Nat) : Prop := i ≤ l.length ∧ (∀ (k : Nat) x, k < i → l[k]? = some x → x.a < t) ∧ ∀ (k : Nat) x, i ≤ k → l[k]? = some x → t ≤ x.a

theorem HasAt.lb {l : List Bk} {t : Int} {i : Nat} (h : HasAt l t i) (hl : MemOk l) : IsLb l t i := by
  have hlt := h.lt
  obtain ⟨x, hx, rfl⟩ := h
  refine ⟨by omega, fun k y hk hy => hl.lt hk hy hx, fun k y hk hy => ?_⟩
  rcases Nat.lt_or_eq_of_le hk with h1 | rfl
  · have := hl.lt h1 hx hy; omega
  · have : x = y := Option.some.inj (hx.symm.trans hy)
    rw [this]; exact Int.le_refl _

theorem IsLb.uniq {l : List Bk} {t : Int} {i j : Nat} (h : IsLb l t i) (g : IsLb l t j) : i = j := by
  rcases Nat.lt_trichotomy i j with h1 | h1 | h1
  · have hlt : i < l.length := by have := g.1; omega
    have a := g.2.1 i l[i] h1 (List.getElem?_eq_getElem hlt)
    have b := h.2.2 i l[i] (Nat.le_refl _) (List.getElem?_eq_getElem hlt)
    omega
  · exact h1
  · have hlt : j < l.length := by have := h.1; omega
    have a := h.2.1 j l[j] h1 (List.getElem?_eq_getElem hlt)
    have b := g.2.2 j l[j] (Nat.le_refl _) (List.getElem?_eq_getElem hlt)
    omega

/-- Whether the block at the lower bound has the address. -/
theorem noAt_of_lb {l : List Bk} {t : Int} {i : Nat} (h : IsLb l t i) (hn : ∀ x, l[i]? = some x → x.a ≠ t) (hl : MemOk l) : NoAt l t := by
  intro k x hx e
  have := h.uniq (HasAt.lb ⟨x, hx, e⟩ hl)
  subst this
  exact hn x hx e

/-- Where the block at an address stands, and the error of looking for it. -/
def Located (l : List Bk) (t : Int) (i : Nat) (e : Int) : Prop :=
  (¬ MemOk l ∧ i = 0 ∧ e = 1) ∨ (MemOk l ∧ t = 0 ∧ i = 0 ∧ e = 15) ∨ (MemOk l ∧ t ≠ 0 ∧ NoAt l t ∧ i = 0 ∧ e = 16) ∨ (MemOk l ∧ t ≠ 0 ∧ HasAt l t i ∧ e = 0)

theorem located_ex (l : List Bk) (t : Int) : ∃ i e, Located l t i e := by
  by_cases h : MemOk l
  · by_cases h0 : t = 0
    · exact ⟨0, 15, .inr (.inl ⟨h, h0, rfl, rfl⟩)⟩
    · rcases at_or_not l t with ⟨i, hi⟩ | hn
      · exact ⟨i, 0, .inr (.inr (.inr ⟨h, h0, hi, rfl⟩))⟩
      · exact ⟨0, 16, .inr (.inr (.inl ⟨h, h0, hn, rfl, rfl⟩))⟩
  · exact ⟨0, 1, .inl ⟨h, rfl, rfl⟩⟩

/-- The index of the block, the field's value, and the error of an access to a field. -/
def Access (l : List Bk) (t : Int) (rc : List UInt8) (fd : Int) (i : Nat) (v e : Int) : Prop :=
  (Located l t i e ∧ e ≠ 0 ∧ v = 0) ∨
  (∃ k x, Located l t k 0 ∧ l[k]? = some x ∧ x.r ≠ rc ∧ i = 0 ∧ v = 0 ∧ e = 17) ∨
  (∃ k x, Located l t k 0 ∧ l[k]? = some x ∧ x.r = rc ∧ (fd < 0 ∨ (x.f.length : Int) ≤ fd) ∧ i = 0 ∧ v = 0 ∧ e = 2) ∨
  (∃ x, Located l t i 0 ∧ l[i]? = some x ∧ x.r = rc ∧ 0 ≤ fd ∧ x.f[fd.toNat]? = some v ∧ e = 0)

theorem located_ok {l : List Bk} {t : Int} {i : Nat} (h : Located l t i 0) : MemOk l ∧ t ≠ 0 ∧ HasAt l t i := by
  rcases h with h | h | h | h
  · exact absurd h.2.2 (by decide)
  · exact absurd h.2.2.2 (by decide)
  · exact absurd h.2.2.2.2 (by decide)
  · exact ⟨h.1, h.2.1, h.2.2.1⟩

theorem access_ex (l : List Bk) (t : Int) (rc : List UInt8) (fd : Int) : ∃ i v e, Access l t rc fd i v e := by
  obtain ⟨i, e, h⟩ := located_ex l t
  by_cases he : e = 0
  · subst he
    obtain ⟨_, _, x, hx, _⟩ := located_ok h
    by_cases hr : x.r = rc
    · by_cases hf : fd < 0 ∨ (x.f.length : Int) ≤ fd
      · exact ⟨0, 0, 2, .inr (.inr (.inl ⟨i, x, h, hx, hr, hf, rfl, rfl, rfl⟩))⟩
      · have h1 : fd.toNat < x.f.length := by omega
        exact ⟨i, x.f[fd.toNat], 0, .inr (.inr (.inr ⟨x, h, hx, hr, by omega, List.getElem?_eq_getElem h1, rfl⟩))⟩
    · exact ⟨0, 0, 17, .inr (.inl ⟨i, x, h, hx, hr, rfl, rfl, rfl⟩)⟩
  · exact ⟨i, 0, e, .inl ⟨h, he, rfl⟩⟩

end Go.Proofs.Ytbmejohoifpfhaa
