/-
  Plain mathematics of package value: stores, the order of names, the value of an expression and of a condition.
-/
import Derived.Test.YtbmejohoifpfhaaDoorMemW
import Derived.Test.YtbmejohoifpfhaaDoorTreeK
namespace Go.Proofs.YtbmejohoifpfhaaDoor
open Go.RowKit

/-- A binding: its name and its value. -/
structure Bd where
  n : List UInt8
  v : Int

theorem bl_irrefl : ∀ x : List UInt8, Op.bytesLess x x = false
  | [] => rfl
  | a :: x => by
    rw [Op.bytesLess, bl_irrefl x]
    simp

theorem bl_asymm : ∀ {x y : List UInt8}, Op.bytesLess x y = true → Op.bytesLess y x = false
  | _, [], h => by cases ‹List UInt8› <;> simp [Op.bytesLess] at h
  | [], b :: y, _ => by simp [Op.bytesLess]
  | a :: x, b :: y, h => by
    rw [Op.bytesLess] at h ⊢
    rcases Bool.or_eq_true_iff.1 h with h | h
    · have h1 : a < b := by simpa using h
      have h2 : ¬ b < a := by intro h2; exact absurd (UInt8.lt_trans h1 h2) (UInt8.lt_irrefl _)
      have h3 : ¬ b = a := by intro h3; subst h3; exact absurd h1 (UInt8.lt_irrefl _)
      simp [h2, h3]
    · have h1 : a = b := by have := (Bool.and_eq_true_iff.1 h).1; simpa using this
      have h2 := (Bool.and_eq_true_iff.1 h).2
      subst h1
      simp [bl_asymm h2]

theorem bl_trans : ∀ {x y z : List UInt8}, Op.bytesLess x y = true → Op.bytesLess y z = true → Op.bytesLess x z = true
  | x, y, [], _, h => by cases y <;> simp [Op.bytesLess] at h
  | x, [], c :: z, h, _ => by cases x <;> simp [Op.bytesLess] at h
  | [], b :: y, c :: z, _, _ => by simp [Op.bytesLess]
  | a :: x, b :: y, c :: z, h, g => by
    rw [Op.bytesLess] at h g ⊢
    rcases Bool.or_eq_true_iff.1 h with h | h <;> rcases Bool.or_eq_true_iff.1 g with g | g
    · have h1 : a < b := by simpa using h
      have h2 : b < c := by simpa using g
      have h3 : a < c := UInt8.lt_trans h1 h2
      simp [h3]
    · have h1 : a < b := by simpa using h
      have h2 : b = c := by have := (Bool.and_eq_true_iff.1 g).1; simpa using this
      subst h2
      simp [h1]
    · have h1 : a = b := by have := (Bool.and_eq_true_iff.1 h).1; simpa using this
      have h2 : b < c := by simpa using g
      subst h1
      simp [h2]
    · have h1 : a = b := by have := (Bool.and_eq_true_iff.1 h).1; simpa using this
      have h2 : b = c := by have := (Bool.and_eq_true_iff.1 g).1; simpa using this
      subst h1 h2
      simp [bl_trans (Bool.and_eq_true_iff.1 h).2 (Bool.and_eq_true_iff.1 g).2]

theorem bl_tri : ∀ {x y : List UInt8}, Op.bytesLess x y = false → Op.bytesLess y x = false → x = y
  | [], [], _, _ => rfl
  | [], b :: y, h, _ => by simp [Op.bytesLess] at h
  | a :: x, [], _, h => by simp [Op.bytesLess] at h
  | a :: x, b :: y, h, g => by
    rw [Op.bytesLess, Bool.or_eq_false_iff] at h g
    have h1 : ¬ a < b := by simpa using h.1
    have h2 : ¬ b < a := by simpa using g.1
    have h3 : a = b := UInt8.le_antisymm (UInt8.not_lt.1 h2) (UInt8.not_lt.1 h1)
    subst h3
    have h4 : Op.bytesLess x y = false := by simpa using h.2
    have h5 : Op.bytesLess y x = false := by simpa using g.2
    rw [bl_tri h4 h5]

theorem bl_ne {x y : List UInt8} (h : Op.bytesLess x y = true) : x ≠ y := by
  rintro rfl
  rw [bl_irrefl] at h
  cases h

def BdOk (b : Bd) : Prop := b.n ≠ [] ∧ InR b.v
def BStep (l : List Bd) (i : Nat) (x : Bd) : Prop := BdOk x ∧ ∀ y, 0 < i → l[i - 1]? = some y → Op.bytesLess y.n x.n = true
/-- A valid store. -/
def StOk (l : List Bd) : Prop := ∀ (i : Nat) x, l[i]? = some x → BStep l i x

theorem StOk.sorted {l : List Bd} (h : StOk l) : ∀ (d i : Nat) (x y : Bd), l[i]? = some x → l[i + d + 1]? = some y → Op.bytesLess x.n y.n = true
  | 0, i, x, y, hx, hy => (h _ y hy).2 x (by omega) hx
  | d + 1, i, x, y, hx, hy => by
    have hlt : i + d + 1 < l.length := by
      have := (List.getElem?_eq_some_iff.1 hy).1
      omega
    have h1 := h.sorted d i x l[i + d + 1] hx (List.getElem?_eq_getElem hlt)
    have h2 := (h (i + d + 1 + 1) y hy).2 l[i + d + 1] (by omega) (List.getElem?_eq_getElem hlt)
    exact bl_trans h1 h2

theorem StOk.lt {l : List Bd} (h : StOk l) {i j : Nat} {x y : Bd} (hij : i < j) (hx : l[i]? = some x) (hy : l[j]? = some y) : Op.bytesLess x.n y.n = true :=
  h.sorted (j - i - 1) i x y hx (by rwa [show i + (j - i - 1) + 1 = j from by omega])

theorem StOk.eq {l : List Bd} (h : StOk l) {i j : Nat} {x y : Bd} (hx : l[i]? = some x) (hy : l[j]? = some y) (he : x.n = y.n) : i = j := by
  rcases Nat.lt_trichotomy i j with h1 | h1 | h1
  · exact absurd he (bl_ne (h.lt h1 hx hy))
  · exact h1
  · exact absurd he.symm (bl_ne (h.lt h1 hy hx))

theorem StOk.nil : StOk [] := fun i x h => by simp at h

/-- The binding at the index has the name. -/
def HasN (l : List Bd) (t : List UInt8) (i : Nat) : Prop := ∃ x, l[i]? = some x ∧ x.n = t
/-- No binding has the name. -/
def NoN (l : List Bd) (t : List UInt8) : Prop := ∀ (i : Nat) x, l[i]? = some x → x.n ≠ t

theorem HasN.lt {l : List Bd} {t : List UInt8} {i : Nat} (h : HasN l t i) : i < l.length := by
  obtain ⟨x, hx, _⟩ := h
  exact (List.getElem?_eq_some_iff.1 hx).1

theorem hasN_or_not (l : List Bd) (t : List UInt8) : (∃ i, HasN l t i) ∨ NoN l t := by
  by_cases h : ∃ i, HasN l t i
  · exact .inl h
  · exact .inr fun i x hx e => h ⟨i, x, hx, e⟩

/-- Bindings below the index have smaller names, the others have not. -/
def IsLbN (l : List Bd) (t : List UInt8) (i : Nat) : Prop := i ≤ l.length ∧ (∀ (k : Nat) x, k < i → l[k]? = some x → Op.bytesLess x.n t = true) ∧ ∀ (k : Nat) x, i ≤ k → l[k]? = some x → Op.bytesLess x.n t = false

/-- The value of a name, and the error. -/
def getS : List Bd → List UInt8 → Int × Int
  | [], _ => (0, 7)
  | b :: l, t => if b.n = t then (b.v, 0) else getS l t

theorem getS_no : ∀ {l : List Bd} {t : List UInt8}, NoN l t → getS l t = (0, 7)
  | [], _, _ => rfl
  | b :: l, t, h => by
    rw [getS, if_neg (h 0 b rfl)]
    exact getS_no fun i x hx => h (i + 1) x hx

theorem getS_first : ∀ {l : List Bd} {t : List UInt8} {i : Nat} {x : Bd}, l[i]? = some x → x.n = t → (∀ (j : Nat) y, j < i → l[j]? = some y → y.n ≠ t) → getS l t = (x.v, 0)
  | [], _, i, x, h, _, _ => by simp at h
  | b :: l, t, 0, x, h, ht, _ => by
    obtain rfl := Option.some.inj h
    rw [getS, if_pos ht]
  | b :: l, t, i + 1, x, h, ht, hn => by
    rw [getS, if_neg (hn 0 b (Nat.succ_pos _) rfl)]
    exact getS_first (i := i) h ht fun j y hj hy => hn (j + 1) y (by omega) hy

theorem getS_has {l : List Bd} (hl : StOk l) {i : Nat} {x : Bd} (hx : l[i]? = some x) : getS l x.n = (x.v, 0) :=
  getS_first hx rfl fun j y hj hy e => by
    have := hl.eq hy hx e
    omega

/-- A value and its error. -/
def VOk (r : Int × Int) : Prop := (r.2 = 0 ∧ InR r.1) ∨ (r.1 = 0 ∧ (r.2 = 7 ∨ r.2 = 10))

theorem VOk.ne {r : Int × Int} (h : VOk r) (he : r.2 ≠ 0) : r.1 = 0 := by
  rcases h with h | h
  · exact absurd h.1 he
  · exact h.1

theorem VOk.rng {r : Int × Int} (h : VOk r) : InR r.1 := by
  rcases h with h | h
  · exact h.2
  · rw [h.1]; exact ⟨by decide, by decide⟩

theorem getS_ok {l : List Bd} (hl : StOk l) (t : List UInt8) : VOk (getS l t) := by
  rcases hasN_or_not l t with ⟨i, x, hx, rfl⟩ | h
  · rw [getS_has hl hx]
    exact .inl ⟨rfl, (hl i x hx).1.2⟩
  · rw [getS_no h]
    exact .inr ⟨rfl, .inl rfl⟩

def inB (n : Int) : Bool := decide (-1048576 ≤ n) && decide (n ≤ 1048576)

theorem inB_tells (n : Int) : Tells (inB n) (InR n) := by
  unfold Tells inB InR
  simp

/-- A number, or the error of one that is too big. -/
def bnd (n : Int) : Int × Int := if inB n then (n, 0) else (0, 10)

theorem bnd_ok (n : Int) : VOk (bnd n) := by
  unfold bnd
  cases h : inB n
  · exact .inr ⟨rfl, .inr rfl⟩
  · exact .inl ⟨rfl, (inB_tells n).1 h⟩

/-- The value of two elements. -/
def ev2 (p q : Int × Int) (n : Int) : Int × Int := if p.2 = 0 then if q.2 = 0 then bnd n else (0, q.2) else (0, p.2)

/-- The value of a product. -/
def ev1 (n : Int) (p : Int × Int) : Int × Int := if p.2 = 0 then if inB n then bnd (n * p.1) else (0, 10) else (0, p.2)

/-- The value of a sum or a difference, out of those of its elements. -/
def evTwo (k : Int) : List (Int × Int) → Int × Int
  | [p, q] => ev2 p q (if k = 4 then p.1 + q.1 else p.1 - q.1)
  | _ => (0, 0)

/-- The value of a product, out of that of its element. -/
def evOne (n : Int) : List (Int × Int) → Int × Int
  | [p] => ev1 n p
  | _ => (0, 0)

/-- The value of an expression of at most this depth, and its error. -/
def ev (S : List Bd) : Nat → Ex → Int × Int
  | 0, _ => (0, 0)
  | d + 1, .mk k n s l =>
    if k = 1 then bnd n
    else if k = 2 then getS S s
    else if k = 4 ∨ k = 5 then evTwo k (l.map (ev S d))
    else if k = 6 then evOne n (l.map (ev S d))
    else (0, 0)

theorem VOk.err {e : Int} {v : Int} (h : VOk (v, e)) (he : e ≠ 0) : VOk (0, e) := by
  rcases h with h | h
  · exact absurd h.1 he
  · exact .inr ⟨rfl, h.2⟩

theorem ev2_ok {p q : Int × Int} (hp : VOk p) (hq : VOk q) (n : Int) : VOk (ev2 p q n) := by
  unfold ev2
  split
  · split
    · exact bnd_ok n
    · next h => exact VOk.err (v := q.1) hq h
  · next h => exact VOk.err (v := p.1) hp h

theorem ev1_ok {p : Int × Int} (hp : VOk p) (n : Int) : VOk (ev1 n p) := by
  unfold ev1
  split
  · split
    · exact bnd_ok _
    · exact .inr ⟨rfl, .inr rfl⟩
  · next h => exact VOk.err (v := p.1) hp h

theorem zero_ok : VOk (0, 0) := .inl ⟨rfl, ⟨by decide, by decide⟩⟩

theorem evTwo_ok {k : Int} : ∀ {l : List (Int × Int)}, (∀ p ∈ l, VOk p) → VOk (evTwo k l)
  | [], _ => zero_ok
  | [_], _ => zero_ok
  | [p, q], h => ev2_ok (h p (by simp)) (h q (by simp)) _
  | _ :: _ :: _ :: _, _ => zero_ok

theorem evOne_ok {n : Int} : ∀ {l : List (Int × Int)}, (∀ p ∈ l, VOk p) → VOk (evOne n l)
  | [], _ => zero_ok
  | [p], h => ev1_ok (h p (by simp)) _
  | _ :: _ :: _, _ => zero_ok

theorem ev_ok {S : List Bd} (hS : StOk S) : ∀ (d : Nat) (e : Ex), VOk (ev S d e)
  | 0, _ => zero_ok
  | d + 1, .mk k n s l => by
    have hl : ∀ p ∈ l.map (ev S d), VOk p := fun p hp => by
      obtain ⟨e, _, rfl⟩ := List.mem_map.1 hp
      exact ev_ok hS d e
    rw [ev]
    split
    · exact bnd_ok n
    · split
      · exact getS_ok hS s
      · split
        · exact evTwo_ok hl
        · split
          · exact evOne_ok hl
          · exact zero_ok

/-- What a comparison of two values says. -/
def cmpB (k x y : Int) : Bool := if k = 1 then x == y else if k = 2 then !(x == y) else if k = 3 then decide (x ≤ y) else decide (x < y)

/-- A comparison of two values with their errors. -/
def cmp2 (k : Int) (p q : Int × Int) : Bool × Int := if p.2 = 0 then if q.2 = 0 then (cmpB k p.1 q.1, 0) else (false, q.2) else (false, p.2)

def cp (S : List Bd) (k : Int) (a b : Ex) : Bool × Int := cmp2 k (ev S 30 a) (ev S 30 b)

/-- The value of a negation, out of that of its element. -/
def ecNot : List (Bool × Int) → Bool × Int
  | [p] => (!p.1 && (p.2 == 0), p.2)
  | _ => (false, 0)

/-- The value of a conjunction or a disjunction, out of those of its elements. -/
def ecTwo (k : Int) : List (Bool × Int) → Bool × Int
  | [p, q] => if p.2 = 0 then if p.1 = (k == 7) then (p.1, 0) else q else (false, p.2)
  | _ => (false, 0)

/-- The value of a condition of at most this depth, and its error. -/
def ec (S : List Bd) : Nat → Cn → Bool × Int
  | 0, _ => (false, 0)
  | d + 1, .mk k a b l =>
    if decide (1 ≤ k) && decide (k ≤ 4) then cp S k a b
    else if k = 5 then ecNot (l.map (ec S d))
    else ecTwo k (l.map (ec S d))

/-- A truth value and its error. -/
def COk (r : Bool × Int) : Prop := r.2 = 0 ∨ (r.1 = false ∧ (r.2 = 7 ∨ r.2 = 10))

theorem cp_ok {S : List Bd} (hS : StOk S) (k : Int) (a b : Ex) : COk (cp S k a b) := by
  unfold cp cmp2
  have h1 := ev_ok hS 30 a
  have h2 := ev_ok hS 30 b
  split
  · split
    · exact .inl rfl
    · next h => exact .inr ⟨rfl, h2.resolve_left (fun g => h g.1) |>.2⟩
  · next h => exact .inr ⟨rfl, h1.resolve_left (fun g => h g.1) |>.2⟩

theorem ecNot_ok : ∀ {l : List (Bool × Int)}, (∀ p ∈ l, COk p) → COk (ecNot l)
  | [], _ => .inl rfl
  | [p], h => by
    rcases h p (by simp) with h | h
    · exact .inl h
    · refine .inr ⟨?_, h.2⟩
      show (!p.1 && (p.2 == 0)) = false
      rw [show (p.2 == 0) = false from by rcases h.2 with h | h <;> rw [h] <;> rfl, Bool.and_false]
  | _ :: _ :: _, _ => .inl rfl

theorem ecTwo_ok {k : Int} : ∀ {l : List (Bool × Int)}, (∀ p ∈ l, COk p) → COk (ecTwo k l)
  | [], _ => .inl rfl
  | [_], _ => .inl rfl
  | [p, q], h => by
    show COk (if p.2 = 0 then if p.1 = (k == 7) then (p.1, 0) else q else (false, p.2))
    split
    · split
      · exact .inl rfl
      · exact h q (by simp)
    · next hne =>
      rcases h p (by simp) with h | h
      · exact absurd h hne
      · exact .inr ⟨rfl, h.2⟩
  | _ :: _ :: _ :: _, _ => .inl rfl

theorem ec_ok {S : List Bd} (hS : StOk S) : ∀ (d : Nat) (c : Cn), COk (ec S d c)
  | 0, _ => .inl rfl
  | d + 1, .mk k a b l => by
    have hl : ∀ p ∈ l.map (ec S d), COk p := fun p hp => by
      obtain ⟨e, _, rfl⟩ := List.mem_map.1 hp
      exact ec_ok hS d e
    rw [ec]
    split
    · exact cp_ok hS k a b
    · split
      · exact ecNot_ok hl
      · exact ecTwo_ok hl

end Go.Proofs.YtbmejohoifpfhaaDoor
