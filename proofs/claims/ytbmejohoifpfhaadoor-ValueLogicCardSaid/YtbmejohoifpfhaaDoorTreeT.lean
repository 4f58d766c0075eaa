/-
  Types of trees, and the rows of memory that hold them: elements told by a predicate, parameters, atoms, cells, formulas, calls, statements.
-/
import Derived.Test.YtbmejohoifpfhaaDoorTreeL
namespace Go.Proofs.YtbmejohoifpfhaaDoor
open Go.RowKit

abbrev condV2 (k ak an : Int) (sa : ByteArray) (la : Value) (bk bn : Int) (sb : ByteArray) (lb ll : Value) : Value := .agg #[.int .i64 k, .int .i64 ak, .int .i64 an, .string sa, la, .int .i64 bk, .int .i64 bn, .string sb, lb, ll]
abbrev condC2 (k ak an : Int) (sa : ByteArray) (la : Value) (bk bn : Int) (sb : ByteArray) (lb ll : Value) : Obj := .cells #[.int .i64 k, .int .i64 ak, .int .i64 an, .string sa, la, .int .i64 bk, .int .i64 bn, .string sb, lb, ll] 39

/-- The row at A holds these elements, each of n cells; all their memory is below B. -/
inductive RowX {α : Type} (P : World → Nat → Addr → α → Prop) (n : Nat) (w : World) (B : Nat) : List α → Option Addr → Prop
  | nil (A : Option Addr) : RowX P n w B [] A
  | row (a : Addr) (es : List α) (hb : a.block < B) (cells : ∀ i x, es[i]? = some x → P w B (a.add (i * n)) x) : RowX P n w B es (some a)

/-- What an element says of memory stays true where the memory below B stays. -/
def Keeps {α : Type} (P : World → Nat → Addr → α → Prop) : Prop :=
  ∀ (w w' : World) (B B' : Nat) (p : Addr) (x : α), (∀ q : Addr, q.block < B → w'.cell? q = w.cell? q) → B ≤ B' → p.block < B → P w B p x → P w' B' p x

theorem RowX.at_ {α : Type} {P : World → Nat → Addr → α → Prop} {n : Nat} {w : World} {B : Nat} {es : List α} {A : Option Addr} (h : RowX P n w B es A) {i : Nat} {x : α} (hi : es[i]? = some x) :
    ∃ a, A = some a ∧ a.block < B ∧ P w B (a.add (i * n)) x := by
  cases h with
  | nil => simp at hi
  | row a es hb cells => exact ⟨a, rfl, hb, cells i x hi⟩

theorem RowX.keep {α : Type} {P : World → Nat → Addr → α → Prop} (hP : Keeps P) {n : Nat} {w w' : World} {B B' : Nat} (hk : ∀ q : Addr, q.block < B → w'.cell? q = w.cell? q) (hB : B ≤ B') {es : List α} {A : Option Addr} (h : RowX P n w B es A) : RowX P n w' B' es A := by
  cases h with
  | nil => exact .nil _
  | row a es hb cells => exact .row a es (Nat.lt_of_lt_of_le hb hB) (fun i x hi => hP w w' B B' _ x hk hB (by rw [block_adds]; exact hb) (cells i x hi))

theorem RowX.stay {α : Type} {P : World → Nat → Addr → α → Prop} (hP : Keeps P) {n : Nat} {w w' : World} {B C : Nat} (hb : Below C w w') (hC : B ≤ C) {es : List α} {A : Option Addr} (h : RowX P n w B es A) : RowX P n w' B es A :=
  h.keep hP (fun _ hp => hb.cell (Nat.lt_of_lt_of_le hp hC)) (Nat.le_refl _)

theorem RowX.more {α : Type} {P : World → Nat → Addr → α → Prop} (hP : Keeps P) {n : Nat} {w : World} {B B' : Nat} (hB : B ≤ B') {es : List α} {A : Option Addr} (h : RowX P n w B es A) : RowX P n w B' es A := h.keep hP (fun _ _ => rfl) hB

/-- A row that was there stays, in a later world. -/
theorem RowX.on {α : Type} {P : World → Nat → Addr → α → Prop} (hP : Keeps P) {n : Nat} {w w' : World} (hb : Below w.heap.size w w') {es : List α} {A : Option Addr} (h : RowX P n w w.heap.size es A) : RowX P n w' w'.heap.size es A :=
  (h.stay hP hb (Nat.le_refl _)).more hP hb.size

theorem ExRow.on {w w' : World} (hb : Below w.heap.size w w') {es : List Ex} {A : Option Addr} (h : ExRow w w.heap.size es A) : ExRow w' w'.heap.size es A := (h.stay hb (Nat.le_refl _)).more hb.size

structure At where
  k : Int
  a : Ex
  b : Ex

/-- The nine cells of an atom. -/
structure ACells (w : World) (p : Addr) (k ak an : Int) (sa : List UInt8) (la : Value) (bk bn : Int) (sb : List UInt8) (lb : Value) : Prop where
  c0 : w.cell? p = some (.int .i64 k)
  c1 : w.cell? (p.add 1) = some (.int .i64 ak)
  c2 : w.cell? (p.add 2) = some (.int .i64 an)
  c3 : w.cell? (p.add 3) = some (.string ⟨sa.toArray⟩)
  c4 : w.cell? (p.add 4) = some la
  c5 : w.cell? (p.add 5) = some (.int .i64 bk)
  c6 : w.cell? (p.add 6) = some (.int .i64 bn)
  c7 : w.cell? (p.add 7) = some (.string ⟨sb.toArray⟩)
  c8 : w.cell? (p.add 8) = some lb

theorem ACells.keep {w w' : World} {B : Nat} {p : Addr} {k ak an : Int} {sa : List UInt8} {la : Value} {bk bn : Int} {sb : List UInt8} {lb : Value} (hk : ∀ q : Addr, q.block < B → w'.cell? q = w.cell? q) (hp : p.block < B) (h : ACells w p k ak an sa la bk bn sb lb) : ACells w' p k ak an sa la bk bn sb lb := by
  have e : ∀ j, (p.add j).block < B := fun j => by rw [block_adds]; exact hp
  exact ⟨(hk _ hp).trans h.c0, (hk _ (e 1)).trans h.c1, (hk _ (e 2)).trans h.c2, (hk _ (e 3)).trans h.c3, (hk _ (e 4)).trans h.c4, (hk _ (e 5)).trans h.c5, (hk _ (e 6)).trans h.c6, (hk _ (e 7)).trans h.c7, (hk _ (e 8)).trans h.c8⟩

theorem ACells.stay {w w' : World} {B : Nat} {p : Addr} {k ak an : Int} {sa : List UInt8} {la : Value} {bk bn : Int} {sb : List UInt8} {lb : Value} (h : ACells w p k ak an sa la bk bn sb lb) (hb : Below B w w') (hp : p.block < B) : ACells w' p k ak an sa la bk bn sb lb :=
  h.keep (fun _ hq => hb.cell hq) hp

/-- The cells as a walk spells them. -/
theorem ACells.flat {w : World} {p : Addr} {k ak an : Int} {sa : List UInt8} {la : Value} {bk bn : Int} {sb : List UInt8} {lb : Value} (h : ACells w p k ak an sa la bk bn sb lb) :
    w.cell? p = some (.int .i64 k) ∧ w.cell? ⟨p.block, p.off + 1, none⟩ = some (.int .i64 ak) ∧ w.cell? ⟨p.block, p.off + 2, none⟩ = some (.int .i64 an) ∧ w.cell? ⟨p.block, p.off + 3, none⟩ = some (.string ⟨sa.toArray⟩) ∧ w.cell? ⟨p.block, p.off + 4, none⟩ = some la ∧
      w.cell? ⟨p.block, p.off + 5, none⟩ = some (.int .i64 bk) ∧ w.cell? ⟨p.block, p.off + 6, none⟩ = some (.int .i64 bn) ∧ w.cell? ⟨p.block, p.off + 7, none⟩ = some (.string ⟨sb.toArray⟩) ∧ w.cell? ⟨p.block, p.off + 8, none⟩ = some lb :=
  ⟨h.c0, h.c1, h.c2, h.c3, h.c4, h.c5, h.c6, h.c7, h.c8⟩

def AtAt (w : World) (B : Nat) (p : Addr) (x : At) : Prop :=
  ∃ (ak an : Int) (sa : List UInt8) (al : List Ex) (bk bn : Int) (sb : List UInt8) (bl : List Ex) (Aa : Option Addr) (ca : Nat) (Ab : Option Addr) (cb : Nat), x.a = .mk ak an sa al ∧ x.b = .mk bk bn sb bl ∧
    ACells w p x.k ak an sa (.slice Aa al.length ca) bk bn sb (.slice Ab bl.length cb) ∧ (sa.length ≤ maxLen ∧ al.length ≤ maxLen ∧ sb.length ≤ maxLen ∧ bl.length ≤ maxLen) ∧ ExRow w B al Aa ∧ ExRow w B bl Ab

theorem at_keeps : Keeps AtAt := by
  rintro w w' B B' p x hk hB hp ⟨ak, an, sa, al, bk, bn, sb, bl, Aa, ca, Ab, cb, h1, h2, h3, h4, h5, h6⟩
  exact ⟨ak, an, sa, al, bk, bn, sb, bl, Aa, ca, Ab, cb, h1, h2, h3.keep hk hp, h4, h5.keep hk hB, h6.keep hk hB⟩

abbrev AtRow := RowX AtAt 9

end Go.Proofs.YtbmejohoifpfhaaDoor
