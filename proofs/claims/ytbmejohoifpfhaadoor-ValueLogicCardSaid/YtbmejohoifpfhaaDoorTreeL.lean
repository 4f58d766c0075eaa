/-
  Conditions as trees, the rows of memory that hold them; LeftExprs, LeftConds.
-/
import Derived.Test.YtbmejohoifpfhaaDoorTreeXe
namespace Go.Proofs.YtbmejohoifpfhaaDoor
open Go.RowKit

inductive Cn where
  | mk (k : Int) (a b : Ex) (l : List Cn) : Cn

/-- The ten cells of a condition. -/
structure CCells (w : World) (p : Addr) (k ak an : Int) (sa : List UInt8) (la : Value) (bk bn : Int) (sb : List UInt8) (lb ll : Value) : Prop where
  c0 : w.cell? p = some (.int .i64 k)
  c1 : w.cell? (p.add 1) = some (.int .i64 ak)
  c2 : w.cell? (p.add 2) = some (.int .i64 an)
  c3 : w.cell? (p.add 3) = some (.string ⟨sa.toArray⟩)
  c4 : w.cell? (p.add 4) = some la
  c5 : w.cell? (p.add 5) = some (.int .i64 bk)
  c6 : w.cell? (p.add 6) = some (.int .i64 bn)
  c7 : w.cell? (p.add 7) = some (.string ⟨sb.toArray⟩)
  c8 : w.cell? (p.add 8) = some lb
  c9 : w.cell? (p.add 9) = some ll

theorem CCells.keep {w w' : World} {B : Nat} {p : Addr} {k ak an : Int} {sa : List UInt8} {la : Value} {bk bn : Int} {sb : List UInt8} {lb ll : Value} (hk : ∀ q : Addr, q.block < B → w'.cell? q = w.cell? q) (hp : p.block < B) (h : CCells w p k ak an sa la bk bn sb lb ll) : CCells w' p k ak an sa la bk bn sb lb ll := by
  have e : ∀ j, (p.add j).block < B := fun j => by rw [block_adds]; exact hp
  exact ⟨(hk _ hp).trans h.c0, (hk _ (e 1)).trans h.c1, (hk _ (e 2)).trans h.c2, (hk _ (e 3)).trans h.c3, (hk _ (e 4)).trans h.c4, (hk _ (e 5)).trans h.c5, (hk _ (e 6)).trans h.c6, (hk _ (e 7)).trans h.c7, (hk _ (e 8)).trans h.c8, (hk _ (e 9)).trans h.c9⟩

/-- The cells as a walk spells them. -/
theorem CCells.flat {w : World} {p : Addr} {k ak an : Int} {sa : List UInt8} {la : Value} {bk bn : Int} {sb : List UInt8} {lb ll : Value} (h : CCells w p k ak an sa la bk bn sb lb ll) :
    w.cell? p = some (.int .i64 k) ∧ w.cell? ⟨p.block, p.off + 1, none⟩ = some (.int .i64 ak) ∧ w.cell? ⟨p.block, p.off + 2, none⟩ = some (.int .i64 an) ∧ w.cell? ⟨p.block, p.off + 3, none⟩ = some (.string ⟨sa.toArray⟩) ∧ w.cell? ⟨p.block, p.off + 4, none⟩ = some la ∧
      w.cell? ⟨p.block, p.off + 5, none⟩ = some (.int .i64 bk) ∧ w.cell? ⟨p.block, p.off + 6, none⟩ = some (.int .i64 bn) ∧ w.cell? ⟨p.block, p.off + 7, none⟩ = some (.string ⟨sb.toArray⟩) ∧ w.cell? ⟨p.block, p.off + 8, none⟩ = some lb ∧ w.cell? ⟨p.block, p.off + 9, none⟩ = some ll :=
  ⟨h.c0, h.c1, h.c2, h.c3, h.c4, h.c5, h.c6, h.c7, h.c8, h.c9⟩

/-- The row at A holds these conditions; all their memory is below B. -/
inductive CnRow (w : World) (B : Nat) : List Cn → Option Addr → Prop
  | nil (A : Option Addr) : CnRow w B [] A
  | row (a : Addr) (cs : List Cn) (Aa Ab Al : Nat → Option Addr) (Ca Cb Cl : Nat → Nat) (hb : a.block < B)
      (cells : ∀ i k ak an sa al bk bn sb bl l, cs[i]? = some (.mk k (.mk ak an sa al) (.mk bk bn sb bl) l) →
        CCells w (a.add (i * 10)) k ak an sa (.slice (Aa i) al.length (Ca i)) bk bn sb (.slice (Ab i) bl.length (Cb i)) (.slice (Al i) l.length (Cl i)) ∧ sa.length ≤ maxLen ∧ al.length ≤ maxLen ∧ sb.length ≤ maxLen ∧ bl.length ≤ maxLen ∧ l.length ≤ maxLen ∧ ExRow w B al (Aa i) ∧ ExRow w B bl (Ab i))
      (sub : ∀ i k ak an sa al bk bn sb bl l, cs[i]? = some (.mk k (.mk ak an sa al) (.mk bk bn sb bl) l) → CnRow w B l (Al i)) : CnRow w B cs (some a)

theorem CnRow.at_ {w : World} {B : Nat} {cs : List Cn} {A : Option Addr} (h : CnRow w B cs A) {i : Nat} {k ak an : Int} {sa : List UInt8} {al : List Ex} {bk bn : Int} {sb : List UInt8} {bl : List Ex} {l : List Cn} (hi : cs[i]? = some (.mk k (.mk ak an sa al) (.mk bk bn sb bl) l)) :
    ∃ a Aa Ca Ab Cb Al Cl, A = some a ∧ a.block < B ∧ CCells w (a.add (i * 10)) k ak an sa (.slice Aa al.length Ca) bk bn sb (.slice Ab bl.length Cb) (.slice Al l.length Cl) ∧ sa.length ≤ maxLen ∧ al.length ≤ maxLen ∧ sb.length ≤ maxLen ∧ bl.length ≤ maxLen ∧ l.length ≤ maxLen ∧ ExRow w B al Aa ∧ ExRow w B bl Ab ∧ CnRow w B l Al := by
  cases h with
  | nil => simp at hi
  | row a cs Aa Ab Al Ca Cb Cl hb cells sub =>
    obtain ⟨h0, h1, h2, h3, h4, h5, h6, h7⟩ := cells i k ak an sa al bk bn sb bl l hi
    exact ⟨a, Aa i, Ca i, Ab i, Cb i, Al i, Cl i, rfl, hb, h0, h1, h2, h3, h4, h5, h6, h7, sub i k ak an sa al bk bn sb bl l hi⟩

theorem CnRow.keep {w w' : World} {B B' : Nat} (hk : ∀ p : Addr, p.block < B → w'.cell? p = w.cell? p) (hB : B ≤ B') {cs : List Cn} {A : Option Addr} (h : CnRow w B cs A) : CnRow w' B' cs A := by
  induction h with
  | nil A => exact .nil A
  | row a cs Aa Ab Al Ca Cb Cl hb cells sub ih =>
    refine .row a cs Aa Ab Al Ca Cb Cl (Nat.lt_of_lt_of_le hb hB) (fun i k ak an sa al bk bn sb bl l hi => ?_) ih
    obtain ⟨h0, h1, h2, h3, h4, h5, h6, h7⟩ := cells i k ak an sa al bk bn sb bl l hi
    exact ⟨h0.keep hk (by rw [block_adds]; exact hb), h1, h2, h3, h4, h5, h6.keep hk hB, h7.keep hk hB⟩

theorem CnRow.stay {w w' : World} {B C : Nat} (hb : Below C w w') (hC : B ≤ C) {cs : List Cn} {A : Option Addr} (h : CnRow w B cs A) : CnRow w' B cs A :=
  h.keep (fun _ hp => hb.cell (Nat.lt_of_lt_of_le hp hC)) (Nat.le_refl _)

theorem CnRow.more {w : World} {B B' : Nat} (hB : B ≤ B') {cs : List Cn} {A : Option Addr} (h : CnRow w B cs A) : CnRow w B' cs A := h.keep (fun _ _ => rfl) hB

theorem CCells.stay {w w' : World} {B : Nat} {p : Addr} {k ak an : Int} {sa : List UInt8} {la : Value} {bk bn : Int} {sb : List UInt8} {lb ll : Value} (h : CCells w p k ak an sa la bk bn sb lb ll) (hb : Below B w w') (hp : p.block < B) : CCells w' p k ak an sa la bk bn sb lb ll :=
  h.keep (fun _ hq => hb.cell hq) hp

end Go.Proofs.YtbmejohoifpfhaaDoor
