/-
  What the laws on changes share: behind spoil the arguments and their copies are as they were.
-/
import Derived.Test.YtocgbooackofiaaMemK
import Derived.Test.YtocgbooackofiaaMemE
import Derived.Test.YtocgbooackofiaaMemS
namespace Go.Proofs.Ytocgbooackofiaa
open Go.RowKit Go.Lib

/-- sepalref06.Equal where both memories are the same. -/
theorem requal_same (A B : Option Addr) (ca cb n n2 : Nat) (l : List Bk) (hn : n = l.length) (hn2 : n2 = l.length) (hl : n ≤ maxLen) (w : World) (hA : MemAt w w.heap.size A l) (hB : MemAt w w.heap.size B l) :
    Calls Try.prog 17 #[.slice A n ca, .slice B n2 cb] w fun e w' => e = .returned (.bool true) ∧ Below w.heap.size w w' :=
  requal_any A B ca cb n n2 l l hn hn2 hl w hA hB true ⟨fun _ => rfl, fun _ => rfl⟩

theorem spoil_own (B0 : Nat) (A : Option Addr) (c : Nat) (L : List Bx) (hl : L.length ≤ maxLen) (w : World) (h : OwnMem w B0 (.slice A L.length c) L) :
    Calls Try.prog 23 #[.slice A L.length c] w (SpoilPost B0 w) :=
  spoil_any B0 A c L.length L rfl hl (fun p hp => (h.2 p hp).1.2) w h.shape

/-- Two steps that leave what lies below B. -/
theorem below_two {B : Nat} {a b c : World} (h : Below B a b) (g : Below b.heap.size b c) (hB : B ≤ b.heap.size) : Below B a c := h.trans (g.mono hB)

end Go.Proofs.Ytocgbooackofiaa
