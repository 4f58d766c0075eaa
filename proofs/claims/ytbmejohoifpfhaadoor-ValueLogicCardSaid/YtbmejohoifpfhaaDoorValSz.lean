/-
  The law's size: the number of nodes of an expression, at most 201.
-/
import Derived.Test.YtbmejohoifpfhaaDoorValN
namespace Go.Proofs.YtbmejohoifpfhaaDoor
open Go.RowKit

/-- Behind size. -/
def SizePost (w : World) (e : Ending) (w' : World) : Prop := ∃ r : Int, e = .returned (.int .i64 r) ∧ 1 ≤ r ∧ r ≤ 201 ∧ Below w.heap.size w w'

set_option maxRecDepth 100000 in
set_option maxHeartbeats 4000000 in
theorem size_by : ∀ (M : Nat) (l : List Ex), SizeOf.sizeOf l < M → ∀ (k n : Int) (s : List UInt8) (A : Option Addr) (c : Nat) (w : World), ExRow w w.heap.size l A → l.length ≤ maxLen →
    Calls Tryd.prog 25 #[exprV k n ⟨s.toArray⟩ (.slice A l.length c)] w (SizePost w) := by
  intro M
  induction M with
  | zero => intro l h; omega
  | succ M ih =>
    intro l hM k n s A c w hr hl
    obtain ⟨z, hz⟩ : ∃ z, z = l.length := ⟨_, rfl⟩
    have HH := Lib.hid (And.intro hr (And.intro ih (And.intro hM hz)))
    rw [← hz] at hl ⊢
    have HB0 := Lib.hid (below_alloc w (exprC k n ⟨s.toArray⟩ (.slice A z c)))
    clear hr ih hM hz
    unfold maxLen at hl
    go_enter Tryd.func25, Tryd.ntmps25
    go_wp2
    go_loopg [3, 9] z (fun m ac j wr => ∃ (i : Nat) (r : Int), m = z - i ∧ i ≤ z ∧ j = .int .i64 i ∧ ac = .int .i64 r ∧ 1 ≤ r ∧ r ≤ 401 ∧ Hid (Below w.heap.size w wr))
    case atStart => exact ⟨0, 1, rfl, Nat.zero_le _, rfl, rfl, by omega, by omega, HB0⟩
    case round =>
      obtain ⟨i, r, rfl, hi, rfl, rfl, hr0, hr1, HI⟩ := hrel
      by_cases hlt : i < z
      · have hii : (i : Int) < z := by omega
        obtain ⟨⟨k0, n0, s0, l0⟩, hg⟩ : ∃ x, l[i]? = some x := ⟨l[i]'(by rw [← HH.out.2.2.2]; exact hlt), List.getElem?_eq_getElem _⟩
        obtain ⟨a, A', c', rfl, hab, d0, d1, d2, d3, hs0, hl0, hrow⟩ := ex_cells (HH.out.1.on HI.out) hg
        have hsz : SizeOf.sizeOf l0 < M := by
          have h1 := HH.out.2.2.1
          have h2 := List.sizeOf_lt_of_mem (List.mem_of_getElem? hg)
          have h3 : SizeOf.sizeOf l0 < SizeOf.sizeOf (Ex.mk k0 n0 s0 l0) := by simp; omega
          omega
        have HJ := Lib.hid (below_alloc wr (exprC k0 n0 ⟨s0.toArray⟩ (.slice A' l0.length c')))
        have HC := Lib.hid (HH.out.2.1 l0 hsz k0 n0 s0 A' c' (wr.alloc (exprC k0 n0 ⟨s0.toArray⟩ (.slice A' l0.length c'))) (hrow.on HJ.out) hl0)
        have HLT := Lib.hid (And.intro trivial hlt)
        clear hrow hs0 hl0 hg hsz
        by_cases hle : r ≤ 200
        · go_wp2_with fail
          refine HC.out.mono ?_
          rintro e w3 ⟨r', rfl, p0, p1, hb⟩
          have HB3 := Lib.hid (HI.out.next (HJ.out.next hb))
          clear hb
          have hw1 : IntKind.i64.wrap (r + r') = r + r' := by rw [IntKind.wrap_i64]; omega
          go_wp2
          go_roundg (z - (i + 1))
          case measure => have := HLT.out.2; omega
          case rel => exact ⟨i + 1, r + r', rfl, by have := HLT.out.2; omega, by go_num, rfl, by omega, by omega, HB3⟩
        · have HB3 := Lib.hid (HI.out.next HJ.out)
          go_wp2
          go_roundg (z - (i + 1))
          case measure => have := HLT.out.2; omega
          case rel => exact ⟨i + 1, r, rfl, by have := HLT.out.2; omega, by go_num, rfl, hr0, hr1, HB3⟩
      · obtain rfl : i = z := by omega
        have hlt' : ¬ (i : Int) < (i : Int) := by omega
        by_cases h201 : r ≤ 201
        · have hm : min r 201 = r := by omega
          go_wp2
          go_ret
          exact ⟨r, by simp, hr0, h201, HI.out⟩
        · have hm : min r 201 = 201 := by omega
          go_wp2
          go_ret
          exact ⟨201, by simp, by decide, by decide, HI.out⟩

theorem size_any (k n : Int) (s : List UInt8) (l : List Ex) (A : Option Addr) (c : Nat) (w : World) (hr : ExRow w w.heap.size l A) (hl : l.length ≤ maxLen) :
    Calls Tryd.prog 25 #[exprV k n ⟨s.toArray⟩ (.slice A l.length c)] w (SizePost w) := size_by _ l (Nat.lt_succ_self _) k n s A c w hr hl

end Go.Proofs.YtbmejohoifpfhaaDoor
