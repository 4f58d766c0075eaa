/-
  Contract of value.Valid.
-/
import Derived.Test.YtbmejohoifpfhaaDoorValE
import Derived.Deep.QuietTactic
import Derived.BigQuiet
namespace Go.Proofs.YtbmejohoifpfhaaDoor
open Go.RowKit

def UptoSt (l : List Bd) (k : Nat) : Prop := ∀ (i : Nat) x, i < k → l[i]? = some x → BStep l i x

theorem uptoSt_zero (l : List Bd) : UptoSt l 0 := fun i _ hi => absurd hi (Nat.not_lt_zero i)

theorem UptoSt.next {l : List Bd} {k : Nat} {x : Bd} (h : UptoSt l k) (hx : l[k]? = some x) (hs : BStep l k x) : UptoSt l (k + 1) := by
  intro i y hi hy
  by_cases he : i = k
  · subst he
    have : y = x := Option.some.inj (hy.symm.trans hx)
    subst this
    exact hs
  · exact h i y (by omega) hy

theorem UptoSt.all {l : List Bd} {k : Nat} (h : UptoSt l k) (hk : l.length ≤ k) : StOk l :=
  fun i x hx => h i x (by have := (List.getElem?_eq_some_iff.1 hx).1; omega) hx

theorem not_stOk {l : List Bd} {k : Nat} {x : Bd} (hx : l[k]? = some x) (hs : ¬ BStep l k x) : ¬ StOk l := fun h => hs (h k x hx)

set_option maxRecDepth 100000 in
set_option maxHeartbeats 8000000 in
theorem vvalid_any (A : Option Addr) (c n : Nat) (l : List Bd) (hn : n = l.length) (hl : n ≤ maxLen) (w : World) (hm : BdRow w w.heap.size l A) (r : Bool) (hr : Tells r (StOk l)) :
    Calls Tryd.prog 12 #[.slice A n c] w fun e w' => e = .returned (.bool r) ∧ Below w.heap.size w w' := by
  have HM := Lib.hid (And.intro hm hn)
  have HR := Lib.hid hr
  unfold maxLen at hl
  clear hm hn hr
  go_enter Tryd.func12, Tryd.ntmps12
  go_wp2
  go_loopg [7] n (fun m j wr => ∃ k : Nat, m = n - k ∧ k ≤ n ∧ j = .int .i64 k ∧ Hid (Below w.heap.size w wr ∧ UptoSt l k))
  case atStart => exact ⟨0, rfl, Nat.zero_le _, rfl, Lib.hid ⟨Below.refl _ _, uptoSt_zero l⟩⟩
  case round =>
    obtain ⟨k, rfl, hk, rfl, HI⟩ := hrel
    by_cases hlt : k < n
    · have hlt' : (k : Int) < n := by omega
      obtain ⟨x, hx⟩ := bd_ex (l := l) (i := k) (by rw [← HM.out.2]; exact hlt)
      obtain ⟨a, rfl, hab, c0, c1, _⟩ := bd_cells (bd_later HM.out.1 HI.out.1) hx
      have HX := Lib.hid hx
      obtain ⟨xn, hxn⟩ : ∃ xn, xn = x.n := ⟨_, rfl⟩
      obtain ⟨xv, hxv⟩ : ∃ xv, xv = x.v := ⟨_, rfl⟩
      rw [← hxn] at c0
      rw [← hxv] at c1
      have HE := Lib.hid (And.intro hxn hxv)
      have HV : Hid (∀ W, Calls Tryd.prog 21 #[.int .i64 xv] W fun e w' => e = .returned (.bool (inB xv)) ∧ W = w') := Lib.hid (vin_any xv)
      obtain ⟨ib, hib⟩ : ∃ b, b = inB xv := ⟨_, rfl⟩
      rw [← hib] at HV
      have HIB : Hid (Tells ib (InR xv)) := Lib.hid (hib ▸ inB_tells xv)
      have HJ := Lib.hid (below_alloc wr (.cells #[.string ⟨xn.toArray⟩, .int .i64 xv] 26))
      clear hx hxn hxv hib
      cases he : (xn == [])
      · have HNE : Hid (xn ≠ []) := Lib.hid (beq_eq_false_iff_ne.1 he)
        cases ib
        · go_wp2
          go_quiet ((go_at_call 21; exact Calls.quiet_of_same (flip_same (HV.out _))))
          go_wp2
          go_ret
          exact ⟨ret_no HR.out (not_stOk HX.out (fun h => HIB.out.f (HE.out.2 ▸ h.1.2))), (HI.out.1.next HJ.out).dn _⟩
        · by_cases hk0 : k = 0
          · have hk0' : decide (0 < k) = false := decide_eq_false (by omega)
            have HK := Lib.hid hk0
            clear hk0
            go_wp2
            go_quiet ((go_at_call 21; exact Calls.quiet_of_same (flip_same (HV.out _))))
            go_wp2
            go_roundg (n - (k + 1))
            case measure => omega
            case rel => exact ⟨k + 1, rfl, by omega, by go_num, Lib.hid ⟨(HI.out.1.next HJ.out).dn _, HI.out.2.next HX.out ⟨⟨HE.out.1 ▸ HNE.out, HE.out.2 ▸ HIB.out.t⟩, fun y h0 => absurd h0 (by have := HK.out; omega)⟩⟩⟩
          · obtain ⟨j, rfl⟩ : ∃ j, k = j + 1 := ⟨k - 1, by omega⟩
            clear hk0
            obtain ⟨y, hy⟩ := bd_ex (l := l) (i := j) (by rw [← HM.out.2]; omega)
            obtain ⟨a', ha, hab', d0, d1, _⟩ := bd_cells (bd_later HM.out.1 HI.out.1) hy
            obtain rfl : a = a' := Option.some.inj ha
            have HY := Lib.hid hy
            obtain ⟨yn, hyn⟩ : ∃ yn, yn = y.n := ⟨_, rfl⟩
            rw [← hyn] at d0
            have HYN := Lib.hid hyn
            have HD0 : Hid ((wr.alloc (.cells #[.string ⟨xn.toArray⟩, .int .i64 xv] 26)).cell? (a.add (j * 2)) = some (.string ⟨yn.toArray⟩)) := Lib.hid ((HJ.out.cell (by rw [block_adds]; exact hab')).trans d0)
            have e0 := HD0.out
            rw [show ((j + 1 : Nat) : Int) = (j : Int) + 1 from by omega] at hlt' ⊢
            have hj : (j : Int) < n := by omega
            have hj0 : (0 : Int) ≤ j := by omega
            have hpos : decide ((0 : Int) < (j : Int) + 1) = true := decide_eq_true (by omega)
            have hwr : IntKind.i64.wrap (j : Int) = j := by rw [IntKind.wrap_i64]; omega
            clear hy ha d1 hyn
            cases hlt2 : Op.bytesLess yn xn
            · go_wp2
              go_quiet ((go_at_call 21; exact Calls.quiet_of_same (flip_same (HV.out _))))
              go_wp2
              go_ret
              exact ⟨ret_no HR.out (not_stOk HX.out (fun h => by have := h.2 y (by omega) HY.out; rw [← HYN.out, ← HE.out.1, hlt2] at this; cases this)), (HI.out.1.next HJ.out).dn _⟩
            · go_wp2
              go_quiet ((go_at_call 21; exact Calls.quiet_of_same (flip_same (HV.out _))))
              go_wp2
              go_roundg (n - (j + 1 + 1))
              case measure => omega
              case rel => exact ⟨j + 1 + 1, rfl, by omega, by go_num, Lib.hid ⟨(HI.out.1.next HJ.out).dn _, HI.out.2.next HX.out ⟨⟨HE.out.1 ▸ HNE.out, HE.out.2 ▸ HIB.out.t⟩, fun z _ hz => by
                have : z = y := Option.some.inj (hz.symm.trans HY.out)
                rw [this, ← HYN.out, ← HE.out.1]; exact hlt2⟩⟩⟩
      · have HNE : Hid (xn = []) := Lib.hid (beq_iff_eq.1 he)
        go_wp2
        go_quiet ((go_at_call 21; exact Calls.quiet_of_same (flip_same (HV.out _))))
        go_wp2
        go_ret
        exact ⟨ret_no HR.out (not_stOk HX.out (fun h => h.1.1 (HE.out.1 ▸ HNE.out))), (HI.out.1.next HJ.out).dn _⟩
    · obtain rfl : k = n := by omega
      have hlt' : ¬ (k : Int) < (k : Int) := by omega
      go_wp2
      go_ret
      exact ⟨ret_yes HR.out (HI.out.2.all (by rw [← HM.out.2]; exact Nat.le_refl _)), HI.out.1⟩

end Go.Proofs.YtbmejohoifpfhaaDoor
