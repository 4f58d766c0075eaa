/-
  Contract of value.Get.
-/
import Derived.Test.YtbmejohoifpfhaaDoorValV
namespace Go.Proofs.YtbmejohoifpfhaaDoor
open Go.RowKit

/-- What value.Get answers, where rs says whether the store is valid. -/
def gr (rs : Bool) (S : List Bd) (t : List UInt8) : Int × Bool := if rs then ((getS S t).1, getB S t) else (0, false)

set_option maxRecDepth 100000 in
set_option maxHeartbeats 2000000 in
theorem vGet_any (A : Option Addr) (c n : Nat) (S : List Bd) (hn : n = S.length) (h100 : n ≤ 100) (t : List UInt8) (w : World) (hA : BdRow w w.heap.size S A) (rs : Bool) (hrs : Tells rs (StOk S)) :
    Calls Tryd.prog 11 #[.slice A n c, .string ⟨t.toArray⟩] w fun e w' => e = .returned (.tuple #[.int .i64 (gr rs S t).1, .bool (gr rs S t).2]) ∧ Below w.heap.size w w' := by
  have HV : Hid (Calls Tryd.prog 12 #[.slice A n c] w fun e w' => e = .returned (.bool rs) ∧ Below w.heap.size w w') := Lib.hid (vvalid_any A c n S hn (by unfold maxLen; omega) w hA rs hrs)
  cases rs
  · clear hA hrs hn
    go_enter Tryd.func11, Tryd.ntmps11
    go_wp2_with fail
    refine HV.out.mono ?_
    rintro e w1 ⟨rfl, hb⟩
    have H1 := Lib.hid hb
    clear hb
    go_wp2
    go_ret2
    exact ⟨rfl, H1.out⟩
  · have HG : Hid (∀ W, Below w.heap.size w W → Calls Tryd.prog 24 #[.slice A n c, .string ⟨t.toArray⟩] W fun e w' => e = .returned (.tuple #[.int .i64 (getS S t).1, .int .i64 (getS S t).2]) ∧ Below W.heap.size W w') := Lib.hid (fun W hb => vget_any A c n S hn h100 t W hrs.t (bd_later hA hb))
    clear hA hrs hn
    unfold gr getB
    generalize getS S t = g at *
    obtain ⟨g1, g2⟩ := g
    simp only [if_true] at HG ⊢
    go_enter Tryd.func11, Tryd.ntmps11
    go_wp2_with fail
    refine HV.out.mono ?_
    rintro e w1 ⟨rfl, hb⟩
    have H1 := Lib.hid hb
    clear hb
    go_wp2_with fail
    refine (HG.out _ H1.out).mono ?_
    rintro e w2 ⟨rfl, hb⟩
    have H2 := Lib.hid (H1.out.next hb)
    clear hb
    go_wp2
    go_ret2
    exact ⟨rfl, H2.out⟩

end Go.Proofs.YtbmejohoifpfhaaDoor
