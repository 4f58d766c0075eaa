/-
  The body of the law ValueStores.
-/
import Derived.Test.YtkmpjjpohgjdjaaDoorValAw
import Derived.Test.YtkmpjjpohgjdjaaDoorValRv
import Derived.Test.YtkmpjjpohgjdjaaDoorValGt
namespace Go.Proofs.YtkmpjjpohgjdjaaDoor
open Go.RowKit

set_option maxRecDepth 100000 in
set_option maxHeartbeats 4000000 in
theorem stores_law (A : Option Addr) (c : Nat) (S : List Bd) (hl : S.length ≤ maxLen) (t : ByteArray) (w : World) (hA : BdRow w w.heap.size S A) :
    Calls Tryd.prog 3 #[.slice A S.length c, .string t] w fun e w' => e = .returned (.bool true) ∧ Below w.heap.size w w' := by
  obtain ⟨rs, hrs⟩ := says (StOk S)
  obtain ⟨n, hn⟩ : ∃ n, n = S.length := ⟨_, rfl⟩
  rw [← hn] at hl ⊢
  unfold maxLen at hl
  by_cases h40 : n ≤ 40
  rotate_left
  · have h40' : (40 : Int) < n := by omega
    clear h40 hA hn hrs
    go_enter Tryd.func3, Tryd.ntmps3
    go_wp2_with fail
    refine (awake_any _).mono ?_
    rintro e w1 ⟨rfl, hb⟩
    have H1 := Lib.hid hb
    clear hb
    go_wp2_with fail
    refine (awake_any _).mono ?_
    rintro e w2 ⟨rfl, hb⟩
    have H2 := Lib.hid (H1.out.next hb)
    clear hb
    go_wp2
    go_ret
    exact ⟨rfl, H2.out⟩
  have h40' : ¬ (40 : Int) < n := by omega
  have HRv : Hid (∀ W, Below w.heap.size w W → Calls Tryd.prog 10 #[.slice A n c] W fun e w' => e = .returned (.bool rs) ∧ Below W.heap.size W w') := Lib.hid (fun W hb => rvalidS_any A c n S hn (by unfold maxLen; omega) W (bd_later hA hb) rs hrs)
  have HVv : Hid (∀ W, Below w.heap.size w W → Calls Tryd.prog 12 #[.slice A n c] W fun e w' => e = .returned (.bool rs) ∧ Below W.heap.size W w') := Lib.hid (fun W hb => vvalid_any A c n S hn (by unfold maxLen; omega) W (bd_later hA hb) rs hrs)
  have HG : Hid (∀ W, Below w.heap.size w W → Calls Tryd.prog 11 #[.slice A n c, .string t] W fun e w' => e = .returned (.tuple #[.int .i64 (gr rs S t.data.toList).1, .bool (gr rs S t.data.toList).2]) ∧ Below W.heap.size W w') := Lib.hid (fun W hb => by
    have := vGet_any A c n S hn (by omega) t.data.toList W (bd_later hA hb) rs hrs
    rwa [str_list] at this)
  have HRg : Hid (∀ W, Below w.heap.size w W → Calls Tryd.prog 13 #[.slice A n c, .string t] W fun e w' => e = .returned (.tuple #[.int .i64 (getS S t.data.toList).1, .bool (getB S t.data.toList)]) ∧ W = w') := Lib.hid (fun W hb => by
    have := rgetv_any A c n S hn (by unfold maxLen; omega) t.data.toList W (bd_later hA hb)
    rwa [str_list] at this)
  unfold gr at HG
  generalize (getS S t.data.toList).1 = gv at *
  generalize getB S t.data.toList = gb at *
  clear hA hn hrs h40
  cases rs
  · go_enter Tryd.func3, Tryd.ntmps3
    go_wp2_with fail
    refine (awake_any _).mono ?_
    rintro e w1 ⟨rfl, hb⟩
    have H1 := Lib.hid hb
    clear hb
    go_wp2_with fail
    refine (HRv.out _ H1.out).mono ?_
    rintro e w2 ⟨rfl, hb⟩
    have H2 := Lib.hid (H1.out.next hb)
    clear hb
    go_wp2_with fail
    refine (HG.out _ H2.out).mono ?_
    rintro e w3 ⟨rfl, hb⟩
    have H3 := Lib.hid (H2.out.next hb)
    clear hb
    go_wp2_with fail
    refine (HVv.out _ H3.out).mono ?_
    rintro e w4 ⟨rfl, hb⟩
    have H4 := Lib.hid (H3.out.next hb)
    clear hb
    go_wp2
    go_ret
    exact ⟨rfl, H4.out⟩
  · go_enter Tryd.func3, Tryd.ntmps3
    go_wp2_with fail
    refine (awake_any _).mono ?_
    rintro e w1 ⟨rfl, hb⟩
    have H1 := Lib.hid hb
    clear hb
    go_wp2_with fail
    refine (HRv.out _ H1.out).mono ?_
    rintro e w2 ⟨rfl, hb⟩
    have H2 := Lib.hid (H1.out.next hb)
    clear hb
    go_wp2_with fail
    refine (HG.out _ H2.out).mono ?_
    rintro e w3 ⟨rfl, hb⟩
    have H3 := Lib.hid (H2.out.next hb)
    clear hb
    go_wp2_with fail
    refine (HVv.out _ H3.out).mono ?_
    rintro e w4 ⟨rfl, hb⟩
    have H4 := Lib.hid (H3.out.next hb)
    clear hb
    go_wp2_with fail
    refine (HRg.out _ H4.out).mono ?_
    rintro e w5 ⟨rfl, rfl⟩
    go_wp2
    go_ret
    exact ⟨by simp, H4.out⟩

end Go.Proofs.YtkmpjjpohgjdjaaDoor
