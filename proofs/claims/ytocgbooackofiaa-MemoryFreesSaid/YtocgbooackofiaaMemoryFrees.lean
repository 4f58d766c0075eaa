/-
  The body of the law MemoryFrees.
-/
import Derived.Test.YtocgbooackofiaaMemA
import Derived.Test.YtocgbooackofiaaMemRF
import Derived.Test.YtocgbooackofiaaMemH
namespace Go.Proofs.Ytocgbooackofiaa
open Go.RowKit Go.Lib

theorem frIs_len {l l' : List Bk} {i : Nat} {er : Int} (h : FrIs l i er l') (hl : l.length ≤ maxLen) : l'.length ≤ maxLen := by
  rcases h with ⟨_, rfl⟩ | ⟨_, rfl⟩
  · exact Nat.zero_le _
  · rw [List.length_append, List.length_take, List.length_drop]; omega

set_option maxRecDepth 100000 in
set_option maxHeartbeats 2000000 in
theorem frees_law (A : Option Addr) (c : Nat) (l : List Bk) (hs : SliceOk A l.length c) (hR : l.length * 48 ≤ 140737488351232 ∧ ∀ x ∈ l, x.f.length * 8 ≤ 140737488351232) (t : Int) (w : World) (hm : MemAt w w.heap.size A l) :
    Calls Try.prog 7 #[.slice A l.length c, .int .i64 t] w fun e w' => e = .returned (.bool true) ∧ Below w.heap.size w w' := by
  obtain ⟨i, er, hA⟩ := located_ex l t
  obtain ⟨l', hW⟩ := fr_ex l i er
  have hl : l.length ≤ maxLen := Nat.le_trans hs.1 hs.2.1
  have hl' := frIs_len hW hl
  obtain ⟨n, hn⟩ : ∃ n, n = l.length := ⟨_, rfl⟩
  rw [← hn] at hR hl hs ⊢
  have HCl : Hid (∀ W, Below w.heap.size w W → Calls Try.prog 20 #[.slice A n c] W (LawClonePost l W)) := Lib.hid (fun W hW => lawclone_any A c n l hn hR.1 hR.2 W (hm.later hW))
  have HWr : Hid (∀ W, Below w.heap.size w W → Calls Try.prog 26 #[.slice A n c, .int .i64 t] W (WritePost l' er W)) := Lib.hid (fun W hb => free_any A c n l hn hl t W (hm.later hb) i er hA l' hW)
  have HRw : Hid (∀ W, Below w.heap.size w W → Calls Try.prog 27 #[.slice A n c, .int .i64 t] W (RMemPost l' er W)) := Lib.hid (fun W hb => rfree_any A c n l hn hs t W (hm.later hb) i er hA l' hW)
  have HM := Lib.hid (And.intro hm (And.intro hn (And.intro hl hl')))
  clear hm hn hl hR hA hW hl' hs
  go_enter Try.func7, Try.ntmps7
  go_wp2_with fail
  refine (awake_any _).mono ?_
  rintro e w1 ⟨rfl, hb⟩
  have H1 := Lib.hid hb
  clear hb
  go_wp2_with fail
  refine (HCl.out _ H1.out).mono ?_
  rintro e w2 ⟨A1, L1, c1, rfl, q1, q2, q3⟩
  have H2 := Lib.hid (And.intro q1 (And.intro q2 (H1.out.next q3)))
  clear q1 q2 q3
  go_wp2_with fail
  refine (HWr.out _ H2.out.2.2).mono ?_
  rintro e w3 ⟨A2, L2, c2, rfl, q1, q2, q3⟩
  have H3 := Lib.hid (And.intro q1 (And.intro q2 (And.intro q3 (H2.out.2.2.next q3))))
  clear q1 q2 q3
  go_wp2_with fail
  refine (HRw.out _ H3.out.2.2.2).mono ?_
  rintro e w4 ⟨A3, c3, rfl, q2, q3⟩
  have H4 := Lib.hid (And.intro q2 (And.intro q3 (H3.out.2.2.2.next q3)))
  clear q2 q3
  go_wp2_with fail
  refine (requal_same A2 A3 c2 c3 _ _ l' (by rw [← H3.out.1, blocksOf_len]) rfl (Nat.le_trans (Nat.le_of_eq (by rw [← H3.out.1, blocksOf_len])) HM.out.2.2.2) _ (by have := (H3.out.2.1.later H4.out.2.1).mem; rwa [H3.out.1] at this) H4.out.1).mono ?_
  rintro e w5 ⟨rfl, hb⟩
  have H5 := Lib.hid (And.intro hb (H4.out.2.2.next hb))
  have H25 : Hid (Below w2.heap.size w2 w5) := Lib.hid ((H3.out.2.2.1.next H4.out.2.1).next hb)
  clear hb
  go_wp2_with fail
  refine (spoil_own w2.heap.size A2 c2 L2 (Nat.le_trans (Nat.le_of_eq (by rw [← H3.out.1, blocksOf_len])) HM.out.2.2.2) _ ((H3.out.2.1.later H4.out.2.1).later H5.out.1)).mono ?_
  rintro e w7 ⟨rfl, hb⟩
  have H7 := Lib.hid (H5.out.2.trans (hb.mono H2.out.2.2.size))
  have H27 : Hid (Below w2.heap.size w2 w7) := Lib.hid (H25.out.trans hb)
  clear hb
  go_wp2_with fail
  refine (requal_same A A1 c c1 n _ l HM.out.2.1 (by rw [← H2.out.1, blocksOf_len]) HM.out.2.2.1 _ (HM.out.1.later H7.out) (by have := (H2.out.2.1.later H27.out).mem; rwa [H2.out.1] at this)).mono ?_
  rintro e w8 ⟨rfl, hb⟩
  have H8 := Lib.hid (H7.out.next hb)
  clear hb
  go_wp2
  go_ret
  exact ⟨rfl, H8.out⟩

end Go.Proofs.Ytocgbooackofiaa
