/-
  The body of the law MemoryNews.
-/
import Derived.Test.YtocgbooackofiaaMemA
import Derived.Test.YtocgbooackofiaaMemRN
import Derived.Test.YtocgbooackofiaaMemH
namespace Go.Proofs.Ytocgbooackofiaa
open Go.RowKit Go.Lib

theorem newIs_uniq {l : List Bk} {ch : Int} {rc : List UInt8} {nf : Int} {l1 l2 : List Bk} {a1 a2 e1 e2 : Int} (h : NewIs l ch rc nf l1 a1 e1) (g : NewIs l ch rc nf l2 a2 e2) : l1 = l2 ∧ a1 = a2 ∧ e1 = e2 := by
  have hf : (nameL rc = true) → nameL rc = false → False := fun h1 h2 => by rw [h1] at h2; cases h2
  rcases h with ⟨h1, rfl, rfl, rfl⟩ | ⟨h1, h2, rfl, rfl, rfl⟩ | ⟨h1, h2, h3, rfl, rfl, rfl⟩ | ⟨h1, h2, h3, h4, rfl, rfl, rfl⟩ | ⟨⟨h1, h2, h3, h4, h5, i, h6, h7⟩, rfl⟩ <;>
  rcases g with ⟨g1, rfl, rfl, rfl⟩ | ⟨g1, g2, rfl, rfl, rfl⟩ | ⟨g1, g2, g3, rfl, rfl, rfl⟩ | ⟨g1, g2, g3, g4, rfl, rfl, rfl⟩ | ⟨⟨g1, g2, g3, g4, g5, j, g6, g7⟩, rfl⟩ <;>
  first
    | exact ⟨rfl, rfl, rfl⟩
    | exact absurd ‹MemOk l› ‹¬ MemOk l›
    | exact (hf ‹nameL rc = true› ‹nameL rc = false›).elim
    | (exfalso; omega)
    | exact absurd ‹l.length = 100› ‹l.length ≠ 100›
    | (obtain rfl := h5.uniq g5
       obtain rfl := h6.uniq g6
       exact ⟨h7.trans g7.symm, rfl, rfl⟩)

theorem newIs_len {l : List Bk} {ch : Int} {rc : List UInt8} {nf : Int} {l1 l2 : List Bk} {a1 e1 : Int} {n : Nat} (_hl : n ≤ maxLen) (_hn : n = l.length) (h : NewIs l ch rc nf l1 a1 e1) (he : l1 = l2) : l2.length ≤ maxLen := by
  subst he
  rcases h with ⟨_, rfl, _⟩ | ⟨_, _, rfl, _⟩ | ⟨_, _, _, rfl, _⟩ | ⟨_, _, _, _, rfl, _⟩ | ⟨⟨h1, _, _, _, _, i, _, rfl⟩, _⟩
  · exact Nat.zero_le _
  · exact Nat.zero_le _
  · exact Nat.zero_le _
  · exact Nat.zero_le _
  · have := h1.1
    rw [List.length_append, List.length_take, List.length_cons, List.length_drop]
    unfold maxLen
    omega

set_option maxRecDepth 100000 in
set_option maxHeartbeats 2000000 in
theorem news_law (A : Option Addr) (c : Nat) (l : List Bk) (hs : SliceOk A l.length c) (hR : l.length * 48 ≤ 140737488351232 ∧ ∀ x ∈ l, x.f.length * 8 ≤ 140737488351232) (ch : Int) (hch : -9223372036854775808 ≤ ch ∧ ch ≤ 9223372036854775807) (rc : ByteArray) (hrc : rc.size ≤ maxLen) (nf : Int) (w : World) (hm : MemAt w w.heap.size A l) :
    Calls Try.prog 6 #[.slice A l.length c, .int .i64 ch, .string rc, .int .i64 nf] w fun e w' => e = .returned (.bool true) ∧ Below w.heap.size w w' := by
  have hl : l.length ≤ maxLen := Nat.le_trans hs.1 hs.2.1
  obtain ⟨n, hn⟩ : ∃ n, n = l.length := ⟨_, rfl⟩
  rw [← hn] at hs hR hl ⊢
  have HCl : Hid (∀ W, Below w.heap.size w W → Calls Try.prog 20 #[.slice A n c] W (LawClonePost l W)) := Lib.hid (fun W hW => lawclone_any A c n l hn hR.1 hR.2 W (hm.later hW))
  have HNw : Hid (∀ W, Below w.heap.size w W → Calls Try.prog 24 #[.slice A n c, .int .i64 ch, .string rc, .int .i64 nf] W (NewPost l ch rc.data.toList nf W)) := Lib.hid (fun W hW => by
    have := new_any A c n l hn hl ch hch rc.data.toList (by simpa using hrc) nf W (hm.later hW)
    rwa [str_list] at this)
  have HRw : Hid (∀ W, Below w.heap.size w W → Calls Try.prog 25 #[.slice A n c, .int .i64 ch, .string rc, .int .i64 nf] W (RNewPost l ch rc.data.toList nf W)) := Lib.hid (fun W hW => by
    have := rnew_any A c n l hn hs ch rc.data.toList (by simpa using hrc) nf W (hm.later hW)
    rwa [str_list] at this)
  have HM := Lib.hid (And.intro hm (And.intro hn hl))
  clear hm hn hl hs hR hrc hch
  go_enter Try.func6, Try.ntmps6
  go_wp2_with fail
  refine (awake_any _).mono ?_
  rintro e w1 ⟨rfl, hb⟩
  have H1 := Lib.hid hb
  clear hb
  go_wp2_with fail
  refine (HCl.out _ H1.out).mono ?_
  rintro e w2 ⟨A1, L1, c1, rfl, q1, q2, q3⟩
  have H2 := Lib.hid (And.intro q1 (And.intro q2 (H1.out.next q3)))
  clear q1 q2 q3
  go_wp2_with fail
  refine (HNw.out _ H2.out.2.2).mono ?_
  rintro e w3 ⟨A2, L2, c2, a2, e2, rfl, q1, q2, q3⟩
  have H3 := Lib.hid (And.intro q1 (And.intro q2 (And.intro q3 (H2.out.2.2.next q3))))
  clear q1 q2 q3
  go_wp2_with fail
  refine (HRw.out _ H3.out.2.2.2).mono ?_
  rintro e w4 ⟨A3, c3, l3, a3, e3, rfl, q1, q2, q3⟩
  obtain ⟨hl3, rfl, rfl⟩ := newIs_uniq H3.out.1 q1
  have H4 := Lib.hid (And.intro hl3 (And.intro q2 (And.intro q3 (H3.out.2.2.2.next q3))))
  clear q1 q2 q3 hl3
  go_wp2_with fail
  refine (requal_same A2 A3 c2 c3 _ _ l3 (by rw [← H4.out.1, blocksOf_len]) rfl (Nat.le_trans (Nat.le_of_eq (by rw [← H4.out.1, blocksOf_len])) (newIs_len HM.out.2.2 HM.out.2.1 H3.out.1 H4.out.1)) _ (by have := (H3.out.2.1.later H4.out.2.2.1).mem; rwa [H4.out.1] at this) H4.out.2.1).mono ?_
  rintro e w5 ⟨rfl, hb⟩
  have H5 := Lib.hid hb
  clear hb
  go_wp2_with fail
  refine (spoil_own w2.heap.size A2 c2 L2 (Nat.le_trans (Nat.le_of_eq (by rw [← H4.out.1, blocksOf_len])) (newIs_len HM.out.2.2 HM.out.2.1 H3.out.1 H4.out.1)) _ ((H3.out.2.1.later H4.out.2.2.1).later H5.out)).mono ?_
  rintro e w6 ⟨rfl, hb⟩
  have H6 := Lib.hid (And.intro hb ((H4.out.2.2.2.next H5.out).trans (hb.mono H2.out.2.2.size)))
  have H26 : Hid (Below w2.heap.size w2 w6) := Lib.hid ((((H3.out.2.2.1.next H4.out.2.2.1).next H5.out)).trans hb)
  clear hb
  go_wp2_with fail
  refine (requal_same A A1 c c1 n _ l HM.out.2.1 (by rw [← H2.out.1, blocksOf_len]) HM.out.2.2 _ (HM.out.1.later H6.out.2) (by have := (H2.out.2.1.later H26.out).mem; rwa [H2.out.1] at this)).mono ?_
  rintro e w7 ⟨rfl, hb⟩
  have H7 := Lib.hid (H6.out.2.next hb)
  clear hb
  go_wp2
  go_ret
  exact ⟨rfl, H7.out⟩

end Go.Proofs.Ytocgbooackofiaa
