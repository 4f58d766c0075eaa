/-
  The example of the chapter: sepallaw06.awake.
-/
import Derived.Test.YtbmejohoifpfhaaMemN
namespace Go.Proofs.Ytbmejohoifpfhaa
open Go.RowKit Go.Lib

def exMem : List Bk := [⟨1, [78, 111, 100, 101], [3]⟩, ⟨3, [78, 111, 100, 101], [0]⟩]

theorem name_node : nameL [78, 111, 100, 101] = true := by decide +kernel

theorem exMem_ok : MemOk exMem := by
  refine ⟨by decide, fun i x hx => ?_⟩
  match i, hx with
  | 0, hx =>
    obtain rfl := Option.some.inj hx
    refine ⟨⟨⟨by decide, by decide⟩, name_node, ⟨by decide, by decide⟩, fun n hn => ?_⟩, fun y h0 => absurd h0 (by decide)⟩
    obtain rfl := List.mem_singleton.1 hn
    exact ⟨by decide, by decide⟩
  | 1, hx =>
    obtain rfl := Option.some.inj hx
    refine ⟨⟨⟨by decide, by decide⟩, name_node, ⟨by decide, by decide⟩, fun n hn => ?_⟩, fun y _ hy => ?_⟩
    · obtain rfl := List.mem_singleton.1 hn
      exact ⟨by decide, by decide⟩
    · obtain rfl := Option.some.inj hy
      show (1 : Int) < 3
      decide
  | i + 2, hx => simp [exMem] at hx

theorem exMem_no {t : Int} (h1 : t ≠ 1) (h3 : t ≠ 3) : NoAt exMem t := by
  intro i x hx
  match i, hx with
  | 0, hx => obtain rfl := Option.some.inj hx; exact fun e => h1 e.symm
  | 1, hx => obtain rfl := Option.some.inj hx; exact fun e => h3 e.symm
  | i + 2, hx => simp [exMem] at hx

theorem ex_free0 : IsFree exMem 0 2 := ⟨1, rfl, exMem_no (by decide) (by decide), by decide⟩
theorem ex_free1 : IsFree exMem 1 4 := ⟨3, rfl, exMem_no (by decide) (by decide), by decide⟩
theorem ex_free3 : IsFree exMem 3 6 := ⟨5, rfl, exMem_no (by decide) (by decide), by decide⟩

theorem ex_new {ch a e a0 : Int} {l' : List Bk} (h : NewIs exMem ch [78, 111, 100, 101] 1 l' a e) (hf : IsFree exMem (kOf ch) a0) : a = a0 ∧ e = 0 := by
  rcases h with h | h | h | h | h
  · exact absurd exMem_ok h.1
  · exact absurd name_node (by rw [h.2.1]; decide)
  · exact absurd h.2.2.1 (by decide)
  · exact absurd h.2.2.2.1 (by decide)
  · exact ⟨h.1.2.2.2.2.1.uniq hf, h.2⟩

def exL (N : Nat) : List Bx := [⟨⟨1, [78, 111, 100, 101], [3]⟩, some ⟨N, 0, none⟩, 1⟩, ⟨⟨3, [78, 111, 100, 101], [0]⟩, some ⟨N + 1, 0, none⟩, 1⟩]

theorem ex_field {w : World} {b : Nat} {v : Int} {t : TypeId} (h : w.heap[b]? = some (.cells #[.int .i64 v] t (0, 0))) : FieldsAt w w.heap.size (some ⟨b, 0, none⟩) [v] := by
  intro i u hi
  match i, hi with
  | 0, hi =>
    obtain rfl := Option.some.inj hi
    exact ⟨_, rfl, (Array.getElem?_eq_some_iff.1 h).1, (cell_free h 0 _ rfl).1⟩
  | i + 1, hi => simp at hi

theorem ex_mem {w : World} {t u : TypeId} (N : Nat) (h0 : w.heap[N]? = some (.cells #[.int .i64 3] t (0, 0))) (h1 : w.heap[N + 1]? = some (.cells #[.int .i64 0] t (0, 0)))
    (h2 : w.heap[N + 2]? = some (.cells #[.int .i64 1, .string ⟨#[78, 111, 100, 101]⟩, .slice (some ⟨N, 0, none⟩) 1 1, .int .i64 3, .string ⟨#[78, 111, 100, 101]⟩, .slice (some ⟨N + 1, 0, none⟩) 1 1] u (0, 0))) :
    MemAt w w.heap.size (some ⟨N + 2, 0, none⟩) exMem := by
  have hr : Reads w w.heap.size 3 (some ⟨N + 2, 0, none⟩) (exL N).length (cellsL (exL N)) := by
    refine ⟨rfl, fun _ => ⟨_, rfl, (Array.getElem?_eq_some_iff.1 h2).1, fun j v hj => ?_⟩⟩
    rw [Addr.add_lit, Nat.zero_add]
    refine (cell_free h2 j v ?_).1
    rw [← hj]
    show (#[_, _, _, _, _, _] : Array Value)[j]? = ([_, _, _, _, _, _] : List Value)[j]?
    simp
  refine hr.mem fun p hp => ?_
  rcases List.mem_cons.1 hp with rfl | hp
  · exact ⟨⟨by show 4 ≤ maxLen; unfold maxLen; decide, by show 1 ≤ maxLen; unfold maxLen; decide⟩, ex_field h0⟩
  · obtain rfl := List.mem_singleton.1 hp
    exact ⟨⟨by show 4 ≤ maxLen; unfold maxLen; decide, by show 1 ≤ maxLen; unfold maxLen; decide⟩, ex_field h1⟩

set_option maxRecDepth 100000 in
set_option maxHeartbeats 2000000 in
theorem awake_any (w : World) : Calls Try.prog 5 #[] w fun e w' => e = .returned (.bool true) ∧ Below w.heap.size w w' := by
  obtain ⟨W0, hW0⟩ : ∃ W0, W0 = ((w.alloc (.cells #[.int .i64 3] 3)).alloc (.cells #[.int .i64 0] 3)).alloc (.cells #[.int .i64 1, .string ⟨#[78, 111, 100, 101]⟩, .slice (some ⟨w.heap.size, 0, none⟩) 1 1, .int .i64 3, .string ⟨#[78, 111, 100, 101]⟩, .slice (some ⟨w.heap.size + 1, 0, none⟩) 1 1] 42) := ⟨_, rfl⟩
  have H0 : Hid (Below w.heap.size w W0) := Lib.hid (by rw [hW0]; exact ((below_alloc w _).al _).al _)
  have HM : Hid (MemAt W0 W0.heap.size (some ⟨w.heap.size + 2, 0, none⟩) exMem) := Lib.hid (by
    have z1 := size_of_alloc w (.cells #[.int .i64 3] 3)
    have z2 := size_of_alloc (w.alloc (.cells #[.int .i64 3] 3)) (.cells #[.int .i64 0] 3)
    rw [z1] at z2
    refine ex_mem (t := 3) (u := 42) w.heap.size ?_ ?_ ?_
    · rw [hW0]
      exact ((below_alloc _ _).block _ (by rw [z2]; omega)).trans (((below_alloc _ _).block _ (by rw [z1]; omega)).trans (heap_of_alloc w _))
    · rw [hW0]
      refine ((below_alloc _ _).block _ (by rw [z2]; omega)).trans ?_
      have := heap_of_alloc (w.alloc (.cells #[.int .i64 3] 3)) (.cells #[.int .i64 0] 3)
      rwa [z1] at this
    · rw [hW0]
      have := heap_of_alloc ((w.alloc (.cells #[.int .i64 3] 3)).alloc (.cells #[.int .i64 0] 3)) (.cells #[.int .i64 1, .string ⟨#[78, 111, 100, 101]⟩, .slice (some ⟨w.heap.size, 0, none⟩) 1 1, .int .i64 3, .string ⟨#[78, 111, 100, 101]⟩, .slice (some ⟨w.heap.size + 1, 0, none⟩) 1 1] 42)
      rwa [z2] at this)
  have HNw : Hid (∀ (W : World) (ch : Int), Below W0.heap.size W0 W → -9223372036854775808 ≤ ch ∧ ch ≤ 9223372036854775807 → Calls Try.prog 17 #[.slice (some ⟨w.heap.size + 2, 0, none⟩) 2 2, .int .i64 ch, .string ⟨#[78, 111, 100, 101]⟩, .int .i64 1] W (NewPost exMem ch [78, 111, 100, 101] 1 W)) :=
    Lib.hid (fun W ch hW hch => new_any _ 2 2 exMem rfl (by unfold maxLen; decide) ch hch [78, 111, 100, 101] (by unfold maxLen; decide) 1 W (HM.out.later hW))
  go_enter Try.func5, Try.ntmps5
  go_wp2_with fail
  rw [← hW0]
  clear hW0
  refine (HNw.out _ _ (Below.refl _ _) (by decide)).mono ?_
  rintro e w1 ⟨A1, L1, c1, a1, e1, rfl, hI, hO, hb⟩
  obtain ⟨rfl, rfl⟩ := ex_new hI ex_free0
  have H1 := Lib.hid hb
  clear hI hO hb
  go_wp2_with fail
  refine (HNw.out _ _ H1.out (by decide)).mono ?_
  rintro e w2 ⟨A2, L2, c2, a2, e2, rfl, hI, hO, hb⟩
  obtain ⟨rfl, rfl⟩ := ex_new hI ex_free1
  have H2 := Lib.hid (H1.out.next hb)
  clear hI hO hb
  go_wp2_with fail
  refine (HNw.out _ _ H2.out (by decide)).mono ?_
  rintro e w3 ⟨A3, L3, c3, a3, e3, rfl, hI, hO, hb⟩
  obtain ⟨rfl, rfl⟩ := ex_new hI ex_free3
  have H3 := Lib.hid (H2.out.next hb)
  clear hI hO hb
  go_wp2
  go_ret
  exact ⟨rfl, H0.out.next H3.out⟩

end Go.Proofs.Ytbmejohoifpfhaa
