/-
  Contract of value.Set.
-/
import Derived.Test.YtbmejohoifpfhaaGreatDoorValI
import Derived.Test.YtbmejohoifpfhaaGreatDoorValV
namespace Go.Proofs.YtbmejohoifpfhaaGreatDoor
open Go.RowKit Go.Lib

theorem upto_nextB {l m : List Bd} {k : Nat} {x : Bd} (h : ∀ i, i < k → l[i]? = m[i]?) (hx : l[k]? = some x) (hy : m[k]? = some x) : ∀ i, i < k + 1 → l[i]? = m[i]? := by
  intro i hi
  by_cases e : i = k
  · subst e; rw [hx, hy]
  · exact h i (by omega)

theorem eq_uptoB {l m : List Bd} {k : Nat} (h : ∀ i, i < k → l[i]? = m[i]?) (hl : l.length ≤ k) (hm : m.length ≤ k) : l = m := by
  apply List.ext_getElem?
  intro i
  by_cases hi : i < k
  · exact h i hi
  · rw [List.getElem?_eq_none (by omega), List.getElem?_eq_none (by omega)]

theorem bd_ext {x y : Bd} (h1 : x.n = y.n) (h2 : x.v = y.v) : x = y := by
  cases x; cases y; simp only at h1 h2; rw [h1, h2]

/-- What Set returns of a valid store. -/
def SetIs (S : List Bd) (t : List UInt8) (v : Int) (L : List Bd) : Prop := ∃ i has, Cut S t i has ∧ L = setL S t v i has

/-- Behind Set; ok says whether all of its arguments are valid. -/
def SetPost (S : List Bd) (t : List UInt8) (v : Int) (ok : Bool) (w : World) (e : Ending) (w' : World) : Prop :=
  ∃ A c L, e = .returned (.slice A L.length c) ∧ OwnB w' w.heap.size (.slice A L.length c) L ∧ Below w.heap.size w w' ∧ ((ok = false ∧ L = []) ∨ (ok = true ∧ SetIs S t v L))

theorem OwnB.nil (w : World) (B0 : Nat) : OwnB w B0 (.slice none 0 0) [] := ⟨World.ownsRow_nil w B0 _ 2, fun p hp => by cases hp⟩

/-- A store of a value into a row of one's own. -/
theorem OwnB.put {w : World} {B0 : Nat} {A : Option Addr} {c : Nat} {L : List Bd} (h : OwnB w B0 (.slice A L.length c) L) {i : Nat} {x : Bd} (hx : L[i]? = some x) :
    ∃ g, A = some ⟨g, 0, none⟩ ∧ B0 ≤ g ∧ g < w.heap.size ∧ w.cell? ⟨g, i * 2 + 1, none⟩ = some (.int .i64 x.v) ∧ w.frozen? ⟨g, i * 2 + 1, none⟩ = false ∧
      ∀ v, OwnB (w.setCell ⟨g, i * 2 + 1, none⟩ (.int .i64 v)) B0 (.slice A L.length c) (L.take i ++ ⟨x.n, v⟩ :: L.drop (i + 1)) := by
  obtain ⟨hi, hx'⟩ := List.getElem?_eq_some_iff.1 hx
  obtain ⟨g, cap, hv, hB, hlt⟩ := h.1.form (by omega)
  have hA : A = some ⟨g, 0, none⟩ := by injection hv
  subst hA
  refine ⟨g, rfl, hB, hlt, ?_, ?_, fun v => ?_⟩
  · have := h.1.cells (g := g) rfl (i * 2 + 1) _ (by rw [cellsB_get hx 1 (by omega)]; rfl)
    rwa [Addr.add_lit, Nat.zero_add] at this
  · exact h.1.frozenAt _
  · have hl : (L.take i ++ (⟨x.n, v⟩ : Bd) :: L.drop (i + 1)).length = L.length := by rw [List.length_append, List.length_take, List.length_cons, List.length_drop]; omega
    refine ⟨?_, fun y hy => ?_⟩
    · rw [hl, ← hx', ← cellsB_set L i hi v]
      exact own_set h.1 (i * 2 + 1) (by omega) _
    · rcases List.mem_append.1 hy with hy | hy
      · exact h.2 y (List.mem_of_mem_take hy)
      · rcases List.mem_cons.1 hy with rfl | hy
        · exact h.2 x (List.mem_of_getElem? hx)
        · exact h.2 y (List.mem_of_mem_drop hy)

theorem setL_two {S : List Bd} {t : List UInt8} {v : Int} {i : Nat} (hi : i ≤ S.length) : (S.take i ++ (⟨t, 0⟩ : Bd) :: S.drop i).take i ++ ⟨t, v⟩ :: (S.take i ++ (⟨t, 0⟩ : Bd) :: S.drop i).drop (i + 1) = setL S t v i false := by
  have hl : (S.take i).length = i := by rw [List.length_take]; omega
  have h1 : (S.take i ++ (⟨t, 0⟩ : Bd) :: S.drop i).take i = S.take i := List.take_left' hl
  have h2 : (S.take i ++ (⟨t, 0⟩ : Bd) :: S.drop i).drop (i + 1) = S.drop i := by
    rw [List.drop_append, List.drop_of_length_le (by omega), List.nil_append, hl, show i + 1 - i = 1 by omega]; rfl
  rw [h1, h2]; rfl

set_option maxRecDepth 100000 in
set_option maxHeartbeats 4000000 in
theorem vSet_any (A : Option Addr) (c n : Nat) (S : List Bd) (hn : n = S.length) (h100 : n ≤ 100) (t : List UInt8) (htl : t.length ≤ maxLen) (v : Int) (w : World) (hA : BdRow w w.heap.size S A) (rs : Bool) (hrs : Tells rs (StOk S)) :
    Calls Tryz.prog 12 #[.slice A n c, .string ⟨t.toArray⟩, .int .i64 v] w (SetPost S t v (rs && (!(t == []) && inB v)) w) := by
  have HV : Hid (Calls Tryz.prog 17 #[.slice A n c] w fun e w' => e = .returned (.bool rs) ∧ Below w.heap.size w w') := Lib.hid (vvalid_any A c n S hn (by unfold maxLen; omega) w hA rs hrs)
  have HN : Hid (∀ W, Calls Tryz.prog 20 #[.int .i64 v] W fun e w' => e = .returned (.bool (inB v)) ∧ W = w') := Lib.hid (vin_any v)
  generalize inB v = ib at *
  cases rs
  · clear hA hrs hn
    go_enter Tryz.func12, Tryz.ntmps12
    go_wp2_with fail
    refine HV.out.mono ?_
    rintro e w1 ⟨rfl, hb⟩
    have H1 := Lib.hid hb
    clear hb
    go_wp2
    go_ret
    exact ⟨none, 0, [], rfl, .nil _ _, H1.out, .inl ⟨rfl, rfl⟩⟩
  cases he : (t == [])
  rotate_left
  · clear hA hrs hn
    go_enter Tryz.func12, Tryz.ntmps12
    go_wp2_with fail
    refine HV.out.mono ?_
    rintro e w1 ⟨rfl, hb⟩
    have H1 := Lib.hid hb
    clear hb
    go_wp2
    go_ret
    exact ⟨none, 0, [], rfl, .nil _ _, H1.out, .inl ⟨rfl, rfl⟩⟩
  cases ib
  · clear hA hrs hn
    go_enter Tryz.func12, Tryz.ntmps12
    go_wp2_with fail
    refine HV.out.mono ?_
    rintro e w1 ⟨rfl, hb⟩
    have H1 := Lib.hid hb
    clear hb
    go_wp2_with fail
    refine (HN.out _).mono ?_
    rintro e w2 ⟨rfl, rfl⟩
    go_wp2
    go_ret
    exact ⟨none, 0, [], rfl, .nil _ _, H1.out, .inl ⟨rfl, rfl⟩⟩
  have HS := Lib.hid (And.intro hrs.t (And.intro hn htl))
  have HC : Hid (∀ W, Below w.heap.size w W → Calls Tryz.prog 21 #[.slice A n c] W (RowPost W.heap.size S W)) := Lib.hid (fun W hb => cloneB_any A c n S hn (by omega) W (bd_later hA hb))
  clear hA hrs hn htl
  go_enter Tryz.func12, Tryz.ntmps12
  go_wp2_with fail
  refine HV.out.mono ?_
  rintro e w1 ⟨rfl, hb⟩
  have H1 := Lib.hid hb
  clear hb
  go_wp2_with fail
  refine (HN.out _).mono ?_
  rintro e w2 ⟨rfl, rfl⟩
  go_wp2_with fail
  refine (HC.out _ H1.out).mono ?_
  rintro e w3 ⟨v7, rfl, hown, hb⟩
  obtain ⟨A7, c7, rfl⟩ := hown.form
  have H3 := Lib.hid (And.intro hown (H1.out.next hb))
  have HB3 : Hid (w.heap.size ≤ w1.heap.size) := Lib.hid H1.out.size
  clear hown hb
  rw [← HS.out.2.1]
  go_wp2_with fail
  refine (findN_any A7 c7 n S HS.out.2.1 h100 t w3 HS.out.1 H3.out.1.row).mono ?_
  rintro e w4 ⟨i, ok, rfl, p1, p2, hb⟩
  have H4 : Hid (OwnB w4 w.heap.size (.slice A7 S.length c7) S ∧ Below w.heap.size w w4 ∧ Cut S t i ok) := Lib.hid (by
    have h := H3.out.1.later hb
    refine ⟨⟨?_, h.2⟩, H3.out.2.next hb, cut_of HS.out.1 p1 p2⟩
    refine ⟨h.1.1, ?_⟩
    rcases h.1.2 with h2 | ⟨g, cap, cur, hv, hB, r⟩
    · exact .inl h2
    · exact .inr ⟨g, cap, cur, hv, Nat.le_trans HB3.out hB, r⟩)
  have hib : (i : Int) ≤ n := by have := H4.out.2.2.le; have := HS.out.2.1; omega
  have hi0 : (0 : Int) ≤ i := by omega
  clear p1 p2 hb
  cases ok
  · obtain ⟨W5, hW5⟩ : ∃ W5, W5 = w4.alloc (.cells #[.string ⟨t.toArray⟩, .int .i64 0] 38) := ⟨_, rfl⟩
    have HIn : Hid (Calls Tryz.prog 23 #[.slice A7 n c7, .int .i64 i, .slice (some ⟨w4.heap.size, 0, none⟩) 1 1] W5 (RowPost w.heap.size (S.take i ++ (⟨t, 0⟩ : Bd) :: S.drop i) W5)) := Lib.hid (by
      rw [hW5]
      refine insertB_any w.heap.size w4.heap.size n c7 1 i A7 S ⟨t, 0⟩ HS.out.2.1.symm (by omega) (by omega) _ (by rw [size_of_alloc]; have := H4.out.2.1.size; omega) ?_ (heap_of_alloc _ _) (fun g hg => ?_) HS.out.2.2
      · rw [HS.out.2.1]; exact H4.out.1.later (below_alloc _ _)
      · subst hg
        have := (own_lt H4.out.1.1 g rfl).2
        omega)
    have HJ5 : Hid (Below w.heap.size w W5) := Lib.hid (by rw [hW5]; exact H4.out.2.1.al _)
    go_wp2_with fail
    rw [← hW5]
    clear hW5
    refine HIn.out.mono ?_
    rintro e w6 ⟨v8, rfl, hown, hb⟩
    obtain ⟨A8, c8, rfl⟩ := hown.form
    have hlen : (S.take i ++ (⟨t, 0⟩ : Bd) :: S.drop i).length = n + 1 := by rw [List.length_append, List.length_take, List.length_cons, List.length_drop]; have := HS.out.2.1; omega
    have hx : (S.take i ++ (⟨t, 0⟩ : Bd) :: S.drop i)[i]? = some ⟨t, 0⟩ := by
      have hl : (S.take i).length = i := by rw [List.length_take]; have := HS.out.2.1; omega
      rw [List.getElem?_append_right (by omega), hl, Nat.sub_self]; rfl
    obtain ⟨g, rfl, hg1, hg2, k1, k2, k3⟩ := hown.put hx
    have H6 := Lib.hid (And.intro (k3 v) (And.intro (HJ5.out.trans hb) (And.intro hg1 hlen)))
    clear hown hb hx k3
    rw [hlen]
    clear hlen
    have hin : (i : Int) < (n : Int) + 1 := by omega
    go_wp2
    go_ret
    have hL : ∀ L', L' = setL S t v i false → L'.length = n + 1 → OwnB (w6.setCell ⟨g, i * 2 + 1, none⟩ (.int .i64 v)) w.heap.size (.slice (some ⟨g, 0, none⟩) (n + 1) c8) L' → SetPost S t v true w (.returned (.slice (some ⟨g, 0, none⟩) (n + 1) c8)) (w6.setCell ⟨g, i * 2 + 1, none⟩ (.int .i64 v)) :=
      fun L' h1 h2 h3 => ⟨some ⟨g, 0, none⟩, c8, L', by rw [h2], by rw [h2]; exact h3, H6.out.2.1.setCell H6.out.2.2.1 _, .inr ⟨rfl, i, false, H4.out.2.2, h1⟩⟩
    refine hL _ (setL_two (by have := HS.out.2.1; omega)) (by rw [List.length_append, List.length_take, List.length_cons, List.length_drop, H6.out.2.2.2]; omega) ?_
    have := H6.out.1
    rwa [H6.out.2.2.2] at this
  · obtain ⟨x, hx, hxt⟩ := H4.out.2.2.at_ rfl
    obtain ⟨g, rfl, hg1, hg2, k1, k2, k3⟩ := H4.out.1.put hx
    have hin : (i : Int) < (n : Int) := by have := (List.getElem?_eq_some_iff.1 hx).1; have := HS.out.2.1; omega
    have H6 := Lib.hid (And.intro (k3 v) (And.intro hxt (And.intro hg1 hx)))
    clear k3 hxt hx
    go_wp2
    go_ret
    have hL : ∀ L', L' = setL S t v i true → L'.length = n → OwnB (w4.setCell ⟨g, i * 2 + 1, none⟩ (.int .i64 v)) w.heap.size (.slice (some ⟨g, 0, none⟩) n c7) L' → SetPost S t v true w (.returned (.slice (some ⟨g, 0, none⟩) n c7)) (w4.setCell ⟨g, i * 2 + 1, none⟩ (.int .i64 v)) :=
      fun L' h1 h2 h3 => ⟨some ⟨g, 0, none⟩, c7, L', by rw [h2], by rw [h2]; exact h3, H4.out.2.1.setCell H6.out.2.2.1 _, .inr ⟨rfl, i, true, H4.out.2.2, h1⟩⟩
    refine hL (S.take i ++ ⟨x.n, v⟩ :: S.drop (i + 1)) (by rw [H6.out.2.1]; rfl) (by rw [List.length_append, List.length_take, List.length_cons, List.length_drop]; have := HS.out.2.1; omega) ?_
    have := H6.out.1
    rwa [← HS.out.2.1] at this

end Go.Proofs.YtbmejohoifpfhaaGreatDoor
