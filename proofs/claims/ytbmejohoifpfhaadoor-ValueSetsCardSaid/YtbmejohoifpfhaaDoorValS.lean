/-
  Contracts of value.Set, of slices.Equal at bindings and of sepalref07.Set.
-/
import Derived.Test.YtbmejohoifpfhaaDoorValI
import Derived.Test.YtbmejohoifpfhaaDoorValV
import Derived.Laws.StructEq
namespace Go.Proofs.YtbmejohoifpfhaaDoor
open Go.RowKit Go.Lib

/-- What the equality of two bindings says. -/
@[go_sem] theorem eq_bd (xn yn : List UInt8) (b d : Int) (w : World) : (Op.equalIn 10000 26 (.agg #[.string ⟨xn.toArray⟩, .int .i64 b]) (.agg #[.string ⟨yn.toArray⟩, .int .i64 d])).run Tryd.prog w = .ok (xn == yn && b == d) w := by
  have hS : Tryd.prog.underlying 26 = some (.struct (Tryd.prog.fieldsOf 26)) := by kernel_rfl
  have hp : Tryd.prog.stoodInHeld 26 = false := by kernel_rfl
  have u3 := Tryd.underlying3
  have u9 := Tryd.underlying9
  rw [show (10000 : Nat) = 9999 + 1 from rfl, run_equalIn_agg w 9999 _ _ _ hS hp]
  simp only [Program.fieldsOf, Tryd.underlying26]
  go_simp
  by_cases h1 : xn = yn <;> by_cases h2 : b = d <;> simp [h1, h2]

theorem upto_nextB {l m : List Bd} {k : Nat} {x : Bd} (h : ∀ i, i < k → l[i]? = m[i]?) (hx : l[k]? = some x) (hy : m[k]? = some x) : ∀ i, i < k + 1 → l[i]? = m[i]? := by
  intro i hi
  by_cases e : i = k
  · subst e; rw [hx, hy]
  · exact h i (by omega)

theorem eq_uptoB {l m : List Bd} {k : Nat} (h : ∀ i, i < k → l[i]? = m[i]?) (hl : l.length ≤ k) (hm : m.length ≤ k) : l = m := by
  apply List.ext_getElem?
  intro i
  by_cases hi : i < k
  · exact h i hi
  · rw [List.getElem?_eq_none (by omega), List.getElem?_eq_none (by omega)]

theorem bd_ext {x y : Bd} (h1 : x.n = y.n) (h2 : x.v = y.v) : x = y := by
  cases x; cases y; simp only at h1 h2; rw [h1, h2]

set_option maxRecDepth 100000 in
set_option maxHeartbeats 2000000 in
theorem equalB_any (A B : Option Addr) (c d n n2 : Nat) (l m : List Bd) (hn : n = l.length) (hn2 : n2 = m.length) (hl : n ≤ maxLen) (w : World) (hA : BdRow w w.heap.size l A) (hB : BdRow w w.heap.size m B) (r : Bool) (hr : Tells r (l = m)) :
    Calls Tryd.prog 8 #[.slice A n c, .slice B n2 d] w fun e w' => e = .returned (.bool r) ∧ Below w.heap.size w w' := by
  have HH := Lib.hid (And.intro hA (And.intro hB (And.intro hr (And.intro hn hn2))))
  unfold maxLen at hl
  have hgd : Tryd.prog.eqGuardType Tryd.prog.depth 26 = false := by kernel_rfl
  clear hA hB hr hn hn2
  by_cases hlen : n = n2
  · subst hlen
    go_enter Tryd.func8, Tryd.ntmps8
    go_wp2
    go_loopg [13] n (fun mm j wr => ∃ k : Nat, mm = n - k ∧ k ≤ n ∧ j = .int .i64 k ∧ Hid ((∃ q, wr = w.drewN q) ∧ ∀ i, i < k → l[i]? = m[i]?))
    case atStart => exact ⟨0, rfl, Nat.zero_le _, rfl, Lib.hid ⟨⟨0, rfl⟩, fun i hi => absurd hi (Nat.not_lt_zero i)⟩⟩
    case round =>
      obtain ⟨k, rfl, hk, rfl, HI⟩ := hrel
      obtain ⟨q, rfl⟩ := HI.out.1
      by_cases hlt : k < n
      · have hlt' : (k : Int) < n := by omega
        obtain ⟨x, hx⟩ := bd_ex (l := l) (i := k) (by rw [← HH.out.2.2.2.1]; exact hlt)
        obtain ⟨y, hy⟩ := bd_ex (l := m) (i := k) (by rw [← HH.out.2.2.2.2]; exact hlt)
        obtain ⟨a, rfl, _, c0, c1, _⟩ := bd_cells HH.out.1 hx
        obtain ⟨b, rfl, _, d0, d1, _⟩ := bd_cells HH.out.2.1 hy
        have HX := Lib.hid (And.intro hx hy)
        clear hx hy
        obtain ⟨xn, hxn⟩ : ∃ xn, xn = x.n := ⟨_, rfl⟩
        obtain ⟨xv, hxv⟩ : ∃ xv, xv = x.v := ⟨_, rfl⟩
        obtain ⟨yn, hyn⟩ : ∃ yn, yn = y.n := ⟨_, rfl⟩
        obtain ⟨yv, hyv⟩ : ∃ yv, yv = y.v := ⟨_, rfl⟩
        rw [← hxn] at c0
        rw [← hxv] at c1
        rw [← hyn] at d0
        rw [← hyv] at d1
        have HN := Lib.hid (And.intro hxn (And.intro hxv (And.intro hyn hyv)))
        clear hxn hxv hyn hyv
        have hk0 : (0 : Int) ≤ k := by omega
        by_cases he : xn = yn ∧ xv = yv
        · obtain ⟨rfl, rfl⟩ := he
          go_wp2
          go_quiet (fail)
          go_wp2
          go_roundg (n - (k + 1))
          case measure => omega
          case rel => exact ⟨k + 1, rfl, by omega, by go_num, Lib.hid ⟨⟨_, rfl⟩, upto_nextB HI.out.2 HX.out.1 (by rw [HX.out.2, bd_ext (x := x) (y := y) (HN.out.1.symm.trans HN.out.2.2.1) (HN.out.2.1.symm.trans HN.out.2.2.2)])⟩⟩
        · have hcase : (xn == yn) = false ∨ (xn = yn ∧ (xv == yv) = false) := by
            by_cases h : xn = yn
            · exact .inr ⟨h, beq_eq_false_iff_ne.2 (fun e => he ⟨h, e⟩)⟩
            · exact .inl (beq_eq_false_iff_ne.2 h)
          have HE := Lib.hid he
          clear he
          have HNo : Hid (l ≠ m) := Lib.hid (fun e => HE.out (by
            have h := HX.out.1
            rw [e, HX.out.2] at h
            obtain rfl := Option.some.inj h
            exact ⟨HN.out.1.trans HN.out.2.2.1.symm, HN.out.2.1.trans HN.out.2.2.2.symm⟩))
          clear HE HN
          rcases hcase with h1 | ⟨rfl, h1⟩
          all_goals
            go_wp2
            go_quiet (fail)
            go_wp2
            go_ret
            exact ⟨ret_no HH.out.2.2.1 HNo.out, ((Below.refl _ _).dn _).dn _⟩
      · have hlt' : ¬ (k : Int) < n := by omega
        go_wp2
        go_ret
        exact ⟨ret_yes HH.out.2.2.1 (eq_uptoB HI.out.2 (by rw [← HH.out.2.2.2.1]; omega) (by rw [← HH.out.2.2.2.2]; omega)), (Below.refl _ _).dn _⟩
  · have hne : ((n : Int) == n2) = false := beq_eq_false_iff_ne.2 (by omega)
    have hne' : ((n : Int) != n2) = true := by rw [bne_iff_ne]; omega
    have HE := Lib.hid (And.intro trivial hlen)
    clear hlen
    go_enter Tryd.func8, Tryd.ntmps8
    go_wp2
    go_ret
    exact ⟨ret_no HH.out.2.2.1 (fun e => HE.out.2 (by rw [HH.out.2.2.2.1, HH.out.2.2.2.2, e])), Below.refl _ _⟩

/-- What Set returns of a valid store. -/
def SetIs (S : List Bd) (t : List UInt8) (v : Int) (L : List Bd) : Prop := ∃ i has, Cut S t i has ∧ L = setL S t v i has

/-- Behind Set; ok says whether all of its arguments are valid. -/
def SetPost (S : List Bd) (t : List UInt8) (v : Int) (ok : Bool) (w : World) (e : Ending) (w' : World) : Prop :=
  ∃ A c L, e = .returned (.slice A L.length c) ∧ OwnB w' w.heap.size (.slice A L.length c) L ∧ Below w.heap.size w w' ∧ ((ok = false ∧ L = []) ∨ (ok = true ∧ SetIs S t v L))

theorem OwnB.nil (w : World) (B0 : Nat) : OwnB w B0 (.slice none 0 0) [] := ⟨World.ownsRow_nil w B0 _ 2, fun p hp => by cases hp⟩

/-- A store of a value into a row of one's own. -/
theorem OwnB.put {w : World} {B0 : Nat} {A : Option Addr} {c : Nat} {L : List Bd} (h : OwnB w B0 (.slice A L.length c) L) {i : Nat} {x : Bd} (hx : L[i]? = some x) :
    ∃ g, A = some ⟨g, 0, none⟩ ∧ B0 ≤ g ∧ g < w.heap.size ∧ w.cell? ⟨g, i * 2 + 1, none⟩ = some (.int .i64 x.v) ∧ w.frozen? ⟨g, i * 2 + 1, none⟩ = false ∧
      ∀ v, OwnB (w.setCell ⟨g, i * 2 + 1, none⟩ (.int .i64 v)) B0 (.slice A L.length c) (L.take i ++ ⟨x.n, v⟩ :: L.drop (i + 1)) := by
  obtain ⟨hi, hx'⟩ := List.getElem?_eq_some_iff.1 hx
  obtain ⟨g, cap, hv, hB, hlt⟩ := h.1.form (by omega)
  have hA : A = some ⟨g, 0, none⟩ := by injection hv
  subst hA
  refine ⟨g, rfl, hB, hlt, ?_, ?_, fun v => ?_⟩
  · have := h.1.cells (g := g) rfl (i * 2 + 1) _ (by rw [cellsB_get hx 1 (by omega)]; rfl)
    rwa [Addr.add_lit, Nat.zero_add] at this
  · exact h.1.frozenAt _
  · have hl : (L.take i ++ (⟨x.n, v⟩ : Bd) :: L.drop (i + 1)).length = L.length := by rw [List.length_append, List.length_take, List.length_cons, List.length_drop]; omega
    refine ⟨?_, fun y hy => ?_⟩
    · rw [hl, ← hx', ← cellsB_set L i hi v]
      exact own_set h.1 (i * 2 + 1) (by omega) _
    · rcases List.mem_append.1 hy with hy | hy
      · exact h.2 y (List.mem_of_mem_take hy)
      · rcases List.mem_cons.1 hy with rfl | hy
        · exact h.2 x (List.mem_of_getElem? hx)
        · exact h.2 y (List.mem_of_mem_drop hy)

theorem setL_two {S : List Bd} {t : List UInt8} {v : Int} {i : Nat} (hi : i ≤ S.length) : (S.take i ++ (⟨t, 0⟩ : Bd) :: S.drop i).take i ++ ⟨t, v⟩ :: (S.take i ++ (⟨t, 0⟩ : Bd) :: S.drop i).drop (i + 1) = setL S t v i false := by
  have hl : (S.take i).length = i := by rw [List.length_take]; omega
  have h1 : (S.take i ++ (⟨t, 0⟩ : Bd) :: S.drop i).take i = S.take i := List.take_left' hl
  have h2 : (S.take i ++ (⟨t, 0⟩ : Bd) :: S.drop i).drop (i + 1) = S.drop i := by
    rw [List.drop_append, List.drop_of_length_le (by omega), List.nil_append, hl, show i + 1 - i = 1 by omega]; rfl
  rw [h1, h2]; rfl

set_option maxRecDepth 100000 in
set_option maxHeartbeats 4000000 in
theorem vSet_any (A : Option Addr) (c n : Nat) (S : List Bd) (hn : n = S.length) (h100 : n ≤ 100) (t : List UInt8) (htl : t.length ≤ maxLen) (v : Int) (w : World) (hA : BdRow w w.heap.size S A) (rs : Bool) (hrs : Tells rs (StOk S)) :
    Calls Tryd.prog 7 #[.slice A n c, .string ⟨t.toArray⟩, .int .i64 v] w (SetPost S t v (rs && (!(t == []) && inB v)) w) := by
  have HV : Hid (Calls Tryd.prog 12 #[.slice A n c] w fun e w' => e = .returned (.bool rs) ∧ Below w.heap.size w w') := Lib.hid (vvalid_any A c n S hn (by unfold maxLen; omega) w hA rs hrs)
  have HN : Hid (∀ W, Calls Tryd.prog 21 #[.int .i64 v] W fun e w' => e = .returned (.bool (inB v)) ∧ W = w') := Lib.hid (vin_any v)
  generalize inB v = ib at *
  cases rs
  · clear hA hrs hn
    go_enter Tryd.func7, Tryd.ntmps7
    go_wp2_with fail
    refine HV.out.mono ?_
    rintro e w1 ⟨rfl, hb⟩
    have H1 := Lib.hid hb
    clear hb
    go_wp2
    go_ret
    exact ⟨none, 0, [], rfl, .nil _ _, H1.out, .inl ⟨rfl, rfl⟩⟩
  cases he : (t == [])
  rotate_left
  · clear hA hrs hn
    go_enter Tryd.func7, Tryd.ntmps7
    go_wp2_with fail
    refine HV.out.mono ?_
    rintro e w1 ⟨rfl, hb⟩
    have H1 := Lib.hid hb
    clear hb
    go_wp2
    go_ret
    exact ⟨none, 0, [], rfl, .nil _ _, H1.out, .inl ⟨rfl, rfl⟩⟩
  cases ib
  · clear hA hrs hn
    go_enter Tryd.func7, Tryd.ntmps7
    go_wp2_with fail
    refine HV.out.mono ?_
    rintro e w1 ⟨rfl, hb⟩
    have H1 := Lib.hid hb
    clear hb
    go_wp2_with fail
    refine (HN.out _).mono ?_
    rintro e w2 ⟨rfl, rfl⟩
    go_wp2
    go_ret
    exact ⟨none, 0, [], rfl, .nil _ _, H1.out, .inl ⟨rfl, rfl⟩⟩
  have HS := Lib.hid (And.intro hrs.t (And.intro hn htl))
  have HC : Hid (∀ W, Below w.heap.size w W → Calls Tryd.prog 6 #[.slice A n c] W (RowPost W.heap.size S W)) := Lib.hid (fun W hb => cloneB_any A c n S hn (by omega) W (bd_later hA hb))
  clear hA hrs hn htl
  go_enter Tryd.func7, Tryd.ntmps7
  go_wp2_with fail
  refine HV.out.mono ?_
  rintro e w1 ⟨rfl, hb⟩
  have H1 := Lib.hid hb
  clear hb
  go_wp2_with fail
  refine (HN.out _).mono ?_
  rintro e w2 ⟨rfl, rfl⟩
  go_wp2_with fail
  refine (HC.out _ H1.out).mono ?_
  rintro e w3 ⟨v7, rfl, hown, hb⟩
  obtain ⟨A7, c7, rfl⟩ := hown.form
  have H3 := Lib.hid (And.intro hown (H1.out.next hb))
  have HB3 : Hid (w.heap.size ≤ w1.heap.size) := Lib.hid H1.out.size
  clear hown hb
  rw [← HS.out.2.1]
  go_wp2_with fail
  refine (findN_any A7 c7 n S HS.out.2.1 h100 t w3 HS.out.1 H3.out.1.row).mono ?_
  rintro e w4 ⟨i, ok, rfl, p1, p2, hb⟩
  have H4 : Hid (OwnB w4 w.heap.size (.slice A7 S.length c7) S ∧ Below w.heap.size w w4 ∧ Cut S t i ok) := Lib.hid (by
    have h := H3.out.1.later hb
    refine ⟨⟨?_, h.2⟩, H3.out.2.next hb, cut_of HS.out.1 p1 p2⟩
    refine ⟨h.1.1, ?_⟩
    rcases h.1.2 with h2 | ⟨g, cap, cur, hv, hB, r⟩
    · exact .inl h2
    · exact .inr ⟨g, cap, cur, hv, Nat.le_trans HB3.out hB, r⟩)
  have hib : (i : Int) ≤ n := by have := H4.out.2.2.le; have := HS.out.2.1; omega
  have hi0 : (0 : Int) ≤ i := by omega
  clear p1 p2 hb
  cases ok
  · obtain ⟨W5, hW5⟩ : ∃ W5, W5 = w4.alloc (.cells #[.string ⟨t.toArray⟩, .int .i64 0] 26) := ⟨_, rfl⟩
    have HIn : Hid (Calls Tryd.prog 23 #[.slice A7 n c7, .int .i64 i, .slice (some ⟨w4.heap.size, 0, none⟩) 1 1] W5 (RowPost w.heap.size (S.take i ++ (⟨t, 0⟩ : Bd) :: S.drop i) W5)) := Lib.hid (by
      rw [hW5]
      refine insertB_any w.heap.size w4.heap.size n c7 1 i A7 S ⟨t, 0⟩ HS.out.2.1.symm (by omega) (by omega) _ (by rw [size_of_alloc]; have := H4.out.2.1.size; omega) ?_ (heap_of_alloc _ _) (fun g hg => ?_) HS.out.2.2
      · rw [HS.out.2.1]; exact H4.out.1.later (below_alloc _ _)
      · subst hg
        have := (own_lt H4.out.1.1 g rfl).2
        omega)
    have HJ5 : Hid (Below w.heap.size w W5) := Lib.hid (by rw [hW5]; exact H4.out.2.1.al _)
    go_wp2_with fail
    rw [← hW5]
    clear hW5
    refine HIn.out.mono ?_
    rintro e w6 ⟨v8, rfl, hown, hb⟩
    obtain ⟨A8, c8, rfl⟩ := hown.form
    have hlen : (S.take i ++ (⟨t, 0⟩ : Bd) :: S.drop i).length = n + 1 := by rw [List.length_append, List.length_take, List.length_cons, List.length_drop]; have := HS.out.2.1; omega
    have hx : (S.take i ++ (⟨t, 0⟩ : Bd) :: S.drop i)[i]? = some ⟨t, 0⟩ := by
      have hl : (S.take i).length = i := by rw [List.length_take]; have := HS.out.2.1; omega
      rw [List.getElem?_append_right (by omega), hl, Nat.sub_self]; rfl
    obtain ⟨g, rfl, hg1, hg2, k1, k2, k3⟩ := hown.put hx
    have H6 := Lib.hid (And.intro (k3 v) (And.intro (HJ5.out.trans hb) (And.intro hg1 hlen)))
    clear hown hb hx k3
    rw [hlen]
    clear hlen
    have hin : (i : Int) < (n : Int) + 1 := by omega
    go_wp2
    go_ret
    have hL : ∀ L', L' = setL S t v i false → L'.length = n + 1 → OwnB (w6.setCell ⟨g, i * 2 + 1, none⟩ (.int .i64 v)) w.heap.size (.slice (some ⟨g, 0, none⟩) (n + 1) c8) L' → SetPost S t v true w (.returned (.slice (some ⟨g, 0, none⟩) (n + 1) c8)) (w6.setCell ⟨g, i * 2 + 1, none⟩ (.int .i64 v)) :=
      fun L' h1 h2 h3 => ⟨some ⟨g, 0, none⟩, c8, L', by rw [h2], by rw [h2]; exact h3, H6.out.2.1.setCell H6.out.2.2.1 _, .inr ⟨rfl, i, false, H4.out.2.2, h1⟩⟩
    refine hL _ (setL_two (by have := HS.out.2.1; omega)) (by rw [List.length_append, List.length_take, List.length_cons, List.length_drop, H6.out.2.2.2]; omega) ?_
    have := H6.out.1
    rwa [H6.out.2.2.2] at this
  · obtain ⟨x, hx, hxt⟩ := H4.out.2.2.at_ rfl
    obtain ⟨g, rfl, hg1, hg2, k1, k2, k3⟩ := H4.out.1.put hx
    have hin : (i : Int) < (n : Int) := by have := (List.getElem?_eq_some_iff.1 hx).1; have := HS.out.2.1; omega
    have H6 := Lib.hid (And.intro (k3 v) (And.intro hxt (And.intro hg1 hx)))
    clear k3 hxt hx
    go_wp2
    go_ret
    have hL : ∀ L', L' = setL S t v i true → L'.length = n → OwnB (w4.setCell ⟨g, i * 2 + 1, none⟩ (.int .i64 v)) w.heap.size (.slice (some ⟨g, 0, none⟩) n c7) L' → SetPost S t v true w (.returned (.slice (some ⟨g, 0, none⟩) n c7)) (w4.setCell ⟨g, i * 2 + 1, none⟩ (.int .i64 v)) :=
      fun L' h1 h2 h3 => ⟨some ⟨g, 0, none⟩, c7, L', by rw [h2], by rw [h2]; exact h3, H4.out.2.1.setCell H6.out.2.2.1 _, .inr ⟨rfl, i, true, H4.out.2.2, h1⟩⟩
    refine hL (S.take i ++ ⟨x.n, v⟩ :: S.drop (i + 1)) (by rw [H6.out.2.1]; rfl) (by rw [List.length_append, List.length_take, List.length_cons, List.length_drop]; have := HS.out.2.1; omega) ?_
    have := H6.out.1
    rwa [← HS.out.2.1] at this

theorem bd_ext' {x : Bd} {xn : List UInt8} {xv : Int} (h1 : xn = x.n) (h2 : xv = x.v) : x = ⟨xn, xv⟩ := by cases x; subst h1 h2; rfl

theorem stepR_eq {t : List UInt8} {v : Int} {p : List Bd × Bool} {b : Bd} (h : b.n = t) : stepR t v p b = p := by unfold stepR; rw [if_pos h]
theorem stepR_new {t : List UInt8} {v : Int} {p : List Bd × Bool} {b : Bd} (hd : p.2 = false) (h : Op.bytesLess t b.n = true) : stepR t v p b = (p.1 ++ [⟨t, v⟩] ++ [b], true) := by
  unfold stepR; rw [if_neg (fun e => bl_ne h e.symm), if_pos ⟨hd, h⟩]
theorem stepR_on {t : List UInt8} {v : Int} {p : List Bd × Bool} {b : Bd} (hne : ¬ b.n = t) (h : p.2 = true ∨ Op.bytesLess t b.n = false) : stepR t v p b = (p.1 ++ [b], p.2) := by
  unfold stepR
  rw [if_neg hne, if_neg]
  rintro ⟨h1, h2⟩
  rcases h with h | h
  · rw [h1] at h; cases h
  · rw [h2] at h; cases h

set_option maxRecDepth 100000 in
set_option maxHeartbeats 4000000 in
theorem rSet_any (A : Option Addr) (c n : Nat) (S : List Bd) (hn : n = S.length) (h100 : n ≤ 100) (t : List UInt8) (htl : t.length ≤ maxLen) (v : Int) (w : World) (hA : BdRow w w.heap.size S A) :
    Calls Tryd.prog 13 #[.slice A n c, .string ⟨t.toArray⟩, .int .i64 v] w (RowPost w.heap.size (endR t v (outR S t v n)) w) := by
  obtain ⟨i0, hi, hiz, his, hib⟩ := info_parts infoBd
  have HI0 := Lib.hid (And.intro hi (And.intro hiz (And.intro his hib)))
  have HM := Lib.hid (And.intro hA (And.intro hn htl))
  clear hi hiz his hib hA hn htl
  go_enter Tryd.func13, Tryd.ntmps13
  go_wp2
  go_loopg [7, 8, 9] n (fun mm v7 v8 j wr => ∃ (k : Nat) (L : List Bd) (d : Bool), mm = n - k ∧ k ≤ n ∧ j = .int .i64 k ∧ v8 = .bool d ∧ Hid (outR S t v k = (L, d) ∧ OwnB wr w.heap.size v7 L ∧ Below w.heap.size w wr ∧ L.length ≤ 2 * k))
  case atStart => exact ⟨0, [], false, rfl, Nat.zero_le _, rfl, rfl, Lib.hid ⟨rfl, ⟨World.ownsRow_nil w _ _ 2, fun p hp => (by cases hp)⟩, Below.refl _ _, Nat.zero_le _⟩⟩
  case round =>
    obtain ⟨k, L, d, rfl, hk, rfl, rfl, HI⟩ := hrel
    have hk0 : (0 : Int) ≤ k := by omega
    by_cases hlt : k < n
    · have hlt' : (k : Int) < n := by omega
      obtain ⟨x, hx⟩ := bd_ex (l := S) (i := k) (by rw [← HM.out.2.1]; exact hlt)
      obtain ⟨xn, hxn⟩ : ∃ xn, xn = x.n := ⟨_, rfl⟩
      obtain ⟨xv, hxv⟩ : ∃ xv, xv = x.v := ⟨_, rfl⟩
      obtain ⟨a, rfl, _, c0, c1, hxl⟩ := bd_cells (bd_later HM.out.1 HI.out.2.2.1) hx
      have HCl : Hid (∀ W, Below w.heap.size w W → W.cell? (a.add (k * 2)) = some (.string ⟨xn.toArray⟩) ∧ W.cell? ⟨(a.add (k * 2)).block, (a.add (k * 2)).off + 1, none⟩ = some (.int .i64 xv)) := Lib.hid (fun W hb => by
        obtain ⟨a', ha, _, d0, d1, _⟩ := bd_cells (bd_later HM.out.1 hb) hx
        obtain rfl := Option.some.inj ha
        rw [hxn, hxv]
        exact ⟨d0, d1⟩)
      rw [← hxn] at c0 hxl
      rw [← hxv] at c1
      have HX := Lib.hid (And.intro (outR_next (t := t) (v := v) hx) (And.intro hxn (And.intro hxl (bd_ext' hxn hxv))))
      clear hx hxn hxv hxl
      by_cases he : xn = t
      · have HE := Lib.hid he
        have he' : (xn == t) = true := beq_iff_eq.2 he
        clear he
        go_wp2
        go_roundg (n - (k + 1))
        case measure => omega
        case rel => exact ⟨k + 1, L, d, rfl, by omega, by go_num, rfl, Lib.hid ⟨by rw [HX.out.1, stepR_eq (HX.out.2.1 ▸ HE.out)]; exact HI.out.1, HI.out.2.1, HI.out.2.2.1, by have := HI.out.2.2.2; omega⟩⟩
      · have he' : (xn == t) = false := beq_eq_false_iff_ne.2 he
        have HE := Lib.hid he
        obtain ⟨b, hb⟩ : ∃ b, b = Op.bytesLess t xn := ⟨_, rfl⟩
        have hb2 : Op.bytesLess xn t = !b := by
          rw [hb]
          cases h1 : Op.bytesLess t xn with
          | true => rw [bl_asymm h1]; rfl
          | false =>
            cases h2 : Op.bytesLess xn t with
            | true => rfl
            | false => exact absurd (bl_tri h2 h1) he
        have HB := Lib.hid hb
        clear he hb
        by_cases hdb : d = false ∧ b = true
        · obtain ⟨rfl, rfl⟩ := hdb
          have HR1 := Lib.hid (HI.out.2.1.later (below_alloc wr (.cells #[.string ⟨t.toArray⟩, .int .i64 v] 26)))
          go_wp2_with (first
            | (at_builtin; refine wpList_append_own_at (o := ⟨some 39, _, _, _, _, _⟩) _ rfl _ _ 22 rfl w.heap.size 26 i0 _ 2 24 Tryd.underlying22 HI0.out.1 HI0.out.2.1 HI0.out.2.2.1 HI0.out.2.2.2 rfl (by decide) _ L.length (cellsB L) rfl HR1.out.1 ⟨wr.heap.size, 0, none⟩ 1 1 (cells2 ⟨t, v⟩) rfl rfl (fun j u hj => cell_of_row (heap_of_alloc wr _) j u hj) (cells2_one _) (by have := HI.out.2.2.2; unfold maxLen; omega) (by have := HI.out.2.2.2; omega) (by rw [size_of_alloc]; have := HI.out.2.2.1.size; omega) ?_; intro v' w2 hown hgrow _ hat; have H2 := Lib.hid (And.intro (ownB_append HR1.out rfl HM.out.2.2 hown) (HI.out.2.2.1.al (.cells #[.string ⟨t.toArray⟩, .int .i64 v] 26) |>.trans (below_grown HR1.out.1 hgrow (by rw [size_of_alloc]; have := HI.out.2.2.1.size; omega)))); clear hown hgrow hat c0 c1; obtain ⟨c0, c1⟩ := HCl.out _ H2.out.2; have HR2 := Lib.hid (H2.out.1.later (below_alloc w2 (.cells #[.string ⟨xn.toArray⟩, .int .i64 xv] 26))))
            | (at_builtin; refine wpList_append_own_at (o := ⟨some 46, _, _, _, _, _⟩) _ rfl _ _ 22 rfl w.heap.size 26 i0 _ 2 24 Tryd.underlying22 HI0.out.1 HI0.out.2.1 HI0.out.2.2.1 HI0.out.2.2.2 rfl (by decide) _ _ _ rfl HR2.out.1 ⟨w2.heap.size, 0, none⟩ 1 1 (cells2 ⟨xn, xv⟩) rfl rfl (fun j u hj => cell_of_row (heap_of_alloc w2 _) j u hj) (cells2_one _) (by have := HI.out.2.2.2; rw [List.length_append, List.length_singleton]; unfold maxLen; omega) (by have := HI.out.2.2.2; rw [List.length_append, List.length_singleton]; omega) (by rw [size_of_alloc]; have := H2.out.2.size; omega) ?_; intro v'' w3 hown hgrow _ hat; have H3 := Lib.hid (And.intro (ownB_append HR2.out rfl HX.out.2.2.1 hown) (H2.out.2.al (.cells #[.string ⟨xn.toArray⟩, .int .i64 xv] 26) |>.trans (below_grown HR2.out.1 hgrow (by rw [size_of_alloc]; have := H2.out.2.size; omega)))); clear hown hgrow hat))
          go_roundg (n - (k + 1))
          case measure => omega
          case rel => exact ⟨k + 1, L ++ [⟨t, v⟩] ++ [⟨xn, xv⟩], true, rfl, by omega, by go_num, rfl, Lib.hid ⟨by rw [HX.out.1, HI.out.1, stepR_new rfl (HX.out.2.1 ▸ HB.out.symm), HX.out.2.2.2], H3.out.1, H3.out.2, by have := HI.out.2.2.2; simp only [List.length_append, List.length_singleton]; omega⟩⟩
        · have HDB := Lib.hid hdb
          have HR2 := Lib.hid (HI.out.2.1.later (below_alloc wr (.cells #[.string ⟨xn.toArray⟩, .int .i64 xv] 26)))
          have hcase : (d = true) ∨ (d = false ∧ b = false) := by cases d <;> cases b <;> simp_all
          clear hdb
          rcases hcase with rfl | ⟨rfl, rfl⟩
          all_goals
            go_wp2_with (at_builtin; refine wpList_append_own_at _ rfl _ _ 22 rfl w.heap.size 26 i0 _ 2 24 Tryd.underlying22 HI0.out.1 HI0.out.2.1 HI0.out.2.2.1 HI0.out.2.2.2 rfl (by decide) _ L.length (cellsB L) rfl HR2.out.1 ⟨wr.heap.size, 0, none⟩ 1 1 (cells2 ⟨xn, xv⟩) rfl rfl (fun j u hj => cell_of_row (heap_of_alloc wr _) j u hj) (cells2_one _) (by have := HI.out.2.2.2; unfold maxLen; omega) (by have := HI.out.2.2.2; omega) (by rw [size_of_alloc]; have := HI.out.2.2.1.size; omega) ?_; intro v'' w3 hown hgrow _ hat; have H3 := Lib.hid (And.intro (ownB_append HR2.out rfl HX.out.2.2.1 hown) (HI.out.2.2.1.al (.cells #[.string ⟨xn.toArray⟩, .int .i64 xv] 26) |>.trans (below_grown HR2.out.1 hgrow (by rw [size_of_alloc]; have := HI.out.2.2.1.size; omega)))); clear hown hgrow hat)
            go_roundg (n - (k + 1))
            case measure => omega
            case rel => exact ⟨k + 1, L ++ [⟨xn, xv⟩], _, rfl, by omega, by go_num, rfl, Lib.hid ⟨by
              rw [HX.out.1, HI.out.1, stepR_on (HX.out.2.1 ▸ HE.out) (by first | exact .inl rfl | exact .inr (HX.out.2.1 ▸ HB.out.symm)), HX.out.2.2.2], H3.out.1, H3.out.2, by have := HI.out.2.2.2; simp only [List.length_append, List.length_singleton]; omega⟩⟩
    · have hlt' : ¬ (k : Int) < n := by omega
      obtain rfl : k = n := by omega
      cases d
      · have HR1 := Lib.hid (HI.out.2.1.later (below_alloc wr (.cells #[.string ⟨t.toArray⟩, .int .i64 v] 26)))
        go_wp2_with (at_builtin; refine wpList_append_own_at _ rfl _ _ 22 rfl w.heap.size 26 i0 _ 2 24 Tryd.underlying22 HI0.out.1 HI0.out.2.1 HI0.out.2.2.1 HI0.out.2.2.2 rfl (by decide) _ L.length (cellsB L) rfl HR1.out.1 ⟨wr.heap.size, 0, none⟩ 1 1 (cells2 ⟨t, v⟩) rfl rfl (fun j u hj => cell_of_row (heap_of_alloc wr _) j u hj) (cells2_one _) (by have := HI.out.2.2.2; unfold maxLen; omega) (by have := HI.out.2.2.2; omega) (by rw [size_of_alloc]; have := HI.out.2.2.1.size; omega) ?_; intro v' w2 hown hgrow _ hat; have H2 := Lib.hid (And.intro (ownB_append HR1.out rfl HM.out.2.2 hown) (HI.out.2.2.1.al (.cells #[.string ⟨t.toArray⟩, .int .i64 v] 26) |>.trans (below_grown HR1.out.1 hgrow (by rw [size_of_alloc]; have := HI.out.2.2.1.size; omega)))); clear hown hgrow hat)
        go_ret
        exact ⟨_, rfl, by rw [HI.out.1]; exact H2.out.1, H2.out.2⟩
      · go_wp2
        go_ret
        exact ⟨_, rfl, by rw [HI.out.1]; exact HI.out.2.1, HI.out.2.2.1⟩

end Go.Proofs.YtbmejohoifpfhaaDoor
