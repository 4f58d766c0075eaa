/-
  Names that occur in an expression: the law's closure occurs, and slices.ContainsFunc with it. The body of the law ValueLocal.
-/
import Derived.Test.YtbmejohoifpfhaaGreatDoorValAw
import Derived.Test.YtbmejohoifpfhaaGreatDoorValRv
import Derived.Test.YtbmejohoifpfhaaGreatDoorValS
import Derived.Test.YtbmejohoifpfhaaGreatDoorValSz
import Derived.Test.YtbmejohoifpfhaaGreatDoorTreeRd
import Derived.Deep.RegionHeld3
import Derived.Test.YtbmejohoifpfhaaGreatDoorValN
namespace Go.Proofs.YtbmejohoifpfhaaGreatDoor
open Go.RowKit

/-- The name occurs in the expression. -/
inductive Occ (u : List UInt8) : Ex → Prop
  | here (n : Int) (l : List Ex) : Occ u (.mk 2 n u l)
  | sub (k n : Int) (s : List UInt8) (l : List Ex) (x : Ex) (hx : x ∈ l) (h : Occ u x) : Occ u (.mk k n s l)

theorem occ_iff {u : List UInt8} {k n : Int} {s : List UInt8} {l : List Ex} : Occ u (.mk k n s l) ↔ (k = 2 ∧ s = u) ∨ ∃ x ∈ l, Occ u x := by
  constructor
  · intro h
    cases h with
    | here n l => exact .inl ⟨rfl, rfl⟩
    | sub _ _ _ _ x hx h => exact .inr ⟨x, hx, h⟩
  · rintro (⟨rfl, rfl⟩ | ⟨x, hx, h⟩)
    · exact .here _ _
    · exact .sub _ _ _ _ x hx h

/-- The value depends on the names that occur alone. -/
theorem ev_local {S S' : List Bd} {u : List UInt8} (h : ∀ y, y ≠ u → getS S' y = getS S y) : ∀ (d : Nat) (e : Ex), ¬ Occ u e → ev S' d e = ev S d e
  | 0, _, _ => rfl
  | d + 1, .mk k n s l, ho => by
    rw [occ_iff] at ho
    have hl : l.map (ev S' d) = l.map (ev S d) := List.map_congr_left (fun x hx => ev_local h d x (fun hc => ho (.inr ⟨x, hx, hc⟩)))
    rw [ev, ev, hl]
    by_cases h2 : k = 2
    · rw [h s (fun e => ho (.inl ⟨h2, e⟩))]
    · rw [if_neg h2, if_neg h2]

/-- The closure that was made with its two variables. -/
abbrev cloV (b6 b9 : Nat) : Value := .func (.func 9) #[] #[.pointer (some ⟨b6, 0, none⟩), .pointer (some ⟨b9, 0, none⟩)]

/-- Behind a question. -/
def OccPost (P : Prop) (w : World) (e : Ending) (w' : World) : Prop := ∃ r : Bool, e = .returned (.bool r) ∧ Tells r P ∧ Below w.heap.size w w'

/-- The closure answers whether the name occurs. -/
def OccCall (u : List UInt8) (b6 b9 : Nat) (k n : Int) (s : List UInt8) (l : List Ex) (A : Option Addr) (c : Nat) (W : World) : Prop :=
  Calls Tryz.prog 9 #[exprV k n ⟨s.toArray⟩ (.slice A l.length c), .pointer (some ⟨b6, 0, none⟩), .pointer (some ⟨b9, 0, none⟩)] W (OccPost (Occ u (.mk k n s l)) W)

set_option maxRecDepth 100000 in
set_option maxHeartbeats 4000000 in
theorem indexFn_any (u : List UInt8) (b6 b9 : Nat) (l : List Ex) (A : Option Addr) (c z : Nat) (hz : z = l.length) (hzl : z ≤ maxLen) (w : World) (hr : ExRow w w.heap.size l A)
    (hO : ∀ k n s l' A' c', (Ex.mk k n s l') ∈ l → l'.length ≤ maxLen → ∀ W, Below w.heap.size w W → ExRow W W.heap.size l' A' → OccCall u b6 b9 k n s l' A' c' W) :
    Calls Tryz.prog 16 #[.slice A z c, cloV b6 b9] w fun e w' => ∃ q : Int, e = .returned (.int .i64 q) ∧ (0 ≤ q ↔ ∃ x ∈ l, Occ u x) ∧ Below w.heap.size w w' := by
  have HH := Lib.hid (And.intro hr (And.intro hz hO))
  clear hr hz hO
  unfold maxLen at hzl
  go_enter Tryz.func16, Tryz.ntmps16
  go_wp2
  go_loopg [8] z (fun m j wr => ∃ i : Nat, m = z - i ∧ i ≤ z ∧ j = .int .i64 i ∧ Hid (Below w.heap.size w wr ∧ ∀ (q : Nat) x, q < i → l[q]? = some x → ¬ Occ u x))
  case atStart => exact ⟨0, rfl, Nat.zero_le _, rfl, Lib.hid ⟨Below.refl _ _, fun q x hq => absurd hq (Nat.not_lt_zero q)⟩⟩
  case round =>
    obtain ⟨i, rfl, hi, rfl, HI⟩ := hrel
    have hi0 : (0 : Int) ≤ i := by omega
    by_cases hlt : i < z
    · have hii : (i : Int) < z := by omega
      obtain ⟨⟨k0, n0, s0, l0⟩, hg⟩ : ∃ x, l[i]? = some x := ⟨l[i]'(by rw [← HH.out.2.1]; exact hlt), List.getElem?_eq_getElem _⟩
      obtain ⟨a, A', c', rfl, hab, d0, d1, d2, d3, hs0, hl0, hrow⟩ := ex_cells (HH.out.1.on HI.out.1) hg
      have HC : Hid (OccCall u b6 b9 k0 n0 s0 l0 A' c' wr) := Lib.hid (HH.out.2.2 k0 n0 s0 l0 A' c' (List.mem_of_getElem? hg) hl0 wr HI.out.1 hrow)
      have HG := Lib.hid hg
      clear hrow hs0 hl0 hg
      go_wp2_with fail
      refine HC.out.mono ?_
      rintro e w3 ⟨r, rfl, hr, hb⟩
      have H3 := Lib.hid (And.intro hr (HI.out.1.next hb))
      clear hr hb
      cases r
      · go_wp2
        go_roundg (z - (i + 1))
        case measure => omega
        case rel =>
          refine ⟨i + 1, rfl, by omega, by go_num, Lib.hid ⟨H3.out.2, fun q x hq hx => ?_⟩⟩
          by_cases e : q = i
          · subst e
            obtain rfl := Option.some.inj (HG.out.symm.trans hx)
            exact H3.out.1.f
          · exact HI.out.2 q x (by omega) hx
      · go_wp2
        go_ret
        exact ⟨i, rfl, ⟨fun _ => ⟨_, List.mem_of_getElem? HG.out, H3.out.1.t⟩, fun _ => by omega⟩, H3.out.2⟩
    · have hlt' : ¬ (i : Int) < z := by omega
      go_wp2
      go_ret
      refine ⟨-1, rfl, ⟨fun h => absurd h (by decide), fun ⟨x, hx, ho⟩ => ?_⟩, HI.out.1⟩
      obtain ⟨q, hq⟩ := List.getElem?_of_mem hx
      exact absurd ho (HI.out.2 q x (by have := (List.getElem?_eq_some_iff.1 hq).1; have := HH.out.2.1; omega) hq)

set_option maxRecDepth 100000 in
set_option maxHeartbeats 1000000 in
theorem containsFn_any (u : List UInt8) (b6 b9 : Nat) (l : List Ex) (A : Option Addr) (c z : Nat) (hz : z = l.length) (hzl : z ≤ maxLen) (w : World) (hr : ExRow w w.heap.size l A)
    (hO : ∀ k n s l' A' c', (Ex.mk k n s l') ∈ l → l'.length ≤ maxLen → ∀ W, Below w.heap.size w W → ExRow W W.heap.size l' A' → OccCall u b6 b9 k n s l' A' c' W) :
    Calls Tryz.prog 10 #[.slice A z c, cloV b6 b9] w (OccPost (∃ x ∈ l, Occ u x) w) := by
  have HI := Lib.hid (indexFn_any u b6 b9 l A c z hz hzl w hr hO)
  clear hz hr hO
  go_enter Tryz.func10, Tryz.ntmps10
  go_wp2_with fail
  refine HI.out.mono ?_
  rintro e w1 ⟨q, rfl, hq, hb⟩
  have H1 := Lib.hid (And.intro hq hb)
  clear hq hb
  go_wp2
  go_ret
  exact ⟨decide (0 ≤ q), by simp, ⟨fun h => H1.out.1.1 (of_decide_eq_true h), fun h => decide_eq_true (H1.out.1.2 h)⟩, H1.out.2⟩

set_option maxRecDepth 100000 in
set_option maxHeartbeats 4000000 in
theorem occurs_by (u : List UInt8) (b6 b9 : Nat) : ∀ (M : Nat) (l : List Ex), SizeOf.sizeOf l < M → ∀ (k n : Int) (s : List UInt8) (A : Option Addr) (c : Nat) (w : World), ExRow w w.heap.size l A → l.length ≤ maxLen →
    (b6 < w.heap.size ∧ b9 < w.heap.size ∧ w.cell? ⟨b6, 0, none⟩ = some (.string ⟨u.toArray⟩) ∧ w.cell? ⟨b9, 0, none⟩ = some (cloV b6 b9)) → OccCall u b6 b9 k n s l A c w := by
  intro M
  induction M with
  | zero => intro l h; omega
  | succ M ih =>
    intro l hM k n s A c w hr hl hc
    unfold OccCall
    obtain ⟨z, hz⟩ : ∃ z, z = l.length := ⟨_, rfl⟩
    rw [← hz] at hl ⊢
    have hb0 := below_alloc w (exprC k n ⟨s.toArray⟩ (.slice A z c))
    have HB0 := Lib.hid hb0
    have e6 : (w.alloc (exprC k n ⟨s.toArray⟩ (.slice A z c))).cell? ⟨b6, 0, none⟩ = some (.string ⟨u.toArray⟩) := (hb0.cell (p := ⟨b6, 0, none⟩) hc.1).trans hc.2.2.1
    have e9 : (w.alloc (exprC k n ⟨s.toArray⟩ (.slice A z c))).cell? ⟨b9, 0, none⟩ = some (cloV b6 b9) := (hb0.cell (p := ⟨b9, 0, none⟩) hc.2.1).trans hc.2.2.2
    have HC : Hid (Calls Tryz.prog 10 #[.slice A z c, cloV b6 b9] (w.alloc (exprC k n ⟨s.toArray⟩ (.slice A z c))) (OccPost (∃ x ∈ l, Occ u x) (w.alloc (exprC k n ⟨s.toArray⟩ (.slice A z c))))) := Lib.hid (by
      refine containsFn_any u b6 b9 l A c z hz hl _ (hr.on hb0) (fun k' n' s' l' A' c' hx hl' W hb hr' => ?_)
      have hsz : SizeOf.sizeOf l' < M := by
        have h2 := List.sizeOf_lt_of_mem hx
        have h3 : SizeOf.sizeOf l' < SizeOf.sizeOf (Ex.mk k' n' s' l') := by simp; omega
        omega
      refine ih l' hsz k' n' s' A' c' W hr' hl' ⟨?_, ?_, ?_, ?_⟩
      · have := hb.size; have := hb0.size; omega
      · have := hb.size; have := hb0.size; omega
      · exact (hb.cell (p := ⟨b6, 0, none⟩) (by have := hb0.size; show b6 < _; omega)).trans e6
      · exact (hb.cell (p := ⟨b9, 0, none⟩) (by have := hb0.size; show b9 < _; omega)).trans e9)
    clear hr ih hM hc hb0 hz hl
    by_cases hk : k = 2
    · subst hk
      by_cases hs : s = u
      · subst hs
        clear HC
        go_enter Tryz.func9, Tryz.ntmps9
        go_wp2
        go_ret
        exact ⟨true, by simp, ⟨fun _ => occ_iff.2 (.inl ⟨rfl, rfl⟩), fun _ => rfl⟩, HB0.out⟩
      · have hs' : (s == u) = false := beq_eq_false_iff_ne.2 hs
        have HS := Lib.hid hs
        clear hs
        go_enter Tryz.func9, Tryz.ntmps9
        go_wp2_with fail
        refine HC.out.mono ?_
        rintro e w1 ⟨r, rfl, hr, hb⟩
        have H1 := Lib.hid (And.intro hr (HB0.out.next hb))
        clear hr hb
        go_wp2
        go_ret
        refine ⟨r, by simp, ⟨fun h => occ_iff.2 (.inr (H1.out.1.1 h)), fun h => ?_⟩, H1.out.2⟩
        rcases occ_iff.1 h with h | h
        · exact absurd h.2 HS.out
        · exact H1.out.1.2 h
    · have hk' : (k == 2) = false := beq_eq_false_iff_ne.2 hk
      have HS := Lib.hid hk
      clear hk
      go_enter Tryz.func9, Tryz.ntmps9
      go_wp2_with fail
      refine HC.out.mono ?_
      rintro e w1 ⟨r, rfl, hr, hb⟩
      have H1 := Lib.hid (And.intro hr (HB0.out.next hb))
      clear hr hb
      go_wp2
      go_ret
      refine ⟨r, by simp, ⟨fun h => occ_iff.2 (.inr (H1.out.1.1 h)), fun h => ?_⟩, H1.out.2⟩
      rcases occ_iff.1 h with h | h
      · exact absurd h.1 HS.out
      · exact H1.out.1.2 h


theorem xr_local {S S' : List Bd} {u : List UInt8} {e : Ex} (h : ∀ y, y ≠ u → getS S' y = getS S y) (ho : ¬ Occ u e) : xr true S' e = xr true S e := by
  unfold xr
  rw [ev_local h 30 e ho]

set_option maxRecDepth 100000 in
set_option maxHeartbeats 16000000 in
theorem local_law (A : Option Addr) (c : Nat) (S : List Bd) (hl : S.length ≤ maxLen) (k m : Int) (s : List UInt8) (l : List Ex) (A1 : Option Addr) (c1 : Nat) (u : List UInt8) (hu : u.length ≤ maxLen) (v : Int) (w : World) (hA : BdRow w w.heap.size S A)
    (ra : ExRow w w.heap.size l A1) (hs1 : s.length ≤ maxLen) (hl1 : l.length ≤ maxLen) :
    Calls Tryz.prog 3 #[.slice A S.length c, exprV k m ⟨s.toArray⟩ (.slice A1 l.length c1), .string ⟨u.toArray⟩, .int .i64 v] w fun e w' => e = .returned (.bool true) ∧ Below w.heap.size w w' := by
  obtain ⟨rs, hrs⟩ := says (StOk S)
  obtain ⟨n, hn⟩ : ∃ n, n = S.length := ⟨_, rfl⟩
  rw [← hn] at hl ⊢
  unfold maxLen at hl
  obtain ⟨W0, hW0⟩ : ∃ W0, W0 = (w.alloc (exprC k m ⟨s.toArray⟩ (.slice A1 l.length c1))).alloc (.cells #[.string ⟨u.toArray⟩] 9) := ⟨_, rfl⟩
  have HJ : Hid (Below w.heap.size w W0) := Lib.hid (by rw [hW0]; exact (below_alloc w _).al _)
  have HBx : Hid (∀ W, Below W0.heap.size W0 W → w.heap.size + 1 < W.heap.size ∧ W.cell? ⟨w.heap.size, 0, none⟩ = some (.int .i64 k) ∧ W.cell? ⟨w.heap.size, 1, none⟩ = some (.int .i64 m) ∧ W.cell? ⟨w.heap.size, 2, none⟩ = some (.string ⟨s.toArray⟩) ∧ W.cell? ⟨w.heap.size, 3, none⟩ = some (.slice A1 l.length c1) ∧
      W.cell? ⟨w.heap.size + 1, 0, none⟩ = some (.string ⟨u.toArray⟩)) := Lib.hid (fun W hb => by
    have h := two_boxes w (exprC k m ⟨s.toArray⟩ (.slice A1 l.length c1)) (.cells #[.string ⟨u.toArray⟩] 9)
    rw [← hW0] at h
    have h1 := kept_box hb h.1
    have h2 := kept_box hb h.2
    exact ⟨(Array.getElem?_eq_some_iff.1 h2).1, cell_of_block h1 0 rfl, cell_of_block h1 1 rfl, cell_of_block h1 2 rfl, cell_of_block h1 3 rfl, cell_of_block h2 0 rfl⟩)
  by_cases h40 : n ≤ 40
  rotate_left
  · have h40' : (40 : Int) < n := by omega
    clear h40 hA hn hrs ra hu
    go_enter Tryz.func3, Tryz.ntmps3
    go_wp2_with fail
    rw [← hW0]
    refine (awake_any _).mono ?_
    rintro e w1 ⟨rfl, hb⟩
    have H1 := Lib.hid (HJ.out.next hb)
    clear hb hW0
    go_wp2_with fail
    refine (awake_any _).mono ?_
    rintro e w2 ⟨rfl, hb⟩
    have H2 := Lib.hid (H1.out.next hb)
    clear hb
    go_wp2
    go_ret
    exact ⟨rfl, H2.out⟩
  have h40' : ¬ (40 : Int) < n := by omega
  have HSa : Hid (∀ W, Below w.heap.size w W → Calls Tryz.prog 5 #[exprV k m ⟨s.toArray⟩ (.slice A1 l.length c1)] W (SizePost W)) := Lib.hid (fun W hb => size_any k m s l A1 c1 W (ra.on hb) hl1)
  have HRv : Hid (∀ W, Below w.heap.size w W → Calls Tryz.prog 6 #[.slice A n c] W fun e w' => e = .returned (.bool rs) ∧ Below W.heap.size W w') := Lib.hid (fun W hb => rvalidS_any A c n S hn (by unfold maxLen; omega) W (bd_later hA hb) rs hrs)
  have HIn : Hid (∀ W, Calls Tryz.prog 8 #[.int .i64 v] W fun e w' => e = .returned (.bool (inB v)) ∧ W = w') := Lib.hid (rin_any v)
  obtain ⟨vb, hvb⟩ : ∃ b, b = vE varR nuP 30 (.mk k m s l) := ⟨_, rfl⟩
  have HRe : Hid (∀ W, Below w.heap.size w W → Calls Tryz.prog 7 #[exprV k m ⟨s.toArray⟩ (.slice A1 l.length c1)] W fun e w' => e = .returned (.bool vb) ∧ Below W.heap.size W w') := Lib.hid (fun W hb => by rw [hvb]; exact sexpr_any k m s l A1 c1 W (ra.on hb) hs1 hl1)
  have HOc : Hid (∀ b6 b9 W, Below w.heap.size w W → (b6 < W.heap.size ∧ b9 < W.heap.size ∧ W.cell? ⟨b6, 0, none⟩ = some (.string ⟨u.toArray⟩) ∧ W.cell? ⟨b9, 0, none⟩ = some (cloV b6 b9)) → OccCall u b6 b9 k m s l A1 c1 W) := Lib.hid (fun b6 b9 W hb h => occurs_by u b6 b9 _ l (Nat.lt_succ_self _) k m s A1 c1 W (ra.on hb) hl1 h)
  have HSe : Hid (∀ W, Below w.heap.size w W → Calls Tryz.prog 12 #[.slice A n c, .string ⟨u.toArray⟩, .int .i64 v] W (SetPost S u v (rs && (!(u == []) && inB v)) W)) := Lib.hid (fun W hb => vSet_any A c n S hn (by omega) u hu v W (bd_later hA hb) rs hrs)
  have HVx : Hid (∀ W, Below w.heap.size w W → Calls Tryz.prog 11 #[.slice A n c, exprV k m ⟨s.toArray⟩ (.slice A1 l.length c1)] W fun e w' => e = .returned (.tuple #[.int .i64 (xr rs S (.mk k m s l)).1, .int .i64 (xr rs S (.mk k m s l)).2]) ∧ Below W.heap.size W w') :=
    Lib.hid (fun W hb => vExpr_any A c n S hn (by omega) k m s l A1 c1 W (bd_later hA hb) (ra.on hb) hs1 hl1 rs hrs)
  have HLo : Hid (∀ L, SetIs S u v L → rs = true → ¬ Occ u (.mk k m s l) → xr true L (.mk k m s l) = xr rs S (.mk k m s l)) := Lib.hid (fun L ⟨i, has, hc, hL⟩ h1 h2 => by
    subst h1
    exact xr_local (fun y hy => by rw [hL]; exact hc.other hy) h2)
  have HOk : Hid (∀ L, SetIs S u v L → rs = true → u ≠ [] → inB v = true → StOk L ∧ L.length ≤ n + 1) := Lib.hid (fun L ⟨i, has, hc, hL⟩ h1 h2 h3 => by
    subst h1
    refine ⟨hL ▸ hc.ok hrs.t ⟨h2, (inB_tells v).1 h3⟩, ?_⟩
    rw [hL, hc.len, hn]
    split <;> omega)
  have HVl : Hid (∀ (L : List Bd) (Ax : Option Addr) (cx z : Nat), z = L.length → z ≤ 100 → StOk L → ∀ W, Below w.heap.size w W → BdRow W W.heap.size L Ax → Calls Tryz.prog 11 #[.slice Ax z cx, exprV k m ⟨s.toArray⟩ (.slice A1 l.length c1)] W fun e w' => e = .returned (.tuple #[.int .i64 (xr true L (.mk k m s l)).1, .int .i64 (xr true L (.mk k m s l)).2]) ∧ Below W.heap.size W w') :=
    Lib.hid (fun L Ax cx z hz hz1 hL W hb hr => vExpr_any Ax cx z L hz hz1 k m s l A1 c1 W hr (ra.on hb) hs1 hl1 true ⟨fun _ => hL, fun _ => rfl⟩)
  generalize xr rs S (.mk k m s l) = xp at *
  obtain ⟨x1, x2⟩ := xp
  simp only at HVx HLo
  obtain ⟨q, hq⟩ : ∃ q, q = l.length := ⟨_, rfl⟩
  generalize inB v = ib at *
  clear hA ra hs1 hl1 hn hrs hu hvb h40
  unfold OccCall at HOc
  rw [← hq] at HBx HSa HRe HOc HVx HVl hW0 ⊢
  clear hq
  go_enter Tryz.func3, Tryz.ntmps3
  go_wp2_with fail
  rw [← hW0]
  clear hW0
  refine (awake_any _).mono ?_
  rintro e w1 ⟨rfl, hb⟩
  obtain ⟨hsz, t0, t1, t2, t3, u0⟩ := HBx.out _ hb
  have H1 := Lib.hid (And.intro (HJ.out.next hb) hb)
  clear hb
  go_wp2_with fail
  refine (HSa.out _ H1.out.1).mono ?_
  rintro e w2 ⟨sz, rfl, _, _, hb⟩
  clear hsz t0 t1 t2 t3 u0
  obtain ⟨hsz, t0, t1, t2, t3, u0⟩ := HBx.out _ (H1.out.2.next hb)
  have H2 := Lib.hid (And.intro (H1.out.1.next hb) (H1.out.2.next hb))
  clear hb
  by_cases h200 : (200 : Int) < sz
  · go_wp2_with fail
    refine (awake_any _).mono ?_
    rintro e w3 ⟨rfl, hb⟩
    have H3 := Lib.hid (H2.out.1.next hb)
    clear hb
    go_wp2
    go_ret
    exact ⟨rfl, H3.out⟩
  go_wp2_with fail
  refine (HRv.out _ H2.out.1).mono ?_
  rintro e w3 ⟨rfl, hb⟩
  clear hsz t0 t1 t2 t3 u0
  obtain ⟨hsz, t0, t1, t2, t3, u0⟩ := HBx.out _ (H2.out.2.next hb)
  have H3 := Lib.hid (And.intro (H2.out.1.next hb) (H2.out.2.next hb))
  clear hb
  cases rs
  · clear HLo HOk HSe
    go_wp2_with fail
    refine (awake_any _).mono ?_
    rintro e w4 ⟨rfl, hb⟩
    have H4 := Lib.hid (H3.out.1.next hb)
    clear hb
    go_wp2
    go_ret
    exact ⟨rfl, H4.out⟩
  go_wp2_with fail
  refine (HRe.out _ H3.out.1).mono ?_
  rintro e w4 ⟨rfl, hb⟩
  clear hsz t0 t1 t2 t3 u0
  obtain ⟨hsz, t0, t1, t2, t3, u0⟩ := HBx.out _ (H3.out.2.next hb)
  have H4 := Lib.hid (And.intro (H3.out.1.next hb) (H3.out.2.next hb))
  clear hb
  cases vb
  · go_wp2_with fail
    refine (awake_any _).mono ?_
    rintro e w5 ⟨rfl, hb⟩
    have H5 := Lib.hid (H4.out.1.next hb)
    clear hb
    go_wp2
    go_ret
    exact ⟨rfl, H5.out⟩
  cases hu : (u == [])
  rotate_left
  · go_wp2_with fail
    refine (awake_any _).mono ?_
    rintro e w5 ⟨rfl, hb⟩
    have H5 := Lib.hid (H4.out.1.next hb)
    clear hb
    go_wp2
    go_ret
    exact ⟨rfl, H5.out⟩
  have HUn : Hid (u ≠ []) := Lib.hid (beq_eq_false_iff_ne.1 hu)
  rw [hu] at HSe
  go_wp2_with fail
  refine (HIn.out _).mono ?_
  rintro e w5 ⟨rfl, rfl⟩
  cases ib
  · go_wp2_with fail
    refine (awake_any _).mono ?_
    rintro e w5 ⟨rfl, hb⟩
    have H5 := Lib.hid (H4.out.1.next hb)
    clear hb
    go_wp2
    go_ret
    exact ⟨rfl, H5.out⟩
  simp only [Bool.not_false, Bool.and_true] at HSe
  obtain ⟨W5, hW5⟩ : ∃ W5, W5 = w4.alloc (.cells #[cloV (w.heap.size + 1) w4.heap.size] 29) := ⟨_, rfl⟩
  have H5 := Lib.hid (And.intro (show Below w.heap.size w W5 by rw [hW5]; exact H4.out.1.al _) (show Below W0.heap.size W0 W5 by rw [hW5]; exact H4.out.2.al _))
  clear hsz t0 t1 t2 t3 u0
  obtain ⟨hsz, t0, t1, t2, t3, u0⟩ := HBx.out _ H5.out.2
  have h9 : W5.heap[w4.heap.size]? = some (.cells #[cloV (w.heap.size + 1) w4.heap.size] 29 (0, 0)) := by rw [hW5]; exact heap_of_alloc w4 _
  have HQ : Hid (w.heap.size + 1 < W5.heap.size ∧ w4.heap.size < W5.heap.size ∧ W5.cell? ⟨w.heap.size + 1, 0, none⟩ = some (.string ⟨u.toArray⟩) ∧ W5.cell? ⟨w4.heap.size, 0, none⟩ = some (cloV (w.heap.size + 1) w4.heap.size)) := Lib.hid ⟨hsz, (Array.getElem?_eq_some_iff.1 h9).1, u0, cell_of_block h9 0 rfl⟩
  clear hsz h9
  rw [hW5] at t0 t1 t2 t3 u0
  go_wp2_with fail
  rw [← hW5]
  clear hW5 t0 t1 t2 t3 u0
  refine (HOc.out (w.heap.size + 1) w4.heap.size _ H5.out.1 HQ.out).mono ?_
  rintro e w6 ⟨r, rfl, hr, hb⟩
  obtain ⟨hsz, t0, t1, t2, t3, u0⟩ := HBx.out _ (H5.out.2.next hb)
  have H6 := Lib.hid (And.intro (H5.out.1.next hb) (H5.out.2.next hb))
  have HR := Lib.hid hr
  clear hb hr hsz
  cases r
  rotate_left
  · go_wp2
    go_ret
    exact ⟨rfl, H6.out.1⟩
  have HLo1 : Hid (∀ L, SetIs S u v L → xr true L (.mk k m s l) = (x1, x2)) := Lib.hid (fun L h => HLo.out L h (by trivial) HR.out.f)
  have HOk1 : Hid (∀ L, SetIs S u v L → StOk L ∧ L.length ≤ n + 1) := Lib.hid (fun L h => HOk.out L h (by trivial) HUn.out (by trivial))
  clear HLo HOk HR HUn HOc
  go_wp2_with fail
  refine (HVx.out _ H6.out.1).mono ?_
  rintro e w7 ⟨rfl, hb⟩
  clear t0 t1 t2 t3 u0
  obtain ⟨hsz, t0, t1, t2, t3, u0⟩ := HBx.out _ (H6.out.2.next hb)
  have H7 := Lib.hid (And.intro (H6.out.1.next hb) (H6.out.2.next hb))
  clear hb hsz HVx
  have HD := Lib.hid (And.intro (H7.out.1.drew1) (H7.out.2.drew1))
  go_wp2_with fail
  go_region_held3 (fun W => W.cell? ⟨w.heap.size, 0, none⟩ = some (.int .i64 k) ∧ W.cell? ⟨w.heap.size, 1, none⟩ = some (.int .i64 m) ∧ W.cell? ⟨w.heap.size, 2, none⟩ = some (.string ⟨s.toArray⟩) ∧ W.cell? ⟨w.heap.size, 3, none⟩ = some (.slice A1 q c1) ∧ W.cell? ⟨w.heap.size + 1, 0, none⟩ = some (.string ⟨u.toArray⟩))
    (first | go_keep | (trace_state; fail))
    (first
      | (go_at_call 12; refine (HSe.out _ HD.out.1).mono ?_; rintro e w8 ⟨Ax, cx, L, rfl, hown, hb, hres⟩; have hset : SetIs S u v L := (by rcases hres with ⟨h, _⟩ | ⟨_, h⟩ <;> first | exact h | cases h); have HE1 := Lib.hid (HLo1.out L hset); have HE2 := Lib.hid (HOk1.out L hset); obtain ⟨z, hz⟩ : ∃ z, z = L.length := ⟨_, rfl⟩; have HZ := Lib.hid hz; have HR8 := Lib.hid hown.row; have H8 := Lib.hid (And.intro (HD.out.1.next hb) (HD.out.2.next hb)); rw [← hz]; clear hz hown hb hres hset; obtain ⟨hsz, t0, t1, t2, t3, u0⟩ := HBx.out _ H8.out.2; clear hsz)
      | (go_at_call 11; refine (HVl.out L Ax cx z HZ.out (by have := HZ.out; have := HE2.out.2; omega) HE2.out.1 _ H8.out.1 HR8.out).mono ?_; rintro e w9 ⟨rfl, hb⟩; have H9 := Lib.hid (And.intro (H8.out.1.next hb) (H8.out.2.next hb)); clear hb; rw [HE1.out]; obtain ⟨hsz, t0, t1, t2, t3, u0⟩ := HBx.out _ H9.out.2; clear hsz))
  all_goals go_wp2
  all_goals go_ret
  all_goals exact ⟨by simp, H9.out.1⟩

theorem local_law' (A : Option Addr) (c : Nat) (S : List Bd) (hl : S.length ≤ maxLen) (k m : Int) (s : List UInt8) (l : List Ex) (A1 : Option Addr) (c1 : Nat) (u : ByteArray) (hu : u.size ≤ maxLen) (v : Int) (w : World) (hA : BdRow w w.heap.size S A)
    (ra : ExRow w w.heap.size l A1) (hs1 : s.length ≤ maxLen) (hl1 : l.length ≤ maxLen) :
    Calls Tryz.prog 3 #[.slice A S.length c, exprV k m ⟨s.toArray⟩ (.slice A1 l.length c1), .string u, .int .i64 v] w fun e w' => e = .returned (.bool true) ∧ Below w.heap.size w w' := by
  have h := local_law A c S hl k m s l A1 c1 u.data.toList (by simpa using hu) v w hA ra hs1 hl1
  simpa using h

end Go.Proofs.YtbmejohoifpfhaaGreatDoor
