/-
  Contracts of value.Expr and the comparison of two expressions.
-/
import Derived.Test.YtbmejohoifpfhaaDoorValX
namespace Go.Proofs.YtbmejohoifpfhaaDoor
open Go.RowKit

/-- What value.Expr answers. -/
def xr (rs : Bool) (S : List Bd) (e : Ex) : Int × Int := if rs && vE varR nuP 30 e then ev S 30 e else (0, 1)

theorem box4 {w w' : World} {k m : Int} {s : ByteArray} {l : Value} (hb : Below (w.alloc (exprC k m s l)).heap.size (w.alloc (exprC k m s l)) w') :
    w'.cell? ⟨w.heap.size, 0, none⟩ = some (.int .i64 k) ∧ w'.cell? ⟨w.heap.size, 1, none⟩ = some (.int .i64 m) ∧ w'.cell? ⟨w.heap.size, 2, none⟩ = some (.string s) ∧ w'.cell? ⟨w.heap.size, 3, none⟩ = some l :=
  ⟨box_at hb 0 _ rfl, box_at hb 1 _ rfl, box_at hb 2 _ rfl, box_at hb 3 _ rfl⟩

set_option maxRecDepth 100000 in
set_option maxHeartbeats 4000000 in
theorem vExpr_any (A : Option Addr) (c n : Nat) (S : List Bd) (hn : n = S.length) (h100 : n ≤ 100) (k m : Int) (s : List UInt8) (l : List Ex) (B : Option Addr) (cB : Nat) (w : World) (hA : BdRow w w.heap.size S A) (hB : ExRow w w.heap.size l B) (hs : s.length ≤ maxLen) (hl : l.length ≤ maxLen) (rs : Bool) (hrs : Tells rs (StOk S)) :
    Calls Tryd.prog 19 #[.slice A n c, exprV k m ⟨s.toArray⟩ (.slice B l.length cB)] w fun e w' => e = .returned (.tuple #[.int .i64 (xr rs S (.mk k m s l)).1, .int .i64 (xr rs S (.mk k m s l)).2]) ∧ Below w.heap.size w w' := by
  have HJ := Lib.hid (below_alloc w (exprC k m ⟨s.toArray⟩ (.slice B l.length cB)))
  have HV : Hid (∀ W, Below w.heap.size w W → Calls Tryd.prog 12 #[.slice A n c] W fun e w' => e = .returned (.bool rs) ∧ Below W.heap.size W w') := Lib.hid (fun W hb => vvalid_any A c n S hn (by unfold maxLen; omega) W (bd_later hA hb) rs hrs)
  obtain ⟨vb, hvb⟩ : ∃ b, b = vE varR nuP 30 (.mk k m s l) := ⟨_, rfl⟩
  have HT : Hid (∀ W, Below w.heap.size w W → Calls Tryd.prog 29 #[exprV k m ⟨s.toArray⟩ (.slice B l.length cB)] W fun e w' => e = .returned (.bool vb) ∧ Below W.heap.size W w') := Lib.hid (fun W hb => by
    have := texpr_any k m s l B cB W (hB.on hb) hs hl
    rw [varB_varR] at this
    rw [hvb]
    exact this)
  have HX : Hid (rs = true → vb = true → ∀ W, Below w.heap.size w W → Calls Tryd.prog 30 #[.slice A n c, exprV k m ⟨s.toArray⟩ (.slice B l.length cB)] W fun e w' => e = .returned (.tuple #[.int .i64 (ev S 30 (.mk k m s l)).1, .int .i64 (ev S 30 (.mk k m s l)).2]) ∧ Below W.heap.size W w') :=
    Lib.hid (fun h1 h2 W hb => vx_any S (by subst h1; exact hrs.t) 30 A c n hn h100 k m s l B cB W (bd_later hA hb) (hB.on hb) hs hl (by rw [← hvb]; exact h2))
  have HR : Hid (xr rs S (.mk k m s l) = if rs && vb then ev S 30 (.mk k m s l) else (0, 1)) := Lib.hid (by rw [xr, hvb])
  generalize xr rs S (.mk k m s l) = r at *
  generalize ev S 30 (.mk k m s l) = r0 at *
  have HB := Lib.hid (fun W (hb : Below (w.alloc (exprC k m ⟨s.toArray⟩ (.slice B l.length cB))).heap.size (w.alloc (exprC k m ⟨s.toArray⟩ (.slice B l.length cB))) W) => box4 hb)
  clear hA hB hn hvb hs hl
  cases rs
  · obtain rfl : r = (0, 1) := HR.out
    go_enter Tryd.func19, Tryd.ntmps19
    go_wp2_with fail
    refine (HV.out _ HJ.out).mono ?_
    rintro e w1 ⟨rfl, hb⟩
    have H1 := Lib.hid (HJ.out.next hb)
    clear hb
    go_wp2
    go_ret2
    exact ⟨rfl, H1.out⟩
  · cases vb
    · obtain rfl : r = (0, 1) := HR.out
      go_enter Tryd.func19, Tryd.ntmps19
      go_wp2_with fail
      refine (HV.out _ HJ.out).mono ?_
      rintro e w1 ⟨rfl, hb⟩
      obtain ⟨t0, t1, t2, t3⟩ := HB.out _ hb
      have H1 := Lib.hid (HJ.out.next hb)
      clear hb
      go_wp2_with fail
      refine (HT.out _ H1.out).mono ?_
      rintro e w2 ⟨rfl, hb⟩
      have H2 := Lib.hid (H1.out.next hb)
      clear hb
      go_wp2
      go_ret2
      exact ⟨rfl, H2.out⟩
    · obtain rfl : r = r0 := HR.out
      have HX2 := Lib.hid (HX.out rfl rfl)
      clear HX
      obtain ⟨r1, r2⟩ := r
      go_enter Tryd.func19, Tryd.ntmps19
      go_wp2_with fail
      refine (HV.out _ HJ.out).mono ?_
      rintro e w1 ⟨rfl, hb⟩
      obtain ⟨t0, t1, t2, t3⟩ := HB.out _ hb
      have H1 := Lib.hid (And.intro (HJ.out.next hb) hb)
      clear hb
      go_wp2_with fail
      refine (HT.out _ H1.out.1).mono ?_
      rintro e w2 ⟨rfl, hb⟩
      clear t0 t1 t2 t3
      obtain ⟨t0, t1, t2, t3⟩ := HB.out _ (H1.out.2.next hb)
      have H2 := Lib.hid (H1.out.1.next hb)
      clear hb
      go_wp2_with fail
      refine (HX2.out _ H2.out).mono ?_
      rintro e w3 ⟨rfl, hb⟩
      have H3 := Lib.hid (H2.out.next hb)
      clear hb
      go_wp2
      go_ret2
      exact ⟨rfl, H3.out⟩

theorem cmpB_all (k x y : Int) : (k = 1 ∧ cmpB k x y = (x == y)) ∨ (k = 2 ∧ cmpB k x y = !(x == y)) ∨ (k = 3 ∧ cmpB k x y = decide (x ≤ y)) ∨ (k ≠ 1 ∧ k ≠ 2 ∧ k ≠ 3 ∧ cmpB k x y = decide (x < y)) := by
  unfold cmpB
  by_cases h1 : k = 1
  · exact .inl ⟨h1, if_pos h1⟩
  · by_cases h2 : k = 2
    · exact .inr (.inl ⟨h2, by rw [if_neg h1, if_pos h2]⟩)
    · by_cases h3 : k = 3
      · exact .inr (.inr (.inl ⟨h3, by rw [if_neg h1, if_neg h2, if_pos h3]⟩))
      · exact .inr (.inr (.inr ⟨h1, h2, h3, by rw [if_neg h1, if_neg h2, if_neg h3]⟩))

theorem two_boxes (w : World) (o1 o2 : Obj) : ((w.alloc o1).alloc o2).heap[w.heap.size]? = some o1 ∧ ((w.alloc o1).alloc o2).heap[w.heap.size + 1]? = some o2 := by
  have h2 := heap_of_alloc (w.alloc o1) o2
  rw [size_of_alloc] at h2
  exact ⟨heap_keep (heap_of_alloc w o1), h2⟩

set_option maxRecDepth 100000 in
set_option maxHeartbeats 8000000 in
theorem cm_any (A : Option Addr) (c n : Nat) (S : List Bd) (hn : n = S.length) (h100 : n ≤ 100) (hS : StOk S) (k ak an : Int) (sa : List UInt8) (al : List Ex) (bk bn : Int) (sb : List UInt8) (bl : List Ex) (Aa : Option Addr) (ca : Nat) (Ab : Option Addr) (cb : Nat) (w : World) (hA : BdRow w w.heap.size S A)
    (ra : ExRow w w.heap.size al Aa) (rb : ExRow w w.heap.size bl Ab) (b1 : sa.length ≤ maxLen) (b2 : al.length ≤ maxLen) (b3 : sb.length ≤ maxLen) (b4 : bl.length ≤ maxLen) (va : vE varR nuP 30 (.mk ak an sa al) = true) (vb : vE varR nuP 30 (.mk bk bn sb bl) = true) :
    Calls Tryd.prog 40 #[.slice A n c, .int .i64 k, exprV ak an ⟨sa.toArray⟩ (.slice Aa al.length ca), exprV bk bn ⟨sb.toArray⟩ (.slice Ab bl.length cb)] w fun e w' =>
      e = .returned (.tuple #[.bool (cp S k (.mk ak an sa al) (.mk bk bn sb bl)).1, .int .i64 (cp S k (.mk ak an sa al) (.mk bk bn sb bl)).2]) ∧ Below w.heap.size w w' := by
  obtain ⟨W0, hW0⟩ : ∃ W0, W0 = (w.alloc (exprC ak an ⟨sa.toArray⟩ (.slice Aa al.length ca))).alloc (exprC bk bn ⟨sb.toArray⟩ (.slice Ab bl.length cb)) := ⟨_, rfl⟩
  have HJ : Hid (Below w.heap.size w W0) := Lib.hid (by rw [hW0]; exact (below_alloc w _).al _)
  have HH : Hid (W0.heap[w.heap.size]? = some (exprC ak an ⟨sa.toArray⟩ (.slice Aa al.length ca)) ∧ W0.heap[w.heap.size + 1]? = some (exprC bk bn ⟨sb.toArray⟩ (.slice Ab bl.length cb))) := Lib.hid (by rw [hW0]; exact two_boxes w _ _)
  have HXa : Hid (∀ W, Below w.heap.size w W → Calls Tryd.prog 30 #[.slice A n c, exprV ak an ⟨sa.toArray⟩ (.slice Aa al.length ca)] W fun e w' => e = .returned (.tuple #[.int .i64 (ev S 30 (.mk ak an sa al)).1, .int .i64 (ev S 30 (.mk ak an sa al)).2]) ∧ Below W.heap.size W w') :=
    Lib.hid (fun W hb => vx_any S hS 30 A c n hn h100 ak an sa al Aa ca W (bd_later hA hb) (ra.on hb) b1 b2 va)
  have HXb : Hid (∀ W, Below w.heap.size w W → Calls Tryd.prog 30 #[.slice A n c, exprV bk bn ⟨sb.toArray⟩ (.slice Ab bl.length cb)] W fun e w' => e = .returned (.tuple #[.int .i64 (ev S 30 (.mk bk bn sb bl)).1, .int .i64 (ev S 30 (.mk bk bn sb bl)).2]) ∧ Below W.heap.size W w') :=
    Lib.hid (fun W hb => vx_any S hS 30 A c n hn h100 bk bn sb bl Ab cb W (bd_later hA hb) (rb.on hb) b3 b4 vb)
  unfold cp
  generalize ev S 30 (.mk ak an sa al) = p at *
  generalize ev S 30 (.mk bk bn sb bl) = q at *
  obtain ⟨x, e1⟩ := p
  obtain ⟨y, e2⟩ := q
  simp only at HXa HXb
  clear hA ra rb hn b1 b2 b3 b4 va vb
  subst hW0
  by_cases he1 : e1 = 0
  rotate_left
  · have he1' : (e1 == 0) = false := beq_eq_false_iff_ne.2 he1
    have he1'' : (e1 != 0) = true := by rw [bne_iff_ne]; exact he1
    rw [cmp2, if_neg he1]
    clear he1
    go_enter Tryd.func40, Tryd.ntmps40
    go_wp2_with fail
    refine (HXa.out _ HJ.out).mono ?_
    rintro e w1 ⟨rfl, hb⟩
    have H1 := Lib.hid (HJ.out.next hb)
    clear hb
    go_wp2
    go_ret2
    exact ⟨rfl, H1.out⟩
  subst he1
  by_cases he2 : e2 = 0
  rotate_left
  · have he1' : (e2 == 0) = false := beq_eq_false_iff_ne.2 he2
    have he1'' : (e2 != 0) = true := by rw [bne_iff_ne]; exact he2
    rw [cmp2, if_pos rfl, if_neg he2]
    clear he2
    go_enter Tryd.func40, Tryd.ntmps40
    go_wp2_with fail
    refine (HXa.out _ HJ.out).mono ?_
    rintro e w1 ⟨rfl, hb⟩
    have H1 := Lib.hid (HJ.out.next hb)
    have q1 := kept_box hb HH.out.2
    have t0 := cell_of_block q1 0 rfl
    have t1 := cell_of_block q1 1 rfl
    have t2 := cell_of_block q1 2 rfl
    have t3 := cell_of_block q1 3 (v := .slice Ab bl.length cb) rfl
    clear hb q1
    go_wp2_with fail
    refine (HXb.out _ H1.out).mono ?_
    rintro e w2 ⟨rfl, hb⟩
    have H2 := Lib.hid (H1.out.next hb)
    clear hb
    go_wp2
    go_ret2
    exact ⟨rfl, H2.out⟩
  subst he2
  rw [cmp2, if_pos rfl, if_pos rfl]
  rcases cmpB_all k x y with ⟨rfl, h⟩ | ⟨rfl, h⟩ | ⟨rfl, h⟩ | ⟨h1, h2, h3, h⟩
  all_goals
    simp only
    rw [h]
    clear h
    go_enter Tryd.func40, Tryd.ntmps40
    go_wp2_with fail
    refine (HXa.out _ HJ.out).mono ?_
    rintro e w1 ⟨rfl, hb⟩
    have H1 := Lib.hid (HJ.out.next hb)
    have q1 := kept_box hb HH.out.2
    have t0 := cell_of_block q1 0 rfl
    have t1 := cell_of_block q1 1 rfl
    have t2 := cell_of_block q1 2 rfl
    have t3 := cell_of_block q1 3 (v := .slice Ab bl.length cb) rfl
    clear hb q1
    go_wp2_with fail
    refine (HXb.out _ H1.out).mono ?_
    rintro e w2 ⟨rfl, hb⟩
    have H2 := Lib.hid (H1.out.next hb)
    clear hb
    go_wp2
    go_ret2
    exact ⟨rfl, H2.out⟩

end Go.Proofs.YtbmejohoifpfhaaDoor
