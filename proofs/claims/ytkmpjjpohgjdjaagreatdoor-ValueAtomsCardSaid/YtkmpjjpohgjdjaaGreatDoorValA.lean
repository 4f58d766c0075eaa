/-
  Contracts of value.validAtom and value.Atom.
-/
import Derived.Test.YtkmpjjpohgjdjaaGreatDoorValG
namespace Go.Proofs.YtkmpjjpohgjdjaaGreatDoor
open Go.RowKit

abbrev atomV (k ak an : Int) (sa : ByteArray) (la : Value) (bk bn : Int) (sb : ByteArray) (lb : Value) : Value := .agg #[.int .i64 k, .int .i64 ak, .int .i64 an, .string sa, la, .int .i64 bk, .int .i64 bn, .string sb, lb]
abbrev atomC (k ak an : Int) (sa : ByteArray) (la : Value) (bk bn : Int) (sb : ByteArray) (lb : Value) : Obj := .cells #[.int .i64 k, .int .i64 ak, .int .i64 an, .string sa, la, .int .i64 bk, .int .i64 bn, .string sb, lb] 41

theorem all9 {W : World} {be : Nat} {k ak an : Int} {sa : ByteArray} {la : Value} {bk bn : Int} {sb : ByteArray} {lb : Value} (h : W.heap[be]? = some (atomC k ak an sa la bk bn sb lb)) :
    W.cell? ⟨be, 0, none⟩ = some (.int .i64 k) ∧ W.cell? ⟨be, 1, none⟩ = some (.int .i64 ak) ∧ W.cell? ⟨be, 2, none⟩ = some (.int .i64 an) ∧ W.cell? ⟨be, 3, none⟩ = some (.string sa) ∧ W.cell? ⟨be, 4, none⟩ = some la ∧ W.cell? ⟨be, 5, none⟩ = some (.int .i64 bk) ∧ W.cell? ⟨be, 6, none⟩ = some (.int .i64 bn) ∧ W.cell? ⟨be, 7, none⟩ = some (.string sb) ∧ W.cell? ⟨be, 8, none⟩ = some lb :=
  ⟨cell_of_block h 0 rfl, cell_of_block h 1 rfl, cell_of_block h 2 rfl, cell_of_block h 3 rfl, cell_of_block h 4 rfl, cell_of_block h 5 rfl, cell_of_block h 6 rfl, cell_of_block h 7 rfl, cell_of_block h 8 rfl⟩

def kB (k : Int) : Bool := decide (1 ≤ k) && decide (k ≤ 4)

theorem kB_all (k : Int) : (k = 1 ∨ k = 2 ∨ k = 3 ∨ k = 4) ∧ kB k = true ∨ (¬ k = 1 ∧ ¬ k = 2 ∧ ¬ k = 3 ∧ ¬ k = 4) ∧ kB k = false := by
  unfold kB
  by_cases h : 1 ≤ k ∧ k ≤ 4
  · exact .inl ⟨by omega, by simp [h.1, h.2]⟩
  · refine .inr ⟨by omega, ?_⟩
    by_cases h1 : 1 ≤ k
    · rw [decide_eq_false (show ¬ k ≤ 4 by omega), Bool.and_false]
    · rw [decide_eq_false h1, Bool.false_and]

set_option maxRecDepth 100000 in
set_option maxHeartbeats 8000000 in
theorem validAtom_any (k ak an : Int) (sa : List UInt8) (al : List Ex) (bk bn : Int) (sb : List UInt8) (bl : List Ex) (Aa : Option Addr) (ca : Nat) (Ab : Option Addr) (cb : Nat) (w : World)
    (ra : ExRow w w.heap.size al Aa) (rb : ExRow w w.heap.size bl Ab) (b1 : sa.length ≤ maxLen) (b2 : al.length ≤ maxLen) (b3 : sb.length ≤ maxLen) (b4 : bl.length ≤ maxLen) :
    Calls Tryz.prog 29 #[atomV k ak an ⟨sa.toArray⟩ (.slice Aa al.length ca) bk bn ⟨sb.toArray⟩ (.slice Ab bl.length cb)] w fun e w' =>
      e = .returned (.bool (kB k && (vE varR nuP 30 (.mk ak an sa al) && vE varR nuP 30 (.mk bk bn sb bl)))) ∧ Below w.heap.size w w' := by
  have HJ := Lib.hid (below_alloc w (atomC k ak an ⟨sa.toArray⟩ (.slice Aa al.length ca) bk bn ⟨sb.toArray⟩ (.slice Ab bl.length cb)))
  have HH := Lib.hid (heap_of_alloc w (atomC k ak an ⟨sa.toArray⟩ (.slice Aa al.length ca) bk bn ⟨sb.toArray⟩ (.slice Ab bl.length cb)))
  have HTa : Hid (∀ W, Below w.heap.size w W → Calls Tryz.prog 33 #[exprV ak an ⟨sa.toArray⟩ (.slice Aa al.length ca)] W fun e w' => e = .returned (.bool (vE varR nuP 30 (.mk ak an sa al))) ∧ Below W.heap.size W w') := Lib.hid (fun W hb => by
    have := texpr_any ak an sa al Aa ca W (ra.on hb) b1 b2
    rwa [varB_varR] at this)
  have HTb : Hid (∀ W, Below w.heap.size w W → Calls Tryz.prog 33 #[exprV bk bn ⟨sb.toArray⟩ (.slice Ab bl.length cb)] W fun e w' => e = .returned (.bool (vE varR nuP 30 (.mk bk bn sb bl))) ∧ Below W.heap.size W w') := Lib.hid (fun W hb => by
    have := texpr_any bk bn sb bl Ab cb W (rb.on hb) b3 b4
    rwa [varB_varR] at this)
  generalize vE varR nuP 30 (.mk ak an sa al) = va at *
  generalize vE varR nuP 30 (.mk bk bn sb bl) = vb at *
  clear ra rb b1 b2 b3 b4
  rcases kB_all k with ⟨hk, hkb⟩ | ⟨⟨h1, h2, h3, h4⟩, hkb⟩
  rotate_left
  · rw [hkb]
    clear hkb
    have e1 : (k == 1) = false := beq_eq_false_iff_ne.2 h1
    have e2 : (k == 2) = false := beq_eq_false_iff_ne.2 h2
    have e3 : (k == 3) = false := beq_eq_false_iff_ne.2 h3
    have e4 : (k == 4) = false := beq_eq_false_iff_ne.2 h4
    clear h1 h2 h3 h4
    go_enter Tryz.func29, Tryz.ntmps29
    go_wp2
    go_ret
    exact ⟨rfl, HJ.out⟩
  rw [hkb]
  clear hkb
  cases va
  · rcases hk with rfl | rfl | rfl | rfl
    all_goals
      go_enter Tryz.func29, Tryz.ntmps29
      go_wp2_with fail
      refine (HTa.out _ HJ.out).mono ?_
      rintro e w1 ⟨rfl, hb⟩
      have H1 := Lib.hid (HJ.out.next hb)
      clear hb
      go_wp2
      go_ret
      exact ⟨rfl, H1.out⟩
  · rcases hk with rfl | rfl | rfl | rfl
    all_goals
      go_enter Tryz.func29, Tryz.ntmps29
      go_wp2_with fail
      refine (HTa.out _ HJ.out).mono ?_
      rintro e w1 ⟨rfl, hb⟩
      obtain ⟨t0, t1, t2, t3, t4, t5, t6, t7, t8⟩ := all9 (kept_box hb HH.out)
      have H1 := Lib.hid (HJ.out.next hb)
      clear hb
      go_wp2_with fail
      refine (HTb.out _ H1.out).mono ?_
      rintro e w2 ⟨rfl, hb⟩
      have H2 := Lib.hid (H1.out.next hb)
      clear hb
      go_wp2
      go_ret
      exact ⟨by simp, H2.out⟩

/-- What value.Atom answers. -/
def ar (rs : Bool) (S : List Bd) (k : Int) (a b : Ex) : Bool × Int := if rs && (kB k && (vE varR nuP 30 a && vE varR nuP 30 b)) then cp S k a b else (false, 1)

set_option maxRecDepth 100000 in
set_option maxHeartbeats 8000000 in
theorem vAtom_any (A : Option Addr) (c n : Nat) (S : List Bd) (hn : n = S.length) (h100 : n ≤ 100) (k ak an : Int) (sa : List UInt8) (al : List Ex) (bk bn : Int) (sb : List UInt8) (bl : List Ex) (Aa : Option Addr) (ca : Nat) (Ab : Option Addr) (cb : Nat) (w : World) (hA : BdRow w w.heap.size S A)
    (ra : ExRow w w.heap.size al Aa) (rb : ExRow w w.heap.size bl Ab) (b1 : sa.length ≤ maxLen) (b2 : al.length ≤ maxLen) (b3 : sb.length ≤ maxLen) (b4 : bl.length ≤ maxLen) (rs : Bool) (hrs : Tells rs (StOk S)) :
    Calls Tryz.prog 15 #[.slice A n c, atomV k ak an ⟨sa.toArray⟩ (.slice Aa al.length ca) bk bn ⟨sb.toArray⟩ (.slice Ab bl.length cb)] w fun e w' =>
      e = .returned (.tuple #[.bool (ar rs S k (.mk ak an sa al) (.mk bk bn sb bl)).1, .int .i64 (ar rs S k (.mk ak an sa al) (.mk bk bn sb bl)).2]) ∧ Below w.heap.size w w' := by
  have HJ := Lib.hid (below_alloc w (atomC k ak an ⟨sa.toArray⟩ (.slice Aa al.length ca) bk bn ⟨sb.toArray⟩ (.slice Ab bl.length cb)))
  have HH := Lib.hid (heap_of_alloc w (atomC k ak an ⟨sa.toArray⟩ (.slice Aa al.length ca) bk bn ⟨sb.toArray⟩ (.slice Ab bl.length cb)))
  have HV : Hid (∀ W, Below w.heap.size w W → Calls Tryz.prog 24 #[.slice A n c] W fun e w' => e = .returned (.bool rs) ∧ Below W.heap.size W w') := Lib.hid (fun W hb => vvalid_any A c n S hn (by unfold maxLen; omega) W (bd_later hA hb) rs hrs)
  obtain ⟨vb, hvb⟩ : ∃ b, b = (kB k && (vE varR nuP 30 (.mk ak an sa al) && vE varR nuP 30 (.mk bk bn sb bl))) := ⟨_, rfl⟩
  have HT : Hid (∀ W, Below w.heap.size w W → Calls Tryz.prog 29 #[atomV k ak an ⟨sa.toArray⟩ (.slice Aa al.length ca) bk bn ⟨sb.toArray⟩ (.slice Ab bl.length cb)] W fun e w' => e = .returned (.bool vb) ∧ Below W.heap.size W w') := Lib.hid (fun W hb => by
    rw [hvb]
    exact validAtom_any k ak an sa al bk bn sb bl Aa ca Ab cb W (ra.on hb) (rb.on hb) b1 b2 b3 b4)
  have HX : Hid ((rs && vb) = true → ∀ W, Below w.heap.size w W → Calls Tryz.prog 30 #[.slice A n c, .int .i64 k, exprV ak an ⟨sa.toArray⟩ (.slice Aa al.length ca), exprV bk bn ⟨sb.toArray⟩ (.slice Ab bl.length cb)] W fun e w' =>
      e = .returned (.tuple #[.bool (ar rs S k (.mk ak an sa al) (.mk bk bn sb bl)).1, .int .i64 (ar rs S k (.mk ak an sa al) (.mk bk bn sb bl)).2]) ∧ Below W.heap.size W w') :=
    Lib.hid (fun h W hb => by
      have h1 := Bool.and_eq_true_iff.1 h
      have h2 := Bool.and_eq_true_iff.1 (hvb ▸ h1.2)
      have h3 := Bool.and_eq_true_iff.1 h2.2
      have := cm_any A c n S hn h100 (by rw [h1.1] at hrs; exact hrs.t) k ak an sa al bk bn sb bl Aa ca Ab cb W (bd_later hA hb) (ra.on hb) (rb.on hb) b1 b2 b3 b4 h3.1 h3.2
      rw [ar, ← hvb, h]
      exact this)
  have HNo : Hid ((rs && vb) = false → ar rs S k (.mk ak an sa al) (.mk bk bn sb bl) = (false, 1)) := Lib.hid (fun h => by rw [ar, ← hvb, h]; rfl)
  generalize ar rs S k (.mk ak an sa al) (.mk bk bn sb bl) = r at *
  obtain ⟨r1, r2⟩ := r
  simp only at HX
  clear hA ra rb hn hvb b1 b2 b3 b4 hrs
  cases rs
  · obtain ⟨rfl, rfl⟩ := Prod.mk.inj (HNo.out rfl)
    clear HNo HX
    go_enter Tryz.func15, Tryz.ntmps15
    go_wp2_with fail
    refine (HV.out _ HJ.out).mono ?_
    rintro e w1 ⟨rfl, hb⟩
    have H1 := Lib.hid (HJ.out.next hb)
    clear hb
    go_wp2
    go_ret2
    exact ⟨rfl, H1.out⟩
  · cases vb
    · obtain ⟨rfl, rfl⟩ := Prod.mk.inj (HNo.out rfl)
      clear HNo HX
      go_enter Tryz.func15, Tryz.ntmps15
      go_wp2_with fail
      refine (HV.out _ HJ.out).mono ?_
      rintro e w1 ⟨rfl, hb⟩
      obtain ⟨t0, t1, t2, t3, t4, t5, t6, t7, t8⟩ := all9 (kept_box hb HH.out)
      have H1 := Lib.hid (HJ.out.next hb)
      clear hb
      go_wp2_with fail
      refine (HT.out _ H1.out).mono ?_
      rintro e w2 ⟨rfl, hb⟩
      have H2 := Lib.hid (H1.out.next hb)
      clear hb
      go_wp2
      go_ret2
      exact ⟨rfl, H2.out⟩
    · have HX2 := Lib.hid (HX.out rfl)
      clear HNo HX
      go_enter Tryz.func15, Tryz.ntmps15
      go_wp2_with fail
      refine (HV.out _ HJ.out).mono ?_
      rintro e w1 ⟨rfl, hb⟩
      obtain ⟨t0, t1, t2, t3, t4, t5, t6, t7, t8⟩ := all9 (kept_box hb HH.out)
      have H1 := Lib.hid (And.intro (HJ.out.next hb) (kept_box hb HH.out))
      clear hb
      go_wp2_with fail
      refine (HT.out _ H1.out.1).mono ?_
      rintro e w2 ⟨rfl, hb⟩
      clear t0 t1 t2 t3 t4 t5 t6 t7 t8
      obtain ⟨t0, t1, t2, t3, t4, t5, t6, t7, t8⟩ := all9 (kept_box hb H1.out.2)
      have H2 := Lib.hid (H1.out.1.next hb)
      clear hb
      go_wp2_with fail
      refine (HX2.out _ H2.out).mono ?_
      rintro e w3 ⟨rfl, hb⟩
      have H3 := Lib.hid (H2.out.next hb)
      clear hb
      go_wp2
      go_ret2
      exact ⟨rfl, H3.out⟩

end Go.Proofs.YtkmpjjpohgjdjaaGreatDoor
