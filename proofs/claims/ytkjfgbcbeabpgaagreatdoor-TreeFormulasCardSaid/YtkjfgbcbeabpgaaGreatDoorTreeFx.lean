/-
  TreeFormulas' body.
-/
import Derived.Test.YtkjfgbcbeabpgaaGreatDoorTreeGl
import Derived.Test.YtkjfgbcbeabpgaaGreatDoorTreeO
import Derived.Test.YtkjfgbcbeabpgaaGreatDoorTreeAx
namespace Go.Proofs.YtkjfgbcbeabpgaaGreatDoor
open Go.RowKit

theorem fm_one {W : World} {g : Nat} {f : Fm} {Ap Aa Ac : Option Addr} {cp ca cc : Nat} (hg : W.heap[g]? = some (formulaC (.slice Ap f.ps.length cp) (.slice Aa f.ats.length ca) (.slice Ac f.cls.length cc)))
    (b0 : f.ps.length ≤ maxLen) (b1 : f.ats.length ≤ maxLen) (b2 : f.cls.length ≤ maxLen) (rp : PmRow W W.heap.size f.ps Ap) (ra : AtRow W W.heap.size f.ats Aa) (rc : ClRow W W.heap.size f.cls Ac) : FmRow W W.heap.size [f] (some ⟨g, 0, none⟩) := by
  refine .row _ _ (Array.getElem?_eq_some_iff.1 hg).1 (fun i x hi => ?_)
  match i, hi with
  | 0, hi =>
    injection hi with hi
    subst hi
    obtain ⟨e0, e1, e2⟩ := box3f hg
    exact ⟨Ap, cp, Aa, ca, Ac, cc, by simpa [Addr.add] using e0, by simpa [Addr.add] using e1, by simpa [Addr.add] using e2, ⟨b0, b1, b2⟩, rp, ra, rc⟩
  | i + 1, hi => simp at hi

set_option maxRecDepth 100000 in
set_option maxHeartbeats 8000000 in
theorem formulas_law (f : Fm) (Ap : Option Addr) (cp : Nat) (Aa : Option Addr) (ca : Nat) (Ac : Option Addr) (cc : Nat) (w : World)
    (b0 : f.ps.length ≤ maxLen) (b1 : f.ats.length ≤ maxLen) (b2 : f.cls.length ≤ maxLen) (rp : PmRow w w.heap.size f.ps Ap) (ra : AtRow w w.heap.size f.ats Aa) (rc : ClRow w w.heap.size f.cls Ac) :
    Calls Tryz.prog 4 #[formulaV (.slice Ap f.ps.length cp) (.slice Aa f.ats.length ca) (.slice Ac f.cls.length cc)] w fun e w' => e = .returned (.bool true) ∧ Below w.heap.size w w' := by
  obtain ⟨v1, hv1⟩ : ∃ v1, v1 = vF varR nuP 100 f := ⟨_, rfl⟩
  have HT : Hid (∀ W, Below w.heap.size w W → Calls Tryz.prog 17 #[formulaV (.slice Ap f.ps.length cp) (.slice Aa f.ats.length ca) (.slice Ac f.cls.length cc)] W fun e w' => e = .returned (.bool v1) ∧ Below W.heap.size W w') := Lib.hid (fun W hb => by
    have := tformula_any f Ap cp Aa ca Ac cc W b0 b1 b2 (rp.on pm_keeps hb) (ra.on at_keeps hb) (rc.on cl_keeps hb)
    rw [varB_varR] at this
    rw [hv1]
    exact this)
  have HS : Hid (∀ W, Below w.heap.size w W → Calls Tryz.prog 18 #[formulaV (.slice Ap f.ps.length cp) (.slice Aa f.ats.length ca) (.slice Ac f.cls.length cc)] W fun e w' => e = .returned (.bool v1) ∧ Below W.heap.size W w') := Lib.hid (fun W hb => by
    rw [hv1]
    exact sformula_any f Ap cp Aa ca Ac cc W b0 b1 b2 (rp.on pm_keeps hb) (ra.on at_keeps hb) (rc.on cl_keeps hb))
  have HL : Hid (∀ W, Below w.heap.size w W → Calls Tryz.prog 16 #[.int .i64 200000, .slice (some ⟨W.heap.size, 0, none⟩) 1 1] (W.alloc (formulaC (.slice Ap f.ps.length cp) (.slice Aa f.ats.length ca) (.slice Ac f.cls.length cc))) fun e w' => ∃ r : Int, e = .returned (.int .i64 r) ∧ -1 ≤ r ∧ r ≤ 200000 ∧ Below W.heap.size W w') := Lib.hid (fun W hb => by
    have hba := below_alloc W (formulaC (.slice Ap f.ps.length cp) (.slice Aa f.ats.length ca) (.slice Ac f.cls.length cc))
    have hbb := hb.chain hba
    exact (left_formulas [f] 200000 (some ⟨W.heap.size, 0, none⟩) 1 _ (by omega) (by omega) (fm_one (heap_of_alloc W _) b0 b1 b2 (rp.on pm_keeps hbb) (ra.on at_keeps hbb) (rc.on cl_keeps hbb)) (show 1 ≤ maxLen by decide)).mono fun e w' ⟨r, he, q0, q1, hb⟩ => ⟨r, he, q0, q1, hba.chain hb⟩)
  have HAw : Hid (∀ W, Calls Tryz.prog 9 #[] W fun e w' => e = .returned (.bool true) ∧ Below W.heap.size W w') := Lib.hid awake_any
  generalize f.ps.length = n0 at *
  generalize f.ats.length = n1 at *
  generalize f.cls.length = n2 at *
  obtain ⟨W1, hW1⟩ : ∃ W1, W1 = w.alloc (formulaC (.slice Ap n0 cp) (.slice Aa n1 ca) (.slice Ac n2 cc)) := ⟨_, rfl⟩
  have HB : Hid (Below w.heap.size w W1) := Lib.hid (by rw [hW1]; exact below_alloc w _)
  have q2 := heap_of_alloc w (formulaC (.slice Ap n0 cp) (.slice Aa n1 ca) (.slice Ac n2 cc))
  rw [← hW1] at q2
  have HF : Hid (∀ W, Below W1.heap.size W1 W → W.cell? ⟨w.heap.size, 0, none⟩ = some (.slice Ap n0 cp) ∧ W.cell? ⟨w.heap.size, 1, none⟩ = some (.slice Aa n1 ca) ∧ W.cell? ⟨w.heap.size, 2, none⟩ = some (.slice Ac n2 cc)) := Lib.hid (fun W hb => box3f (kept_box hb q2))
  unfold maxLen at b0 b1 b2
  clear rp ra rc q2 hv1
  go_enter Tryz.func4, Tryz.ntmps4
  go_wp2_with (first
    | (go_at_call 9; rw [← hW1]; refine (HAw.out _).mono ?_; rintro e w2 ⟨rfl, hb2⟩; have HB2 := Lib.hid hb2; clear hb2 hW1; obtain ⟨d0, d1, d2⟩ := HF.out _ HB2.out)
    | (go_at_call 16; refine (HL.out _ (HB.out.chain HB2.out)).mono ?_; rintro e w3 ⟨r, rfl, p0, p1, hb3⟩; have HB3 := Lib.hid (HB2.out.chain hb3); clear hb3; obtain ⟨f0, f1, f2⟩ := HF.out _ HB3.out))
  · go_ret
    exact ⟨rfl, HB.out.chain HB3.out⟩
  · clear d0 d1 d2
    go_region_held3 (fun W => W.cell? ⟨w.heap.size, 0, none⟩ = some (.slice Ap n0 cp) ∧ W.cell? ⟨w.heap.size, 1, none⟩ = some (.slice Aa n1 ca) ∧ W.cell? ⟨w.heap.size, 2, none⟩ = some (.slice Ac n2 cc))
      (first | go_keep | (trace_state; fail))
      (first
        | (go_at_call 17; refine (HT.out _ (HB.out.chain HB3.out.drew)).mono ?_; rintro e w5 ⟨rfl, hb5⟩; have HB5 := Lib.hid (HB3.out.drew.chain hb5); clear hb5; obtain ⟨g0, g1, g2⟩ := HF.out _ HB5.out)
        | (go_at_call 18; refine (HS.out _ (HB.out.chain HB5.out)).mono ?_; rintro e w6 ⟨rfl, hb6⟩; have HB6 := Lib.hid (HB5.out.chain hb6); clear hb6; obtain ⟨i0, i1, i2⟩ := HF.out _ HB6.out))
    all_goals go_wp2
    all_goals go_ret
    all_goals exact ⟨by simp, HB.out.chain HB6.out⟩

end Go.Proofs.YtkjfgbcbeabpgaaGreatDoor
