/-
  tree.Formula at any formula.
-/
import Derived.Test.YtllfkgggolfojaaGreatDoorTreeGp
import Derived.Test.YtllfkgggolfojaaGreatDoorTreeGe
import Derived.Test.YtllfkgggolfojaaGreatDoorTreeGn
namespace Go.Proofs.YtllfkgggolfojaaGreatDoor
open Go.RowKit

theorem vlr_param (fv : Nat) (var : List UInt8 → Bool) (hv : VarOk fv var) (nu ex : Int) (ps : List Pm) (A : Option Addr) (c : Nat) (least most : Int) (w : World) (hn : ps.length ≤ maxLen) (hr : PmRow w w.heap.size ps A) :
    Calls Tryz.prog 37 #[.slice A ps.length c, .int .i64 least, .int .i64 most, .func (.func 38) #[rulesV fv nu ex] #[]] w fun e w' =>
      e = .returned (.bool (decide (least ≤ ps.length) && decide ((ps.length : Int) ≤ most) && ps.all (vP var))) ∧ Below w.heap.size w w' := by
  refine vl_param (vP var) 38 #[rulesV fv nu ex] #[] (enters_of Tryz.func38 (by kernel_rfl) rfl) ps A c least most w hn hr (fun t nm W _ hb ht hnm => ?_)
  exact param_any fv var hv nu ex t nm W ht hnm

theorem vlr_atom (fv : Nat) (var : List UInt8 → Bool) (hv : VarOk fv var) (nu ex : Int) (h0 : 0 ≤ nu) (h1 : nu ≤ 4611686018427387904) (es : List At) (A : Option Addr) (c : Nat) (least most : Int) (w : World) (hn : es.length ≤ maxLen) (hr : AtRow w w.heap.size es A) :
    Calls Tryz.prog 40 #[.slice A es.length c, .int .i64 least, .int .i64 most, .func (.func 41) #[rulesV fv nu ex] #[]] w fun e w' =>
      e = .returned (.bool (decide (least ≤ es.length) && decide ((es.length : Int) ≤ most) && es.all (vAt var nu))) ∧ Below w.heap.size w w' := by
  refine vl_atom (vAt var nu) 41 #[rulesV fv nu ex] #[] (enters_of Tryz.func41 (by kernel_rfl) rfl) es A c least most w hn hr (fun k ak an sa al bk bn sb bl Aa ca Ab cb W _ hb ra rb b1 b2 b3 b4 => ?_)
  exact atom_any fv var hv nu ex h0 h1 k ak an sa al bk bn sb bl Aa ca Ab cb W ra rb b1 b2 b3 b4

theorem vlr_cell (fv : Nat) (var : List UInt8 → Bool) (hv : VarOk fv var) (nu ex : Int) (h0 : 0 ≤ nu) (h1 : nu ≤ 4611686018427387904) (es : List Cl) (A : Option Addr) (c : Nat) (least most : Int) (w : World) (hn : es.length ≤ maxLen) (hr : ClRow w w.heap.size es A) :
    Calls Tryz.prog 42 #[.slice A es.length c, .int .i64 least, .int .i64 most, .func (.func 43) #[rulesV fv nu ex] #[]] w fun e w' =>
      e = .returned (.bool (decide (least ≤ es.length) && decide ((es.length : Int) ≤ most) && es.all (vCl var nu))) ∧ Below w.heap.size w w' := by
  refine vl_cell (vCl var nu) 43 #[rulesV fv nu ex] #[] (enters_of Tryz.func43 (by kernel_rfl) rfl) es A c least most w hn hr (fun k nm l A' c' W _ hb rl hnm hl => ?_)
  exact cell_any fv var hv nu ex h0 h1 k nm l A' c' W rl hnm hl

theorem box3f {W : World} {be : Nat} {p a c : Value} (h : W.heap[be]? = some (formulaC p a c)) :
    W.cell? ⟨be, 0, none⟩ = some p ∧ W.cell? ⟨be, 1, none⟩ = some a ∧ W.cell? ⟨be, 2, none⟩ = some c :=
  ⟨cell_of_block h 0 rfl, cell_of_block h 1 rfl, cell_of_block h 2 rfl⟩

set_option maxRecDepth 100000 in
set_option maxHeartbeats 4000000 in
theorem formula_any (fv : Nat) (var : List UInt8 → Bool) (hv : VarOk fv var) (nu ex : Int) (h0 : 0 ≤ nu) (h1 : nu ≤ 4611686018427387904) (f : Fm) (Ap : Option Addr) (cp : Nat) (Aa : Option Addr) (ca : Nat) (Ac : Option Addr) (cc : Nat) (w : World)
    (b0 : f.ps.length ≤ maxLen) (b1 : f.ats.length ≤ maxLen) (b2 : f.cls.length ≤ maxLen) (rp : PmRow w w.heap.size f.ps Ap) (ra : AtRow w w.heap.size f.ats Aa) (rc : ClRow w w.heap.size f.cls Ac) :
    Calls Tryz.prog 20 #[rulesV fv nu ex, formulaV (.slice Ap f.ps.length cp) (.slice Aa f.ats.length ca) (.slice Ac f.cls.length cc)] w fun e w' => e = .returned (.bool (vF var nu ex f)) ∧ Below w.heap.size w w' := by
  obtain ⟨v0, hv0⟩ : ∃ v, v = (decide ((0 : Int) ≤ f.ps.length) && decide ((f.ps.length : Int) ≤ ex) && f.ps.all (vP var)) := ⟨_, rfl⟩
  obtain ⟨vd, hvd⟩ : ∃ v, v = decide ((f.ps.map (·.nm)).Nodup) := ⟨_, rfl⟩
  obtain ⟨v1, hv1⟩ : ∃ v, v = (decide ((0 : Int) ≤ f.ats.length) && decide ((f.ats.length : Int) ≤ 100) && f.ats.all (vAt var nu)) := ⟨_, rfl⟩
  obtain ⟨v2, hv2⟩ : ∃ v, v = (decide ((0 : Int) ≤ f.cls.length) && decide ((f.cls.length : Int) ≤ 100) && f.cls.all (vCl var nu)) := ⟨_, rfl⟩
  have hres : vF var nu ex f = (v0 && vd && v1 && v2) := by
    rw [hv0, hvd, hv1, hv2]
    unfold vF
    have e : ∀ n : Nat, decide ((0 : Int) ≤ n) = true := fun n => by simp
    rw [e, e, e]
    simp only [Bool.true_and, Bool.and_assoc]
  rw [hres]
  have HP : Hid (∀ W, Below w.heap.size w W → Calls Tryz.prog 37 #[.slice Ap f.ps.length cp, .int .i64 0, .int .i64 ex, .func (.func 38) #[rulesV fv nu ex] #[]] W fun e w' => e = .returned (.bool v0) ∧ Below W.heap.size W w') := Lib.hid (fun W hb => by rw [hv0]; exact vlr_param fv var hv nu ex f.ps Ap cp 0 ex W b0 (rp.on pm_keeps hb))
  have HD : Hid (∀ W, Below w.heap.size w W → Calls Tryz.prog 39 #[.slice Ap f.ps.length cp] W fun e w' => e = .returned (.bool vd) ∧ Below W.heap.size W w') := Lib.hid (fun W hb => by rw [hvd]; exact names_any f.ps Ap cp W b0 (rp.on pm_keeps hb))
  have HA : Hid (∀ W, Below w.heap.size w W → Calls Tryz.prog 40 #[.slice Aa f.ats.length ca, .int .i64 0, .int .i64 100, .func (.func 41) #[rulesV fv nu ex] #[]] W fun e w' => e = .returned (.bool v1) ∧ Below W.heap.size W w') := Lib.hid (fun W hb => by rw [hv1]; exact vlr_atom fv var hv nu ex h0 h1 f.ats Aa ca 0 100 W b1 (ra.on at_keeps hb))
  have HC : Hid (∀ W, Below w.heap.size w W → Calls Tryz.prog 42 #[.slice Ac f.cls.length cc, .int .i64 0, .int .i64 100, .func (.func 43) #[rulesV fv nu ex] #[]] W fun e w' => e = .returned (.bool v2) ∧ Below W.heap.size W w') := Lib.hid (fun W hb => by rw [hv2]; exact vlr_cell fv var hv nu ex h0 h1 f.cls Ac cc 0 100 W b2 (rc.on cl_keeps hb))
  generalize f.ps.length = n0 at *
  generalize f.ats.length = n1 at *
  generalize f.cls.length = n2 at *
  obtain ⟨W1, hW1⟩ : ∃ W1, W1 = (w.alloc (rulesC fv nu ex)).alloc (formulaC (.slice Ap n0 cp) (.slice Aa n1 ca) (.slice Ac n2 cc)) := ⟨_, rfl⟩
  have HB : Hid (Below w.heap.size w W1) := Lib.hid (by rw [hW1]; exact (below_alloc w _).chain (below_alloc _ _))
  have q1 := heap_keep (o := formulaC (.slice Ap n0 cp) (.slice Aa n1 ca) (.slice Ac n2 cc)) (heap_of_alloc w (rulesC fv nu ex))
  have q2 := heap_of_alloc (w.alloc (rulesC fv nu ex)) (formulaC (.slice Ap n0 cp) (.slice Aa n1 ca) (.slice Ac n2 cc))
  rw [size_of_alloc] at q2
  rw [← hW1] at q1 q2
  have HQ := Lib.hid (And.intro q1 q2)
  unfold maxLen at b0 b1 b2
  have he1 := enters_of Tryz.func38 (by kernel_rfl) rfl
  clear q1 q2 hv rp ra rc hres hv0 hvd hv1 hv2 h0 h1
  cases v0 with
  | false =>
    go_enter Tryz.func20, Tryz.ntmps20
    go_wp2_with (go_at_call 37; rw [← hW1]; clear hW1; refine (HP.out _ HB.out).mono ?_; rintro e w2 ⟨rfl, hb2⟩; have HB2 := Lib.hid (HB.out.chain hb2); clear hb2)
    go_ret
    exact ⟨rfl, HB2.out⟩
  | true =>
    cases vd with
    | false =>
      go_enter Tryz.func20, Tryz.ntmps20
      go_wp2_with (first
        | (go_at_call 37; rw [← hW1]; clear hW1; refine (HP.out _ HB.out).mono ?_; rintro e w2 ⟨rfl, hb2⟩; have HB2 := Lib.hid (HB.out.chain hb2); have HQ2 := Lib.hid (And.intro (kept_box hb2 HQ.out.1) (kept_box hb2 HQ.out.2)); obtain ⟨g0, g1, g2⟩ := box3 HQ2.out.1; obtain ⟨y0, y1, y2⟩ := box3f HQ2.out.2; clear hb2)
        | (go_at_call 39; refine (HD.out _ HB2.out).mono ?_; rintro e w3 ⟨rfl, hb3⟩; have HB3 := Lib.hid (HB2.out.chain hb3); clear hb3))
      go_ret
      exact ⟨rfl, HB3.out⟩
    | true =>
      cases v1 with
      | false =>
        go_enter Tryz.func20, Tryz.ntmps20
        go_wp2_with (first
          | (go_at_call 37; rw [← hW1]; clear hW1; refine (HP.out _ HB.out).mono ?_; rintro e w2 ⟨rfl, hb2⟩; have HB2 := Lib.hid (HB.out.chain hb2); have HQ2 := Lib.hid (And.intro (kept_box hb2 HQ.out.1) (kept_box hb2 HQ.out.2)); obtain ⟨g0, g1, g2⟩ := box3 HQ2.out.1; obtain ⟨y0, y1, y2⟩ := box3f HQ2.out.2; clear hb2)
          | (go_at_call 39; refine (HD.out _ HB2.out).mono ?_; rintro e w3 ⟨rfl, hb3⟩; have HB3 := Lib.hid (HB2.out.chain hb3); have HQ3 := Lib.hid (And.intro (kept_box hb3 HQ2.out.1) (kept_box hb3 HQ2.out.2)); obtain ⟨i0, i1, i2⟩ := box3 HQ3.out.1; obtain ⟨x0, x1, x2⟩ := box3f HQ3.out.2; clear hb3)
          | (go_at_call 40; refine (HA.out _ HB3.out).mono ?_; rintro e w4 ⟨rfl, hb4⟩; have HB4 := Lib.hid (HB3.out.chain hb4); clear hb4))
        go_ret
        exact ⟨rfl, HB4.out⟩
      | true =>
        go_enter Tryz.func20, Tryz.ntmps20
        go_wp2_with (first
          | (go_at_call 37; rw [← hW1]; clear hW1; refine (HP.out _ HB.out).mono ?_; rintro e w2 ⟨rfl, hb2⟩; have HB2 := Lib.hid (HB.out.chain hb2); have HQ2 := Lib.hid (And.intro (kept_box hb2 HQ.out.1) (kept_box hb2 HQ.out.2)); obtain ⟨g0, g1, g2⟩ := box3 HQ2.out.1; obtain ⟨y0, y1, y2⟩ := box3f HQ2.out.2; clear hb2)
          | (go_at_call 39; refine (HD.out _ HB2.out).mono ?_; rintro e w3 ⟨rfl, hb3⟩; have HB3 := Lib.hid (HB2.out.chain hb3); have HQ3 := Lib.hid (And.intro (kept_box hb3 HQ2.out.1) (kept_box hb3 HQ2.out.2)); obtain ⟨i0, i1, i2⟩ := box3 HQ3.out.1; obtain ⟨x0, x1, x2⟩ := box3f HQ3.out.2; clear hb3)
          | (go_at_call 40; refine (HA.out _ HB3.out).mono ?_; rintro e w4 ⟨rfl, hb4⟩; have HB4 := Lib.hid (HB3.out.chain hb4); have HQ4 := Lib.hid (And.intro (kept_box hb4 HQ3.out.1) (kept_box hb4 HQ3.out.2)); obtain ⟨j0, j1, j2⟩ := box3 HQ4.out.1; obtain ⟨z0, z1, z2⟩ := box3f HQ4.out.2; clear hb4)
          | (go_at_call 42; refine (HC.out _ HB4.out).mono ?_; rintro e w5 ⟨rfl, hb5⟩; have HB5 := Lib.hid (HB4.out.chain hb5); clear hb5))
        go_ret
        exact ⟨rfl, HB5.out⟩

set_option maxRecDepth 100000 in
set_option maxHeartbeats 4000000 in
/-- tree.Formula says what vF says. -/
theorem tformula_any (f : Fm) (Ap : Option Addr) (cp : Nat) (Aa : Option Addr) (ca : Nat) (Ac : Option Addr) (cc : Nat) (w : World)
    (b0 : f.ps.length ≤ maxLen) (b1 : f.ats.length ≤ maxLen) (b2 : f.cls.length ≤ maxLen) (rp : PmRow w w.heap.size f.ps Ap) (ra : AtRow w w.heap.size f.ats Aa) (rc : ClRow w w.heap.size f.cls Ac) :
    Calls Tryz.prog 8 #[formulaV (.slice Ap f.ps.length cp) (.slice Aa f.ats.length ca) (.slice Ac f.cls.length cc)] w fun e w' => e = .returned (.bool (vF varB 1125899906842624 100 f)) ∧ Below w.heap.size w w' := by
  obtain ⟨W1, hW1⟩ : ∃ W1, W1 = w.alloc (formulaC (.slice Ap f.ps.length cp) (.slice Aa f.ats.length ca) (.slice Ac f.cls.length cc)) := ⟨_, rfl⟩
  have HB : Hid (Below w.heap.size w W1) := Lib.hid (by rw [hW1]; exact below_alloc w _)
  have HC : Hid (Calls Tryz.prog 20 #[rulesV 36 1125899906842624 100, formulaV (.slice Ap f.ps.length cp) (.slice Aa f.ats.length ca) (.slice Ac f.cls.length cc)] (W1.alloc (rulesC 36 1125899906842624 100)).drew fun e w' => e = .returned (.bool (vF varB 1125899906842624 100 f)) ∧ Below W1.heap.size W1 w') := Lib.hid (by
    have hb3 : Below W1.heap.size W1 (W1.alloc (rulesC 36 1125899906842624 100)).drew := (below_alloc W1 _).drew
    have hb := HB.out.chain hb3
    exact (formula_any _ varB variable_ok 1125899906842624 100 (by omega) (by omega) f Ap cp Aa ca Ac cc _ b0 b1 b2 (rp.on pm_keeps hb) (ra.on at_keeps hb) (rc.on cl_keeps hb)).mono fun e w' ⟨he, hb⟩ => ⟨he, hb3.chain hb⟩)
  have HP : Hid (∀ W, Calls Tryz.prog 19 #[] W fun e w' => e = .returned (rulesV 36 1125899906842624 100) ∧ w' = W.alloc (rulesC 36 1125899906842624 100)) := Lib.hid proof_rules
  generalize vF varB 1125899906842624 100 f = res at *
  generalize f.ps.length = n0 at *
  generalize f.ats.length = n1 at *
  generalize f.cls.length = n2 at *
  have q2 := heap_of_alloc w (formulaC (.slice Ap n0 cp) (.slice Aa n1 ca) (.slice Ac n2 cc))
  rw [← hW1] at q2
  obtain ⟨d0, d1, d2⟩ := box3f q2
  have HQ := Lib.hid q2
  unfold maxLen at b0 b1 b2
  clear rp ra rc q2
  go_enter Tryz.func8, Tryz.ntmps8
  go_wp2
  rw [← hW1]
  clear hW1
  go_region_held3 (fun W => W.cell? ⟨w.heap.size, 0, none⟩ = some (.slice Ap n0 cp) ∧ W.cell? ⟨w.heap.size, 1, none⟩ = some (.slice Aa n1 ca) ∧ W.cell? ⟨w.heap.size, 2, none⟩ = some (.slice Ac n2 cc))
    (first | go_keep | (trace_state; fail))
    (first
      | (go_at_call 19; refine (HP.out _).mono ?_; rintro e w2 ⟨rfl, rfl⟩)
      | (go_at_call 20; refine HC.out.mono ?_; rintro e w3 ⟨rfl, hb3⟩; have HB3 := Lib.hid hb3; obtain ⟨g0, g1, g2⟩ := box3f (kept_box hb3 HQ.out); clear hb3))
  all_goals go_wp2
  all_goals go_ret
  all_goals exact ⟨rfl, HB.out.chain HB3.out⟩

end Go.Proofs.YtllfkgggolfojaaGreatDoor
