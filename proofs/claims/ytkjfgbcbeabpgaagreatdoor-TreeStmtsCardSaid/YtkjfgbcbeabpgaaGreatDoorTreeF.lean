/-
  Formulas: names of types, parameters.
  Formulas: atoms.
  Formulas: the reference's atoms.
  Formulas as trees, and the rows of memory that hold their parts.
-/
import Derived.Test.YtkjfgbcbeabpgaaGreatDoorTreeVm
import Derived.Test.YtkjfgbcbeabpgaaGreatDoorTreeKc
namespace Go.Proofs.YtkjfgbcbeabpgaaGreatDoor
open Go.RowKit

def tyB (s : List UInt8) : Bool := (s == [105, 110, 116]) || nameL s

theorem type_any (s : List UInt8) (w : World) (hs : s.length ≤ maxLen) : Calls Tryz.prog 152 #[.string ⟨s.toArray⟩] w fun e w' => e = .returned (.bool (tyB s)) ∧ Below w.heap.size w w' := by
  have HN : Hid (∀ w, Calls Tryz.prog 106 #[.string ⟨s.toArray⟩] w fun e w' => e = .returned (.bool (nameL s)) ∧ Below w.heap.size w w') := Lib.hid (fun w => name_any s w hs)
  have HB := Lib.hid (Below.refl w.heap.size w)
  unfold tyB
  generalize nameL s = nl at *
  cases h1 : (s == [105, 110, 116]) with
  | true =>
    go_enter Tryz.func152, Tryz.ntmps152
    go_wp2
    go_ret
    exact ⟨rfl, HB.out⟩
  | false =>
    go_enter Tryz.func152, Tryz.ntmps152
    go_wp2_with (go_at_call 106; refine (HN.out _).mono ?_; rintro e w2 ⟨rfl, hb⟩)
    go_ret
    exact ⟨rfl, hb⟩

theorem stype_any (s : List UInt8) (w : World) (hs : s.length ≤ maxLen) : Calls Tryz.prog 102 #[.string ⟨s.toArray⟩] w fun e w' => e = .returned (.bool (tyB s)) ∧ Below w.heap.size w w' := by
  have HN : Hid (∀ w, Calls Tryz.prog 51 #[.string ⟨s.toArray⟩] w fun e w' => e = .returned (.bool (nameL s)) ∧ Below w.heap.size w w') := Lib.hid (fun w => by rw [name_eq]; exact sname_any s w hs)
  have HB := Lib.hid (Below.refl w.heap.size w)
  unfold tyB
  generalize nameL s = nl at *
  cases h1 : (s == [105, 110, 116]) with
  | true =>
    go_enter Tryz.func102, Tryz.ntmps102
    go_wp2
    go_ret
    exact ⟨rfl, HB.out⟩
  | false =>
    go_enter Tryz.func102, Tryz.ntmps102
    go_wp2_with (go_at_call 51; refine (HN.out _).mono ?_; rintro e w2 ⟨rfl, hb⟩)
    go_ret
    exact ⟨rfl, hb⟩

abbrev paramV (t nm : ByteArray) : Value := .agg #[.string t, .string nm]
abbrev paramC (t nm : ByteArray) : Obj := .cells #[.string t, .string nm] 60

set_option maxRecDepth 100000 in
set_option maxHeartbeats 2000000 in
theorem param_any (fv : Nat) (var : List UInt8 → Bool) (hv : VarOk fv var) (nu ex : Int) (t nm : List UInt8) (w : World) (ht : t.length ≤ maxLen) (hn : nm.length ≤ maxLen) :
    Calls Tryz.prog 96 #[rulesV fv nu ex, paramV ⟨t.toArray⟩ ⟨nm.toArray⟩] w fun e w' => e = .returned (.bool (tyB t && var nm)) ∧ Below w.heap.size w w' := by
  have HT : Hid (∀ w, Calls Tryz.prog 152 #[.string ⟨t.toArray⟩] w fun e w' => e = .returned (.bool (tyB t)) ∧ Below w.heap.size w w') := Lib.hid (fun w => type_any t w ht)
  have HV : Hid (∀ w, Calls Tryz.prog fv #[.string ⟨nm.toArray⟩] w fun e w' => e = .returned (.bool (var nm)) ∧ Below w.heap.size w w') := Lib.hid (fun w => hv.says nm w hn)
  have hfv := hv.enters
  obtain ⟨W1, hW1⟩ : ∃ W1, W1 = (w.alloc (rulesC fv nu ex)).alloc (paramC ⟨t.toArray⟩ ⟨nm.toArray⟩) := ⟨_, rfl⟩
  have HB : Hid (Below w.heap.size w W1) := Lib.hid (by rw [hW1]; exact (below_alloc w _).chain (below_alloc _ _))
  have q1 := heap_keep (o := paramC ⟨t.toArray⟩ ⟨nm.toArray⟩) (heap_of_alloc w (rulesC fv nu ex))
  have q2 := heap_of_alloc (w.alloc (rulesC fv nu ex)) (paramC ⟨t.toArray⟩ ⟨nm.toArray⟩)
  rw [size_of_alloc] at q2
  rw [← hW1] at q1 q2
  have HQ := Lib.hid (And.intro q1 q2)
  generalize tyB t = ty at *
  generalize var nm = vn at *
  clear q1 q2 hv ht hn
  cases ty with
  | false =>
    go_enter Tryz.func96, Tryz.ntmps96
    go_wp2_with (go_at_call 152; rw [← hW1]; refine (HT.out _).mono ?_; rintro e w2 ⟨rfl, hb⟩)
    go_ret
    exact ⟨rfl, HB.out.chain hb⟩
  | true =>
    go_enter Tryz.func96, Tryz.ntmps96
    go_wp2_with (first
      | (go_at_call 152; rw [← hW1]; refine (HT.out _).mono ?_; rintro e w2 ⟨rfl, hb⟩; have HB2 := Lib.hid (HB.out.chain hb); have g1 := cell_of_block (kept_box hb HQ.out.1) 0 (v := .func (.func fv) #[] #[]) rfl; have g2 := cell_of_block (kept_box hb HQ.out.2) 1 (v := .string ⟨nm.toArray⟩) rfl; clear hb)
      | (with_reducible refine (HV.out _).mono ?_; rintro e w3 ⟨rfl, hb3⟩; have HB3 := Lib.hid (HB2.out.chain hb3); clear hb3))
    go_ret
    exact ⟨rfl, HB3.out⟩

set_option maxRecDepth 100000 in
set_option maxHeartbeats 2000000 in
theorem sparam_any (t nm : List UInt8) (w : World) (ht : t.length ≤ maxLen) (hn : nm.length ≤ maxLen) :
    Calls Tryz.prog 42 #[paramV ⟨t.toArray⟩ ⟨nm.toArray⟩] w fun e w' => e = .returned (.bool (tyB t && varR nm)) ∧ Below w.heap.size w w' := by
  have HT : Hid (∀ w, Calls Tryz.prog 102 #[.string ⟨t.toArray⟩] w fun e w' => e = .returned (.bool (tyB t)) ∧ Below w.heap.size w w') := Lib.hid (fun w => stype_any t w ht)
  have HV : Hid (∀ w, Calls Tryz.prog 92 #[.string ⟨nm.toArray⟩] w fun e w' => e = .returned (.bool (varR nm)) ∧ Below w.heap.size w w') := Lib.hid (fun w => svariable_any nm w hn)
  have HB := Lib.hid (below_alloc w (paramC ⟨t.toArray⟩ ⟨nm.toArray⟩))
  have HQ := Lib.hid (heap_of_alloc w (paramC ⟨t.toArray⟩ ⟨nm.toArray⟩))
  generalize tyB t = ty at *
  generalize varR nm = vn at *
  clear ht hn
  cases ty with
  | false =>
    go_enter Tryz.func42, Tryz.ntmps42
    go_wp2_with (go_at_call 102; refine (HT.out _).mono ?_; rintro e w2 ⟨rfl, hb⟩)
    go_ret
    exact ⟨rfl, HB.out.chain hb⟩
  | true =>
    go_enter Tryz.func42, Tryz.ntmps42
    go_wp2_with (first
      | (go_at_call 102; refine (HT.out _).mono ?_; rintro e w2 ⟨rfl, hb⟩; have HB2 := Lib.hid (HB.out.chain hb); have g2 := cell_of_block (kept_box hb HQ.out) 1 (v := .string ⟨nm.toArray⟩) rfl; clear hb)
      | (go_at_call 92; refine (HV.out _).mono ?_; rintro e w3 ⟨rfl, hb3⟩; have HB3 := Lib.hid (HB2.out.chain hb3); clear hb3))
    go_ret
    exact ⟨rfl, HB3.out⟩

end Go.Proofs.YtkjfgbcbeabpgaaGreatDoor

namespace Go.Proofs.YtkjfgbcbeabpgaaGreatDoor
open Go.RowKit

abbrev atomV (k ak an : Int) (sa : ByteArray) (la : Value) (bk bn : Int) (sb : ByteArray) (lb : Value) : Value := .agg #[.int .i64 k, .int .i64 ak, .int .i64 an, .string sa, la, .int .i64 bk, .int .i64 bn, .string sb, lb]
abbrev atomC (k ak an : Int) (sa : ByteArray) (la : Value) (bk bn : Int) (sb : ByteArray) (lb : Value) : Obj := .cells #[.int .i64 k, .int .i64 ak, .int .i64 an, .string sa, la, .int .i64 bk, .int .i64 bn, .string sb, lb] 69

theorem box9 {W : World} {be : Nat} {k ak an : Int} {sa : ByteArray} {la : Value} {bk bn : Int} {sb : ByteArray} {lb : Value} (h : W.heap[be]? = some (atomC k ak an sa la bk bn sb lb)) :
    W.cell? ⟨be, 1, none⟩ = some (.int .i64 ak) ∧ W.cell? ⟨be, 2, none⟩ = some (.int .i64 an) ∧ W.cell? ⟨be, 3, none⟩ = some (.string sa) ∧ W.cell? ⟨be, 4, none⟩ = some la ∧ W.cell? ⟨be, 5, none⟩ = some (.int .i64 bk) ∧ W.cell? ⟨be, 6, none⟩ = some (.int .i64 bn) ∧ W.cell? ⟨be, 7, none⟩ = some (.string sb) ∧ W.cell? ⟨be, 8, none⟩ = some lb :=
  ⟨cell_of_block h 1 rfl, cell_of_block h 2 rfl, cell_of_block h 3 rfl, cell_of_block h 4 rfl, cell_of_block h 5 rfl, cell_of_block h 6 rfl, cell_of_block h 7 rfl, cell_of_block h 8 rfl⟩

theorem box3 {W : World} {be fv : Nat} {nu ex : Int} (h : W.heap[be]? = some (rulesC fv nu ex)) :
    W.cell? ⟨be, 0, none⟩ = some (.func (.func fv) #[] #[]) ∧ W.cell? ⟨be, 1, none⟩ = some (.int .i64 nu) ∧ W.cell? ⟨be, 2, none⟩ = some (.int .i64 ex) :=
  ⟨cell_of_block h 0 rfl, cell_of_block h 1 rfl, cell_of_block h 2 rfl⟩

set_option maxRecDepth 100000 in
set_option maxHeartbeats 2000000 in
theorem atom_any (fv : Nat) (var : List UInt8 → Bool) (hv : VarOk fv var) (nu ex : Int) (h0 : 0 ≤ nu) (h1 : nu ≤ 4611686018427387904) (k ak an : Int) (sa : List UInt8) (al : List Ex) (bk bn : Int) (sb : List UInt8) (bl : List Ex) (Aa : Option Addr) (ca : Nat) (Ab : Option Addr) (cb : Nat) (w : World)
    (ra : ExRow w w.heap.size al Aa) (rb : ExRow w w.heap.size bl Ab) (b1 : sa.length ≤ maxLen) (b2 : al.length ≤ maxLen) (b3 : sb.length ≤ maxLen) (b4 : bl.length ≤ maxLen) :
    Calls Tryz.prog 99 #[rulesV fv nu ex, atomV k ak an ⟨sa.toArray⟩ (.slice Aa al.length ca) bk bn ⟨sb.toArray⟩ (.slice Ab bl.length cb)] w fun e w' => e = .returned (.bool ((decide (1 ≤ k) && decide (k ≤ 4)) && vE var nu 30 (.mk ak an sa al) && vE var nu 30 (.mk bk bn sb bl))) ∧ Below w.heap.size w w' := by
  have HCM : Hid (∀ w, Calls Tryz.prog 148 #[.int .i64 k] w fun e w' => e = .returned (.bool (decide (1 ≤ k) && decide (k ≤ 4))) ∧ w = w') := Lib.hid (comparison_any k)
  have HA : Hid (∀ W3, Below w.heap.size w W3 → Calls Tryz.prog 37 #[rulesV fv nu ex, exprV ak an ⟨sa.toArray⟩ (.slice Aa al.length ca)] W3 fun e w' => e = .returned (.bool (vE var nu 30 (.mk ak an sa al))) ∧ Below W3.heap.size W3 w') := Lib.hid (fun W3 hb => rexpr_any fv var hv nu ex h0 h1 ak an sa al Aa ca W3 ((ra.stay hb (Nat.le_refl _)).more hb.size) b1 b2)
  have HE : Hid (∀ W3, Below w.heap.size w W3 → Calls Tryz.prog 37 #[rulesV fv nu ex, exprV bk bn ⟨sb.toArray⟩ (.slice Ab bl.length cb)] W3 fun e w' => e = .returned (.bool (vE var nu 30 (.mk bk bn sb bl))) ∧ Below W3.heap.size W3 w') := Lib.hid (fun W3 hb => rexpr_any fv var hv nu ex h0 h1 bk bn sb bl Ab cb W3 ((rb.stay hb (Nat.le_refl _)).more hb.size) b3 b4)
  obtain ⟨W1, hW1⟩ : ∃ W1, W1 = (w.alloc (rulesC fv nu ex)).alloc (atomC k ak an ⟨sa.toArray⟩ (.slice Aa al.length ca) bk bn ⟨sb.toArray⟩ (.slice Ab bl.length cb)) := ⟨_, rfl⟩
  have HB : Hid (Below w.heap.size w W1) := Lib.hid (by rw [hW1]; exact (below_alloc w _).chain (below_alloc _ _))
  have q1 := heap_keep (o := atomC k ak an ⟨sa.toArray⟩ (.slice Aa al.length ca) bk bn ⟨sb.toArray⟩ (.slice Ab bl.length cb)) (heap_of_alloc w (rulesC fv nu ex))
  have q2 := heap_of_alloc (w.alloc (rulesC fv nu ex)) (atomC k ak an ⟨sa.toArray⟩ (.slice Aa al.length ca) bk bn ⟨sb.toArray⟩ (.slice Ab bl.length cb))
  rw [size_of_alloc] at q2
  rw [← hW1] at q1 q2
  have HQ := Lib.hid (And.intro q1 q2)
  generalize (decide (1 ≤ k) && decide (k ≤ 4)) = cm at *
  generalize vE var nu 30 (.mk ak an sa al) = ea at *
  generalize vE var nu 30 (.mk bk bn sb bl) = eb at *
  unfold maxLen at b1 b2 b3 b4
  clear q1 q2 hv ra rb
  cases cm with
  | false =>
    go_enter Tryz.func99, Tryz.ntmps99
    go_wp2_with (go_at_call 148; rw [← hW1]; clear hW1; refine (HCM.out _).mono ?_; rintro e w2 ⟨rfl, rfl⟩)
    go_ret
    exact ⟨rfl, HB.out⟩
  | true =>
    cases ea with
    | false =>
      go_enter Tryz.func99, Tryz.ntmps99
      go_wp2_with (first
        | (go_at_call 148; rw [← hW1]; clear hW1; refine (HCM.out _).mono ?_; rintro e w2 ⟨rfl, rfl⟩; obtain ⟨g0, g1, g2⟩ := box3 HQ.out.1; obtain ⟨y1, y2, y3, y4, y5, y6, y7, y8⟩ := box9 HQ.out.2)
        | (go_at_call 37; refine (HA.out _ HB.out).mono ?_; rintro e w3 ⟨rfl, hb3⟩; have HB3 := Lib.hid (HB.out.chain hb3); clear hb3))
      go_ret
      exact ⟨rfl, HB3.out⟩
    | true =>
      go_enter Tryz.func99, Tryz.ntmps99
      go_wp2_with (first
        | (go_at_call 148; rw [← hW1]; clear hW1; refine (HCM.out _).mono ?_; rintro e w2 ⟨rfl, rfl⟩; obtain ⟨g0, g1, g2⟩ := box3 HQ.out.1; obtain ⟨y1, y2, y3, y4, y5, y6, y7, y8⟩ := box9 HQ.out.2)
        | (go_at_call 37; refine (HA.out _ HB.out).mono ?_; rintro e w3 ⟨rfl, hb3⟩; have HB3 := Lib.hid (HB.out.chain hb3); obtain ⟨p0, p1, p2⟩ := box3 (kept_box hb3 HQ.out.1); obtain ⟨z1, z2, z3, z4, z5, z6, z7, z8⟩ := box9 (kept_box hb3 HQ.out.2); clear hb3)
        | (go_at_call 37; refine (HE.out _ HB3.out).mono ?_; rintro e w4 ⟨rfl, hb4⟩; have HB4 := Lib.hid (HB3.out.chain hb4); clear hb4))
      go_ret
      exact ⟨rfl, HB4.out⟩

end Go.Proofs.YtkjfgbcbeabpgaaGreatDoor

namespace Go.Proofs.YtkjfgbcbeabpgaaGreatDoor
open Go.RowKit

set_option maxRecDepth 100000 in
set_option maxHeartbeats 2000000 in
theorem satom_any (k ak an : Int) (sa : List UInt8) (al : List Ex) (bk bn : Int) (sb : List UInt8) (bl : List Ex) (Aa : Option Addr) (ca : Nat) (Ab : Option Addr) (cb : Nat) (w : World)
    (ra : ExRow w w.heap.size al Aa) (rb : ExRow w w.heap.size bl Ab) (b1 : sa.length ≤ maxLen) (b2 : al.length ≤ maxLen) (b3 : sb.length ≤ maxLen) (b4 : bl.length ≤ maxLen) :
    Calls Tryz.prog 43 #[atomV k ak an ⟨sa.toArray⟩ (.slice Aa al.length ca) bk bn ⟨sb.toArray⟩ (.slice Ab bl.length cb)] w fun e w' => e = .returned (.bool ((decide (1 ≤ k) && decide (k ≤ 4)) && vE varR nuP 30 (.mk ak an sa al) && vE varR nuP 30 (.mk bk bn sb bl))) ∧ Below w.heap.size w w' := by
  have HA : Hid (∀ W3, Below w.heap.size w W3 → Calls Tryz.prog 13 #[exprV ak an ⟨sa.toArray⟩ (.slice Aa al.length ca)] W3 fun e w' => e = .returned (.bool (vE varR nuP 30 (.mk ak an sa al))) ∧ Below W3.heap.size W3 w') := Lib.hid (fun W3 hb => sexpr_any ak an sa al Aa ca W3 ((ra.stay hb (Nat.le_refl _)).more hb.size) b1 b2)
  have HE : Hid (∀ W3, Below w.heap.size w W3 → Calls Tryz.prog 13 #[exprV bk bn ⟨sb.toArray⟩ (.slice Ab bl.length cb)] W3 fun e w' => e = .returned (.bool (vE varR nuP 30 (.mk bk bn sb bl))) ∧ Below W3.heap.size W3 w') := Lib.hid (fun W3 hb => sexpr_any bk bn sb bl Ab cb W3 ((rb.stay hb (Nat.le_refl _)).more hb.size) b3 b4)
  have HB := Lib.hid (below_alloc w (atomC k ak an ⟨sa.toArray⟩ (.slice Aa al.length ca) bk bn ⟨sb.toArray⟩ (.slice Ab bl.length cb)))
  have HQ := Lib.hid (heap_of_alloc w (atomC k ak an ⟨sa.toArray⟩ (.slice Aa al.length ca) bk bn ⟨sb.toArray⟩ (.slice Ab bl.length cb)))
  generalize vE varR nuP 30 (.mk ak an sa al) = ea at *
  generalize vE varR nuP 30 (.mk bk bn sb bl) = eb at *
  unfold maxLen at b1 b2 b3 b4
  clear ra rb
  by_cases h1 : 1 ≤ k
  · by_cases h2 : k ≤ 4
    · have E1 := Lib.hid h1
      have E2 := Lib.hid h2
      cases ea with
      | false =>
        go_enter Tryz.func43, Tryz.ntmps43
        go_wp2_with (go_at_call 13; refine (HA.out _ HB.out).mono ?_; rintro e w3 ⟨rfl, hb3⟩; have HB3 := Lib.hid (HB.out.chain hb3); clear hb3)
        go_ret
        exact ⟨by simp, HB3.out⟩
      | true =>
        go_enter Tryz.func43, Tryz.ntmps43
        go_wp2_with (first
          | (go_at_call 13; refine (HA.out _ HB.out).mono ?_; rintro e w3 ⟨rfl, hb3⟩; have HB3 := Lib.hid (HB.out.chain hb3); obtain ⟨z1, z2, z3, z4, z5, z6, z7, z8⟩ := box9 (kept_box hb3 HQ.out); clear hb3)
          | (go_at_call 13; refine (HE.out _ HB3.out).mono ?_; rintro e w4 ⟨rfl, hb4⟩; have HB4 := Lib.hid (HB3.out.chain hb4); clear hb4))
        go_ret
        exact ⟨by have f1 := E1.out; have f2 := E2.out; simp [f1, f2], HB4.out⟩
    · have E2 := Lib.hid h2
      go_enter Tryz.func43, Tryz.ntmps43
      go_wp2
      go_ret
      exact ⟨by have f2 := E2.out; simp; intros; omega, HB.out⟩
  · have E1 := Lib.hid h1
    go_enter Tryz.func43, Tryz.ntmps43
    go_wp2
    go_ret
    exact ⟨by have f1 := E1.out; simp; intros; omega, HB.out⟩

end Go.Proofs.YtkjfgbcbeabpgaaGreatDoor

namespace Go.Proofs.YtkjfgbcbeabpgaaGreatDoor
open Go.RowKit

/-- The row at A holds these elements, each of n cells; all their memory is below B. -/
inductive RowX {α : Type} (P : World → Nat → Addr → α → Prop) (n : Nat) (w : World) (B : Nat) : List α → Option Addr → Prop
  | nil (A : Option Addr) : RowX P n w B [] A
  | row (a : Addr) (es : List α) (hb : a.block < B) (cells : ∀ i x, es[i]? = some x → P w B (a.add (i * n)) x) : RowX P n w B es (some a)

/-- What an element says of memory stays true where the memory below B stays. -/
def Keeps {α : Type} (P : World → Nat → Addr → α → Prop) : Prop :=
  ∀ (w w' : World) (B B' : Nat) (p : Addr) (x : α), (∀ q : Addr, q.block < B → w'.cell? q = w.cell? q) → B ≤ B' → p.block < B → P w B p x → P w' B' p x

theorem RowX.at_ {α : Type} {P : World → Nat → Addr → α → Prop} {n : Nat} {w : World} {B : Nat} {es : List α} {A : Option Addr} (h : RowX P n w B es A) {i : Nat} {x : α} (hi : es[i]? = some x) :
    ∃ a, A = some a ∧ a.block < B ∧ P w B (a.add (i * n)) x := by
  cases h with
  | nil => simp at hi
  | row a es hb cells => exact ⟨a, rfl, hb, cells i x hi⟩

theorem RowX.keep {α : Type} {P : World → Nat → Addr → α → Prop} (hP : Keeps P) {n : Nat} {w w' : World} {B B' : Nat} (hk : ∀ q : Addr, q.block < B → w'.cell? q = w.cell? q) (hB : B ≤ B') {es : List α} {A : Option Addr} (h : RowX P n w B es A) : RowX P n w' B' es A := by
  cases h with
  | nil => exact .nil _
  | row a es hb cells => exact .row a es (Nat.lt_of_lt_of_le hb hB) (fun i x hi => hP w w' B B' _ x hk hB (by rw [block_adds]; exact hb) (cells i x hi))

theorem RowX.stay {α : Type} {P : World → Nat → Addr → α → Prop} (hP : Keeps P) {n : Nat} {w w' : World} {B C : Nat} (hb : Below C w w') (hC : B ≤ C) {es : List α} {A : Option Addr} (h : RowX P n w B es A) : RowX P n w' B es A :=
  h.keep hP (fun _ hp => hb.cell (Nat.lt_of_lt_of_le hp hC)) (Nat.le_refl _)

theorem RowX.more {α : Type} {P : World → Nat → Addr → α → Prop} (hP : Keeps P) {n : Nat} {w : World} {B B' : Nat} (hB : B ≤ B') {es : List α} {A : Option Addr} (h : RowX P n w B es A) : RowX P n w B' es A := h.keep hP (fun _ _ => rfl) hB

/-- A row that was there stays, in a later world. -/
theorem RowX.on {α : Type} {P : World → Nat → Addr → α → Prop} (hP : Keeps P) {n : Nat} {w w' : World} (hb : Below w.heap.size w w') {es : List α} {A : Option Addr} (h : RowX P n w w.heap.size es A) : RowX P n w' w'.heap.size es A :=
  (h.stay hP hb (Nat.le_refl _)).more hP hb.size

theorem ExRow.on {w w' : World} (hb : Below w.heap.size w w') {es : List Ex} {A : Option Addr} (h : ExRow w w.heap.size es A) : ExRow w' w'.heap.size es A := (h.stay hb (Nat.le_refl _)).more hb.size

structure Pm where
  t : List UInt8
  nm : List UInt8

structure At where
  k : Int
  a : Ex
  b : Ex

structure Cl where
  k : Int
  nm : List UInt8
  l : List Ex

structure Fm where
  ps : List Pm
  ats : List At
  cls : List Cl

def PmAt (w : World) (_ : Nat) (p : Addr) (x : Pm) : Prop :=
  w.cell? p = some (.string ⟨x.t.toArray⟩) ∧ w.cell? (p.add 1) = some (.string ⟨x.nm.toArray⟩) ∧ x.t.length ≤ maxLen ∧ x.nm.length ≤ maxLen

theorem pm_keeps : Keeps PmAt := fun w w' B B' p x hk _ hp ⟨h0, h1, h2, h3⟩ => ⟨(hk _ hp).trans h0, (hk _ (by rw [block_adds]; exact hp)).trans h1, h2, h3⟩

/-- The nine cells of an atom. -/
structure ACells (w : World) (p : Addr) (k ak an : Int) (sa : List UInt8) (la : Value) (bk bn : Int) (sb : List UInt8) (lb : Value) : Prop where
  c0 : w.cell? p = some (.int .i64 k)
  c1 : w.cell? (p.add 1) = some (.int .i64 ak)
  c2 : w.cell? (p.add 2) = some (.int .i64 an)
  c3 : w.cell? (p.add 3) = some (.string ⟨sa.toArray⟩)
  c4 : w.cell? (p.add 4) = some la
  c5 : w.cell? (p.add 5) = some (.int .i64 bk)
  c6 : w.cell? (p.add 6) = some (.int .i64 bn)
  c7 : w.cell? (p.add 7) = some (.string ⟨sb.toArray⟩)
  c8 : w.cell? (p.add 8) = some lb

theorem ACells.keep {w w' : World} {B : Nat} {p : Addr} {k ak an : Int} {sa : List UInt8} {la : Value} {bk bn : Int} {sb : List UInt8} {lb : Value} (hk : ∀ q : Addr, q.block < B → w'.cell? q = w.cell? q) (hp : p.block < B) (h : ACells w p k ak an sa la bk bn sb lb) : ACells w' p k ak an sa la bk bn sb lb := by
  have e : ∀ j, (p.add j).block < B := fun j => by rw [block_adds]; exact hp
  exact ⟨(hk _ hp).trans h.c0, (hk _ (e 1)).trans h.c1, (hk _ (e 2)).trans h.c2, (hk _ (e 3)).trans h.c3, (hk _ (e 4)).trans h.c4, (hk _ (e 5)).trans h.c5, (hk _ (e 6)).trans h.c6, (hk _ (e 7)).trans h.c7, (hk _ (e 8)).trans h.c8⟩

theorem ACells.stay {w w' : World} {B : Nat} {p : Addr} {k ak an : Int} {sa : List UInt8} {la : Value} {bk bn : Int} {sb : List UInt8} {lb : Value} (h : ACells w p k ak an sa la bk bn sb lb) (hb : Below B w w') (hp : p.block < B) : ACells w' p k ak an sa la bk bn sb lb :=
  h.keep (fun _ hq => hb.cell hq) hp

/-- The cells as a walk spells them. -/
theorem ACells.flat {w : World} {p : Addr} {k ak an : Int} {sa : List UInt8} {la : Value} {bk bn : Int} {sb : List UInt8} {lb : Value} (h : ACells w p k ak an sa la bk bn sb lb) :
    w.cell? p = some (.int .i64 k) ∧ w.cell? ⟨p.block, p.off + 1, none⟩ = some (.int .i64 ak) ∧ w.cell? ⟨p.block, p.off + 2, none⟩ = some (.int .i64 an) ∧ w.cell? ⟨p.block, p.off + 3, none⟩ = some (.string ⟨sa.toArray⟩) ∧ w.cell? ⟨p.block, p.off + 4, none⟩ = some la ∧
      w.cell? ⟨p.block, p.off + 5, none⟩ = some (.int .i64 bk) ∧ w.cell? ⟨p.block, p.off + 6, none⟩ = some (.int .i64 bn) ∧ w.cell? ⟨p.block, p.off + 7, none⟩ = some (.string ⟨sb.toArray⟩) ∧ w.cell? ⟨p.block, p.off + 8, none⟩ = some lb :=
  ⟨h.c0, h.c1, h.c2, h.c3, h.c4, h.c5, h.c6, h.c7, h.c8⟩

def AtAt (w : World) (B : Nat) (p : Addr) (x : At) : Prop :=
  ∃ (ak an : Int) (sa : List UInt8) (al : List Ex) (bk bn : Int) (sb : List UInt8) (bl : List Ex) (Aa : Option Addr) (ca : Nat) (Ab : Option Addr) (cb : Nat), x.a = .mk ak an sa al ∧ x.b = .mk bk bn sb bl ∧
    ACells w p x.k ak an sa (.slice Aa al.length ca) bk bn sb (.slice Ab bl.length cb) ∧ (sa.length ≤ maxLen ∧ al.length ≤ maxLen ∧ sb.length ≤ maxLen ∧ bl.length ≤ maxLen) ∧ ExRow w B al Aa ∧ ExRow w B bl Ab

theorem at_keeps : Keeps AtAt := by
  rintro w w' B B' p x hk hB hp ⟨ak, an, sa, al, bk, bn, sb, bl, Aa, ca, Ab, cb, h1, h2, h3, h4, h5, h6⟩
  exact ⟨ak, an, sa, al, bk, bn, sb, bl, Aa, ca, Ab, cb, h1, h2, h3.keep hk hp, h4, h5.keep hk hB, h6.keep hk hB⟩

def ClAt (w : World) (B : Nat) (p : Addr) (x : Cl) : Prop :=
  ∃ (A : Option Addr) (c : Nat), w.cell? p = some (.int .i64 x.k) ∧ w.cell? (p.add 1) = some (.string ⟨x.nm.toArray⟩) ∧ w.cell? (p.add 2) = some (.slice A x.l.length c) ∧ x.nm.length ≤ maxLen ∧ x.l.length ≤ maxLen ∧ ExRow w B x.l A

theorem cl_keeps : Keeps ClAt := by
  rintro w w' B B' p x hk hB hp ⟨A, c, h0, h1, h2, h3, h4, h5⟩
  exact ⟨A, c, (hk _ hp).trans h0, (hk _ (by rw [block_adds]; exact hp)).trans h1, (hk _ (by rw [block_adds]; exact hp)).trans h2, h3, h4, h5.keep hk hB⟩

abbrev PmRow := RowX PmAt 2
abbrev AtRow := RowX AtAt 9
abbrev ClRow := RowX ClAt 3

def FmAt (w : World) (B : Nat) (p : Addr) (x : Fm) : Prop :=
  ∃ (Ap : Option Addr) (cp : Nat) (Aa : Option Addr) (ca : Nat) (Ac : Option Addr) (cc : Nat), w.cell? p = some (.slice Ap x.ps.length cp) ∧ w.cell? (p.add 1) = some (.slice Aa x.ats.length ca) ∧ w.cell? (p.add 2) = some (.slice Ac x.cls.length cc) ∧
    (x.ps.length ≤ maxLen ∧ x.ats.length ≤ maxLen ∧ x.cls.length ≤ maxLen) ∧ PmRow w B x.ps Ap ∧ AtRow w B x.ats Aa ∧ ClRow w B x.cls Ac

theorem fm_keeps : Keeps FmAt := by
  rintro w w' B B' p x hk hB hp ⟨Ap, cp, Aa, ca, Ac, cc, h0, h1, h2, h3, h4, h5, h6⟩
  exact ⟨Ap, cp, Aa, ca, Ac, cc, (hk _ hp).trans h0, (hk _ (by rw [block_adds]; exact hp)).trans h1, (hk _ (by rw [block_adds]; exact hp)).trans h2, h3, h4.keep pm_keeps hk hB, h5.keep at_keeps hk hB, h6.keep cl_keeps hk hB⟩

abbrev FmRow := RowX FmAt 3

abbrev cellV (k : Int) (nm : ByteArray) (l : Value) : Value := .agg #[.int .i64 k, .string nm, l]
abbrev cellC (k : Int) (nm : ByteArray) (l : Value) : Obj := .cells #[.int .i64 k, .string nm, l] 84
abbrev formulaV (p a c : Value) : Value := .agg #[p, a, c]
abbrev formulaC (p a c : Value) : Obj := .cells #[p, a, c] 38

/-- Whether a parameter, an atom, a cell, and a formula is valid. -/
def vP (var : List UInt8 → Bool) (x : Pm) : Bool := tyB x.t && var x.nm

def vAt (var : List UInt8 → Bool) (nu : Int) (x : At) : Bool := (decide (1 ≤ x.k) && decide (x.k ≤ 4)) && vE var nu 30 x.a && vE var nu 30 x.b

def vCl (var : List UInt8 → Bool) (nu : Int) (x : Cl) : Bool :=
  nameL x.nm && (if x.k = 1 then decide ((2 : Int) ≤ x.l.length) && decide ((x.l.length : Int) ≤ 9) && x.l.all (vE var nu 30) else if x.k = 2 then decide ((1 : Int) ≤ x.l.length) && decide ((x.l.length : Int) ≤ 8) && x.l.all (vE var nu 30) else false)

def vF (var : List UInt8 → Bool) (nu ex : Int) (x : Fm) : Bool :=
  decide ((x.ps.length : Int) ≤ ex) && x.ps.all (vP var) && decide ((x.ps.map (·.nm)).Nodup) && decide ((x.ats.length : Int) ≤ 100) && x.ats.all (vAt var nu) && decide ((x.cls.length : Int) ≤ 100) && x.cls.all (vCl var nu)

end Go.Proofs.YtkjfgbcbeabpgaaGreatDoor
