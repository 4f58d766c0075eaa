/-
  Names of variables, and small functions of the rules.
-/
import Derived.Test.YtkopbfndfkibbaaGreatDoorSLexK
import Derived.Test.YtkopbfndfkibbaaGreatDoorSTreeB
import Derived.Test.YtkopbfndfkibbaaGreatDoorSShelf
import Derived.Shelf.Strings.SlTrimAscii
import Derived.Laws.EntriesVeiled
set_option linter.unusedVariables false
set_option linter.unusedSimpArgs false
namespace Go.Proofs.YtkopbfndfkibbaaGreatDoor
set_option maxRecDepth 100000
set_option maxHeartbeats 2000000
open Go.RowKit
def nameBs : List UInt8:=[97,98,99,100,101,102,103,104,105,106,107,108,109,110,111,112,113,114,115,116,117,118,119,120,121,122,65,66,67,68,69,70,71,72,73,74,75,76,77,78,79,80,81,82,83,84,85,86,87,88,89,90,48,49,50,51,52,53,54,55,56,57,95]
def varB (s : List UInt8) : Bool :=
 if Lib.hasPrefix s [36] then !(Lib.trimPrefix s [36] == []) && decide (s.length ≤ 20) && (Lib.trimS (Lib.trimPrefix s [36]) nameBs == []) else nameL s
theorem trimmed_any (s : List UInt8) (w : World) (hs : s.length ≤ maxLen) :
 Calls Tryz.prog 98 #[.string ⟨s.toArray⟩,.string ⟨#[97,98,99,100,101,102,103,104,105,106,107,108,109,110,111,112,113,114,115,116,117,118,119,120,121,122,65,66,67,68,69,70,71,72,73,74,75,76,77,78,79,80,81,82,83,84,85,86,87,88,89,90,48,49,50,51,52,53,54,55,56,57,95]⟩] w fun e w' => e = .returned (.string ⟨(Lib.trimS s nameBs).toArray⟩) ∧ Below w.heap.size w w':=by
 have h:=Any.strings_Trim_laid Tryz.lays160 (by kernel_rfl) ⟨s.toArray⟩ ⟨#[97,98,99,100,101,102,103,104,105,106,107,108,109,110,111,112,113,114,115,116,117,118,119,120,121,122,65,66,67,68,69,70,71,72,73,74,75,76,77,78,79,80,81,82,83,84,85,86,87,88,89,90,48,49,50,51,52,53,54,55,56,57,95]⟩ w hs (by decide) (ascii_of_all (by decide))
 rw [List.toList_toArray] at h
 exact h
theorem cutp_any (s : List UInt8) (w : World) :
 Calls Tryz.prog 97 #[.string ⟨s.toArray⟩,.string ⟨#[36]⟩] w fun e w' => e = .returned (.tuple #[.string ⟨(Lib.trimPrefix s [36]).toArray⟩,.bool (Lib.hasPrefix s [36])]) ∧ w = w':=by
 have h:=Tryz.strings_CutPrefix ⟨s.toArray⟩ ⟨#[36]⟩ w
 rw [List.toList_toArray] at h
 exact h.mono fun e w' ⟨he,hw⟩ => ⟨he,hw.symm⟩
theorem trimPrefix_len (s p : List UInt8) : (Lib.trimPrefix s p).length ≤ s.length:=by
 unfold Lib.trimPrefix
 split
 ·simp
 ·exact Nat.le_refl _
theorem variable_any (s : List UInt8) (w : World) (hs : s.length ≤ maxLen) :
 Calls Tryz.prog 64 #[.string ⟨s.toArray⟩] w fun e w' => e = .returned (.bool (varB s)) ∧ Below w.heap.size w w':=by
 have HC : Hid (∀ w,Calls Tryz.prog 97 #[.string ⟨s.toArray⟩,.string ⟨#[36]⟩] w fun e w' => e = .returned (.tuple #[.string ⟨(Lib.trimPrefix s [36]).toArray⟩,.bool (Lib.hasPrefix s [36])]) ∧ w = w'):=Lib.hid (cutp_any s)
 have HT : Hid (∀ w,Calls Tryz.prog 98 #[.string ⟨(Lib.trimPrefix s [36]).toArray⟩,.string ⟨#[97,98,99,100,101,102,103,104,105,106,107,108,109,110,111,112,113,114,115,116,117,118,119,120,121,122,65,66,67,68,69,70,71,72,73,74,75,76,77,78,79,80,81,82,83,84,85,86,87,88,89,90,48,49,50,51,52,53,54,55,56,57,95]⟩] w fun e w' => e = .returned (.string ⟨(Lib.trimS (Lib.trimPrefix s [36]) nameBs).toArray⟩) ∧ Below w.heap.size w w'):=Lib.hid (fun w => trimmed_any _ w (Nat.le_trans (trimPrefix_len _ _) hs))
 have HN : Hid (∀ w,Calls Tryz.prog 33 #[.string ⟨s.toArray⟩] w fun e w' => e = .returned (.bool (nameL s)) ∧ Below w.heap.size w w'):=Lib.hid (fun w => name_any s w hs)
 unfold varB
 generalize nameL s = nl at *
 generalize Lib.trimS (Lib.trimPrefix s [36]) nameBs = tr at *
 generalize Lib.trimPrefix s [36] = rest at *
 generalize Lib.hasPrefix s [36] = hp at *
 obtain ⟨r,hr⟩ : ∃ r,r = (!(rest == []) && decide (s.length ≤ 20) && (tr == [])):=⟨_,rfl⟩
 rw [← hr]
 have HR:=Lib.hid hr
 clear hr
 unfold maxLen at hs
 have HB:=Lib.hid (Below.refl w.heap.size w)
 cases hp with
 | false =>
   go_enter Tryz.func64,Tryz.ntmps64
   go_wp2_with (first
    | (go_at_call 97;refine (HC.out _).mono ?_;rintro e w1 ⟨rfl,rfl⟩)
    | (go_at_call 33;refine (HN.out _).mono ?_;rintro e w2 ⟨rfl,hb⟩;have HB2:=Lib.hid hb;clear hb))
   go_ret
   exact ⟨rfl,HB2.out⟩
 | true =>
   cases h1 : (rest == []) with
   | true =>
     go_enter Tryz.func64,Tryz.ntmps64
     go_wp2_with (first
      | (go_at_call 97;refine (HC.out _).mono ?_;rintro e w1 ⟨rfl,rfl⟩))
     go_ret
     exact ⟨by rw [HR.out,h1];rfl,HB.out⟩
   | false =>
     by_cases h2 : s.length ≤ 20
     ·have h3 : (s.length : Int) ≤ 20:=by omega
      have HD:=Lib.hid (decide_eq_true h2)
      go_enter Tryz.func64,Tryz.ntmps64
      go_wp2_with (first
       | (go_at_call 97;refine (HC.out _).mono ?_;rintro e w1 ⟨rfl,rfl⟩)
       | (go_at_call 98;refine (HT.out _).mono ?_;rintro e w2 ⟨rfl,hb⟩;have HB2:=Lib.hid hb;clear hb))
      go_ret
      exact ⟨by rw [HR.out,h1,HD.out];cases tr <;> rfl,HB2.out⟩
     ·have h3 : ¬ (s.length : Int) ≤ 20:=by omega
      have HD:=Lib.hid (decide_eq_false h2)
      go_enter Tryz.func64,Tryz.ntmps64
      go_wp2_with (first
       | (go_at_call 97;refine (HC.out _).mono ?_;rintro e w1 ⟨rfl,rfl⟩))
      go_ret
      exact ⟨by rw [HR.out,h1,HD.out];rfl,HB.out⟩
abbrev rulesV (fv : Nat) (nu ex : Int) : Value:=.agg #[.func (.func fv) #[] #[],.int .i64 nu,.int .i64 ex]
abbrev rulesC (fv : Nat) (nu ex : Int) : Obj:=.cells #[.func (.func fv) #[] #[],.int .i64 nu,.int .i64 ex] 71
theorem proof_rules (w : World) : Calls Tryz.prog 26 #[] w fun e w' => e = .returned (rulesV 64 1125899906842624 100) ∧ w' = w.alloc (rulesC 64 1125899906842624 100):=by
 go_enter Tryz.func26,Tryz.ntmps26
 go_wp2
 refine bodyPost_ret (results_cell_row rfl _ _ w.heap.size 71 #[.func (.func 64) #[] #[],.int .i64 1125899906842624,.int .i64 100] (0,0) _ rfl (heap_of_alloc _ _) Tryz.underlying71 rfl (by kernel_rfl)) rfl ?_
 exact ⟨rfl,rfl⟩
theorem in_range (fv : Nat) (nu ex n : Int) (h0 : 0 ≤ nu) (h1 : nu ≤ 4611686018427387904) (w : World) : Calls Tryz.prog 102 #[rulesV fv nu ex,.int .i64 n] w fun e w' => e = .returned (.bool (decide (-nu ≤ n) && decide (n ≤ nu))) ∧ w' = w.alloc (rulesC fv nu ex):=by
 by_cases h2 : -nu ≤ n
 ·by_cases h3 : n ≤ nu
  ·go_enter Tryz.func102,Tryz.ntmps102
   go_wp2
   go_ret
   exact ⟨by simp [h2,h3],rfl⟩
  ·go_enter Tryz.func102,Tryz.ntmps102
   go_wp2
   go_ret
   exact ⟨by simp [h3],rfl⟩
 ·go_enter Tryz.func102,Tryz.ntmps102
  go_wp2
  go_ret
  exact ⟨by rw [show decide (-nu ≤ n) = false from decide_eq_false (by omega)];rfl,rfl⟩
theorem expr_within (fv : Nat) (nu ex d : Int) (w : World) : Calls Tryz.prog 65 #[rulesV fv nu ex,.int .i64 d] w fun e w' =>
 e = .returned (.func (.func 99) #[] #[.pointer (some ⟨w.heap.size + 1,0,none⟩),.pointer (some ⟨w.heap.size,0,none⟩)]) ∧ w' = (w.alloc (rulesC fv nu ex)).alloc (.cells #[.int .i64 d] 3):=by
 go_enter Tryz.func65,Tryz.ntmps65
 go_wp2
 go_ret
 exact ⟨rfl,rfl⟩
end Go.Proofs.YtkopbfndfkibbaaGreatDoor
