/-
  Formulas: names of types, parameters. Formulas: atoms. Formulas: the reference's atoms. Formulas as trees, and the rows of memory that hold their parts.
-/
import Derived.Test.YtnkpgpmaiicdeaaGreatDoorSTreeK
import Derived.Test.YtnkpgpmaiicdeaaGreatDoorSTreeKc
set_option linter.unusedVariables false
set_option linter.unusedSimpArgs false
namespace Go.Proofs.YtnkpgpmaiicdeaaGreatDoor
set_option maxRecDepth 100000
set_option maxHeartbeats 2000000
open Go.RowKit
def tyB (s : List UInt8) : Bool:=(s == [105,110,116]) || nameL s
theorem type_any (s : List UInt8) (w : World) (hs : s.length ≤ maxLen) : Calls Tryz.prog 105 #[.string ⟨s.toArray⟩] w fun e w' => e = .returned (.bool (tyB s)) ∧ Below w.heap.size w w':=by
 have HN : Hid (∀ w,Calls Tryz.prog 60 #[.string ⟨s.toArray⟩] w fun e w' => e = .returned (.bool (nameL s)) ∧ Below w.heap.size w w'):=Lib.hid (fun w => name_any s w hs)
 have HB:=Lib.hid (Below.refl w.heap.size w)
 unfold tyB
 generalize nameL s = nl at *
 cases h1 : (s == [105,110,116]) with
 | true =>
   go_enter Tryz.func105,Tryz.ntmps105
   go_wp2
   go_ret
   exact ⟨rfl,HB.out⟩
 | false =>
   go_enter Tryz.func105,Tryz.ntmps105
   go_wp2_with (go_at_call 60;refine (HN.out _).mono ?_;rintro e w2 ⟨rfl,hb⟩)
   go_ret
   exact ⟨rfl,hb⟩
abbrev paramV (t nm : ByteArray) : Value:=.agg #[.string t,.string nm]
abbrev paramC (t nm : ByteArray) : Obj:=.cells #[.string t,.string nm] 44
theorem param_any (fv : Nat) (var : List UInt8 → Bool) (hv : VarOk fv var) (nu ex : Int) (t nm : List UInt8) (w : World) (ht : t.length ≤ maxLen) (hn : nm.length ≤ maxLen) :
 Calls Tryz.prog 64 #[rulesV fv nu ex,paramV ⟨t.toArray⟩ ⟨nm.toArray⟩] w fun e w' => e = .returned (.bool (tyB t && var nm)) ∧ Below w.heap.size w w':=by
 have HT : Hid (∀ w,Calls Tryz.prog 105 #[.string ⟨t.toArray⟩] w fun e w' => e = .returned (.bool (tyB t)) ∧ Below w.heap.size w w'):=Lib.hid (fun w => type_any t w ht)
 have HV : Hid (∀ w,Calls Tryz.prog fv #[.string ⟨nm.toArray⟩] w fun e w' => e = .returned (.bool (var nm)) ∧ Below w.heap.size w w'):=Lib.hid (fun w => hv.says nm w hn)
 have hfv:=hv.enters
 obtain ⟨W1,hW1⟩ : ∃ W1,W1 = (w.alloc (rulesC fv nu ex)).alloc (paramC ⟨t.toArray⟩ ⟨nm.toArray⟩):=⟨_,rfl⟩
 have HB : Hid (Below w.heap.size w W1):=Lib.hid (by rw [hW1];exact (below_alloc w _).chain (below_alloc _ _))
 have q1:=heap_keep (o:=paramC ⟨t.toArray⟩ ⟨nm.toArray⟩) (heap_of_alloc w (rulesC fv nu ex))
 have q2:=heap_of_alloc (w.alloc (rulesC fv nu ex)) (paramC ⟨t.toArray⟩ ⟨nm.toArray⟩)
 rw [size_of_alloc] at q2
 rw [← hW1] at q1 q2
 have HQ:=Lib.hid (And.intro q1 q2)
 generalize tyB t = ty at *
 generalize var nm = vn at *
 clear q1 q2 hv ht hn
 cases ty with
 | false =>
   go_enter Tryz.func64,Tryz.ntmps64
   go_wp2_with (go_at_call 105;rw [← hW1];refine (HT.out _).mono ?_;rintro e w2 ⟨rfl,hb⟩)
   go_ret
   exact ⟨rfl,HB.out.chain hb⟩
 | true =>
   go_enter Tryz.func64,Tryz.ntmps64
   go_wp2_with (first
    | (go_at_call 105;rw [← hW1];refine (HT.out _).mono ?_;rintro e w2 ⟨rfl,hb⟩;have HB2:=Lib.hid (HB.out.chain hb);have g1:=cell_of_block (kept_box hb HQ.out.1) 0 (v:=.func (.func fv) #[] #[]) rfl;have g2:=cell_of_block (kept_box hb HQ.out.2) 1 (v:=.string ⟨nm.toArray⟩) rfl;clear hb)
    | (with_reducible refine (HV.out _).mono ?_;rintro e w3 ⟨rfl,hb3⟩;have HB3:=Lib.hid (HB2.out.chain hb3);clear hb3))
   go_ret
   exact ⟨rfl,HB3.out⟩
end Go.Proofs.YtnkpgpmaiicdeaaGreatDoor
namespace Go.Proofs.YtnkpgpmaiicdeaaGreatDoor
set_option maxRecDepth 100000
set_option maxHeartbeats 2000000
open Go.RowKit
abbrev atomV (k ak an : Int) (sa : ByteArray) (la : Value) (bk bn : Int) (sb : ByteArray) (lb : Value) : Value:=.agg #[.int .i64 k,.int .i64 ak,.int .i64 an,.string sa,la,.int .i64 bk,.int .i64 bn,.string sb,lb]
abbrev atomC (k ak an : Int) (sa : ByteArray) (la : Value) (bk bn : Int) (sb : ByteArray) (lb : Value) : Obj:=.cells #[.int .i64 k,.int .i64 ak,.int .i64 an,.string sa,la,.int .i64 bk,.int .i64 bn,.string sb,lb] 102
theorem box9 {W : World} {be : Nat} {k ak an : Int} {sa : ByteArray} {la : Value} {bk bn : Int} {sb : ByteArray} {lb : Value} (h : W.heap[be]? = some (atomC k ak an sa la bk bn sb lb)) :
 W.cell? ⟨be,1,none⟩ = some (.int .i64 ak) ∧ W.cell? ⟨be,2,none⟩ = some (.int .i64 an) ∧ W.cell? ⟨be,3,none⟩ = some (.string sa) ∧ W.cell? ⟨be,4,none⟩ = some la ∧ W.cell? ⟨be,5,none⟩ = some (.int .i64 bk) ∧ W.cell? ⟨be,6,none⟩ = some (.int .i64 bn) ∧ W.cell? ⟨be,7,none⟩ = some (.string sb) ∧ W.cell? ⟨be,8,none⟩ = some lb :=
 ⟨cell_of_block h 1 rfl,cell_of_block h 2 rfl,cell_of_block h 3 rfl,cell_of_block h 4 rfl,cell_of_block h 5 rfl,cell_of_block h 6 rfl,cell_of_block h 7 rfl,cell_of_block h 8 rfl⟩
theorem box3 {W : World} {be fv : Nat} {nu ex : Int} (h : W.heap[be]? = some (rulesC fv nu ex)) :
 W.cell? ⟨be,0,none⟩ = some (.func (.func fv) #[] #[]) ∧ W.cell? ⟨be,1,none⟩ = some (.int .i64 nu) ∧ W.cell? ⟨be,2,none⟩ = some (.int .i64 ex) :=
 ⟨cell_of_block h 0 rfl,cell_of_block h 1 rfl,cell_of_block h 2 rfl⟩
theorem atom_any (fv : Nat) (var : List UInt8 → Bool) (hv : VarOk fv var) (nu ex : Int) (h0 : 0 ≤ nu) (h1 : nu ≤ 4611686018427387904) (k ak an : Int) (sa : List UInt8) (al : List Ex) (bk bn : Int) (sb : List UInt8) (bl : List Ex) (Aa : Option Addr) (ca : Nat) (Ab : Option Addr) (cb : Nat) (w : World)
 (ra : ExRow w w.heap.size al Aa) (rb : ExRow w w.heap.size bl Ab) (b1 : sa.length ≤ maxLen) (b2 : al.length ≤ maxLen) (b3 : sb.length ≤ maxLen) (b4 : bl.length ≤ maxLen) :
 Calls Tryz.prog 77 #[rulesV fv nu ex,atomV k ak an ⟨sa.toArray⟩ (.slice Aa al.length ca) bk bn ⟨sb.toArray⟩ (.slice Ab bl.length cb)] w fun e w' => e = .returned (.bool ((decide (1 ≤ k) && decide (k ≤ 4)) && vE var nu 30 (.mk ak an sa al) && vE var nu 30 (.mk bk bn sb bl))) ∧ Below w.heap.size w w':=by
 have HCM : Hid (∀ w,Calls Tryz.prog 115 #[.int .i64 k] w fun e w' => e = .returned (.bool (decide (1 ≤ k) && decide (k ≤ 4))) ∧ w = w'):=Lib.hid (comparison_any k)
 have HA : Hid (∀ W3,Below w.heap.size w W3 → Calls Tryz.prog 36 #[rulesV fv nu ex,exprV ak an ⟨sa.toArray⟩ (.slice Aa al.length ca)] W3 fun e w' => e = .returned (.bool (vE var nu 30 (.mk ak an sa al))) ∧ Below W3.heap.size W3 w'):=Lib.hid (fun W3 hb => rexpr_any fv var hv nu ex h0 h1 ak an sa al Aa ca W3 ((ra.stay hb (Nat.le_refl _)).more hb.size) b1 b2)
 have HE : Hid (∀ W3,Below w.heap.size w W3 → Calls Tryz.prog 36 #[rulesV fv nu ex,exprV bk bn ⟨sb.toArray⟩ (.slice Ab bl.length cb)] W3 fun e w' => e = .returned (.bool (vE var nu 30 (.mk bk bn sb bl))) ∧ Below W3.heap.size W3 w'):=Lib.hid (fun W3 hb => rexpr_any fv var hv nu ex h0 h1 bk bn sb bl Ab cb W3 ((rb.stay hb (Nat.le_refl _)).more hb.size) b3 b4)
 obtain ⟨W1,hW1⟩ : ∃ W1,W1 = (w.alloc (rulesC fv nu ex)).alloc (atomC k ak an ⟨sa.toArray⟩ (.slice Aa al.length ca) bk bn ⟨sb.toArray⟩ (.slice Ab bl.length cb)):=⟨_,rfl⟩
 have HB : Hid (Below w.heap.size w W1):=Lib.hid (by rw [hW1];exact (below_alloc w _).chain (below_alloc _ _))
 have q1:=heap_keep (o:=atomC k ak an ⟨sa.toArray⟩ (.slice Aa al.length ca) bk bn ⟨sb.toArray⟩ (.slice Ab bl.length cb)) (heap_of_alloc w (rulesC fv nu ex))
 have q2:=heap_of_alloc (w.alloc (rulesC fv nu ex)) (atomC k ak an ⟨sa.toArray⟩ (.slice Aa al.length ca) bk bn ⟨sb.toArray⟩ (.slice Ab bl.length cb))
 rw [size_of_alloc] at q2
 rw [← hW1] at q1 q2
 have HQ:=Lib.hid (And.intro q1 q2)
 generalize (decide (1 ≤ k) && decide (k ≤ 4)) = cm at *
 generalize vE var nu 30 (.mk ak an sa al) = ea at *
 generalize vE var nu 30 (.mk bk bn sb bl) = eb at *
 unfold maxLen at b1 b2 b3 b4
 clear q1 q2 hv ra rb
 cases cm with
 | false =>
   go_enter Tryz.func77,Tryz.ntmps77
   go_wp2_with (go_at_call 115;rw [← hW1];clear hW1;refine (HCM.out _).mono ?_;rintro e w2 ⟨rfl,rfl⟩)
   go_ret
   exact ⟨rfl,HB.out⟩
 | true =>
   cases ea with
   | false =>
     go_enter Tryz.func77,Tryz.ntmps77
     go_wp2_with (first
      | (go_at_call 115;rw [← hW1];clear hW1;refine (HCM.out _).mono ?_;rintro e w2 ⟨rfl,rfl⟩;obtain ⟨g0,g1,g2⟩:=box3 HQ.out.1;obtain ⟨y1,y2,y3,y4,y5,y6,y7,y8⟩:=box9 HQ.out.2)
      | (go_at_call 36;refine (HA.out _ HB.out).mono ?_;rintro e w3 ⟨rfl,hb3⟩;have HB3:=Lib.hid (HB.out.chain hb3);clear hb3))
     go_ret
     exact ⟨rfl,HB3.out⟩
   | true =>
     go_enter Tryz.func77,Tryz.ntmps77
     go_wp2_with (first
      | (go_at_call 115;rw [← hW1];clear hW1;refine (HCM.out _).mono ?_;rintro e w2 ⟨rfl,rfl⟩;obtain ⟨g0,g1,g2⟩:=box3 HQ.out.1;obtain ⟨y1,y2,y3,y4,y5,y6,y7,y8⟩:=box9 HQ.out.2)
      | (go_at_call 36;refine (HA.out _ HB.out).mono ?_;rintro e w3 ⟨rfl,hb3⟩;have HB3:=Lib.hid (HB.out.chain hb3);obtain ⟨p0,p1,p2⟩:=box3 (kept_box hb3 HQ.out.1);obtain ⟨z1,z2,z3,z4,z5,z6,z7,z8⟩:=box9 (kept_box hb3 HQ.out.2);clear hb3)
      | (go_at_call 36;refine (HE.out _ HB3.out).mono ?_;rintro e w4 ⟨rfl,hb4⟩;have HB4:=Lib.hid (HB3.out.chain hb4);clear hb4))
     go_ret
     exact ⟨rfl,HB4.out⟩
end Go.Proofs.YtnkpgpmaiicdeaaGreatDoor
namespace Go.Proofs.YtnkpgpmaiicdeaaGreatDoor
set_option maxRecDepth 100000
set_option maxHeartbeats 2000000
open Go.RowKit
end Go.Proofs.YtnkpgpmaiicdeaaGreatDoor
namespace Go.Proofs.YtnkpgpmaiicdeaaGreatDoor
set_option maxRecDepth 100000
set_option maxHeartbeats 2000000
open Go.RowKit
def vP (var : List UInt8 → Bool) (x : Pm) : Bool:=tyB x.t && var x.nm
def vAt (var : List UInt8 → Bool) (nu : Int) (x : At) : Bool:=(decide (1 ≤ x.k) && decide (x.k ≤ 4)) && vE var nu 30 x.a && vE var nu 30 x.b
def vCl (var : List UInt8 → Bool) (nu : Int) (x : Cl) : Bool :=
 nameL x.nm && (if x.k = 1 then decide ((2 : Int) ≤ x.l.length) && decide ((x.l.length : Int) ≤ 9) && x.l.all (vE var nu 30) else if x.k = 2 then decide ((1 : Int) ≤ x.l.length) && decide ((x.l.length : Int) ≤ 8) && x.l.all (vE var nu 30) else false)
def vF (var : List UInt8 → Bool) (nu ex : Int) (x : Fm) : Bool :=
 decide ((x.ps.length : Int) ≤ ex) && x.ps.all (vP var) && decide ((x.ps.map (·.nm)).Nodup) && decide ((x.ats.length : Int) ≤ 100) && x.ats.all (vAt var nu) && decide ((x.cls.length : Int) ≤ 100) && x.cls.all (vCl var nu)
end Go.Proofs.YtnkpgpmaiicdeaaGreatDoor
