import Derived.Test.YtojjfdegkooknaaGreatDoorQLexK
import Derived.Test.YtojjfdegkooknaaGreatDoorQTreeB
import Derived.Test.YtojjfdegkooknaaGreatDoorQShelf
import Derived.Shelf.Strings.SlTrimAscii
import Derived.Laws.EntriesVeiled
import Derived.Deep.RegionHeld3
import Derived.BigGuard
set_option linter.unusedVariables false
set_option linter.unusedSimpArgs false
namespace Go.Proofs.YtojjfdegkooknaaGreatDoor
set_option maxRecDepth 100000
set_option maxHeartbeats 1000000
open Go.RowKit
abbrev rulesV (fv : Nat) (nu ex : Int) : Value:=.agg #[.func (.func fv) #[] #[],.int .i64 nu,.int .i64 ex]
abbrev rulesC (fv : Nat) (nu ex : Int) : Obj:=.cells #[.func (.func fv) #[] #[],.int .i64 nu,.int .i64 ex] 142
theorem in_range (fv : Nat) (nu ex n : Int) (h0 : 0 ≤ nu) (h1 : nu ≤ 4611686018427387904) (w : World) : Calls Tryz.prog 205 #[rulesV fv nu ex,.int .i64 n] w fun e w' => e = .returned (.bool (decide (-nu ≤ n) && decide (n ≤ nu))) ∧ w' = w.alloc (rulesC fv nu ex):=by
 by_cases h2 : -nu ≤ n
 ·by_cases h3 : n ≤ nu
  ·go_enter Tryz.func205,Tryz.ntmps205
   go_wp2
   go_ret
   exact ⟨by simp [h2,h3],rfl⟩
  ·go_enter Tryz.func205,Tryz.ntmps205
   go_wp2
   go_ret
   exact ⟨by simp [h3],rfl⟩
 ·go_enter Tryz.func205,Tryz.ntmps205
  go_wp2
  go_ret
  exact ⟨by rw [show decide (-nu ≤ n) = false from decide_eq_false (by omega)];rfl,rfl⟩
theorem expr_within (fv : Nat) (nu ex d : Int) (w : World) : Calls Tryz.prog 177 #[rulesV fv nu ex,.int .i64 d] w fun e w' =>
 e = .returned (.func (.func 203) #[] #[.pointer (some ⟨w.heap.size + 1,0,none⟩),.pointer (some ⟨w.heap.size,0,none⟩)]) ∧ w' = (w.alloc (rulesC fv nu ex)).alloc (.cells #[.int .i64 d] 3):=by
 go_enter Tryz.func177,Tryz.ntmps177
 go_wp2
 go_ret
 exact ⟨rfl,rfl⟩
end Go.Proofs.YtojjfdegkooknaaGreatDoor
namespace Go.Proofs.YtojjfdegkooknaaGreatDoor
set_option maxRecDepth 100000
set_option maxHeartbeats 20000000
open Go.RowKit
def opsB (m : Int) (l : List Ex) (f : Ex → Bool) : Bool:=decide (m ≤ (l.length : Int)) && decide ((l.length : Int) ≤ m) && l.all f
def inR (nu n : Int) : Bool:=decide (-nu ≤ n) && decide (n ≤ nu)
def vE (var : List UInt8 → Bool) (nu : Int) : Nat → Ex → Bool
 | 0,_ => false
 | d + 1,.mk k n s l =>
   if k = 1 then inR nu n && s.isEmpty && opsB 0 l (vE var nu d)
   else if k = 2 then (n == 0) && var s && opsB 0 l (vE var nu d)
   else if k = 3 then (n == 0) && s.isEmpty && opsB 0 l (vE var nu d)
   else if k = 4 ∨ k = 5 then (n == 0) && s.isEmpty && opsB 2 l (vE var nu d)
   else if k = 6 then inR nu n && s.isEmpty && opsB 1 l (vE var nu d)
   else false
structure RulesAt (W : World) (br fv : Nat) (nu ex : Int) : Prop where
 lt : br < W.heap.size
 c0 : W.cell? ⟨br,0,none⟩ = some (.func (.func fv) #[] #[])
 c1 : W.cell? ⟨br,1,none⟩ = some (.int .i64 nu)
 c2 : W.cell? ⟨br,2,none⟩ = some (.int .i64 ex)
theorem RulesAt.stay {W W' : World} {B br fv : Nat} {nu ex : Int} (h : RulesAt W br fv nu ex) (hb : Below B W W') (hB : br < B) : RulesAt W' br fv nu ex :=
 ⟨Nat.lt_of_lt_of_le h.lt hb.size,(hb.cell (p:=⟨br,0,none⟩) hB).trans h.c0,(hb.cell (p:=⟨br,1,none⟩) hB).trans h.c1,(hb.cell (p:=⟨br,2,none⟩) hB).trans h.c2⟩
theorem RulesAt.drewn {W : World} {br fv : Nat} {nu ex : Int} (h : RulesAt W br fv nu ex) : RulesAt W.drew br fv nu ex:=⟨h.lt,h.c0,h.c1,h.c2⟩
theorem rulesAt_new (W : World) (fv : Nat) (nu ex d : Int) : RulesAt ((W.alloc (rulesC fv nu ex)).alloc (.cells #[.int .i64 d] 3)) W.heap.size fv nu ex:=by
 have h:=heap_keep (o:=.cells #[.int .i64 d] 3) (heap_of_alloc W (rulesC fv nu ex))
 exact ⟨(Array.getElem?_eq_some_iff.1 h).1,cell_of_block h 0 rfl,cell_of_block h 1 rfl,cell_of_block h 2 rfl⟩
theorem depth_new (W : World) (o : Obj) (d : Int) : ((W.alloc o).alloc (.cells #[.int .i64 d] 3)).cell? ⟨W.heap.size + 1,0,none⟩ = some (.int .i64 d):=by
 have h:=heap_of_alloc (W.alloc o) (.cells #[.int .i64 d] 3)
 rw [size_of_alloc] at h
 exact cell_of_block h 0 rfl
def EwOk (fv : Nat) (nu ex : Int) (d : Nat) (f : Ex → Bool) : Prop :=
 ∀ (k n : Int) (s : List UInt8) (l : List Ex) (A : Option Addr) (c br bd : Nat) (W : World),RulesAt W br fv nu ex → bd < W.heap.size → W.cell? ⟨bd,0,none⟩ = some (.int .i64 d) → ExRow W W.heap.size l A → s.length ≤ maxLen → l.length ≤ maxLen →
  Calls Tryz.prog 203 #[exprV k n ⟨s.toArray⟩ (.slice A l.length c),.pointer (some ⟨bd,0,none⟩),.pointer (some ⟨br,0,none⟩)] W fun e w' => e = .returned (.bool (f (.mk k n s l))) ∧ Below W.heap.size W w'
theorem enters157 : ∀ args w,(callFunc 203 args).run Tryz.prog w = .ok (.enter 203 args) w:=enters_of Tryz.func203 (by kernel_rfl) rfl
theorem operands_any (fv : Nat) (nu ex : Int) (d : Nat) (hd : d ≤ 1000) (f : Ex → Bool) (IH : EwOk fv nu ex d f) (m : Int) (l : List Ex) (A : Option Addr) (c be br bd : Nat) (w : World) (hbe : be < w.heap.size) (h3 : w.cell? ⟨be,3,none⟩ = some (.slice A l.length c))
 (hR : RulesAt w br fv nu ex) (hbd : bd < w.heap.size) (hD : w.cell? ⟨bd,0,none⟩ = some (.int .i64 (d + 1))) (hr : ExRow w w.heap.size l A) (hl : l.length ≤ maxLen) :
 Calls Tryz.prog 204 #[.int .i64 m,.pointer (some ⟨be,0,none⟩),.pointer (some ⟨br,0,none⟩),.pointer (some ⟨bd,0,none⟩)] w fun e w' => e = .returned (.bool (opsB m l f)) ∧ Below w.heap.size w w':=by
 have hwr : IntKind.i64.wrap (d : Int) = d:=by rw [IntKind.wrap_i64];omega
 have HV : Hid (Calls Tryz.prog 142 #[.slice A l.length c,.int .i64 m,.int .i64 m,.func (.func 203) #[] #[.pointer (some ⟨w.heap.size + 1,0,none⟩),.pointer (some ⟨w.heap.size,0,none⟩)]] ((w.alloc (rulesC fv nu ex)).alloc (.cells #[.int .i64 d] 3)).drew fun e w' =>
  e = .returned (.bool (opsB m l f)) ∧ Below w.heap.size w w'):=Lib.hid (by
  have hb2 : Below w.heap.size w ((w.alloc (rulesC fv nu ex)).alloc (.cells #[.int .i64 d] 3)).drew:=((below_alloc w _).chain (below_alloc _ _)).drew
  have hz : ((w.alloc (rulesC fv nu ex)).alloc (.cells #[.int .i64 d] 3)).drew.heap.size = w.heap.size + 2:=(size_of_alloc _ _).trans (congrArg (· + 1) (size_of_alloc _ _))
  refine (vl_expr f 203 #[] #[.pointer (some ⟨w.heap.size + 1,0,none⟩),.pointer (some ⟨w.heap.size,0,none⟩)] enters157 l A c m m _ hl ((hr.stay hb2 (Nat.le_refl _)).more hb2.size) ?_).mono fun e w' ⟨he,hb⟩ => ⟨he,hb2.chain hb⟩
  intro k n s l' A' c' W3 hm hb3 hr3 hs hl'
  exact IH k n s l' A' c' w.heap.size (w.heap.size + 1) W3 ((rulesAt_new w fv nu ex d).drewn.stay hb3 (by omega)) (by have := hb3.size;omega) ((hb3.cell (p:=⟨w.heap.size + 1,0,none⟩) (by show w.heap.size + 1 < _;omega)).trans (depth_new w _ d)) (hr3.more hb3.size) hs hl')
 obtain ⟨r1,r2,r3,r4⟩:=hR
 have HW:=Lib.hid (And.intro hbe (And.intro r1 hbd))
 have HX : Hid (∀ fv nu ex dd W,Calls Tryz.prog 177 #[rulesV fv nu ex,.int .i64 dd] W fun e w' =>
  e = .returned (.func (.func 203) #[] #[.pointer (some ⟨W.heap.size + 1,0,none⟩),.pointer (some ⟨W.heap.size,0,none⟩)]) ∧ w' = (W.alloc (rulesC fv nu ex)).alloc (.cells #[.int .i64 dd] 3)):=Lib.hid expr_within
 generalize opsB m l f = res at *
 unfold maxLen at hl
 clear IH hr hbe r1 hbd
 have e1 : ((d : Int) + 1 - 1) = d:=by omega
 go_enter Tryz.func204,Tryz.ntmps204
 go_wp2
 go_region_held3 (fun W => W.cell? ⟨be,3,none⟩ = some (.slice A l.length c) ∧ W.cell? ⟨br,0,none⟩ = some (.func (.func fv) #[] #[]) ∧ W.cell? ⟨br,1,none⟩ = some (.int .i64 nu) ∧ W.cell? ⟨br,2,none⟩ = some (.int .i64 ex) ∧ W.cell? ⟨bd,0,none⟩ = some (.int .i64 (d + 1)))
  (first | go_keep | (trace_state;fail))
  (first
    | (go_at_call 177;refine (HX.out _ _ _ _ _).mono ?_;rintro e w2 ⟨rfl,rfl⟩)
    | (go_at_call 142;refine HV.out.mono ?_;rintro e w3 ⟨rfl,hb3⟩;have HB3:=Lib.hid hb3;have k1:=(HB3.out.cell (p:=⟨be,3,none⟩) HW.out.1).trans h3;have k2:=(HB3.out.cell (p:=⟨br,0,none⟩) HW.out.2.1).trans r2;have k3:=(HB3.out.cell (p:=⟨br,1,none⟩) HW.out.2.1).trans r3;have k4:=(HB3.out.cell (p:=⟨br,2,none⟩) HW.out.2.1).trans r4;have k5:=(HB3.out.cell (p:=⟨bd,0,none⟩) HW.out.2.2).trans hD;clear hb3))
 all_goals go_wp2
 all_goals go_ret
 all_goals exact ⟨rfl,HB3.out⟩
theorem blw1 (W : World) (o o' : Obj) : Below (W.heap.size + 1) (W.alloc o) ((W.alloc o).alloc o'):=by
 have := below_alloc (W.alloc o) o'
 rwa [size_of_alloc] at this
theorem ew_any (fv : Nat) (hfv : ∀ args w,(callFunc fv args).run Tryz.prog w = .ok (.enter fv args) w) (var : List UInt8 → Bool) (HV : ∀ s w,s.length ≤ maxLen → Calls Tryz.prog fv #[.string ⟨s.toArray⟩] w fun e w' => e = .returned (.bool (var s)) ∧ Below w.heap.size w w')
 (nu ex : Int) (h0 : 0 ≤ nu) (h1 : nu ≤ 4611686018427387904) : ∀ d : Nat,d ≤ 1000 → EwOk fv nu ex d (vE var nu d):=by
 intro d
 induction d with
 | zero =>
   intro _ k n s l A c br bd W hR hbd hD hr hs hl
   have HB:=Lib.hid (below_alloc W (.cells #[.int .i64 k,.int .i64 n,.string ⟨s.toArray⟩,.slice A l.length c] 84))
   go_enter Tryz.func203,Tryz.ntmps203
   go_wp2
   go_ret
   exact ⟨rfl,HB.out⟩
 | succ d ih =>
   intro hd k n s l A c br bd W hR hbd hD hr hs hl
   have HB:=Lib.hid (below_alloc W (.cells #[.int .i64 k,.int .i64 n,.string ⟨s.toArray⟩,.slice A l.length c] 84))
   have HX:=Lib.hid (heap_of_alloc W (.cells #[.int .i64 k,.int .i64 n,.string ⟨s.toArray⟩,.slice A l.length c] 84))
   have hz:=size_of_alloc W (.cells #[.int .i64 k,.int .i64 n,.string ⟨s.toArray⟩,.slice A l.length c] 84)
   have HO : Hid (∀ m W3,Below (W.heap.size + 1) (W.alloc (.cells #[.int .i64 k,.int .i64 n,.string ⟨s.toArray⟩,.slice A l.length c] 84)) W3 → Calls Tryz.prog 204 #[.int .i64 m,.pointer (some ⟨W.heap.size,0,none⟩),.pointer (some ⟨br,0,none⟩),.pointer (some ⟨bd,0,none⟩)] W3 fun e w' => e = .returned (.bool (opsB m l (vE var nu d))) ∧ Below W.heap.size W w'):=Lib.hid (fun m W3 hb3 => by
    have hbW : Below W.heap.size W W3:=HB.out.trans (hb3.mono (Nat.le_succ _))
    have hz3:=hb3.size
    exact (operands_any fv nu ex d (by omega) (vE var nu d) (ih (by omega)) m l A c W.heap.size br bd W3 (by omega) (cell_of_block ((hb3.block W.heap.size (Nat.lt_succ_self _)).trans HX.out) 3 rfl) (hR.stay hbW hR.lt) (Nat.lt_of_lt_of_le hbd hbW.size)
     ((hbW.cell (p:=⟨bd,0,none⟩) hbd).trans hD) ((hr.stay hbW (Nat.le_refl _)).more hbW.size) hl).mono fun e w' ⟨he,hb⟩ => ⟨he,hbW.chain hb⟩)
   have HVV : Hid (∀ W,Calls Tryz.prog fv #[.string ⟨s.toArray⟩] W fun e w' => e = .returned (.bool (var s)) ∧ Below W.heap.size W w'):=Lib.hid (fun W => HV s W hs)
   have HI : Hid (∀ W,Calls Tryz.prog 205 #[rulesV fv nu ex,.int .i64 n] W fun e w' => e = .returned (.bool (inR nu n)) ∧ w' = W.alloc (rulesC fv nu ex)):=Lib.hid (fun W => in_range fv nu ex n h0 h1 W)
   have HRR:=Lib.hid hR
   obtain ⟨r1,r2,r3,r4⟩:=hR
   have hD' : W.cell? ⟨bd,0,none⟩ = some (.int .i64 (d + 1)):=by simpa using hD
   have hne : ¬ ((d : Int) + 1 = 0):=by omega
   unfold vE
   generalize vE var nu d = vd at *
   generalize inR nu n = ir at *
   clear ih HV hr hD
   unfold maxLen at hs hl
   by_cases k1 : k = 1
   ·subst k1
    rw [if_pos rfl]
    cases ir with
    | false =>
      go_enter Tryz.func203,Tryz.ntmps203
      go_wp2_with (first
       | (go_at_call 205;refine (HI.out _).mono ?_;rintro e w2 ⟨rfl,rfl⟩)
       | (go_at_call 204;refine (HO.out _ _ (by first | exact Below.refl _ _ | exact blw1 _ _ _ | exact HB2.out.2)).mono ?_;rintro e w3 ⟨rfl,hb3⟩;have HB3:=Lib.hid hb3;clear hb3))
      go_ret
      exact ⟨rfl,HB.out.chain (below_alloc _ _)⟩
    | true =>
      rcases s with _ | ⟨x,s⟩
      ·
        go_enter Tryz.func203,Tryz.ntmps203
        go_wp2_with (first
         | (go_at_call 205;refine (HI.out _).mono ?_;rintro e w2 ⟨rfl,rfl⟩)
         | (go_at_call 204;refine (HO.out _ _ (by first | exact Below.refl _ _ | exact blw1 _ _ _ | exact HB2.out.2)).mono ?_;rintro e w3 ⟨rfl,hb3⟩;have HB3:=Lib.hid hb3;clear hb3))
        go_ret
        exact ⟨rfl,HB3.out⟩
      ·
        go_enter Tryz.func203,Tryz.ntmps203
        go_wp2_with (first
         | (go_at_call 205;refine (HI.out _).mono ?_;rintro e w2 ⟨rfl,rfl⟩)
         | (go_at_call 204;refine (HO.out _ _ (by first | exact Below.refl _ _ | exact blw1 _ _ _ | exact HB2.out.2)).mono ?_;rintro e w3 ⟨rfl,hb3⟩;have HB3:=Lib.hid hb3;clear hb3))
        go_ret
        exact ⟨rfl,HB.out.chain (below_alloc _ _)⟩
   rw [if_neg k1]
   by_cases k2 : k = 2
   ·subst k2
    rw [if_pos rfl]
    by_cases hn : n = 0
    ·subst hn
     cases hvs : var s with
     | false =>
       rw [hvs] at HVV
       have HVS:=Lib.hid hvs
       clear hvs
       go_enter Tryz.func203,Tryz.ntmps203
       go_wp2_with (first
        | (go_at_call 205;refine (HI.out _).mono ?_;rintro e w2 ⟨rfl,rfl⟩)
        | (go_at_call 204;refine (HO.out _ _ (by first | exact Below.refl _ _ | exact blw1 _ _ _ | exact HB2.out.2)).mono ?_;rintro e w3 ⟨rfl,hb3⟩;have HB3:=Lib.hid hb3;clear hb3)
        | (refine (HVV.out _).mono ?_;rintro e w2 ⟨rfl,hb2⟩;have HB2:=Lib.hid (And.intro (HB.out.chain hb2) (by rw [size_of_alloc] at hb2;exact hb2));clear hb2))
       go_ret
       exact ⟨rfl,HB2.out.1⟩
     | true =>
       rw [hvs] at HVV
       have HVS:=Lib.hid hvs
       clear hvs
       go_enter Tryz.func203,Tryz.ntmps203
       go_wp2_with (first
        | (go_at_call 205;refine (HI.out _).mono ?_;rintro e w2 ⟨rfl,rfl⟩)
        | (go_at_call 204;refine (HO.out _ _ (by first | exact Below.refl _ _ | exact blw1 _ _ _ | exact HB2.out.2)).mono ?_;rintro e w3 ⟨rfl,hb3⟩;have HB3:=Lib.hid hb3;clear hb3)
        | (refine (HVV.out _).mono ?_;rintro e w2 ⟨rfl,hb2⟩;have HB2:=Lib.hid (And.intro (HB.out.chain hb2) (by rw [size_of_alloc] at hb2;exact hb2));clear hb2))
       go_ret
       exact ⟨rfl,HB3.out⟩
    ·have hnb : (n == 0) = false:=by simpa using hn
     rw [hnb]
     clear hnb
     go_enter Tryz.func203,Tryz.ntmps203
     go_wp2_with (first
      | (go_at_call 205;refine (HI.out _).mono ?_;rintro e w2 ⟨rfl,rfl⟩)
      | (go_at_call 204;refine (HO.out _ _ (by first | exact Below.refl _ _ | exact blw1 _ _ _ | exact HB2.out.2)).mono ?_;rintro e w3 ⟨rfl,hb3⟩;have HB3:=Lib.hid hb3;clear hb3))
     go_ret
     exact ⟨rfl,HB.out⟩
   rw [if_neg k2]
   by_cases k3 : k = 3
   ·subst k3
    rw [if_pos rfl]
    by_cases hn : n = 0
    ·subst hn
     rcases s with _ | ⟨x,s⟩
     ·
       go_enter Tryz.func203,Tryz.ntmps203
       go_wp2_with (first
        | (go_at_call 205;refine (HI.out _).mono ?_;rintro e w2 ⟨rfl,rfl⟩)
        | (go_at_call 204;refine (HO.out _ _ (by first | exact Below.refl _ _ | exact blw1 _ _ _ | exact HB2.out.2)).mono ?_;rintro e w3 ⟨rfl,hb3⟩;have HB3:=Lib.hid hb3;clear hb3))
       go_ret
       exact ⟨rfl,HB3.out⟩
     ·
       go_enter Tryz.func203,Tryz.ntmps203
       go_wp2_with (first
        | (go_at_call 205;refine (HI.out _).mono ?_;rintro e w2 ⟨rfl,rfl⟩)
        | (go_at_call 204;refine (HO.out _ _ (by first | exact Below.refl _ _ | exact blw1 _ _ _ | exact HB2.out.2)).mono ?_;rintro e w3 ⟨rfl,hb3⟩;have HB3:=Lib.hid hb3;clear hb3))
       go_ret
       exact ⟨rfl,HB.out⟩
    ·have hnb : (n == 0) = false:=by simpa using hn
     rw [hnb]
     clear hnb
     go_enter Tryz.func203,Tryz.ntmps203
     go_wp2_with (first
      | (go_at_call 205;refine (HI.out _).mono ?_;rintro e w2 ⟨rfl,rfl⟩)
      | (go_at_call 204;refine (HO.out _ _ (by first | exact Below.refl _ _ | exact blw1 _ _ _ | exact HB2.out.2)).mono ?_;rintro e w3 ⟨rfl,hb3⟩;have HB3:=Lib.hid hb3;clear hb3))
     go_ret
     exact ⟨rfl,HB.out⟩
   rw [if_neg k3]
   by_cases k4 : k = 4
   ·subst k4
    rw [if_pos (Or.inl rfl)]
    by_cases hn : n = 0
    ·subst hn
     rcases s with _ | ⟨x,s⟩
     ·
       go_enter Tryz.func203,Tryz.ntmps203
       go_wp2_with (first
        | (go_at_call 205;refine (HI.out _).mono ?_;rintro e w2 ⟨rfl,rfl⟩)
        | (go_at_call 204;refine (HO.out _ _ (by first | exact Below.refl _ _ | exact blw1 _ _ _ | exact HB2.out.2)).mono ?_;rintro e w3 ⟨rfl,hb3⟩;have HB3:=Lib.hid hb3;clear hb3))
       go_ret
       exact ⟨rfl,HB3.out⟩
     ·
       go_enter Tryz.func203,Tryz.ntmps203
       go_wp2_with (first
        | (go_at_call 205;refine (HI.out _).mono ?_;rintro e w2 ⟨rfl,rfl⟩)
        | (go_at_call 204;refine (HO.out _ _ (by first | exact Below.refl _ _ | exact blw1 _ _ _ | exact HB2.out.2)).mono ?_;rintro e w3 ⟨rfl,hb3⟩;have HB3:=Lib.hid hb3;clear hb3))
       go_ret
       exact ⟨rfl,HB.out⟩
    ·have hnb : (n == 0) = false:=by simpa using hn
     rw [hnb]
     clear hnb
     go_enter Tryz.func203,Tryz.ntmps203
     go_wp2_with (first
      | (go_at_call 205;refine (HI.out _).mono ?_;rintro e w2 ⟨rfl,rfl⟩)
      | (go_at_call 204;refine (HO.out _ _ (by first | exact Below.refl _ _ | exact blw1 _ _ _ | exact HB2.out.2)).mono ?_;rintro e w3 ⟨rfl,hb3⟩;have HB3:=Lib.hid hb3;clear hb3))
     go_ret
     exact ⟨rfl,HB.out⟩
   by_cases k5 : k = 5
   ·subst k5
    rw [if_pos (Or.inr rfl)]
    by_cases hn : n = 0
    ·subst hn
     rcases s with _ | ⟨x,s⟩
     ·
       go_enter Tryz.func203,Tryz.ntmps203
       go_wp2_with (first
        | (go_at_call 205;refine (HI.out _).mono ?_;rintro e w2 ⟨rfl,rfl⟩)
        | (go_at_call 204;refine (HO.out _ _ (by first | exact Below.refl _ _ | exact blw1 _ _ _ | exact HB2.out.2)).mono ?_;rintro e w3 ⟨rfl,hb3⟩;have HB3:=Lib.hid hb3;clear hb3))
       go_ret
       exact ⟨rfl,HB3.out⟩
     ·
       go_enter Tryz.func203,Tryz.ntmps203
       go_wp2_with (first
        | (go_at_call 205;refine (HI.out _).mono ?_;rintro e w2 ⟨rfl,rfl⟩)
        | (go_at_call 204;refine (HO.out _ _ (by first | exact Below.refl _ _ | exact blw1 _ _ _ | exact HB2.out.2)).mono ?_;rintro e w3 ⟨rfl,hb3⟩;have HB3:=Lib.hid hb3;clear hb3))
       go_ret
       exact ⟨rfl,HB.out⟩
    ·have hnb : (n == 0) = false:=by simpa using hn
     rw [hnb]
     clear hnb
     go_enter Tryz.func203,Tryz.ntmps203
     go_wp2_with (first
      | (go_at_call 205;refine (HI.out _).mono ?_;rintro e w2 ⟨rfl,rfl⟩)
      | (go_at_call 204;refine (HO.out _ _ (by first | exact Below.refl _ _ | exact blw1 _ _ _ | exact HB2.out.2)).mono ?_;rintro e w3 ⟨rfl,hb3⟩;have HB3:=Lib.hid hb3;clear hb3))
     go_ret
     exact ⟨rfl,HB.out⟩
   rw [if_neg (by rintro (h | h);exact k4 h;exact k5 h)]
   by_cases k6 : k = 6
   ·subst k6
    rw [if_pos rfl]
    cases ir with
    | false =>
      go_enter Tryz.func203,Tryz.ntmps203
      go_wp2_with (first
       | (go_at_call 205;refine (HI.out _).mono ?_;rintro e w2 ⟨rfl,rfl⟩)
       | (go_at_call 204;refine (HO.out _ _ (by first | exact Below.refl _ _ | exact blw1 _ _ _ | exact HB2.out.2)).mono ?_;rintro e w3 ⟨rfl,hb3⟩;have HB3:=Lib.hid hb3;clear hb3))
      go_ret
      exact ⟨rfl,HB.out.chain (below_alloc _ _)⟩
    | true =>
      rcases s with _ | ⟨x,s⟩
      ·
        go_enter Tryz.func203,Tryz.ntmps203
        go_wp2_with (first
         | (go_at_call 205;refine (HI.out _).mono ?_;rintro e w2 ⟨rfl,rfl⟩)
         | (go_at_call 204;refine (HO.out _ _ (by first | exact Below.refl _ _ | exact blw1 _ _ _ | exact HB2.out.2)).mono ?_;rintro e w3 ⟨rfl,hb3⟩;have HB3:=Lib.hid hb3;clear hb3))
        go_ret
        exact ⟨rfl,HB3.out⟩
      ·
        go_enter Tryz.func203,Tryz.ntmps203
        go_wp2_with (first
         | (go_at_call 205;refine (HI.out _).mono ?_;rintro e w2 ⟨rfl,rfl⟩)
         | (go_at_call 204;refine (HO.out _ _ (by first | exact Below.refl _ _ | exact blw1 _ _ _ | exact HB2.out.2)).mono ?_;rintro e w3 ⟨rfl,hb3⟩;have HB3:=Lib.hid hb3;clear hb3))
        go_ret
        exact ⟨rfl,HB.out.chain (below_alloc _ _)⟩
   rw [if_neg k6]
   go_enter Tryz.func203,Tryz.ntmps203
   go_wp2_with (first
    | (go_at_call 205;refine (HI.out _).mono ?_;rintro e w2 ⟨rfl,rfl⟩)
    | (go_at_call 204;refine (HO.out _ _ (by first | exact Below.refl _ _ | exact blw1 _ _ _ | exact HB2.out.2)).mono ?_;rintro e w3 ⟨rfl,hb3⟩;have HB3:=Lib.hid hb3;clear hb3))
   go_ret
   exact ⟨rfl,HB.out⟩
end Go.Proofs.YtojjfdegkooknaaGreatDoor
namespace Go.Proofs.YtojjfdegkooknaaGreatDoor
set_option maxRecDepth 100000
set_option maxHeartbeats 8000000
open Go.RowKit
structure VarOk (fv : Nat) (var : List UInt8 → Bool) : Prop where
 enters : ∀ args w,(callFunc fv args).run Tryz.prog w = .ok (.enter fv args) w
 says : ∀ s w,s.length ≤ maxLen → Calls Tryz.prog fv #[.string ⟨s.toArray⟩] w fun e w' => e = .returned (.bool (var s)) ∧ Below w.heap.size w w'
abbrev exprC (k n : Int) (s : ByteArray) (l : Value) : Obj:=.cells #[.int .i64 k,.int .i64 n,.string s,l] 84
theorem rexpr_any (fv : Nat) (var : List UInt8 → Bool) (hv : VarOk fv var) (nu ex : Int) (h0 : 0 ≤ nu) (h1 : nu ≤ 4611686018427387904) (k n : Int) (s : List UInt8) (l : List Ex) (A : Option Addr) (c : Nat) (w : World) (hr : ExRow w w.heap.size l A) (hs : s.length ≤ maxLen) (hl : l.length ≤ maxLen) :
 Calls Tryz.prog 141 #[rulesV fv nu ex,exprV k n ⟨s.toArray⟩ (.slice A l.length c)] w fun e w' => e = .returned (.bool (vE var nu 30 (.mk k n s l))) ∧ Below w.heap.size w w':=by
 obtain ⟨W1,hW1⟩ : ∃ W1,W1 = (w.alloc (rulesC fv nu ex)).alloc (exprC k n ⟨s.toArray⟩ (.slice A l.length c)):=⟨_,rfl⟩
 have HB : Hid (Below w.heap.size w W1):=Lib.hid (by rw [hW1];exact (below_alloc w _).chain (below_alloc _ _))
 have HZ : Hid (True ∧ W1.heap.size = w.heap.size + 2):=Lib.hid ⟨trivial,by rw [hW1];exact (size_of_alloc _ _).trans (congrArg (· + 1) (size_of_alloc _ _))⟩
 have HC : Hid (Calls Tryz.prog 203 #[exprV k n ⟨s.toArray⟩ (.slice A l.length c),.pointer (some ⟨W1.heap.size + 1,0,none⟩),.pointer (some ⟨W1.heap.size,0,none⟩)] ((W1.alloc (rulesC fv nu ex)).alloc (.cells #[.int .i64 30] 3)).drew fun e w' => e = .returned (.bool (vE var nu 30 (.mk k n s l))) ∧ Below W1.heap.size W1 w'):=Lib.hid (by
  have hb3 : Below W1.heap.size W1 ((W1.alloc (rulesC fv nu ex)).alloc (.cells #[.int .i64 30] 3)).drew:=((below_alloc W1 _).chain (below_alloc _ _)).drew
  have hz : ((W1.alloc (rulesC fv nu ex)).alloc (.cells #[.int .i64 30] 3)).drew.heap.size = W1.heap.size + 2:=(size_of_alloc _ _).trans (congrArg (· + 1) (size_of_alloc _ _))
  exact (ew_any fv hv.enters var hv.says nu ex h0 h1 30 (by omega) k n s l A c W1.heap.size (W1.heap.size + 1) _ (rulesAt_new W1 fv nu ex 30).drewn (by omega) (depth_new W1 _ 30) ((hr.stay (HB.out.chain hb3) (Nat.le_refl _)).more (by have := HB.out.size;omega)) hs hl).mono fun e w' ⟨he,hb⟩ => ⟨he,hb3.chain hb⟩)
 have HX : Hid (∀ fv nu ex dd W,Calls Tryz.prog 177 #[rulesV fv nu ex,.int .i64 dd] W fun e w' =>
  e = .returned (.func (.func 203) #[] #[.pointer (some ⟨W.heap.size + 1,0,none⟩),.pointer (some ⟨W.heap.size,0,none⟩)]) ∧ w' = (W.alloc (rulesC fv nu ex)).alloc (.cells #[.int .i64 dd] 3)):=Lib.hid expr_within
 have he157:=enters157
 generalize vE var nu 30 (.mk k n s l) = res at *
 have q1:=heap_keep (o:=exprC k n ⟨s.toArray⟩ (.slice A l.length c)) (heap_of_alloc w (rulesC fv nu ex))
 have q2:=heap_of_alloc (w.alloc (rulesC fv nu ex)) (exprC k n ⟨s.toArray⟩ (.slice A l.length c))
 rw [size_of_alloc] at q2
 rw [← hW1] at q1 q2
 have c0:=cell_of_block q1 0 rfl
 have c1:=cell_of_block q1 1 rfl
 have c2:=cell_of_block q1 2 rfl
 have d0:=cell_of_block q2 0 rfl
 have d1:=cell_of_block q2 1 rfl
 have d2:=cell_of_block q2 2 rfl
 have d3:=cell_of_block q2 3 rfl
 have HQ:=Lib.hid (And.intro q1 q2)
 unfold maxLen at hl hs
 clear hr hv q1 q2 h0 h1
 go_enter Tryz.func141,Tryz.ntmps141
 go_wp2
 rw [← hW1]
 clear hW1
 go_region_held3 (fun W => W.cell? ⟨w.heap.size,0,none⟩ = some (.func (.func fv) #[] #[]) ∧ W.cell? ⟨w.heap.size,1,none⟩ = some (.int .i64 nu) ∧ W.cell? ⟨w.heap.size,2,none⟩ = some (.int .i64 ex) ∧
  W.cell? ⟨w.heap.size + 1,0,none⟩ = some (.int .i64 k) ∧ W.cell? ⟨w.heap.size + 1,1,none⟩ = some (.int .i64 n) ∧ W.cell? ⟨w.heap.size + 1,2,none⟩ = some (.string ⟨s.toArray⟩) ∧ W.cell? ⟨w.heap.size + 1,3,none⟩ = some (.slice A l.length c))
  (first | go_keep | (trace_state;fail))
  (first
    | (go_at_call 177;refine (HX.out _ _ _ _ _).mono ?_;rintro e w2 ⟨rfl,rfl⟩)
    | (go_at_call 203;refine HC.out.mono ?_;rintro e w3 ⟨rfl,hb3⟩;have HB3:=Lib.hid hb3;have q1:=(hb3.block _ (Array.getElem?_eq_some_iff.1 HQ.out.1).1).trans HQ.out.1;have q2:=(hb3.block _ (Array.getElem?_eq_some_iff.1 HQ.out.2).1).trans HQ.out.2;clear hb3;have g0:=cell_of_block q1 0 rfl;have g1:=cell_of_block q1 1 rfl;have g2:=cell_of_block q1 2 rfl;have g3:=cell_of_block q2 0 rfl;have g4:=cell_of_block q2 1 rfl;have g5:=cell_of_block q2 2 rfl;have g6:=cell_of_block q2 3 rfl;clear q1 q2))
 all_goals go_wp2
 all_goals go_ret
 all_goals exact ⟨rfl,HB.out.chain HB3.out⟩
end Go.Proofs.YtojjfdegkooknaaGreatDoor
