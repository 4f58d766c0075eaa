import Derived.Test.YtojjfdegkooknaaGreatDoorSLexK
import Derived.Test.YtojjfdegkooknaaGreatDoorSTreeB
import Derived.Test.YtojjfdegkooknaaGreatDoorSShelf
import Derived.Shelf.Strings.SlTrimAscii
import Derived.Laws.EntriesVeiled
import Derived.Deep.RegionHeld3
import Derived.BigGuard
set_option linter.unusedVariables false
set_option linter.unusedSimpArgs false
namespace Go.Proofs.YtojjfdegkooknaaGreatDoor
section
set_option maxRecDepth 100000
set_option maxHeartbeats 1000000
open Go.RowKit
abbrev qp (fv : Nat) (nu ex : Int) : Value:=.agg #[.func (.func fv) #[] #[],.int .i64 nu,.int .i64 ex]
abbrev qv (fv : Nat) (nu ex : Int) : Obj:=.cells #[.func (.func fv) #[] #[],.int .i64 nu,.int .i64 ex] 142
theorem qql (fv : Nat) (nu ex n : Int) (h0 : 0 <= nu) (h1 : nu <= 4611686018427387904) (w : World) : Calls Tryz.prog 205 #[qp fv nu ex,.int .i64 n] w fun e w' => e = .returned (.bool (decide (-nu <= n) && decide (n <= nu))) /\ w' = w.alloc (qv fv nu ex):=by
 by_cases h2 : -nu <= n
 ·by_cases h3 : n <= nu
  ·go_enter Tryz.func205,Tryz.ntmps205
   go_wp2
   go_ret
   exact ⟨by simp [h2,h3],rfl⟩
  ·go_enter Tryz.func205,Tryz.ntmps205
   go_wp2
   go_ret
   exact ⟨by simp [h3],rfl⟩
 ·go_enter Tryz.func205,Tryz.ntmps205
  go_wp2
  go_ret
  exact ⟨by rw [show decide (-nu <= n) = false from decide_eq_false (by omega)];rfl,rfl⟩
theorem qgS (fv : Nat) (nu ex d : Int) (w : World) : Calls Tryz.prog 177 #[qp fv nu ex,.int .i64 d] w fun e w' =>
 e = .returned (.func (.func 203) #[] #[.pointer (some ⟨w.heap.size + 1,0,none⟩),.pointer (some ⟨w.heap.size,0,none⟩)]) /\ w' = (w.alloc (qv fv nu ex)).alloc (.cells #[.int .i64 d] 3):=by
 go_enter Tryz.func177,Tryz.ntmps177
 go_wp2
 go_ret
 exact ⟨rfl,rfl⟩
end
section
set_option maxRecDepth 100000
set_option maxHeartbeats 20000000
open Go.RowKit
def qcV (m : Int) (l : List Ex) (f : Ex -> Bool) : Bool:=decide (m <= (l.length : Int)) && decide ((l.length : Int) <= m) && l.all f
def inR (nu n : Int) : Bool:=decide (-nu <= n) && decide (n <= nu)
def vE (var : List UInt8 -> Bool) (nu : Int) : Nat -> Ex -> Bool
 | 0,_ => false
 | d + 1,.mk k n s l =>
   if k = 1 then inR nu n && s.isEmpty && qcV 0 l (vE var nu d)
   else if k = 2 then (n == 0) && var s && qcV 0 l (vE var nu d)
   else if k = 3 then (n == 0) && s.isEmpty && qcV 0 l (vE var nu d)
   else if k = 4 \/ k = 5 then (n == 0) && s.isEmpty && qcV 2 l (vE var nu d)
   else if k = 6 then inR nu n && s.isEmpty && qcV 1 l (vE var nu d)
   else false
structure RulesAt (W : World) (br fv : Nat) (nu ex : Int) : Prop where
 lt : br < W.heap.size
 c0 : W.cell? ⟨br,0,none⟩ = some (.func (.func fv) #[] #[])
 c1 : W.cell? ⟨br,1,none⟩ = some (.int .i64 nu)
 c2 : W.cell? ⟨br,2,none⟩ = some (.int .i64 ex)
theorem RulesAt.stay {W W' : World} {B br fv : Nat} {nu ex : Int} (h : RulesAt W br fv nu ex) (hb : Below B W W') (hB : br < B) : RulesAt W' br fv nu ex :=
 ⟨Nat.lt_of_lt_of_le h.lt hb.size,(hb.cell (p:=⟨br,0,none⟩) hB).trans h.c0,(hb.cell (p:=⟨br,1,none⟩) hB).trans h.c1,(hb.cell (p:=⟨br,2,none⟩) hB).trans h.c2⟩
theorem RulesAt.drewn {W : World} {br fv : Nat} {nu ex : Int} (h : RulesAt W br fv nu ex) : RulesAt W.drew br fv nu ex:=⟨h.lt,h.c0,h.c1,h.c2⟩
theorem qa6 (W : World) (fv : Nat) (nu ex d : Int) : RulesAt ((W.alloc (qv fv nu ex)).alloc (.cells #[.int .i64 d] 3)) W.heap.size fv nu ex:=by
 have h:=qr (o:=.cells #[.int .i64 d] 3) (qe W (qv fv nu ex))
 exact ⟨(Array.getElem?_eq_some_iff.1 h).1,qc h 0 rfl,qc h 1 rfl,qc h 2 rfl⟩
theorem qcO (W : World) (o : Obj) (d : Int) : ((W.alloc o).alloc (.cells #[.int .i64 d] 3)).cell? ⟨W.heap.size + 1,0,none⟩ = some (.int .i64 d):=by
 have h:=qe (W.alloc o) (.cells #[.int .i64 d] 3)
 rw [qj] at h
 exact qc h 0 rfl
def EwOk (fv : Nat) (nu ex : Int) (d : Nat) (f : Ex -> Bool) : Prop :=
 ∀ (k n : Int) (s : List UInt8) (l : List Ex) (A : Option Addr) (c br bd : Nat) (W : World),RulesAt W br fv nu ex -> bd < W.heap.size -> W.cell? ⟨bd,0,none⟩ = some (.int .i64 d) -> ExRow W W.heap.size l A -> s.length <= maxLen -> l.length <= maxLen ->
  Calls Tryz.prog 203 #[zG k n ⟨s.toArray⟩ (.slice A l.length c),.pointer (some ⟨bd,0,none⟩),.pointer (some ⟨br,0,none⟩)] W fun e w' => e = .returned (.bool (f (.mk k n s l))) /\ Below W.heap.size W w'
theorem qjq : ∀ args w,(callFunc 203 args).run Tryz.prog w = .ok (.enter 203 args) w:=enters_of Tryz.func203 (by kernel_rfl) rfl
theorem qkd (fv : Nat) (nu ex : Int) (d : Nat) (hd : d <= 1000) (f : Ex -> Bool) (IH : EwOk fv nu ex d f) (m : Int) (l : List Ex) (A : Option Addr) (c be br bd : Nat) (w : World) (vO : be < w.heap.size) (h3 : w.cell? ⟨be,3,none⟩ = some (.slice A l.length c))
 (hR : RulesAt w br fv nu ex) (hbd : bd < w.heap.size) (hD : w.cell? ⟨bd,0,none⟩ = some (.int .i64 (d + 1))) (hr : ExRow w w.heap.size l A) (hl : l.length <= maxLen) :
 Calls Tryz.prog 204 #[.int .i64 m,.pointer (some ⟨be,0,none⟩),.pointer (some ⟨br,0,none⟩),.pointer (some ⟨bd,0,none⟩)] w fun e w' => e = .returned (.bool (qcV m l f)) /\ Below w.heap.size w w':=by
 have hwr : IntKind.i64.wrap (d : Int) = d:=by rw [IntKind.wrap_i64];omega
 have HV : Hid (Calls Tryz.prog 142 #[.slice A l.length c,.int .i64 m,.int .i64 m,.func (.func 203) #[] #[.pointer (some ⟨w.heap.size + 1,0,none⟩),.pointer (some ⟨w.heap.size,0,none⟩)]] ((w.alloc (qv fv nu ex)).alloc (.cells #[.int .i64 d] 3)).drew fun e w' =>
  e = .returned (.bool (qcV m l f)) /\ Below w.heap.size w w'):=hZ (by
  have zF : Below w.heap.size w ((w.alloc (qv fv nu ex)).alloc (.cells #[.int .i64 d] 3)).drew:=((qd w _).chain (qd _ _)).drew
  have hz : ((w.alloc (qv fv nu ex)).alloc (.cells #[.int .i64 d] 3)).drew.heap.size = w.heap.size + 2:=(qj _ _).trans (congrArg (· + 1) (qj _ _))
  refine (qlw f 203 #[] #[.pointer (some ⟨w.heap.size + 1,0,none⟩),.pointer (some ⟨w.heap.size,0,none⟩)] qjq l A c m m _ hl ((hr.stay zF (Nat.le_refl _)).more zF.size) ?_).mono fun e w' ⟨he,hb⟩ => ⟨he,zF.chain hb⟩
  intro k n s l' A' c' W3 hm qt hr3 hs hl'
  exact IH k n s l' A' c' w.heap.size (w.heap.size + 1) W3 ((qa6 w fv nu ex d).drewn.stay qt (by omega)) (by have := qt.size;omega) ((qt.cell (p:=⟨w.heap.size + 1,0,none⟩) (by show w.heap.size + 1 < _;omega)).trans (qcO w _ d)) (hr3.more qt.size) hs hl')
 obtain ⟨r1,r2,r3,r4⟩:=hR
 have HW:=hZ (aZ vO (aZ r1 hbd))
 have HX : Hid (∀ fv nu ex dd W,Calls Tryz.prog 177 #[qp fv nu ex,.int .i64 dd] W fun e w' =>
  e = .returned (.func (.func 203) #[] #[.pointer (some ⟨W.heap.size + 1,0,none⟩),.pointer (some ⟨W.heap.size,0,none⟩)]) /\ w' = (W.alloc (qv fv nu ex)).alloc (.cells #[.int .i64 dd] 3)):=hZ qgS
 generalize qcV m l f = res at *
 unfold maxLen at hl
 clear IH hr vO r1 hbd
 have e1 : ((d : Int) + 1 - 1) = d:=by omega
 go_enter Tryz.func204,Tryz.ntmps204
 go_wp2
 go_region_held3 (fun W => W.cell? ⟨be,3,none⟩ = some (.slice A l.length c) /\ W.cell? ⟨br,0,none⟩ = some (.func (.func fv) #[] #[]) /\ W.cell? ⟨br,1,none⟩ = some (.int .i64 nu) /\ W.cell? ⟨br,2,none⟩ = some (.int .i64 ex) /\ W.cell? ⟨bd,0,none⟩ = some (.int .i64 (d + 1)))
  (first | go_keep | (trace_state;fail))
  (first
    | (go_at_call 177;refine (HX.out _ _ _ _ _).mono ?_;rintro e w2 ⟨rfl,rfl⟩)
    | (go_at_call 142;refine HV.out.mono ?_;rintro e w3 ⟨rfl,qt⟩;have qO:=hZ qt;have k1:=(qO.out.cell (p:=⟨be,3,none⟩) HW.out.1).trans h3;have k2:=(qO.out.cell (p:=⟨br,0,none⟩) HW.out.2.1).trans r2;have k3:=(qO.out.cell (p:=⟨br,1,none⟩) HW.out.2.1).trans r3;have k4:=(qO.out.cell (p:=⟨br,2,none⟩) HW.out.2.1).trans r4;have k5:=(qO.out.cell (p:=⟨bd,0,none⟩) HW.out.2.2).trans hD;clear qt))
 all_goals go_wp2
 all_goals go_ret
 all_goals exact ⟨rfl,qO.out⟩
theorem qah (W : World) (o o' : Obj) : Below (W.heap.size + 1) (W.alloc o) ((W.alloc o).alloc o'):=by
 have := qd (W.alloc o) o'
 rwa [qj] at this
theorem quf (fv : Nat) (hfv : ∀ args w,(callFunc fv args).run Tryz.prog w = .ok (.enter fv args) w) (var : List UInt8 -> Bool) (HV : ∀ s w,s.length <= maxLen -> Calls Tryz.prog fv #[.string ⟨s.toArray⟩] w fun e w' => e = .returned (.bool (var s)) /\ Below w.heap.size w w')
 (nu ex : Int) (h0 : 0 <= nu) (h1 : nu <= 4611686018427387904) : ∀ d : Nat,d <= 1000 -> EwOk fv nu ex d (vE var nu d):=by
 intro d
 induction d with
 | zero =>
   intro _ k n s l A c br bd W hR hbd hD hr hs hl
   have HB:=hZ (qd W (.cells #[.int .i64 k,.int .i64 n,.string ⟨s.toArray⟩,.slice A l.length c] 84))
   go_enter Tryz.func203,Tryz.ntmps203
   go_wp2
   go_ret
   exact ⟨rfl,HB.out⟩
 | succ d ih =>
   intro hd k n s l A c br bd W hR hbd hD hr hs hl
   have HB:=hZ (qd W (.cells #[.int .i64 k,.int .i64 n,.string ⟨s.toArray⟩,.slice A l.length c] 84))
   have HX:=hZ (qe W (.cells #[.int .i64 k,.int .i64 n,.string ⟨s.toArray⟩,.slice A l.length c] 84))
   have hz:=qj W (.cells #[.int .i64 k,.int .i64 n,.string ⟨s.toArray⟩,.slice A l.length c] 84)
   have HO : Hid (∀ m W3,Below (W.heap.size + 1) (W.alloc (.cells #[.int .i64 k,.int .i64 n,.string ⟨s.toArray⟩,.slice A l.length c] 84)) W3 -> Calls Tryz.prog 204 #[.int .i64 m,.pointer (some ⟨W.heap.size,0,none⟩),.pointer (some ⟨br,0,none⟩),.pointer (some ⟨bd,0,none⟩)] W3 fun e w' => e = .returned (.bool (qcV m l (vE var nu d))) /\ Below W.heap.size W w'):=hZ (fun m W3 qt => by
    have hbW : Below W.heap.size W W3:=HB.out.trans (qt.mono (Nat.le_succ _))
    have hz3:=qt.size
    exact (qkd fv nu ex d (by omega) (vE var nu d) (ih (by omega)) m l A c W.heap.size br bd W3 (by omega) (qc ((qt.block W.heap.size (Nat.lt_succ_self _)).trans HX.out) 3 rfl) (hR.stay hbW hR.lt) (Nat.lt_of_lt_of_le hbd hbW.size)
     ((hbW.cell (p:=⟨bd,0,none⟩) hbd).trans hD) ((hr.stay hbW (Nat.le_refl _)).more hbW.size) hl).mono fun e w' ⟨he,hb⟩ => ⟨he,hbW.chain hb⟩)
   have HVV : Hid (∀ W,Calls Tryz.prog fv #[.string ⟨s.toArray⟩] W fun e w' => e = .returned (.bool (var s)) /\ Below W.heap.size W w'):=hZ (fun W => HV s W hs)
   have HI : Hid (∀ W,Calls Tryz.prog 205 #[qp fv nu ex,.int .i64 n] W fun e w' => e = .returned (.bool (inR nu n)) /\ w' = W.alloc (qv fv nu ex)):=hZ (fun W => qql fv nu ex n h0 h1 W)
   have HRR:=hZ hR
   obtain ⟨r1,r2,r3,r4⟩:=hR
   have hD' : W.cell? ⟨bd,0,none⟩ = some (.int .i64 (d + 1)):=by simpa using hD
   have zN : ¬ ((d : Int) + 1 = 0):=by omega
   unfold vE
   generalize vE var nu d = vd at *
   generalize inR nu n = ir at *
   clear ih HV hr hD
   unfold maxLen at hs hl
   by_cases k1 : k = 1
   ·subst k1
    rw [if_pos rfl]
    cases ir with
    | false =>
      go_enter Tryz.func203,Tryz.ntmps203
      go_wp2_with (first
       | (go_at_call 205;refine (HI.out _).mono ?_;rintro e w2 ⟨rfl,rfl⟩)
       | (go_at_call 204;refine (HO.out _ _ (by first | exact Below.refl _ _ | exact qah _ _ _ | exact zq.out.2)).mono ?_;rintro e w3 ⟨rfl,qt⟩;have qO:=hZ qt;clear qt))
      go_ret
      exact ⟨rfl,HB.out.chain (qd _ _)⟩
    | true =>
      rcases s with _ | ⟨x,s⟩
      ·
        go_enter Tryz.func203,Tryz.ntmps203
        go_wp2_with (first
         | (go_at_call 205;refine (HI.out _).mono ?_;rintro e w2 ⟨rfl,rfl⟩)
         | (go_at_call 204;refine (HO.out _ _ (by first | exact Below.refl _ _ | exact qah _ _ _ | exact zq.out.2)).mono ?_;rintro e w3 ⟨rfl,qt⟩;have qO:=hZ qt;clear qt))
        go_ret
        exact ⟨rfl,qO.out⟩
      ·
        go_enter Tryz.func203,Tryz.ntmps203
        go_wp2_with (first
         | (go_at_call 205;refine (HI.out _).mono ?_;rintro e w2 ⟨rfl,rfl⟩)
         | (go_at_call 204;refine (HO.out _ _ (by first | exact Below.refl _ _ | exact qah _ _ _ | exact zq.out.2)).mono ?_;rintro e w3 ⟨rfl,qt⟩;have qO:=hZ qt;clear qt))
        go_ret
        exact ⟨rfl,HB.out.chain (qd _ _)⟩
   rw [if_neg k1]
   by_cases k2 : k = 2
   ·subst k2
    rw [if_pos rfl]
    by_cases hn : n = 0
    ·subst hn
     cases hvs : var s with
     | false =>
       rw [hvs] at HVV
       have HVS:=hZ hvs
       clear hvs
       go_enter Tryz.func203,Tryz.ntmps203
       go_wp2_with (first
        | (go_at_call 205;refine (HI.out _).mono ?_;rintro e w2 ⟨rfl,rfl⟩)
        | (go_at_call 204;refine (HO.out _ _ (by first | exact Below.refl _ _ | exact qah _ _ _ | exact zq.out.2)).mono ?_;rintro e w3 ⟨rfl,qt⟩;have qO:=hZ qt;clear qt)
        | (refine (HVV.out _).mono ?_;rintro e w2 ⟨rfl,zF⟩;have zq:=hZ (aZ (HB.out.chain zF) (by rw [qj] at zF;exact zF));clear zF))
       go_ret
       exact ⟨rfl,zq.out.1⟩
     | true =>
       rw [hvs] at HVV
       have HVS:=hZ hvs
       clear hvs
       go_enter Tryz.func203,Tryz.ntmps203
       go_wp2_with (first
        | (go_at_call 205;refine (HI.out _).mono ?_;rintro e w2 ⟨rfl,rfl⟩)
        | (go_at_call 204;refine (HO.out _ _ (by first | exact Below.refl _ _ | exact qah _ _ _ | exact zq.out.2)).mono ?_;rintro e w3 ⟨rfl,qt⟩;have qO:=hZ qt;clear qt)
        | (refine (HVV.out _).mono ?_;rintro e w2 ⟨rfl,zF⟩;have zq:=hZ (aZ (HB.out.chain zF) (by rw [qj] at zF;exact zF));clear zF))
       go_ret
       exact ⟨rfl,qO.out⟩
    ·have xv : (n == 0) = false:=by simpa using hn
     rw [xv]
     clear xv
     go_enter Tryz.func203,Tryz.ntmps203
     go_wp2_with (first
      | (go_at_call 205;refine (HI.out _).mono ?_;rintro e w2 ⟨rfl,rfl⟩)
      | (go_at_call 204;refine (HO.out _ _ (by first | exact Below.refl _ _ | exact qah _ _ _ | exact zq.out.2)).mono ?_;rintro e w3 ⟨rfl,qt⟩;have qO:=hZ qt;clear qt))
     go_ret
     exact ⟨rfl,HB.out⟩
   rw [if_neg k2]
   by_cases k3 : k = 3
   ·subst k3
    rw [if_pos rfl]
    by_cases hn : n = 0
    ·subst hn
     rcases s with _ | ⟨x,s⟩
     ·
       go_enter Tryz.func203,Tryz.ntmps203
       go_wp2_with (first
        | (go_at_call 205;refine (HI.out _).mono ?_;rintro e w2 ⟨rfl,rfl⟩)
        | (go_at_call 204;refine (HO.out _ _ (by first | exact Below.refl _ _ | exact qah _ _ _ | exact zq.out.2)).mono ?_;rintro e w3 ⟨rfl,qt⟩;have qO:=hZ qt;clear qt))
       go_ret
       exact ⟨rfl,qO.out⟩
     ·
       go_enter Tryz.func203,Tryz.ntmps203
       go_wp2_with (first
        | (go_at_call 205;refine (HI.out _).mono ?_;rintro e w2 ⟨rfl,rfl⟩)
        | (go_at_call 204;refine (HO.out _ _ (by first | exact Below.refl _ _ | exact qah _ _ _ | exact zq.out.2)).mono ?_;rintro e w3 ⟨rfl,qt⟩;have qO:=hZ qt;clear qt))
       go_ret
       exact ⟨rfl,HB.out⟩
    ·have xv : (n == 0) = false:=by simpa using hn
     rw [xv]
     clear xv
     go_enter Tryz.func203,Tryz.ntmps203
     go_wp2_with (first
      | (go_at_call 205;refine (HI.out _).mono ?_;rintro e w2 ⟨rfl,rfl⟩)
      | (go_at_call 204;refine (HO.out _ _ (by first | exact Below.refl _ _ | exact qah _ _ _ | exact zq.out.2)).mono ?_;rintro e w3 ⟨rfl,qt⟩;have qO:=hZ qt;clear qt))
     go_ret
     exact ⟨rfl,HB.out⟩
   rw [if_neg k3]
   by_cases k4 : k = 4
   ·subst k4
    rw [if_pos (Or.inl rfl)]
    by_cases hn : n = 0
    ·subst hn
     rcases s with _ | ⟨x,s⟩
     ·
       go_enter Tryz.func203,Tryz.ntmps203
       go_wp2_with (first
        | (go_at_call 205;refine (HI.out _).mono ?_;rintro e w2 ⟨rfl,rfl⟩)
        | (go_at_call 204;refine (HO.out _ _ (by first | exact Below.refl _ _ | exact qah _ _ _ | exact zq.out.2)).mono ?_;rintro e w3 ⟨rfl,qt⟩;have qO:=hZ qt;clear qt))
       go_ret
       exact ⟨rfl,qO.out⟩
     ·
       go_enter Tryz.func203,Tryz.ntmps203
       go_wp2_with (first
        | (go_at_call 205;refine (HI.out _).mono ?_;rintro e w2 ⟨rfl,rfl⟩)
        | (go_at_call 204;refine (HO.out _ _ (by first | exact Below.refl _ _ | exact qah _ _ _ | exact zq.out.2)).mono ?_;rintro e w3 ⟨rfl,qt⟩;have qO:=hZ qt;clear qt))
       go_ret
       exact ⟨rfl,HB.out⟩
    ·have xv : (n == 0) = false:=by simpa using hn
     rw [xv]
     clear xv
     go_enter Tryz.func203,Tryz.ntmps203
     go_wp2_with (first
      | (go_at_call 205;refine (HI.out _).mono ?_;rintro e w2 ⟨rfl,rfl⟩)
      | (go_at_call 204;refine (HO.out _ _ (by first | exact Below.refl _ _ | exact qah _ _ _ | exact zq.out.2)).mono ?_;rintro e w3 ⟨rfl,qt⟩;have qO:=hZ qt;clear qt))
     go_ret
     exact ⟨rfl,HB.out⟩
   by_cases k5 : k = 5
   ·subst k5
    rw [if_pos (Or.inr rfl)]
    by_cases hn : n = 0
    ·subst hn
     rcases s with _ | ⟨x,s⟩
     ·
       go_enter Tryz.func203,Tryz.ntmps203
       go_wp2_with (first
        | (go_at_call 205;refine (HI.out _).mono ?_;rintro e w2 ⟨rfl,rfl⟩)
        | (go_at_call 204;refine (HO.out _ _ (by first | exact Below.refl _ _ | exact qah _ _ _ | exact zq.out.2)).mono ?_;rintro e w3 ⟨rfl,qt⟩;have qO:=hZ qt;clear qt))
       go_ret
       exact ⟨rfl,qO.out⟩
     ·
       go_enter Tryz.func203,Tryz.ntmps203
       go_wp2_with (first
        | (go_at_call 205;refine (HI.out _).mono ?_;rintro e w2 ⟨rfl,rfl⟩)
        | (go_at_call 204;refine (HO.out _ _ (by first | exact Below.refl _ _ | exact qah _ _ _ | exact zq.out.2)).mono ?_;rintro e w3 ⟨rfl,qt⟩;have qO:=hZ qt;clear qt))
       go_ret
       exact ⟨rfl,HB.out⟩
    ·have xv : (n == 0) = false:=by simpa using hn
     rw [xv]
     clear xv
     go_enter Tryz.func203,Tryz.ntmps203
     go_wp2_with (first
      | (go_at_call 205;refine (HI.out _).mono ?_;rintro e w2 ⟨rfl,rfl⟩)
      | (go_at_call 204;refine (HO.out _ _ (by first | exact Below.refl _ _ | exact qah _ _ _ | exact zq.out.2)).mono ?_;rintro e w3 ⟨rfl,qt⟩;have qO:=hZ qt;clear qt))
     go_ret
     exact ⟨rfl,HB.out⟩
   rw [if_neg (by rintro (h | h);exact k4 h;exact k5 h)]
   by_cases k6 : k = 6
   ·subst k6
    rw [if_pos rfl]
    cases ir with
    | false =>
      go_enter Tryz.func203,Tryz.ntmps203
      go_wp2_with (first
       | (go_at_call 205;refine (HI.out _).mono ?_;rintro e w2 ⟨rfl,rfl⟩)
       | (go_at_call 204;refine (HO.out _ _ (by first | exact Below.refl _ _ | exact qah _ _ _ | exact zq.out.2)).mono ?_;rintro e w3 ⟨rfl,qt⟩;have qO:=hZ qt;clear qt))
      go_ret
      exact ⟨rfl,HB.out.chain (qd _ _)⟩
    | true =>
      rcases s with _ | ⟨x,s⟩
      ·
        go_enter Tryz.func203,Tryz.ntmps203
        go_wp2_with (first
         | (go_at_call 205;refine (HI.out _).mono ?_;rintro e w2 ⟨rfl,rfl⟩)
         | (go_at_call 204;refine (HO.out _ _ (by first | exact Below.refl _ _ | exact qah _ _ _ | exact zq.out.2)).mono ?_;rintro e w3 ⟨rfl,qt⟩;have qO:=hZ qt;clear qt))
        go_ret
        exact ⟨rfl,qO.out⟩
      ·
        go_enter Tryz.func203,Tryz.ntmps203
        go_wp2_with (first
         | (go_at_call 205;refine (HI.out _).mono ?_;rintro e w2 ⟨rfl,rfl⟩)
         | (go_at_call 204;refine (HO.out _ _ (by first | exact Below.refl _ _ | exact qah _ _ _ | exact zq.out.2)).mono ?_;rintro e w3 ⟨rfl,qt⟩;have qO:=hZ qt;clear qt))
        go_ret
        exact ⟨rfl,HB.out.chain (qd _ _)⟩
   rw [if_neg k6]
   go_enter Tryz.func203,Tryz.ntmps203
   go_wp2_with (first
    | (go_at_call 205;refine (HI.out _).mono ?_;rintro e w2 ⟨rfl,rfl⟩)
    | (go_at_call 204;refine (HO.out _ _ (by first | exact Below.refl _ _ | exact qah _ _ _ | exact zq.out.2)).mono ?_;rintro e w3 ⟨rfl,qt⟩;have qO:=hZ qt;clear qt))
   go_ret
   exact ⟨rfl,HB.out⟩
end
section
set_option maxRecDepth 100000
set_option maxHeartbeats 8000000
open Go.RowKit
structure VarOk (fv : Nat) (var : List UInt8 -> Bool) : Prop where
 enters : ∀ args w,(callFunc fv args).run Tryz.prog w = .ok (.enter fv args) w
 says : ∀ s w,s.length <= maxLen -> Calls Tryz.prog fv #[.string ⟨s.toArray⟩] w fun e w' => e = .returned (.bool (var s)) /\ Below w.heap.size w w'
abbrev zg (k n : Int) (s : ByteArray) (l : Value) : Obj:=.cells #[.int .i64 k,.int .i64 n,.string s,l] 84
theorem qbo (fv : Nat) (var : List UInt8 -> Bool) (hv : VarOk fv var) (nu ex : Int) (h0 : 0 <= nu) (h1 : nu <= 4611686018427387904) (k n : Int) (s : List UInt8) (l : List Ex) (A : Option Addr) (c : Nat) (w : World) (hr : ExRow w w.heap.size l A) (hs : s.length <= maxLen) (hl : l.length <= maxLen) :
 Calls Tryz.prog 141 #[qp fv nu ex,zG k n ⟨s.toArray⟩ (.slice A l.length c)] w fun e w' => e = .returned (.bool (vE var nu 30 (.mk k n s l))) /\ Below w.heap.size w w':=by
 obtain ⟨W1,qh⟩ : ∃ W1,W1 = (w.alloc (qv fv nu ex)).alloc (zg k n ⟨s.toArray⟩ (.slice A l.length c)):=⟨_,rfl⟩
 have HB : Hid (Below w.heap.size w W1):=hZ (by rw [qh];exact (qd w _).chain (qd _ _))
 have HZ : Hid (True /\ W1.heap.size = w.heap.size + 2):=hZ ⟨trivial,by rw [qh];exact (qj _ _).trans (congrArg (· + 1) (qj _ _))⟩
 have HC : Hid (Calls Tryz.prog 203 #[zG k n ⟨s.toArray⟩ (.slice A l.length c),.pointer (some ⟨W1.heap.size + 1,0,none⟩),.pointer (some ⟨W1.heap.size,0,none⟩)] ((W1.alloc (qv fv nu ex)).alloc (.cells #[.int .i64 30] 3)).drew fun e w' => e = .returned (.bool (vE var nu 30 (.mk k n s l))) /\ Below W1.heap.size W1 w'):=hZ (by
  have qt : Below W1.heap.size W1 ((W1.alloc (qv fv nu ex)).alloc (.cells #[.int .i64 30] 3)).drew:=((qd W1 _).chain (qd _ _)).drew
  have hz : ((W1.alloc (qv fv nu ex)).alloc (.cells #[.int .i64 30] 3)).drew.heap.size = W1.heap.size + 2:=(qj _ _).trans (congrArg (· + 1) (qj _ _))
  exact (quf fv hv.enters var hv.says nu ex h0 h1 30 (by omega) k n s l A c W1.heap.size (W1.heap.size + 1) _ (qa6 W1 fv nu ex 30).drewn (by omega) (qcO W1 _ 30) ((hr.stay (HB.out.chain qt) (Nat.le_refl _)).more (by have := HB.out.size;omega)) hs hl).mono fun e w' ⟨he,hb⟩ => ⟨he,qt.chain hb⟩)
 have HX : Hid (∀ fv nu ex dd W,Calls Tryz.prog 177 #[qp fv nu ex,.int .i64 dd] W fun e w' =>
  e = .returned (.func (.func 203) #[] #[.pointer (some ⟨W.heap.size + 1,0,none⟩),.pointer (some ⟨W.heap.size,0,none⟩)]) /\ w' = (W.alloc (qv fv nu ex)).alloc (.cells #[.int .i64 dd] 3)):=hZ qgS
 have he157:=qjq
 generalize vE var nu 30 (.mk k n s l) = res at *
 have q1:=qr (o:=zg k n ⟨s.toArray⟩ (.slice A l.length c)) (qe w (qv fv nu ex))
 have q2:=qe (w.alloc (qv fv nu ex)) (zg k n ⟨s.toArray⟩ (.slice A l.length c))
 rw [qj] at q2
 rw [<- qh] at q1 q2
 have c0:=qc q1 0 rfl
 have c1:=qc q1 1 rfl
 have c2:=qc q1 2 rfl
 have d0:=qc q2 0 rfl
 have d1:=qc q2 1 rfl
 have d2:=qc q2 2 rfl
 have d3:=qc q2 3 rfl
 have HQ:=hZ (aZ q1 q2)
 unfold maxLen at hl hs
 clear hr hv q1 q2 h0 h1
 go_enter Tryz.func141,Tryz.ntmps141
 go_wp2
 rw [<- qh]
 clear qh
 go_region_held3 (fun W => W.cell? ⟨w.heap.size,0,none⟩ = some (.func (.func fv) #[] #[]) /\ W.cell? ⟨w.heap.size,1,none⟩ = some (.int .i64 nu) /\ W.cell? ⟨w.heap.size,2,none⟩ = some (.int .i64 ex) /\
  W.cell? ⟨w.heap.size + 1,0,none⟩ = some (.int .i64 k) /\ W.cell? ⟨w.heap.size + 1,1,none⟩ = some (.int .i64 n) /\ W.cell? ⟨w.heap.size + 1,2,none⟩ = some (.string ⟨s.toArray⟩) /\ W.cell? ⟨w.heap.size + 1,3,none⟩ = some (.slice A l.length c))
  (first | go_keep | (trace_state;fail))
  (first
    | (go_at_call 177;refine (HX.out _ _ _ _ _).mono ?_;rintro e w2 ⟨rfl,rfl⟩)
    | (go_at_call 203;refine HC.out.mono ?_;rintro e w3 ⟨rfl,qt⟩;have qO:=hZ qt;have q1:=(qt.block _ (Array.getElem?_eq_some_iff.1 HQ.out.1).1).trans HQ.out.1;have q2:=(qt.block _ (Array.getElem?_eq_some_iff.1 HQ.out.2).1).trans HQ.out.2;clear qt;have g0:=qc q1 0 rfl;have g1:=qc q1 1 rfl;have g2:=qc q1 2 rfl;have g3:=qc q2 0 rfl;have g4:=qc q2 1 rfl;have g5:=qc q2 2 rfl;have g6:=qc q2 3 rfl;clear q1 q2))
 all_goals go_wp2
 all_goals go_ret
 all_goals exact ⟨rfl,HB.out.chain qO.out⟩
end
end Go.Proofs.YtojjfdegkooknaaGreatDoor
