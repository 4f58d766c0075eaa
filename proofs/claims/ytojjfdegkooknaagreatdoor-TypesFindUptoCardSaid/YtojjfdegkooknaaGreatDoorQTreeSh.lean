import Derived.Test.YtojjfdegkooknaaGreatDoorQTreeGp
set_option linter.unusedVariables false
set_option linter.unusedSimpArgs false
namespace Go.Proofs.YtojjfdegkooknaaGreatDoor
set_option maxRecDepth 100000
set_option maxHeartbeats 2000000
open Go.RowKit
def partsL : List Int:=[0,33,21,49,9,1,1,128,3136,1600,64,1026,384]
theorem cell_lt2S {w : World} {a : Addr} {v : Value} (h : w.cell? a = some v) : a.block < w.heap.size:=World.block_lt_of_cell? w a h
def PartsAt (w : World) : Prop:=∀ i,i < 13 → w.cell? ⟨0,i,none⟩ = some (.int .i64 (partsL.getD i 0))
theorem PartsAt.on {w w' : World} (hb : Below w.heap.size w w') (h : PartsAt w) : PartsAt w':=fun i hi => (hb.cell (cell_lt2S (h i hi))).trans (h i hi)
def hasB (p x : Int) : Bool:=!decide (bits .and .i64 p x = 0)
def mostB (p x n : Int) : Int:=if hasB p x then n else 0
def vCal (var : List UInt8 → Bool) (nu : Int) (x : Cal) : Bool:=(x.r.isEmpty || var x.r) && nameL x.p && (decide ((0 : Int) ≤ x.l.length) && decide ((x.l.length : Int) ≤ 8) && x.l.all (vE var nu 30))
def zC : Cn → Bool
 | .mk k a b l => (k == 0) && zX a && zX b && l.isEmpty
theorem zC_eq (k : Int) (a b : Ex) (l : List Cn) : zC (.mk k a b l) = ((k == 0) && zX a && zX b && l.isEmpty):=rfl
def vWord (var : List UInt8 → Bool) (s : List UInt8) (v o : Bool) : Bool:=if v then var s else if o then nameL s else s.isEmpty
def vPos (ln co : Int) : Bool:=decide (0 ≤ ln) && decide (ln ≤ 65537) && decide (0 ≤ co) && decide (co ≤ 65537)
def vSt (var : List UInt8 → Bool) (nu ex : Int) (sub : List St → Bool) : St → Bool
 | .mk k ln co nm fd fr e c cl iv b o =>
   if 1 ≤ k ∧ k ≤ 12 then
    let p:=partsL.getD k.toNat 0
    let n:=mostB p 128 1 + mostB p 256 1
    vPos ln co && (vWord var nm (hasB p 1) (hasB p 2) && vWord var fr (hasB p 4) (hasB p 8) && vWord var fd false (hasB p 16)) &&
     (if hasB p 32 then vE var nu 30 e else zX e) && (if hasB p 64 then vC var nu 30 c else zC c) &&
     (decide (n ≤ cl.length) && decide ((cl.length : Int) ≤ n) && cl.all (vCal var nu)) &&
     (decide ((0 : Int) ≤ iv.length) && decide ((iv.length : Int) ≤ mostB p 512 100) && iv.all (vF var nu ex)) &&
     (if hasB p 1024 then sub b else b.isEmpty) && (if hasB p 2048 then sub o else o.isEmpty)
   else false
def vSs (var : List UInt8 → Bool) (nu ex : Int) : Nat → List St → Bool
 | 0,l => l.isEmpty
 | d + 1,l => l.isEmpty || (decide ((1 : Int) ≤ l.length) && decide ((l.length : Int) ≤ 100) && l.all (vSt var nu ex (vSs var nu ex d)))
end Go.Proofs.YtojjfdegkooknaaGreatDoor
namespace Go.Proofs.YtojjfdegkooknaaGreatDoor
set_option maxRecDepth 100000
set_option maxHeartbeats 2000000
open Go.RowKit
theorem phas_any (p x : Int) (w : World) : Calls Tryz.prog 227 #[.int .i64 p,.int .i64 x] w fun e w' => e = .returned (.bool (hasB p x)) ∧ w = w':=by
 unfold hasB
 by_cases h : bits .and .i64 p x = 0
 ·rw [decide_eq_true h]
  go_enter Tryz.func227,Tryz.ntmps227
  go_wp2
  go_ret
  exact ⟨by first | rfl | (simp [h];done),rfl⟩
 ·rw [decide_eq_false h]
  go_enter Tryz.func227,Tryz.ntmps227
  go_wp2
  go_ret
  exact ⟨by first | rfl | (simp [h];done),rfl⟩
theorem most_any (p x n : Int) (w : World) : Calls Tryz.prog 224 #[.int .i64 p,.int .i64 x,.int .i64 n] w fun e w' => e = .returned (.int .i64 (mostB p x n)) ∧ w = w':=by
 have HH : Hid (∀ w,Calls Tryz.prog 227 #[.int .i64 p,.int .i64 x] w fun e w' => e = .returned (.bool (hasB p x)) ∧ w = w'):=Lib.hid (phas_any p x)
 unfold mostB
 generalize hasB p x = b at *
 cases b with
 | false =>
   rw [if_neg Bool.false_ne_true]
   go_enter Tryz.func224,Tryz.ntmps224
   go_wp2_with (go_at_call 227;refine (HH.out _).mono ?_;rintro e w2 ⟨rfl,rfl⟩)
   go_ret
   exact ⟨rfl,rfl⟩
 | true =>
   rw [if_pos rfl]
   go_enter Tryz.func224,Tryz.ntmps224
   go_wp2_with (go_at_call 227;refine (HH.out _).mono ?_;rintro e w2 ⟨rfl,rfl⟩)
   go_ret
   exact ⟨rfl,rfl⟩
theorem most_01 (p x : Int) : 0 ≤ mostB p x 1 ∧ mostB p x 1 ≤ 1:=by unfold mostB;split <;> omega
abbrev posV (ln co : Int) : Value:=.agg #[.int .i64 ln,.int .i64 co]
theorem place_any (ln co : Int) (w : World) : Calls Tryz.prog 156 #[posV ln co] w fun e w' => e = .returned (.bool (vPos ln co)) ∧ Below w.heap.size w w':=by
 have HB:=Lib.hid (below_alloc w (.cells #[.int .i64 ln,.int .i64 co] 40))
 obtain ⟨res,hres⟩ : ∃ res,res = vPos ln co:=⟨_,rfl⟩
 rw [← hres]
 unfold vPos at hres
 by_cases h1 : 0 ≤ ln
 ·by_cases h2 : ln ≤ 65537
  ·by_cases h3 : 0 ≤ co
   ·by_cases h4 : co ≤ 65537
    ·have e : res = true:=by rw [hres,decide_eq_true h1,decide_eq_true h2,decide_eq_true h3,decide_eq_true h4];rfl
     clear hres
     subst e
     go_enter Tryz.func156,Tryz.ntmps156
     go_wp2
     go_ret
     exact ⟨by first | rfl | (simp;done) | (simp;omega),HB.out⟩
    ·have e : res = false:=by rw [hres,decide_eq_false h4];simp
     clear hres
     subst e
     go_enter Tryz.func156,Tryz.ntmps156
     go_wp2
     go_ret
     exact ⟨by first | rfl | (simp;done) | (simp;omega),HB.out⟩
   ·have e : res = false:=by rw [hres,decide_eq_false h3];simp
    clear hres
    subst e
    go_enter Tryz.func156,Tryz.ntmps156
    go_wp2
    go_ret
    exact ⟨by first | rfl | (simp;done) | (simp;omega),HB.out⟩
  ·have e : res = false:=by rw [hres,decide_eq_false h2];simp
   clear hres
   subst e
   go_enter Tryz.func156,Tryz.ntmps156
   go_wp2
   go_ret
   exact ⟨by first | rfl | (simp;done) | (simp;omega),HB.out⟩
 ·have e : res = false:=by rw [hres,decide_eq_false h1];simp
  clear hres
  subst e
  go_enter Tryz.func156,Tryz.ntmps156
  go_wp2
  go_ret
  exact ⟨by first | rfl | (simp;done) | (simp;omega),HB.out⟩
theorem word_any (fv : Nat) (var : List UInt8 → Bool) (hv : VarOk fv var) (nu ex : Int) (s : List UInt8) (v o : Bool) (w : World) (hs : s.length ≤ maxLen) :
 Calls Tryz.prog 249 #[rulesV fv nu ex,.string ⟨s.toArray⟩,.bool v,.bool o] w fun e w' => e = .returned (.bool (vWord var s v o)) ∧ Below w.heap.size w w':=by
 have HB:=Lib.hid (below_alloc w (rulesC fv nu ex))
 have hfv:=hv.enters
 cases v with
 | true =>
   have HV : Hid (∀ w,Calls Tryz.prog fv #[.string ⟨s.toArray⟩] w fun e w' => e = .returned (.bool (vWord var s true o)) ∧ Below w.heap.size w w'):=Lib.hid (fun w => hv.says s w hs)
   generalize vWord var s true o = res at *
   clear hv
   go_enter Tryz.func249,Tryz.ntmps249
   go_wp2_with (with_reducible refine (HV.out _).mono ?_;rintro e w3 ⟨rfl,hb3⟩)
   go_ret
   exact ⟨rfl,HB.out.chain hb3⟩
 | false =>
   cases o with
   | true =>
     have HV : Hid (∀ w,Calls Tryz.prog 125 #[.string ⟨s.toArray⟩] w fun e w' => e = .returned (.bool (vWord var s false true)) ∧ Below w.heap.size w w'):=Lib.hid (fun w => name_any s w hs)
     generalize vWord var s false true = res at *
     clear hv
     go_enter Tryz.func249,Tryz.ntmps249
     go_wp2_with (go_at_call 125;refine (HV.out _).mono ?_;rintro e w3 ⟨rfl,hb3⟩)
     go_ret
     exact ⟨rfl,HB.out.chain hb3⟩
   | false =>
     clear hv
     rcases s with _ | ⟨x,s⟩
     ·go_enter Tryz.func249,Tryz.ntmps249
      go_wp2
      go_ret
      exact ⟨rfl,HB.out⟩
     ·go_enter Tryz.func249,Tryz.ntmps249
      go_wp2
      go_ret
      exact ⟨rfl,HB.out⟩
theorem box3l {W : World} {be : Nat} {r p : ByteArray} {l : Value} (h : W.heap[be]? = some (callC r p l)) :
 W.cell? ⟨be,0,none⟩ = some (.string r) ∧ W.cell? ⟨be,1,none⟩ = some (.string p) ∧ W.cell? ⟨be,2,none⟩ = some l :=
 ⟨cell_of_block h 0 rfl,cell_of_block h 1 rfl,cell_of_block h 2 rfl⟩
theorem call_any (fv : Nat) (var : List UInt8 → Bool) (hv : VarOk fv var) (nu ex : Int) (h0 : 0 ≤ nu) (h1 : nu ≤ 4611686018427387904) (r p : List UInt8) (l : List Ex) (A : Option Addr) (c : Nat) (w : World) (hr : ExRow w w.heap.size l A) (hrl : r.length ≤ maxLen) (hp : p.length ≤ maxLen) (hl : l.length ≤ maxLen) :
 Calls Tryz.prog 233 #[rulesV fv nu ex,callV ⟨r.toArray⟩ ⟨p.toArray⟩ (.slice A l.length c)] w fun e w' => e = .returned (.bool (vCal var nu ⟨r,p,l⟩)) ∧ Below w.heap.size w w':=by
 have HN : Hid (∀ w,Calls Tryz.prog 125 #[.string ⟨p.toArray⟩] w fun e w' => e = .returned (.bool (nameL p)) ∧ Below w.heap.size w w'):=Lib.hid (fun w => name_any p w hp)
 have HR : Hid (∀ w,Calls Tryz.prog fv #[.string ⟨r.toArray⟩] w fun e w' => e = .returned (.bool (var r)) ∧ Below w.heap.size w w'):=Lib.hid (fun w => hv.says r w hrl)
 have HV : Hid (∀ W,Below w.heap.size w W → Calls Tryz.prog 142 #[.slice A l.length c,.int .i64 0,.int .i64 8,.func (.func 141) #[rulesV fv nu ex] #[]] W fun e w' =>
  e = .returned (.bool (decide ((0 : Int) ≤ l.length) && decide ((l.length : Int) ≤ 8) && l.all (vE var nu 30))) ∧ Below W.heap.size W w'):=Lib.hid (fun W hb => vlr_expr fv var hv nu ex h0 h1 l A c 0 8 W hl (hr.on hb))
 have hfv:=hv.enters
 obtain ⟨W1,hW1⟩ : ∃ W1,W1 = (w.alloc (rulesC fv nu ex)).alloc (callC ⟨r.toArray⟩ ⟨p.toArray⟩ (.slice A l.length c)):=⟨_,rfl⟩
 have HB : Hid (Below w.heap.size w W1):=Lib.hid (by rw [hW1];exact (below_alloc w _).chain (below_alloc _ _))
 have q1:=heap_keep (o:=callC ⟨r.toArray⟩ ⟨p.toArray⟩ (.slice A l.length c)) (heap_of_alloc w (rulesC fv nu ex))
 have q2:=heap_of_alloc (w.alloc (rulesC fv nu ex)) (callC ⟨r.toArray⟩ ⟨p.toArray⟩ (.slice A l.length c))
 rw [size_of_alloc] at q2
 rw [← hW1] at q1 q2
 have HQ:=Lib.hid (And.intro q1 q2)
 have he:=enters_of Tryz.func141 (by kernel_rfl) rfl
 unfold vCal
 simp only
 generalize nameL p = np at *
 generalize var r = vr at *
 generalize (decide ((0 : Int) ≤ l.length) && decide ((l.length : Int) ≤ 8) && l.all (vE var nu 30)) = v1 at *
 unfold maxLen at hl hrl hp
 clear q1 q2 hv hr h0 h1
 rcases r with _ | ⟨x,r⟩
 ·cases np with
  | false =>
    go_enter Tryz.func233,Tryz.ntmps233
    go_wp2_with (go_at_call 125;rw [← hW1];clear hW1;refine (HN.out _).mono ?_;rintro e w2 ⟨rfl,hb⟩;have HB2:=Lib.hid (HB.out.chain hb);clear hb)
    go_ret
    exact ⟨rfl,HB2.out⟩
  | true =>
    go_enter Tryz.func233,Tryz.ntmps233
    go_wp2_with (first
     | (go_at_call 125;rw [← hW1];clear hW1;refine (HN.out _).mono ?_;rintro e w2 ⟨rfl,hb⟩;have HB2:=Lib.hid (HB.out.chain hb);obtain ⟨g0,g1,g2⟩:=box3 (kept_box hb HQ.out.1);obtain ⟨y0,y1,y2⟩:=box3l (kept_box hb HQ.out.2);clear hb)
     | (go_at_call 142;refine (HV.out _ HB2.out).mono ?_;rintro e w3 ⟨rfl,hb3⟩;have HB3:=Lib.hid (HB2.out.chain hb3);clear hb3))
    go_ret
    exact ⟨rfl,HB3.out⟩
 ·cases vr with
  | false =>
    go_enter Tryz.func233,Tryz.ntmps233
    go_wp2_with (rw [← hW1];clear hW1;with_reducible refine (HR.out _).mono ?_;rintro e w2 ⟨rfl,hb⟩;have HB2:=Lib.hid (HB.out.chain hb);clear hb)
    go_ret
    exact ⟨rfl,HB2.out⟩
  | true =>
    cases np with
    | false =>
      go_enter Tryz.func233,Tryz.ntmps233
      go_wp2_with (first
       | (go_at_call 125;refine (HN.out _).mono ?_;rintro e w3 ⟨rfl,hb3⟩;have HB3:=Lib.hid (HB2.out.chain hb3);clear hb3)
       | (rw [← hW1];clear hW1;with_reducible refine (HR.out _).mono ?_;rintro e w2 ⟨rfl,hb⟩;have HB2:=Lib.hid (HB.out.chain hb);have HQ2:=Lib.hid (And.intro (kept_box hb HQ.out.1) (kept_box hb HQ.out.2));obtain ⟨g0,g1,g2⟩:=box3 HQ2.out.1;obtain ⟨y0,y1,y2⟩:=box3l HQ2.out.2;clear hb))
      go_ret
      exact ⟨rfl,HB3.out⟩
    | true =>
      go_enter Tryz.func233,Tryz.ntmps233
      go_wp2_with (first
       | (go_at_call 125;refine (HN.out _).mono ?_;rintro e w3 ⟨rfl,hb3⟩;have HB3:=Lib.hid (HB2.out.chain hb3);obtain ⟨i0,i1,i2⟩:=box3 (kept_box hb3 HQ2.out.1);obtain ⟨z0,z1,z2⟩:=box3l (kept_box hb3 HQ2.out.2);clear hb3)
       | (go_at_call 142;refine (HV.out _ HB3.out).mono ?_;rintro e w4 ⟨rfl,hb4⟩;have HB4:=Lib.hid (HB3.out.chain hb4);clear hb4)
       | (rw [← hW1];clear hW1;with_reducible refine (HR.out _).mono ?_;rintro e w2 ⟨rfl,hb⟩;have HB2:=Lib.hid (HB.out.chain hb);have HQ2:=Lib.hid (And.intro (kept_box hb HQ.out.1) (kept_box hb HQ.out.2));obtain ⟨g0,g1,g2⟩:=box3 HQ2.out.1;obtain ⟨y0,y1,y2⟩:=box3l HQ2.out.2;clear hb))
      go_ret
      exact ⟨rfl,HB4.out⟩
end Go.Proofs.YtojjfdegkooknaaGreatDoor
