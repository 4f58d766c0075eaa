import Derived.Test.YtojjfdegkooknaaGreatDoorSTreeO
import Derived.Test.YtojjfdegkooknaaGreatDoorSTreeQ
import Derived.Test.YtojjfdegkooknaaGreatDoorSTreeGf
import Derived.Test.YtojjfdegkooknaaGreatDoorSLexK
import Derived.WalkLawsBesides
set_option linter.unusedVariables false
set_option linter.unusedSimpArgs false
namespace Go.Proofs.YtojjfdegkooknaaGreatDoor
section
abbrev jl:=List UInt8 × Int
abbrev Ck:=Option jl
abbrev jy : List UInt8:=[105,110,116]
abbrev qmY : List UInt8:=[110,117,108,108]
def zQ (b : Bool) (x : Int) (n : List UInt8) : Ck:=if b then none else some (n,x)
def zw : Ck -> Ck -> Ck
 | none,b => b
 | some t,_ => some t
def zJ {α : Type} (f : α -> Ck) : List α -> Ck
 | [] => none
 | x :: l => zw (f x) (zJ f l)
def zH (seen : List (List UInt8)) : List (List UInt8) -> Ck
 | [] => none
 | n :: l => if seen.contains n then some (n,8) else zH (n :: seen) l
def qG {α : Type} (nm : α -> List UInt8) (l : List α) (s : List UInt8) : Option α:=l.find? fun x => nm x == s
theorem yD (c : Ck) : zw none c = c:=rfl
theorem qeq {α : Type} (f : α -> Ck) : ∀ (l m : List α),zJ f (l ++ m) = zw (zJ f l) (zJ f m)
 | [],_ => rfl
 | x :: l,m => by
   show zw (f x) (zJ f (l ++ m)) = zw (zw (f x) (zJ f l)) (zJ f m)
   rw [qeq f l m]
   cases f x <;> rfl
theorem zR {α : Type} (f : α -> Ck) (l : List α) (k : Nat) (x : α) (h : l[k]? = some x) : zJ f (l.take (k + 1)) = zw (zJ f (l.take k)) (f x):=by
 rw [List.take_add_one,h,qeq]
 show zw _ (zw (f x) none) = _
 cases f x <;> rfl
theorem yP {α : Type} (f : α -> Ck) (l : List α) (k : Nat) (x : α) (t : jl) (h : l[k]? = some x) (h0 : zJ f (l.take k) = none) (h1 : f x = some t) : zJ f l = some t:=by
 have e : l = l.take (k + 1) ++ l.drop (k + 1):=(List.take_append_drop ..).symm
 rw [e,qeq,zR f l k x h,h0,h1]
 rfl
def jP (a b : List UInt8) : Bool:=a == b || (a == qmY && b != jy && b != [])
def qm0 (h : Bool) (o : Option Pm) (s : List UInt8) : Except jl (List UInt8) :=
 if h then .error (s,6) else match o with
  | some p => .ok p.t
  | none => .error (s,7)
def vG (sc br : List Pm) (s : List UInt8) : Except jl (List UInt8):=qm0 (qG (·.nm) br s).isSome (qG (·.nm) sc s) s
mutual
def yZ (sc br : List Pm) : Ex -> Except jl (List UInt8)
 | .mk k _ s l => if k = 2 then vG sc br s else if k = 3 then .ok qmY else match jM sc br l with
   | none => .ok jy
   | some t => .error t
def jM (sc br : List Pm) : List Ex -> Ck
 | [] => none
 | x :: l => match yZ sc br x with
   | .error t => some t
   | .ok y => zw (zQ (y == jy) 9 []) (jM sc br l)
end
def exC (sc br : List Pm) (x : Ex) : Ck:=match yZ sc br x with
 | .error t => some t
 | .ok y => zQ (y == jy) 9 []
theorem qmh (sc br : List Pm) : ∀ l : List Ex,jM sc br l = zJ (exC sc br) l
 | [] => by rw [jM];rfl
 | x :: l => by
   rw [jM,qmh sc br l]
   show _ = zw (exC sc br x) (zJ (exC sc br) l)
   unfold exC
   cases yZ sc br x <;> rfl
def qcn (sc br : List Pm) (k : Int) (a b : Ex) : Ck:=match yZ sc br a with
 | .error t => some t
 | .ok x => match yZ sc br b with
   | .error t => some t
   | .ok y => zQ (if k = 1 \/ k = 2 then jP x y || jP y x else (x == jy && y == jy)) 9 []
def tyQ (u : List UInt8) (q : Option Rc) : Ck:=if u = jy then none else match q with
 | some _ => none
 | none => some (u,7)
def tyC (rs : List Rc) (x : Pm) : Ck:=tyQ x.t (qG (·.nm) rs x.t)
theorem qsi (u : List UInt8) (q : Option Rc) (h : u = jy) : tyQ u q = none:=if_pos h
theorem qpO (u : List UInt8) (y : Rc) : tyQ u (some y) = none:=by
 unfold tyQ
 split <;> rfl
theorem qpP (u : List UInt8) (h : ¬ u = jy) : tyQ u none = some (u,7):=if_neg h
def jU (rs : List Rc) (l : List Pm) : Ck:=zJ (tyC rs) l
def yU (rs : List Rc) (l : List Pm) : Ck:=zw (zH [] (l.map fun x => x.nm)) (jU rs l)
def Ixd {α : Type} (p : α -> Bool) (l : List α) (q : Int) : Prop:=(q = -1 /\ l.find? p = none) \/ ∃ (i : Nat) (x : α),q = i /\ l[i]? = some x /\ l.find? p = some x
theorem qaM {α : Type} (p : α -> Bool) : ∀ (l : List α) (i : Nat) (x : α),l[i]? = some x -> (l.take i).all (fun y => !p y) = true -> p x = true -> l.find? p = some x
 | y :: l,0,x,h,_,hp => by
   obtain rfl : y = x:=Option.some.inj h
   simp [hp]
 | y :: l,i + 1,x,h,ha,hp => by
   rw [List.take_succ_cons,List.all_cons,Bool.and_eq_true_iff] at ha
   rw [List.find?_cons_of_neg (by simpa using ha.1)]
   exact qaM p l i x h ha.2 hp
 | [],i,x,h,_,_ => by simp at h
theorem qbv {α : Type} (p : α -> Bool) (l : List α) (ha : l.all (fun y => !p y) = true) : l.find? p = none :=
 List.find?_eq_none.2 fun x hx => by simpa using List.all_eq_true.1 ha x hx
theorem qae : ∀ (l : List (List UInt8)) (seen : List (List UInt8)) (k : Nat) (n : List UInt8),l[k]? = some n -> zH seen (l.take k) = none ->
 ((n ∈ seen \/ n ∈ l.take k) -> zH seen l = some (n,8)) /\ (¬ (n ∈ seen \/ n ∈ l.take k) -> zH seen (l.take (k + 1)) = none)
 | y :: l,seen,0,n,h,_ => by
   obtain rfl : y = n:=Option.some.inj h
   refine ⟨fun hs => ?_,fun hs => ?_⟩
   ·have h1 : seen.contains y = true:=by simpa using hs
    rw [zH,if_pos h1]
   ·have h1 : ¬ seen.contains y = true:=by simpa using hs
    rw [List.take_succ_cons,List.take_zero,zH,if_neg h1]
    rfl
 | y :: l,seen,k + 1,n,h,h0 => by
   rw [List.take_succ_cons] at h0
   unfold zH at h0
   split at h0
   ·cases h0
   ·rename_i hy
    obtain ⟨i1,i2⟩:=qae l (y :: seen) k n h h0
    rw [List.take_succ_cons,List.take_succ_cons]
    refine ⟨fun hs => ?_,fun hs => ?_⟩
    ·rw [zH,if_neg hy]
     refine i1 ?_
     rcases hs with hs | hs
     ·exact .inl (List.mem_cons_of_mem _ hs)
     ·rcases List.mem_cons.1 hs with rfl | hs
      ·exact .inl (List.mem_cons_self ..)
      ·exact .inr hs
    ·rw [zH,if_neg hy]
     refine i2 fun hc => hs ?_
     rcases hc with hc | hc
     ·rcases List.mem_cons.1 hc with rfl | hc
      ·exact .inr (List.mem_cons_self ..)
      ·exact .inl hc
     ·exact .inr (List.mem_cons_of_mem _ hc)
 | [],_,_,_,h,_ => by simp at h
end
section
set_option maxRecDepth 100000
open Go.RowKit
theorem zI {W : World} {cs : Array Value} {t : TypeId} {N b : Nat} (h : W.heap[b]? = some (.cells cs t (0,0))) (hN : cs.size = N) : (loadCellsFrom ⟨b,0,none⟩ 0 N #[]).run Tryz.prog W = .ok cs W :=
 qZ (a:=⟨b,0,none⟩) (fun j v hv => by rw [zD];exact qc h j hv) hN
theorem xF {w : World} {t : TypeId} {zc cs : Array Value} (hs : zc.size = cs.size) (h1 : cs.all (·.oneCell') = true) : (storeCells ⟨w.heap.size,0,none⟩ cs.toList).run Tryz.prog (w.alloc (.cells zc t)) = .ok () (w.alloc (.cells cs t)):=by
 have := zl (b:=w.heap.size) (qe w (.cells zc t)) hs h1
 rw [World.setRow_alloc_new] at this
 exact this
theorem jh {α : Type} {V : World -> Nat -> Array Value -> α -> Prop} (hV : ju V) {w w' : World} {B0 B1 : Nat} (hB : B0 <= w.heap.size) (hB1 : B0 <= B1) (hb : Below w.heap.size w w') {cs : Array Value} {x : α} (h : V w B0 cs x) : V w' B1 cs x :=
 hV _ _ _ _ _ _ (fun _ hq => hb.cell (Nat.lt_of_lt_of_le hq hB)) hB1 h
theorem yB {α : Type} {V : World -> Nat -> Array Value -> α -> Prop} (hV : ju V) {n : Nat} {w w' : World} {B0 : Nat} (hB : B0 <= w.heap.size) (hb : Below w.heap.size w w') {l : List α} {A : Option Addr} (h : qD V n w B0 l A) : qD V n w' B0 l A:=by
 intro i x hi
 obtain ⟨a,cs,h1,h2,h3,h4,h5⟩:=h i x hi
 exact ⟨a,cs,h1,h2,h3,fun j v hv => (hb.cell (by rw [qm,qm];exact Nat.lt_of_lt_of_le h2 hB)).trans (h4 j v hv),jh hV hB (Nat.le_refl _) hb h5⟩
theorem qds {W W' : World} {b n : Nat} {D : DataW Unit} (h : zn W b n D) (hb : Below W.heap.size W W') : zn W' b n D:=h.kept (row:=none) ⟨hb.os,hb.tape,hb.output,hb.size,fun k hk _ => hb.block k hk⟩ (by simp)
theorem qch (l : List (List UInt8)) (x : List UInt8) : kwD (l ++ [x]) = (kwD l).put (.string x) (.lit (.bool true)):=by
 unfold kwD
 rw [List.foldl_append]
 rfl
def xm {α : Type} (F : Nat) (V : World -> Nat -> Array Value -> α -> Prop) (nm : α -> List UInt8) : Prop :=
 ∀ (x : α) (cs : Array Value) (w : World),V w w.heap.size cs x -> Calls Tryz.prog F #[.agg cs] w fun e w' => e = .returned (.string ⟨(nm x).toArray⟩) /\ Below w.heap.size w w'
abbrev qfI (t : jl) : Value:=.iface 116 (.agg #[.string ⟨t.1.toArray⟩,.int .i64 t.2])
def qbe (c : Ck) (e : Ending) : Prop :=
 match c with
 | none => e = .returned (.tuple #[])
 | some t => e = .panicked [{ v:=qfI t,recovered:=false }]
def qV (c : Ck) (w : World) (e : Ending) (w' : World) : Prop:=qbe c e /\ Below w.heap.size w w'
def qdl {α : Type} (V : World -> Nat -> Array Value -> α -> Prop) (z : Array Value) (o : Option α) (B0 : Nat) (w : World) (e : Ending) (w' : World) : Prop :=
 (∃ (cs : Array Value) (b : Bool),e = .returned (.tuple #[.agg cs,.bool b]) /\ ((b = false /\ cs = z /\ o = none) \/ (b = true /\ ∃ x,o = some x /\ V w' B0 cs x))) /\ Below w.heap.size w w'
def jr {α : Type} (V : World -> Nat -> Array Value -> α -> Prop) (s : List UInt8) (o : Option α) (B0 : Nat) (w : World) (e : Ending) (w' : World) : Prop :=
 ((∃ (cs : Array Value) (x : α),e = .returned (.agg cs) /\ o = some x /\ V w' B0 cs x) \/ (o = none /\ e = .panicked [{ v:=qfI (s,7),recovered:=false }])) /\ Below w.heap.size w w'
def quo (r : Except jl (List UInt8)) (e : Ending) : Prop :=
 match r with
 | .ok s => e = .returned (.string ⟨s.toArray⟩)
 | .error t => e = .panicked [{ v:=qfI t,recovered:=false }]
def jH (r : Except jl (List UInt8)) (w : World) (e : Ending) (w' : World) : Prop:=quo r e /\ Below w.heap.size w w'
theorem yz {P : Program} {fn : Func} {p q : Tmp} {ty : TypeId} (h : fn.results = #[.cell p ty,.tmp q]) (tmps : Array Value) (w : World) (g : Nat) (t : TypeId) (cs : Array Value) (fr : Nat × Nat) (d : TypeDesc)
 (hp : tmps.getD p undef = .pointer (some ⟨g,0,none⟩)) (hg : w.heap[g]? = some (.cells cs t fr)) (hu : P.underlying ty = some d) (hd : (match d with | .struct _ | .array _ _ => true | _ => false) = true) (hi : (P.info? ty).map (·.size) = some cs.size) :
 (results fn tmps).run P w = .ok (.tuple #[.agg cs,tmps.getD q undef]) w:=by
 have hp' : tmps[p]?.getD undef = .pointer (some ⟨g,0,none⟩):=by simpa using hp
 simp [results,h,hp',asAddr,run_loadVar_row w g t ty cs fr d hg hu hd hi]
theorem qU (b : Bool) (x : Int) (n : List UInt8) (w : World) : Calls Tryz.prog 69 #[.bool b,.int .i64 x,.string ⟨n.toArray⟩] w fun e w' => qbe (zQ b x n) e /\ w' = w:=by
 cases b
 ·go_enter Tryz.func69,Tryz.ntmps69
  go_wp2
  exact ⟨rfl,rfl,rfl⟩
 ·go_enter Tryz.func69,Tryz.ntmps69
  go_wp2
  exact bodyPost_end (results_none rfl _ _ _) rfl ⟨rfl,rfl⟩
end
end Go.Proofs.YtojjfdegkooknaaGreatDoor
