import Derived.Test.YtojjfdegkooknaaGreatDoorQTreeO
import Derived.Test.YtojjfdegkooknaaGreatDoorQTreeQ
import Derived.Test.YtojjfdegkooknaaGreatDoorQTreeGf
import Derived.Test.YtojjfdegkooknaaGreatDoorQLexK
import Derived.WalkLawsBesides
set_option linter.unusedVariables false
set_option linter.unusedSimpArgs false
namespace Go.Proofs.YtojjfdegkooknaaGreatDoor
abbrev Thr:=List UInt8 × Int
abbrev Ck:=Option Thr
abbrev intB : List UInt8:=[105,110,116]
abbrev nullB : List UInt8:=[110,117,108,108]
def demC (b : Bool) (x : Int) (n : List UInt8) : Ck:=if b then none else some (n,x)
def seqC : Ck → Ck → Ck
 | none,b => b
 | some t,_ => some t
def allC {α : Type} (f : α → Ck) : List α → Ck
 | [] => none
 | x :: l => seqC (f x) (allC f l)
def diffC (seen : List (List UInt8)) : List (List UInt8) → Ck
 | [] => none
 | n :: l => if seen.contains n then some (n,8) else diffC (n :: seen) l
def fstO {α : Type} (nm : α → List UInt8) (l : List α) (s : List UInt8) : Option α:=l.find? fun x => nm x == s
theorem allC_append {α : Type} (f : α → Ck) : ∀ (l m : List α),allC f (l ++ m) = seqC (allC f l) (allC f m)
 | [],_ => rfl
 | x :: l,m => by
   show seqC (f x) (allC f (l ++ m)) = seqC (seqC (f x) (allC f l)) (allC f m)
   rw [allC_append f l m]
   cases f x <;> rfl
theorem allC_take_succ {α : Type} (f : α → Ck) (l : List α) (k : Nat) (x : α) (h : l[k]? = some x) : allC f (l.take (k + 1)) = seqC (allC f (l.take k)) (f x):=by
 rw [List.take_add_one,h,allC_append]
 show seqC _ (seqC (f x) none) = _
 cases f x <;> rfl
theorem allC_some {α : Type} (f : α → Ck) (l : List α) (k : Nat) (x : α) (t : Thr) (h : l[k]? = some x) (h0 : allC f (l.take k) = none) (h1 : f x = some t) : allC f l = some t:=by
 have e : l = l.take (k + 1) ++ l.drop (k + 1):=(List.take_append_drop ..).symm
 rw [e,allC_append,allC_take_succ f l k x h,h0,h1]
 rfl
def fitsB (a b : List UInt8) : Bool:=a == b || (a == nullB && b != intB && b != [])
def kindO (h : Bool) (o : Option Pm) (s : List UInt8) : Except Thr (List UInt8) :=
 if h then .error (s,6) else match o with
  | some p => .ok p.t
  | none => .error (s,7)
def kindE (sc br : List Pm) (s : List UInt8) : Except Thr (List UInt8):=kindO (fstO (·.nm) br s).isSome (fstO (·.nm) sc s) s
mutual
def exT (sc br : List Pm) : Ex → Except Thr (List UInt8)
 | .mk k _ s l => if k = 2 then kindE sc br s else if k = 3 then .ok nullB else match exLs sc br l with
   | none => .ok intB
   | some t => .error t
def exLs (sc br : List Pm) : List Ex → Ck
 | [] => none
 | x :: l => match exT sc br x with
   | .error t => some t
   | .ok y => seqC (demC (y == intB) 9 []) (exLs sc br l)
end
def exC (sc br : List Pm) (x : Ex) : Ck:=match exT sc br x with
 | .error t => some t
 | .ok y => demC (y == intB) 9 []
theorem exLs_eq (sc br : List Pm) : ∀ l : List Ex,exLs sc br l = allC (exC sc br) l
 | [] => by rw [exLs];rfl
 | x :: l => by
   rw [exLs,exLs_eq sc br l]
   show _ = seqC (exC sc br x) (allC (exC sc br) l)
   unfold exC
   cases exT sc br x <;> rfl
def cmpC (sc br : List Pm) (k : Int) (a b : Ex) : Ck:=match exT sc br a with
 | .error t => some t
 | .ok x => match exT sc br b with
   | .error t => some t
   | .ok y => demC (if k = 1 ∨ k = 2 then fitsB x y || fitsB y x else (x == intB && y == intB)) 9 []
def tyQ (u : List UInt8) (q : Option Rc) : Ck:=if u = intB then none else match q with
 | some _ => none
 | none => some (u,7)
def tyC (rs : List Rc) (x : Pm) : Ck:=tyQ x.t (fstO (·.nm) rs x.t)
theorem tyQ_int (u : List UInt8) (q : Option Rc) (h : u = intB) : tyQ u q = none:=if_pos h
theorem tyQ_some (u : List UInt8) (y : Rc) : tyQ u (some y) = none:=by
 unfold tyQ
 split <;> rfl
theorem tyQ_none (u : List UInt8) (h : ¬ u = intB) : tyQ u none = some (u,7):=if_neg h
def tysC (rs : List Rc) (l : List Pm) : Ck:=allC (tyC rs) l
def paramsC (rs : List Rc) (l : List Pm) : Ck:=seqC (diffC [] (l.map fun x => x.nm)) (tysC rs l)
def Ixd {α : Type} (p : α → Bool) (l : List α) (q : Int) : Prop:=(q = -1 ∧ l.find? p = none) ∨ ∃ (i : Nat) (x : α),q = i ∧ l[i]? = some x ∧ l.find? p = some x
theorem find_take {α : Type} (p : α → Bool) : ∀ (l : List α) (i : Nat) (x : α),l[i]? = some x → (l.take i).all (fun y => !p y) = true → p x = true → l.find? p = some x
 | y :: l,0,x,h,_,hp => by
   obtain rfl : y = x:=Option.some.inj h
   simp [hp]
 | y :: l,i + 1,x,h,ha,hp => by
   rw [List.take_succ_cons,List.all_cons,Bool.and_eq_true_iff] at ha
   rw [List.find?_cons_of_neg (by simpa using ha.1)]
   exact find_take p l i x h ha.2 hp
 | [],i,x,h,_,_ => by simp at h
theorem find_none {α : Type} (p : α → Bool) (l : List α) (ha : l.all (fun y => !p y) = true) : l.find? p = none :=
 List.find?_eq_none.2 fun x hx => by simpa using List.all_eq_true.1 ha x hx
theorem diffC_take : ∀ (l : List (List UInt8)) (seen : List (List UInt8)) (k : Nat) (n : List UInt8),l[k]? = some n → diffC seen (l.take k) = none →
 ((n ∈ seen ∨ n ∈ l.take k) → diffC seen l = some (n,8)) ∧ (¬ (n ∈ seen ∨ n ∈ l.take k) → diffC seen (l.take (k + 1)) = none)
 | y :: l,seen,0,n,h,_ => by
   obtain rfl : y = n:=Option.some.inj h
   refine ⟨fun hs => ?_,fun hs => ?_⟩
   ·have h1 : seen.contains y = true:=by simpa using hs
    rw [diffC,if_pos h1]
   ·have h1 : ¬ seen.contains y = true:=by simpa using hs
    rw [List.take_succ_cons,List.take_zero,diffC,if_neg h1]
    rfl
 | y :: l,seen,k + 1,n,h,h0 => by
   rw [List.take_succ_cons] at h0
   unfold diffC at h0
   split at h0
   ·cases h0
   ·rename_i hy
    obtain ⟨i1,i2⟩:=diffC_take l (y :: seen) k n h h0
    rw [List.take_succ_cons,List.take_succ_cons]
    refine ⟨fun hs => ?_,fun hs => ?_⟩
    ·rw [diffC,if_neg hy]
     refine i1 ?_
     rcases hs with hs | hs
     ·exact .inl (List.mem_cons_of_mem _ hs)
     ·rcases List.mem_cons.1 hs with rfl | hs
      ·exact .inl (List.mem_cons_self ..)
      ·exact .inr hs
    ·rw [diffC,if_neg hy]
     refine i2 fun hc => hs ?_
     rcases hc with hc | hc
     ·rcases List.mem_cons.1 hc with rfl | hc
      ·exact .inr (List.mem_cons_self ..)
      ·exact .inl hc
     ·exact .inr (List.mem_cons_of_mem _ hc)
 | [],_,_,_,h,_ => by simp at h
end Go.Proofs.YtojjfdegkooknaaGreatDoor
namespace Go.Proofs.YtojjfdegkooknaaGreatDoor
set_option maxRecDepth 100000
open Go.RowKit
theorem ld_new {W : World} {cs : Array Value} {t : TypeId} {N b : Nat} (h : W.heap[b]? = some (.cells cs t (0,0))) (hN : cs.size = N) : (loadCellsFrom ⟨b,0,none⟩ 0 N #[]).run Tryz.prog W = .ok cs W :=
 load_list (a:=⟨b,0,none⟩) (fun j v hv => by rw [add_block0];exact cell_of_block h j hv) hN
theorem st_new {w : World} {t : TypeId} {zc cs : Array Value} (hs : zc.size = cs.size) (h1 : cs.all (·.oneCell') = true) : (storeCells ⟨w.heap.size,0,none⟩ cs.toList).run Tryz.prog (w.alloc (.cells zc t)) = .ok () (w.alloc (.cells cs t)):=by
 have := store_row (b:=w.heap.size) (heap_of_alloc w (.cells zc t)) hs h1
 rw [World.setRow_alloc_new] at this
 exact this
theorem keptB {α : Type} {V : World → Nat → Array Value → α → Prop} (hV : KeepsV V) {w w' : World} {B0 B1 : Nat} (hB : B0 ≤ w.heap.size) (hB1 : B0 ≤ B1) (hb : Below w.heap.size w w') {cs : Array Value} {x : α} (h : V w B0 cs x) : V w' B1 cs x :=
 hV _ _ _ _ _ _ (fun _ hq => hb.cell (Nat.lt_of_lt_of_le hq hB)) hB1 h
theorem rowB {α : Type} {V : World → Nat → Array Value → α → Prop} (hV : KeepsV V) {n : Nat} {w w' : World} {B0 : Nat} (hB : B0 ≤ w.heap.size) (hb : Below w.heap.size w w') {l : List α} {A : Option Addr} (h : RowV V n w B0 l A) : RowV V n w' B0 l A:=by
 intro i x hi
 obtain ⟨a,cs,h1,h2,h3,h4,h5⟩:=h i x hi
 exact ⟨a,cs,h1,h2,h3,fun j v hv => (hb.cell (by rw [block_adds,block_adds];exact Nat.lt_of_lt_of_le h2 hB)).trans (h4 j v hv),keptB hV hB (Nat.le_refl _) hb h5⟩
theorem own_on {W W' : World} {b n : Nat} {D : DataW Unit} (h : NamesAt W b n D) (hb : Below W.heap.size W W') : NamesAt W' b n D:=h.kept (row:=none) ⟨hb.os,hb.tape,hb.output,hb.size,fun k hk _ => hb.block k hk⟩ (by simp)
theorem kwD_snoc (l : List (List UInt8)) (x : List UInt8) : kwD (l ++ [x]) = (kwD l).put (.string x) (.lit (.bool true)):=by
 unfold kwD
 rw [List.foldl_append]
 rfl
def NmAt {α : Type} (F : Nat) (V : World → Nat → Array Value → α → Prop) (nm : α → List UInt8) : Prop :=
 ∀ (x : α) (cs : Array Value) (w : World),V w w.heap.size cs x → Calls Tryz.prog F #[.agg cs] w fun e w' => e = .returned (.string ⟨(nm x).toArray⟩) ∧ Below w.heap.size w w'
abbrev thrV (t : Thr) : Value:=.iface 116 (.agg #[.string ⟨t.1.toArray⟩,.int .i64 t.2])
def CkEnd (c : Ck) (e : Ending) : Prop :=
 match c with
 | none => e = .returned (.tuple #[])
 | some t => e = .panicked [{ v:=thrV t,recovered:=false }]
def CkPost (c : Ck) (w : World) (e : Ending) (w' : World) : Prop:=CkEnd c e ∧ Below w.heap.size w w'
def FstPost {α : Type} (V : World → Nat → Array Value → α → Prop) (z : Array Value) (o : Option α) (B0 : Nat) (w : World) (e : Ending) (w' : World) : Prop :=
 (∃ (cs : Array Value) (b : Bool),e = .returned (.tuple #[.agg cs,.bool b]) ∧ ((b = false ∧ cs = z ∧ o = none) ∨ (b = true ∧ ∃ x,o = some x ∧ V w' B0 cs x))) ∧ Below w.heap.size w w'
def FndPost {α : Type} (V : World → Nat → Array Value → α → Prop) (s : List UInt8) (o : Option α) (B0 : Nat) (w : World) (e : Ending) (w' : World) : Prop :=
 ((∃ (cs : Array Value) (x : α),e = .returned (.agg cs) ∧ o = some x ∧ V w' B0 cs x) ∨ (o = none ∧ e = .panicked [{ v:=thrV (s,7),recovered:=false }])) ∧ Below w.heap.size w w'
def StrEnd (r : Except Thr (List UInt8)) (e : Ending) : Prop :=
 match r with
 | .ok s => e = .returned (.string ⟨s.toArray⟩)
 | .error t => e = .panicked [{ v:=thrV t,recovered:=false }]
def StrPost (r : Except Thr (List UInt8)) (w : World) (e : Ending) (w' : World) : Prop:=StrEnd r e ∧ Below w.heap.size w w'
theorem results_row_tmp {P : Program} {fn : Func} {p q : Tmp} {ty : TypeId} (h : fn.results = #[.cell p ty,.tmp q]) (tmps : Array Value) (w : World) (g : Nat) (t : TypeId) (cs : Array Value) (fr : Nat × Nat) (d : TypeDesc)
 (hp : tmps.getD p undef = .pointer (some ⟨g,0,none⟩)) (hg : w.heap[g]? = some (.cells cs t fr)) (hu : P.underlying ty = some d) (hd : (match d with | .struct _ | .array _ _ => true | _ => false) = true) (hi : (P.info? ty).map (·.size) = some cs.size) :
 (results fn tmps).run P w = .ok (.tuple #[.agg cs,tmps.getD q undef]) w:=by
 have hp' : tmps[p]?.getD undef = .pointer (some ⟨g,0,none⟩):=by simpa using hp
 simp [results,h,hp',asAddr,run_loadVar_row w g t ty cs fr d hg hu hd hi]
theorem demand_any (b : Bool) (x : Int) (n : List UInt8) (w : World) : Calls Tryz.prog 69 #[.bool b,.int .i64 x,.string ⟨n.toArray⟩] w fun e w' => CkEnd (demC b x n) e ∧ w' = w:=by
 cases b
 ·go_enter Tryz.func69,Tryz.ntmps69
  go_wp2
  exact ⟨rfl,rfl,rfl⟩
 ·go_enter Tryz.func69,Tryz.ntmps69
  go_wp2
  exact bodyPost_end (results_none rfl _ _ _) rfl ⟨rfl,rfl⟩
end Go.Proofs.YtojjfdegkooknaaGreatDoor
