import Derived.Test.YtojjfdegkooknaaGreatDoorQTreeCa
import Derived.Test.YtojjfdegkooknaaGreatDoorQTreeQ
set_option linter.unusedVariables false
set_option linter.unusedSimpArgs false
namespace Go.Proofs.YtojjfdegkooknaaGreatDoor
set_option maxRecDepth 100000
set_option maxHeartbeats 1000000
open Go.RowKit
def CopyV {α : Type} (V : World → Nat → Array Value → α → Prop) (n : Nat) (x : α) (w : World) (e : Ending) (w' : World) : Prop :=
 ∃ cs : Array Value,e = .returned (.agg cs) ∧ cs.size = n ∧ cs.all (·.oneCell') = true ∧ VInC V (fun b => w.heap.size ≤ b) w' cs x ∧ Below w.heap.size w w'
def CopyRow {α : Type} (V : World → Nat → Array Value → α → Prop) (n : Nat) (l : List α) (w : World) (e : Ending) (w' : World) : Prop :=
 ∃ (A : Option Addr) (c : Nat),e = .returned (.slice A l.length c) ∧ RowInC V n (fun b => w.heap.size ≤ b) w' l A ∧ Below w.heap.size w w'
theorem rowIn_nil {α : Type} (V : World → Nat → Array Value → α → Prop) (n : Nat) (S : Nat → Prop) (w : World) (A : Option Addr) : RowInC V n S w [] A :=
 ⟨World.mask w S,mask_in w S,fun i x hi => by simp at hi⟩
theorem row_ins {α : Type} {V : World → Nat → Array Value → α → Prop} {n : Nat} {w : World} {B : Nat} {l : List α} {a : Addr} (h : RowV V n w B l (some a)) :
 ∃ ins : List (Array Value),ins.length = l.length ∧ ∀ i cs,ins[i]? = some cs → ∃ x,l[i]? = some x ∧ cs.size = n ∧ (∀ (j : Nat) v,cs[j]? = some v → w.cell? ((a.add (i * n)).add j) = some v) ∧ V w B cs x:=by
 have h1 : ∀ i : Nat,∃ cs : Array Value,∀ x,l[i]? = some x → cs.size = n ∧ (∀ (j : Nat) v,cs[j]? = some v → w.cell? ((a.add (i * n)).add j) = some v) ∧ V w B cs x:=by
  intro i
  cases e : l[i]? with
  | none => exact ⟨#[],fun x hx => by cases hx⟩
  | some x =>
    obtain ⟨a',cs,ha,_,h2,h3,h4⟩:=h i x e
    obtain rfl:=Option.some.inj ha
    exact ⟨cs,fun y hy => by obtain rfl:=Option.some.inj hy;exact ⟨h2,h3,h4⟩⟩
 obtain ⟨f,hf⟩:=Classical.axiomOfChoice h1
 refine ⟨(List.range l.length).map f,by simp,fun i cs hi => ?_⟩
 have hlt : i < l.length:=by have := (List.getElem?_eq_some_iff.1 hi).1;simpa using this
 rw [List.getElem?_map,List.getElem?_range hlt] at hi
 obtain rfl:=Option.some.inj hi
 exact ⟨l[i],List.getElem?_eq_getElem hlt,hf i _ (List.getElem?_eq_getElem hlt)⟩
theorem vex_subs : SubsV VEx:=by
 rintro w0 w B cs x hs ⟨k,n,s,l,A,c,h1,h2,h3,h4,h5⟩
 exact ⟨k,n,s,l,A,c,h1,h2,h3,h4,h5.sub hs⟩
theorem vcn_subs : SubsV VCn:=by
 rintro w0 w B cs x hs ⟨k,ak,an,sa,al,bk,bn,sb,bl,l,Aa,ca,Ab,cb,Al,cl,h1,h2,h3,h4,h5,h6⟩
 exact ⟨k,ak,an,sa,al,bk,bn,sb,bl,l,Aa,ca,Ab,cb,Al,cl,h1,h2,h3,h4.sub hs,h5.sub hs,h6.sub hs⟩
theorem vat_subs : SubsV VAt:=by
 rintro w0 w B cs x hs ⟨ak,an,sa,al,bk,bn,sb,bl,Aa,ca,Ab,cb,h1,h2,h3,h4,h5,h6⟩
 exact ⟨ak,an,sa,al,bk,bn,sb,bl,Aa,ca,Ab,cb,h1,h2,h3,h4,h5.sub hs,h6.sub hs⟩
theorem vcl_subs : SubsV VCl:=by
 rintro w0 w B cs x hs ⟨A,c,h1,h2,h3,h4,h5⟩
 exact ⟨A,c,h1,h2,h3,h4.sub hs,h5⟩
theorem vcal_subs : SubsV VCal:=by
 rintro w0 w B cs x hs ⟨A,c,h1,h2,h3,h4,h5⟩
 exact ⟨A,c,h1,h2,h3,h4,h5.sub hs⟩
theorem vfm_subs : SubsV VFm:=by
 rintro w0 w B cs x hs ⟨d,h1,h2,h3,h4,h5⟩
 exact ⟨d,h1,h2,h3.sub pm_subs hs,h4.sub at_subs hs,h5.sub cl_subs hs⟩
theorem vex_one {w : World} {B : Nat} {cs : Array Value} {x : Ex} (h : VEx w B cs x) : cs.all (·.oneCell') = true:=by
 obtain ⟨k,n,s,l,A,c,h1,rfl,_⟩:=h
 rw [List.all_toArray];rfl
theorem vcn_one {w : World} {B : Nat} {cs : Array Value} {x : Cn} (h : VCn w B cs x) : cs.all (·.oneCell') = true:=by
 obtain ⟨k,ak,an,sa,al,bk,bn,sb,bl,l,Aa,ca,Ab,cb,Al,cl,h1,rfl,_⟩:=h
 rw [List.all_toArray];rfl
theorem vat_one {w : World} {B : Nat} {cs : Array Value} {x : At} (h : VAt w B cs x) : cs.all (·.oneCell') = true:=by
 obtain ⟨ak,an,sa,al,bk,bn,sb,bl,Aa,ca,Ab,cb,h1,h2,rfl,_⟩:=h
 rw [List.all_toArray];rfl
theorem vcl_one {w : World} {B : Nat} {cs : Array Value} {x : Cl} (h : VCl w B cs x) : cs.all (·.oneCell') = true:=by
 obtain ⟨A,c,rfl,_⟩:=h
 rw [List.all_toArray];rfl
theorem vcal_one {w : World} {B : Nat} {cs : Array Value} {x : Cal} (h : VCal w B cs x) : cs.all (·.oneCell') = true:=by
 obtain ⟨A,c,rfl,_⟩:=h
 rw [List.all_toArray];rfl
theorem vfm_one {w : World} {B : Nat} {cs : Array Value} {x : Fm} (h : VFm w B cs x) : cs.all (·.oneCell') = true:=by
 obtain ⟨d,rfl,_⟩:=h
 rw [List.all_toArray];rfl
theorem clist_Expr (l : List Ex) (A : Option Addr) (c : Nat) (w : World) (hr : RowV VEx 4 w w.heap.size l A) (hb : l.length * 56 ≤ 140737488355328)
 (hF : ∀ x ∈ l,∀ cs W,Below w.heap.size w W → VEx W W.heap.size cs x → Calls Tryz.prog 120 #[.agg cs] W (CopyV VEx 4 x W)) :
 Calls Tryz.prog 121 #[.slice A l.length c,.func (.func 120) #[] #[]] w (CopyRow VEx 4 l w):=by
 cases A with
 | none =>
   have hl : l = []:=by
    cases l with
    | nil => rfl
    | cons x l => obtain ⟨a,cs,ha,_⟩:=hr 0 x rfl;cases ha
   subst hl
   have hq:=Lib.run_eql_slice_nil (P:=Tryz.prog) w 82 84 none 0 c 0 0 Tryz.underlying82
   clear hr hb hF
   go_enter Tryz.func121,Tryz.ntmps121
   go_wp2
   go_ret
   exact ⟨none,0,rfl,rowIn_nil _ _ _ _ _,Below.refl _ _⟩
 | some a =>
   obtain ⟨ins,hlen,hin⟩:=row_ins hr
   refine (copyList_Expr (fun i B cs W => ∃ x,l[i]? = some x ∧ VInC VEx (fun b => B ≤ b) W cs x) (fun i => ⟨fun B v W W' ⟨x,h1,h2⟩ hp => ⟨x,h1,(vin_stays VEx x).part B v W W' h2 hp⟩,fun B B' v W ⟨x,h1,h2⟩ hB => ⟨x,h1,(vin_stays VEx x).mono B B' v W h2 hB⟩⟩) ins
    (fun cs hcs => by obtain ⟨i,hi,rfl⟩:=List.getElem_of_mem hcs;obtain ⟨x,_,h2,_⟩:=hin i _ (List.getElem?_eq_getElem hi);exact h2) (fun i cs hi => by obtain ⟨x,_,_,_,h4⟩:=hin i cs hi;exact vex_one h4) a l.length c w hb hlen (fun h0 => by
      obtain ⟨a',cs,ha,h1,_⟩:=hr 0 l[0] (List.getElem?_eq_getElem h0)
      obtain rfl:=Option.some.inj ha
      exact h1) (fun i cs hi j v hj => by obtain ⟨x,_,_,h3,_⟩:=hin i cs hi;exact h3 j v hj) (fun i cs W hi hW => by
      obtain ⟨x,h1,h2,h3,h4⟩:=hin i cs hi
      refine (hF x (List.mem_of_getElem? h1) cs W hW (vex_keeps _ _ _ _ _ _ (fun _ hq => hW.cell hq) hW.size h4)).mono ?_
      rintro e w' ⟨cs',e1,e2,e3,e4,e5⟩
      exact ⟨cs',e1,e2,e3,⟨x,h1,e4⟩,e5⟩)).mono ?_
   rintro e w' ⟨outs,rfl,hcp⟩
   exact ⟨_,_,rfl,hcp.rowIn vex_subs rfl (fun i x B cs hi hR => by obtain ⟨y,h1,h2⟩:=hR;obtain rfl:=Option.some.inj (hi.symm.trans h1);exact h2),hcp.below⟩
theorem clist_ExprC (l : List Ex) (A : Option Addr) (c : Nat) (w : World) (hr : RowV VEx 4 w w.heap.size l A) (hb : l.length * 56 ≤ 140737488355328)
 (hF : ∀ x ∈ l,∀ cs W,Below w.heap.size w W → VEx W W.heap.size cs x → Calls Tryz.prog 120 #[.agg cs] W (CopyV VEx 4 x W)) :
 Calls Tryz.prog 121 #[.slice A l.length c,.func (.func 120) #[] #[]] w (fun e w' => ∃ (A : Option Addr) (c : Nat),e = .returned (.slice A l.length c) ∧ RowInC VEx 4 (fun b => w.heap.size ≤ b) w' l A ∧ Below w.heap.size w w' ∧ l.length ≤ c):=by
 cases A with
 | none =>
   have hl : l = []:=by
    cases l with
    | nil => rfl
    | cons x l => obtain ⟨a,cs,ha,_⟩:=hr 0 x rfl;cases ha
   subst hl
   have hq:=Lib.run_eql_slice_nil (P:=Tryz.prog) w 82 84 none 0 c 0 0 Tryz.underlying82
   clear hr hb hF
   go_enter Tryz.func121,Tryz.ntmps121
   go_wp2
   go_ret
   exact ⟨none,0,rfl,rowIn_nil _ _ _ _ _,Below.refl _ _,Nat.le_refl _⟩
 | some a =>
   obtain ⟨ins,hlen,hin⟩:=row_ins hr
   refine (copyList_Expr (fun i B cs W => ∃ x,l[i]? = some x ∧ VInC VEx (fun b => B ≤ b) W cs x) (fun i => ⟨fun B v W W' ⟨x,h1,h2⟩ hp => ⟨x,h1,(vin_stays VEx x).part B v W W' h2 hp⟩,fun B B' v W ⟨x,h1,h2⟩ hB => ⟨x,h1,(vin_stays VEx x).mono B B' v W h2 hB⟩⟩) ins
    (fun cs hcs => by obtain ⟨i,hi,rfl⟩:=List.getElem_of_mem hcs;obtain ⟨x,_,h2,_⟩:=hin i _ (List.getElem?_eq_getElem hi);exact h2) (fun i cs hi => by obtain ⟨x,_,_,_,h4⟩:=hin i cs hi;exact vex_one h4) a l.length c w hb hlen (fun h0 => by
      obtain ⟨a',cs,ha,h1,_⟩:=hr 0 l[0] (List.getElem?_eq_getElem h0)
      obtain rfl:=Option.some.inj ha
      exact h1) (fun i cs hi j v hj => by obtain ⟨x,_,_,h3,_⟩:=hin i cs hi;exact h3 j v hj) (fun i cs W hi hW => by
      obtain ⟨x,h1,h2,h3,h4⟩:=hin i cs hi
      refine (hF x (List.mem_of_getElem? h1) cs W hW (vex_keeps _ _ _ _ _ _ (fun _ hq => hW.cell hq) hW.size h4)).mono ?_
      rintro e w' ⟨cs',e1,e2,e3,e4,e5⟩
      exact ⟨cs',e1,e2,e3,⟨x,h1,e4⟩,e5⟩)).mono ?_
   rintro e w' ⟨outs,rfl,hcp⟩
   exact ⟨_,_,rfl,hcp.rowIn vex_subs rfl (fun i x B cs hi hR => by obtain ⟨y,h1,h2⟩:=hR;obtain rfl:=Option.some.inj (hi.symm.trans h1);exact h2),hcp.below,Nat.le_refl _⟩
theorem clist_Cond (l : List Cn) (A : Option Addr) (c : Nat) (w : World) (hr : RowV VCn 10 w w.heap.size l A) (hb : l.length * 144 ≤ 140737488355328)
 (hF : ∀ x ∈ l,∀ cs W,Below w.heap.size w W → VCn W W.heap.size cs x → Calls Tryz.prog 149 #[.agg cs] W (CopyV VCn 10 x W)) :
 Calls Tryz.prog 184 #[.slice A l.length c,.func (.func 149) #[] #[]] w (CopyRow VCn 10 l w):=by
 cases A with
 | none =>
   have hl : l = []:=by
    cases l with
    | nil => rfl
    | cons x l => obtain ⟨a,cs,ha,_⟩:=hr 0 x rfl;cases ha
   subst hl
   have hq:=Lib.run_eql_slice_nil (P:=Tryz.prog) w 85 87 none 0 c 0 0 Tryz.underlying85
   clear hr hb hF
   go_enter Tryz.func184,Tryz.ntmps184
   go_wp2
   go_ret
   exact ⟨none,0,rfl,rowIn_nil _ _ _ _ _,Below.refl _ _⟩
 | some a =>
   obtain ⟨ins,hlen,hin⟩:=row_ins hr
   refine (copyList_Cond (fun i B cs W => ∃ x,l[i]? = some x ∧ VInC VCn (fun b => B ≤ b) W cs x) (fun i => ⟨fun B v W W' ⟨x,h1,h2⟩ hp => ⟨x,h1,(vin_stays VCn x).part B v W W' h2 hp⟩,fun B B' v W ⟨x,h1,h2⟩ hB => ⟨x,h1,(vin_stays VCn x).mono B B' v W h2 hB⟩⟩) ins
    (fun cs hcs => by obtain ⟨i,hi,rfl⟩:=List.getElem_of_mem hcs;obtain ⟨x,_,h2,_⟩:=hin i _ (List.getElem?_eq_getElem hi);exact h2) (fun i cs hi => by obtain ⟨x,_,_,_,h4⟩:=hin i cs hi;exact vcn_one h4) a l.length c w hb hlen (fun h0 => by
      obtain ⟨a',cs,ha,h1,_⟩:=hr 0 l[0] (List.getElem?_eq_getElem h0)
      obtain rfl:=Option.some.inj ha
      exact h1) (fun i cs hi j v hj => by obtain ⟨x,_,_,h3,_⟩:=hin i cs hi;exact h3 j v hj) (fun i cs W hi hW => by
      obtain ⟨x,h1,h2,h3,h4⟩:=hin i cs hi
      refine (hF x (List.mem_of_getElem? h1) cs W hW (vcn_keeps _ _ _ _ _ _ (fun _ hq => hW.cell hq) hW.size h4)).mono ?_
      rintro e w' ⟨cs',e1,e2,e3,e4,e5⟩
      exact ⟨cs',e1,e2,e3,⟨x,h1,e4⟩,e5⟩)).mono ?_
   rintro e w' ⟨outs,rfl,hcp⟩
   exact ⟨_,_,rfl,hcp.rowIn vcn_subs rfl (fun i x B cs hi hR => by obtain ⟨y,h1,h2⟩:=hR;obtain rfl:=Option.some.inj (hi.symm.trans h1);exact h2),hcp.below⟩
theorem clist_Atom (l : List At) (A : Option Addr) (c : Nat) (w : World) (hr : RowV VAt 9 w w.heap.size l A) (hb : l.length * 120 ≤ 140737488355328)
 (hF : ∀ x ∈ l,∀ cs W,Below w.heap.size w W → VAt W W.heap.size cs x → Calls Tryz.prog 87 #[.agg cs] W (CopyV VAt 9 x W)) :
 Calls Tryz.prog 86 #[.slice A l.length c,.func (.func 87) #[] #[]] w (CopyRow VAt 9 l w):=by
 cases A with
 | none =>
   have hl : l = []:=by
    cases l with
    | nil => rfl
    | cons x l => obtain ⟨a,cs,ha,_⟩:=hr 0 x rfl;cases ha
   subst hl
   have hq:=Lib.run_eql_slice_nil (P:=Tryz.prog) w 66 148 none 0 c 0 0 Tryz.underlying66
   clear hr hb hF
   go_enter Tryz.func86,Tryz.ntmps86
   go_wp2
   go_ret
   exact ⟨none,0,rfl,rowIn_nil _ _ _ _ _,Below.refl _ _⟩
 | some a =>
   obtain ⟨ins,hlen,hin⟩:=row_ins hr
   refine (copyList_Atom (fun i B cs W => ∃ x,l[i]? = some x ∧ VInC VAt (fun b => B ≤ b) W cs x) (fun i => ⟨fun B v W W' ⟨x,h1,h2⟩ hp => ⟨x,h1,(vin_stays VAt x).part B v W W' h2 hp⟩,fun B B' v W ⟨x,h1,h2⟩ hB => ⟨x,h1,(vin_stays VAt x).mono B B' v W h2 hB⟩⟩) ins
    (fun cs hcs => by obtain ⟨i,hi,rfl⟩:=List.getElem_of_mem hcs;obtain ⟨x,_,h2,_⟩:=hin i _ (List.getElem?_eq_getElem hi);exact h2) (fun i cs hi => by obtain ⟨x,_,_,_,h4⟩:=hin i cs hi;exact vat_one h4) a l.length c w hb hlen (fun h0 => by
      obtain ⟨a',cs,ha,h1,_⟩:=hr 0 l[0] (List.getElem?_eq_getElem h0)
      obtain rfl:=Option.some.inj ha
      exact h1) (fun i cs hi j v hj => by obtain ⟨x,_,_,h3,_⟩:=hin i cs hi;exact h3 j v hj) (fun i cs W hi hW => by
      obtain ⟨x,h1,h2,h3,h4⟩:=hin i cs hi
      refine (hF x (List.mem_of_getElem? h1) cs W hW (vat_keeps _ _ _ _ _ _ (fun _ hq => hW.cell hq) hW.size h4)).mono ?_
      rintro e w' ⟨cs',e1,e2,e3,e4,e5⟩
      exact ⟨cs',e1,e2,e3,⟨x,h1,e4⟩,e5⟩)).mono ?_
   rintro e w' ⟨outs,rfl,hcp⟩
   exact ⟨_,_,rfl,hcp.rowIn vat_subs rfl (fun i x B cs hi hR => by obtain ⟨y,h1,h2⟩:=hR;obtain rfl:=Option.some.inj (hi.symm.trans h1);exact h2),hcp.below⟩
theorem clist_Cell (l : List Cl) (A : Option Addr) (c : Nat) (w : World) (hr : RowV VCl 3 w w.heap.size l A) (hb : l.length * 48 ≤ 140737488355328)
 (hF : ∀ x ∈ l,∀ cs W,Below w.heap.size w W → VCl W W.heap.size cs x → Calls Tryz.prog 89 #[.agg cs] W (CopyV VCl 3 x W)) :
 Calls Tryz.prog 88 #[.slice A l.length c,.func (.func 89) #[] #[]] w (CopyRow VCl 3 l w):=by
 cases A with
 | none =>
   have hl : l = []:=by
    cases l with
    | nil => rfl
    | cons x l => obtain ⟨a,cs,ha,_⟩:=hr 0 x rfl;cases ha
   subst hl
   have hq:=Lib.run_eql_slice_nil (P:=Tryz.prog) w 67 97 none 0 c 0 0 Tryz.underlying67
   clear hr hb hF
   go_enter Tryz.func88,Tryz.ntmps88
   go_wp2
   go_ret
   exact ⟨none,0,rfl,rowIn_nil _ _ _ _ _,Below.refl _ _⟩
 | some a =>
   obtain ⟨ins,hlen,hin⟩:=row_ins hr
   refine (copyList_Cell (fun i B cs W => ∃ x,l[i]? = some x ∧ VInC VCl (fun b => B ≤ b) W cs x) (fun i => ⟨fun B v W W' ⟨x,h1,h2⟩ hp => ⟨x,h1,(vin_stays VCl x).part B v W W' h2 hp⟩,fun B B' v W ⟨x,h1,h2⟩ hB => ⟨x,h1,(vin_stays VCl x).mono B B' v W h2 hB⟩⟩) ins
    (fun cs hcs => by obtain ⟨i,hi,rfl⟩:=List.getElem_of_mem hcs;obtain ⟨x,_,h2,_⟩:=hin i _ (List.getElem?_eq_getElem hi);exact h2) (fun i cs hi => by obtain ⟨x,_,_,_,h4⟩:=hin i cs hi;exact vcl_one h4) a l.length c w hb hlen (fun h0 => by
      obtain ⟨a',cs,ha,h1,_⟩:=hr 0 l[0] (List.getElem?_eq_getElem h0)
      obtain rfl:=Option.some.inj ha
      exact h1) (fun i cs hi j v hj => by obtain ⟨x,_,_,h3,_⟩:=hin i cs hi;exact h3 j v hj) (fun i cs W hi hW => by
      obtain ⟨x,h1,h2,h3,h4⟩:=hin i cs hi
      refine (hF x (List.mem_of_getElem? h1) cs W hW (vcl_keeps _ _ _ _ _ _ (fun _ hq => hW.cell hq) hW.size h4)).mono ?_
      rintro e w' ⟨cs',e1,e2,e3,e4,e5⟩
      exact ⟨cs',e1,e2,e3,⟨x,h1,e4⟩,e5⟩)).mono ?_
   rintro e w' ⟨outs,rfl,hcp⟩
   exact ⟨_,_,rfl,hcp.rowIn vcl_subs rfl (fun i x B cs hi hR => by obtain ⟨y,h1,h2⟩:=hR;obtain rfl:=Option.some.inj (hi.symm.trans h1);exact h2),hcp.below⟩
theorem clist_Formula (l : List Fm) (A : Option Addr) (c : Nat) (w : World) (hr : RowV VFm 3 w w.heap.size l A) (hb : l.length * 72 ≤ 140737488355328)
 (hF : ∀ x ∈ l,∀ cs W,Below w.heap.size w W → VFm W W.heap.size cs x → Calls Tryz.prog 66 #[.agg cs] W (CopyV VFm 3 x W)) :
 Calls Tryz.prog 65 #[.slice A l.length c,.func (.func 66) #[] #[]] w (CopyRow VFm 3 l w):=by
 cases A with
 | none =>
   have hl : l = []:=by
    cases l with
    | nil => rfl
    | cons x l => obtain ⟨a,cs,ha,_⟩:=hr 0 x rfl;cases ha
   subst hl
   have hq:=Lib.run_eql_slice_nil (P:=Tryz.prog) w 43 69 none 0 c 0 0 Tryz.underlying43
   clear hr hb hF
   go_enter Tryz.func65,Tryz.ntmps65
   go_wp2
   go_ret
   exact ⟨none,0,rfl,rowIn_nil _ _ _ _ _,Below.refl _ _⟩
 | some a =>
   obtain ⟨ins,hlen,hin⟩:=row_ins hr
   refine (copyList_Formula (fun i B cs W => ∃ x,l[i]? = some x ∧ VInC VFm (fun b => B ≤ b) W cs x) (fun i => ⟨fun B v W W' ⟨x,h1,h2⟩ hp => ⟨x,h1,(vin_stays VFm x).part B v W W' h2 hp⟩,fun B B' v W ⟨x,h1,h2⟩ hB => ⟨x,h1,(vin_stays VFm x).mono B B' v W h2 hB⟩⟩) ins
    (fun cs hcs => by obtain ⟨i,hi,rfl⟩:=List.getElem_of_mem hcs;obtain ⟨x,_,h2,_⟩:=hin i _ (List.getElem?_eq_getElem hi);exact h2) (fun i cs hi => by obtain ⟨x,_,_,_,h4⟩:=hin i cs hi;exact vfm_one h4) a l.length c w hb hlen (fun h0 => by
      obtain ⟨a',cs,ha,h1,_⟩:=hr 0 l[0] (List.getElem?_eq_getElem h0)
      obtain rfl:=Option.some.inj ha
      exact h1) (fun i cs hi j v hj => by obtain ⟨x,_,_,h3,_⟩:=hin i cs hi;exact h3 j v hj) (fun i cs W hi hW => by
      obtain ⟨x,h1,h2,h3,h4⟩:=hin i cs hi
      refine (hF x (List.mem_of_getElem? h1) cs W hW (vfm_keeps _ _ _ _ _ _ (fun _ hq => hW.cell hq) hW.size h4)).mono ?_
      rintro e w' ⟨cs',e1,e2,e3,e4,e5⟩
      exact ⟨cs',e1,e2,e3,⟨x,h1,e4⟩,e5⟩)).mono ?_
   rintro e w' ⟨outs,rfl,hcp⟩
   exact ⟨_,_,rfl,hcp.rowIn vfm_subs rfl (fun i x B cs hi hR => by obtain ⟨y,h1,h2⟩:=hR;obtain rfl:=Option.some.inj (hi.symm.trans h1);exact h2),hcp.below⟩
theorem clist_Call (l : List Cal) (A : Option Addr) (c : Nat) (w : World) (hr : RowV VCal 3 w w.heap.size l A) (hb : l.length * 56 ≤ 140737488355328)
 (hF : ∀ x ∈ l,∀ cs W,Below w.heap.size w W → VCal W W.heap.size cs x → Calls Tryz.prog 151 #[.agg cs] W (CopyV VCal 3 x W)) :
 Calls Tryz.prog 150 #[.slice A l.length c,.func (.func 151) #[] #[]] w (CopyRow VCal 3 l w):=by
 cases A with
 | none =>
   have hl : l = []:=by
    cases l with
    | nil => rfl
    | cons x l => obtain ⟨a,cs,ha,_⟩:=hr 0 x rfl;cases ha
   subst hl
   have hq:=Lib.run_eql_slice_nil (P:=Tryz.prog) w 88 217 none 0 c 0 0 Tryz.underlying88
   clear hr hb hF
   go_enter Tryz.func150,Tryz.ntmps150
   go_wp2
   go_ret
   exact ⟨none,0,rfl,rowIn_nil _ _ _ _ _,Below.refl _ _⟩
 | some a =>
   obtain ⟨ins,hlen,hin⟩:=row_ins hr
   refine (copyList_Call (fun i B cs W => ∃ x,l[i]? = some x ∧ VInC VCal (fun b => B ≤ b) W cs x) (fun i => ⟨fun B v W W' ⟨x,h1,h2⟩ hp => ⟨x,h1,(vin_stays VCal x).part B v W W' h2 hp⟩,fun B B' v W ⟨x,h1,h2⟩ hB => ⟨x,h1,(vin_stays VCal x).mono B B' v W h2 hB⟩⟩) ins
    (fun cs hcs => by obtain ⟨i,hi,rfl⟩:=List.getElem_of_mem hcs;obtain ⟨x,_,h2,_⟩:=hin i _ (List.getElem?_eq_getElem hi);exact h2) (fun i cs hi => by obtain ⟨x,_,_,_,h4⟩:=hin i cs hi;exact vcal_one h4) a l.length c w hb hlen (fun h0 => by
      obtain ⟨a',cs,ha,h1,_⟩:=hr 0 l[0] (List.getElem?_eq_getElem h0)
      obtain rfl:=Option.some.inj ha
      exact h1) (fun i cs hi j v hj => by obtain ⟨x,_,_,h3,_⟩:=hin i cs hi;exact h3 j v hj) (fun i cs W hi hW => by
      obtain ⟨x,h1,h2,h3,h4⟩:=hin i cs hi
      refine (hF x (List.mem_of_getElem? h1) cs W hW (vcal_keeps _ _ _ _ _ _ (fun _ hq => hW.cell hq) hW.size h4)).mono ?_
      rintro e w' ⟨cs',e1,e2,e3,e4,e5⟩
      exact ⟨cs',e1,e2,e3,⟨x,h1,e4⟩,e5⟩)).mono ?_
   rintro e w' ⟨outs,rfl,hcp⟩
   exact ⟨_,_,rfl,hcp.rowIn vcal_subs rfl (fun i x B cs hi hR => by obtain ⟨y,h1,h2⟩:=hR;obtain rfl:=Option.some.inj (hi.symm.trans h1);exact h2),hcp.below⟩
end Go.Proofs.YtojjfdegkooknaaGreatDoor
