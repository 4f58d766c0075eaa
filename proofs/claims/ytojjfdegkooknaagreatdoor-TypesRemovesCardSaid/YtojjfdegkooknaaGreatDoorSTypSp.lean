import Derived.Test.YtojjfdegkooknaaGreatDoorSTreeAx
import Derived.Test.YtojjfdegkooknaaGreatDoorSTreeMa
import Derived.Test.YtojjfdegkooknaaGreatDoorSTreeQ
import Derived.Test.YtojjfdegkooknaaGreatDoorSTreeMo
import Derived.Test.YtojjfdegkooknaaGreatDoorSTypCh
import Derived.Test.YtojjfdegkooknaaGreatDoorRows
import Derived.WideKeyArgs
import Derived.OpenShut
import Derived.ChangeSame
import Derived.ProofKit
set_option linter.unusedVariables false
set_option linter.unusedSimpArgs false
namespace Go.Proofs.YtojjfdegkooknaaGreatDoor
section
open Go.RowKit
def qge {α : Type} (V : World -> Nat -> Array Value -> α -> Prop) (S : Nat -> Prop) (w : World) (cs : Array Value) (x : α) : Prop:=∃ w0,In S w0 w /\ V w0 w0.heap.size cs x
def qgC {α : Type} (V : World -> Nat -> Array Value -> α -> Prop) : Prop:=∀ (w0 w : World) (B : Nat) (cs : Array Value) (x : α),Sub w0 w -> V w0 B cs x -> V w w.heap.size cs x
def qih {α : Type} (V : World -> Nat -> Array Value -> α -> Prop) (n : Nat) (S : Nat -> Prop) (w : World) (l : List α) (A : Option Addr) : Prop:=∃ w0,In S w0 w /\ qD V n w0 w0.heap.size l A
theorem qge.maskV {α : Type} {V : World -> Nat -> Array Value -> α -> Prop} (hV : qgC V) {S S' : Nat -> Prop} {w : World} {cs : Array Value} {x : α} (h : qge V S w cs x) (hS : ∀ b,S b -> S' b) : V (World.mask w S') (World.mask w S').heap.size cs x:=by
 obtain ⟨w0,h1,h2⟩:=h
 exact hV w0 _ _ cs x (h1.mask hS) h2
theorem qge.out {α : Type} {V : World -> Nat -> Array Value -> α -> Prop} (hV : qgC V) {S : Nat -> Prop} {w : World} {cs : Array Value} {x : α} (h : qge V S w cs x) : V w w.heap.size cs x:=by
 obtain ⟨w0,h1,h2⟩:=h
 exact hV w0 _ _ cs x h1.toSub h2
structure CpRow3 (T : TypeId) (R : Nat -> Nat -> Array Value -> World -> Prop) (g n k : Nat) (outs : List (Array Value)) (w W : World) : Prop where
 len : outs.length = k
 sz : ∀ c ∈ outs,c.size = 3
 one : ∀ c ∈ outs,c.all (·.oneCell') = true
 row : ∃ cur : Array Value,W.heap[g]? = some (.cells cur T (0,0)) /\ cur.size = n * 3 /\ cur.toList.take (k * 3) = yX outs
 rel : ∀ i c,outs[i]? = some c -> R i (g + 1) c W
 below : Below w.heap.size w W
theorem qj5 (cur : List Value) (k n : Nat) (cs : List Value) (fl : List Value) (hc : cur.length = n * 3) (hk : k < n) (qM : cs.length = 3) (ht : cur.take (k * 3) = fl) :
 (cur.take (k * 3) ++ cs ++ cur.drop (k * 3 + 3)).length = n * 3 /\ (cur.take (k * 3) ++ cs ++ cur.drop (k * 3 + 3)).take ((k + 1) * 3) = fl ++ cs:=by
 have h1 : (cur.take (k * 3)).length = k * 3:=by rw [List.length_take];omega
 constructor
 ·simp only [List.length_append,List.length_drop,h1,qM,hc]
  omega
 ·rw [List.take_append_of_le_length (by rw [List.length_append,h1,qM];omega),List.take_of_length_le (by rw [List.length_append,h1,qM];omega),ht]
theorem CpRow3.next {T : TypeId} {R : Nat -> Nat -> Array Value -> World -> Prop} (hR : ∀ i,Stays (R i)) {g n k : Nat} {outs : List (Array Value)} {w W W3 : World} (h : CpRow3 T R g n k outs w W) (hk : k < n) (hgw : g = w.heap.size) {cs : Array Value} (qM : cs.size = 3) (h1 : cs.all (·.oneCell') = true)
 (hb : Below W.heap.size W W3) (hr : R k (g + 1) cs W3) : ∃ W4,(storeCells ⟨g,k * 3,none⟩ cs.toList).run Tryz.prog W3 = .ok () W4 /\ CpRow3 T R g n (k + 1) (outs ++ [cs]) w W4:=by
 obtain ⟨cur,hc,hs,ht⟩:=h.row
 have hc3:=qg hb hc
 have vp:=run_storeCells_at (P:=Tryz.prog) g (k * 3) T cs.toList 0 cur W3 hc3 (by rw [Array.length_toList,qM,hs];omega) (fun v hv => (Array.all_eq_true_iff_forall_mem.1 h1) v (by simpa using hv))
 refine ⟨_,vp,?_⟩
 obtain ⟨l1,l2⟩:=qj5 cur.toList k n cs.toList (yX outs) (by simpa using hs) hk (by simpa using qM) ht
 have qas : ∀ cells : Array Value,Part (fun b => b < g + 1) W3 (W3.setRow g cells):=fun cells => qdq cells (Nat.lt_succ_self g)
 refine ⟨by rw [List.length_append,h.len];rfl,fun c hm => ?_,fun c hm => ?_,⟨_,setRow_heap _ _ cur _ _ _ hc3,?_,?_⟩,fun i c hi => ?_,below_setRow (h.below.trans (hb.mono h.below.size)) (by omega) _⟩
 ·rcases List.mem_append.1 hm with hm | hm
  ·exact h.sz c hm
  ·rw [List.mem_singleton.1 hm];exact qM
 ·rcases List.mem_append.1 hm with hm | hm
  ·exact h.one c hm
  ·rw [List.mem_singleton.1 hm];exact h1
 ·rw [Array.length_toList,qM] 
  simp only [Nat.add_zero,List.size_toArray]
  exact l1
 ·rw [Array.length_toList,qM]
  simp only [Nat.add_zero]
  rw [l2]
  unfold yX
  rw [List.flatMap_append]
  simp
 ·by_cases hik : i < outs.length
  ·rw [List.getElem?_append_left hik] at hi
   have h0:=(hR i).part _ _ _ _ (h.rel i c hi) (Part.of_below hb)
   exact (hR i).part _ _ _ _ h0 (qas _)
  ·rw [List.getElem?_append_right (by omega)] at hi
   have xj : i = k:=by
    have := (List.getElem?_eq_some_iff.1 hi).1
    simp at this
    have := h.len
    omega
   subst xj
   rw [h.len,Nat.sub_self] at hi
   obtain rfl : cs = c:=by simpa using hi
   exact (hR i).part _ _ _ _ hr (qas _)
theorem qua {outs : List (Array Value)} (h : ∀ c ∈ outs,c.size = 3) : ∀ (i j : Nat) (c : Array Value),outs[i]? = some c -> j < 3 -> (yX outs)[i * 3 + j]? = c[j]?:=by
 induction outs with
 | nil => intro i j c hi;simp at hi
 | cons d outs ih =>
   intro i j c hi hj
   have h1 : d.toList.length = 3:=by rw [Array.length_toList];exact h d (List.mem_cons_self ..)
   have h2:=ih fun e he => h e (List.mem_cons_of_mem _ he)
   unfold yX at h2 ⊢
   rw [List.flatMap_cons]
   match i,hi with
   | 0,hi =>
     obtain rfl : d = c:=Option.some.inj hi
     rw [List.getElem?_append_left (by omega),Nat.zero_mul,Nat.zero_add]
     simp
   | i + 1,hi => rw [List.getElem?_append_right (by omega),h1,show (i + 1) * 3 + j - 3 = i * 3 + j from by omega,h2 i j c hi hj]
theorem CpRow3.rowIn {α : Type} {T : TypeId} {V : World -> Nat -> Array Value -> α -> Prop} (hV : qgC V) {R : Nat -> Nat -> Array Value -> World -> Prop} {g m : Nat} {outs : List (Array Value)} {w W : World} (h : CpRow3 T R g m m outs w W) {l : List α} (hl : l.length = m)
 (hR : ∀ i x B cs,l[i]? = some x -> R i B cs W -> qge V (fun b => B <= b) W cs x) : qih V 3 (fun b => g <= b) W l (some ⟨g,0,none⟩):=by
 obtain ⟨cur,hc,hs,ht⟩:=h.row
 refine ⟨World.mask W (fun b => g <= b),qeA W _,fun i x hi => ?_⟩
 have qB:=(List.getElem?_eq_some_iff.1 hi).1
 have qE:=h.len
 obtain ⟨c,hci⟩ : ∃ c,outs[i]? = some c:=⟨_,List.getElem?_eq_getElem (by omega)⟩
 have hcz:=h.sz c (List.mem_of_getElem? hci)
 refine ⟨⟨g,0,none⟩,c,rfl,?_,hcz,fun j v hv => ?_,(hR i x (g + 1) c hi (h.rel i c hci)).maskV hV (fun b hb => by omega)⟩
 ·have := (Array.getElem?_eq_some_iff.1 hc).1
  unfold World.mask
  simpa using this
 ·have hj : j < 3:=by rw [<- hcz];exact (Array.getElem?_eq_some_iff.1 hv).1
  rw [yl,zD,qdi W _ ⟨g,_,none⟩ (Nat.le_refl g)]
  refine qc hc _ ?_
  have h1:=qua h.sz i j c hci hj
  rw [<- ht,hv,List.getElem?_take] at h1
  split at h1
  ·simpa using h1
  ·cases h1
structure CpRow4 (T : TypeId) (R : Nat -> Nat -> Array Value -> World -> Prop) (g n k : Nat) (outs : List (Array Value)) (w W : World) : Prop where
 len : outs.length = k
 sz : ∀ c ∈ outs,c.size = 4
 one : ∀ c ∈ outs,c.all (·.oneCell') = true
 row : ∃ cur : Array Value,W.heap[g]? = some (.cells cur T (0,0)) /\ cur.size = n * 4 /\ cur.toList.take (k * 4) = yX outs
 rel : ∀ i c,outs[i]? = some c -> R i (g + 1) c W
 below : Below w.heap.size w W
theorem qj4 (cur : List Value) (k n : Nat) (cs : List Value) (fl : List Value) (hc : cur.length = n * 4) (hk : k < n) (qM : cs.length = 4) (ht : cur.take (k * 4) = fl) :
 (cur.take (k * 4) ++ cs ++ cur.drop (k * 4 + 4)).length = n * 4 /\ (cur.take (k * 4) ++ cs ++ cur.drop (k * 4 + 4)).take ((k + 1) * 4) = fl ++ cs:=by
 have h1 : (cur.take (k * 4)).length = k * 4:=by rw [List.length_take];omega
 constructor
 ·simp only [List.length_append,List.length_drop,h1,qM,hc]
  omega
 ·rw [List.take_append_of_le_length (by rw [List.length_append,h1,qM];omega),List.take_of_length_le (by rw [List.length_append,h1,qM];omega),ht]
theorem CpRow4.next {T : TypeId} {R : Nat -> Nat -> Array Value -> World -> Prop} (hR : ∀ i,Stays (R i)) {g n k : Nat} {outs : List (Array Value)} {w W W3 : World} (h : CpRow4 T R g n k outs w W) (hk : k < n) (hgw : g = w.heap.size) {cs : Array Value} (qM : cs.size = 4) (h1 : cs.all (·.oneCell') = true)
 (hb : Below W.heap.size W W3) (hr : R k (g + 1) cs W3) : ∃ W4,(storeCells ⟨g,k * 4,none⟩ cs.toList).run Tryz.prog W3 = .ok () W4 /\ CpRow4 T R g n (k + 1) (outs ++ [cs]) w W4:=by
 obtain ⟨cur,hc,hs,ht⟩:=h.row
 have hc3:=qg hb hc
 have vp:=run_storeCells_at (P:=Tryz.prog) g (k * 4) T cs.toList 0 cur W3 hc3 (by rw [Array.length_toList,qM,hs];omega) (fun v hv => (Array.all_eq_true_iff_forall_mem.1 h1) v (by simpa using hv))
 refine ⟨_,vp,?_⟩
 obtain ⟨l1,l2⟩:=qj4 cur.toList k n cs.toList (yX outs) (by simpa using hs) hk (by simpa using qM) ht
 have qas : ∀ cells : Array Value,Part (fun b => b < g + 1) W3 (W3.setRow g cells):=fun cells => qdq cells (Nat.lt_succ_self g)
 refine ⟨by rw [List.length_append,h.len];rfl,fun c hm => ?_,fun c hm => ?_,⟨_,setRow_heap _ _ cur _ _ _ hc3,?_,?_⟩,fun i c hi => ?_,below_setRow (h.below.trans (hb.mono h.below.size)) (by omega) _⟩
 ·rcases List.mem_append.1 hm with hm | hm
  ·exact h.sz c hm
  ·rw [List.mem_singleton.1 hm];exact qM
 ·rcases List.mem_append.1 hm with hm | hm
  ·exact h.one c hm
  ·rw [List.mem_singleton.1 hm];exact h1
 ·rw [Array.length_toList,qM] 
  simp only [Nat.add_zero,List.size_toArray]
  exact l1
 ·rw [Array.length_toList,qM]
  simp only [Nat.add_zero]
  rw [l2]
  unfold yX
  rw [List.flatMap_append]
  simp
 ·by_cases hik : i < outs.length
  ·rw [List.getElem?_append_left hik] at hi
   have h0:=(hR i).part _ _ _ _ (h.rel i c hi) (Part.of_below hb)
   exact (hR i).part _ _ _ _ h0 (qas _)
  ·rw [List.getElem?_append_right (by omega)] at hi
   have xj : i = k:=by
    have := (List.getElem?_eq_some_iff.1 hi).1
    simp at this
    have := h.len
    omega
   subst xj
   rw [h.len,Nat.sub_self] at hi
   obtain rfl : cs = c:=by simpa using hi
   exact (hR i).part _ _ _ _ hr (qas _)
theorem qt9 {outs : List (Array Value)} (h : ∀ c ∈ outs,c.size = 4) : ∀ (i j : Nat) (c : Array Value),outs[i]? = some c -> j < 4 -> (yX outs)[i * 4 + j]? = c[j]?:=by
 induction outs with
 | nil => intro i j c hi;simp at hi
 | cons d outs ih =>
   intro i j c hi hj
   have h1 : d.toList.length = 4:=by rw [Array.length_toList];exact h d (List.mem_cons_self ..)
   have h2:=ih fun e he => h e (List.mem_cons_of_mem _ he)
   unfold yX at h2 ⊢
   rw [List.flatMap_cons]
   match i,hi with
   | 0,hi =>
     obtain rfl : d = c:=Option.some.inj hi
     rw [List.getElem?_append_left (by omega),Nat.zero_mul,Nat.zero_add]
     simp
   | i + 1,hi => rw [List.getElem?_append_right (by omega),h1,show (i + 1) * 4 + j - 4 = i * 4 + j from by omega,h2 i j c hi hj]
theorem CpRow4.rowIn {α : Type} {T : TypeId} {V : World -> Nat -> Array Value -> α -> Prop} (hV : qgC V) {R : Nat -> Nat -> Array Value -> World -> Prop} {g m : Nat} {outs : List (Array Value)} {w W : World} (h : CpRow4 T R g m m outs w W) {l : List α} (hl : l.length = m)
 (hR : ∀ i x B cs,l[i]? = some x -> R i B cs W -> qge V (fun b => B <= b) W cs x) : qih V 4 (fun b => g <= b) W l (some ⟨g,0,none⟩):=by
 obtain ⟨cur,hc,hs,ht⟩:=h.row
 refine ⟨World.mask W (fun b => g <= b),qeA W _,fun i x hi => ?_⟩
 have qB:=(List.getElem?_eq_some_iff.1 hi).1
 have qE:=h.len
 obtain ⟨c,hci⟩ : ∃ c,outs[i]? = some c:=⟨_,List.getElem?_eq_getElem (by omega)⟩
 have hcz:=h.sz c (List.mem_of_getElem? hci)
 refine ⟨⟨g,0,none⟩,c,rfl,?_,hcz,fun j v hv => ?_,(hR i x (g + 1) c hi (h.rel i c hci)).maskV hV (fun b hb => by omega)⟩
 ·have := (Array.getElem?_eq_some_iff.1 hc).1
  unfold World.mask
  simpa using this
 ·have hj : j < 4:=by rw [<- hcz];exact (Array.getElem?_eq_some_iff.1 hv).1
  rw [yl,zD,qdi W _ ⟨g,_,none⟩ (Nat.le_refl g)]
  refine qc hc _ ?_
  have h1:=qt9 h.sz i j c hci hj
  rw [<- ht,hv,List.getElem?_take] at h1
  split at h1
  ·simpa using h1
  ·cases h1
structure CpRow9 (T : TypeId) (R : Nat -> Nat -> Array Value -> World -> Prop) (g n k : Nat) (outs : List (Array Value)) (w W : World) : Prop where
 len : outs.length = k
 sz : ∀ c ∈ outs,c.size = 9
 one : ∀ c ∈ outs,c.all (·.oneCell') = true
 row : ∃ cur : Array Value,W.heap[g]? = some (.cells cur T (0,0)) /\ cur.size = n * 9 /\ cur.toList.take (k * 9) = yX outs
 rel : ∀ i c,outs[i]? = some c -> R i (g + 1) c W
 below : Below w.heap.size w W
theorem qj3 (cur : List Value) (k n : Nat) (cs : List Value) (fl : List Value) (hc : cur.length = n * 9) (hk : k < n) (qM : cs.length = 9) (ht : cur.take (k * 9) = fl) :
 (cur.take (k * 9) ++ cs ++ cur.drop (k * 9 + 9)).length = n * 9 /\ (cur.take (k * 9) ++ cs ++ cur.drop (k * 9 + 9)).take ((k + 1) * 9) = fl ++ cs:=by
 have h1 : (cur.take (k * 9)).length = k * 9:=by rw [List.length_take];omega
 constructor
 ·simp only [List.length_append,List.length_drop,h1,qM,hc]
  omega
 ·rw [List.take_append_of_le_length (by rw [List.length_append,h1,qM];omega),List.take_of_length_le (by rw [List.length_append,h1,qM];omega),ht]
theorem CpRow9.next {T : TypeId} {R : Nat -> Nat -> Array Value -> World -> Prop} (hR : ∀ i,Stays (R i)) {g n k : Nat} {outs : List (Array Value)} {w W W3 : World} (h : CpRow9 T R g n k outs w W) (hk : k < n) (hgw : g = w.heap.size) {cs : Array Value} (qM : cs.size = 9) (h1 : cs.all (·.oneCell') = true)
 (hb : Below W.heap.size W W3) (hr : R k (g + 1) cs W3) : ∃ W4,(storeCells ⟨g,k * 9,none⟩ cs.toList).run Tryz.prog W3 = .ok () W4 /\ CpRow9 T R g n (k + 1) (outs ++ [cs]) w W4:=by
 obtain ⟨cur,hc,hs,ht⟩:=h.row
 have hc3:=qg hb hc
 have vp:=run_storeCells_at (P:=Tryz.prog) g (k * 9) T cs.toList 0 cur W3 hc3 (by rw [Array.length_toList,qM,hs];omega) (fun v hv => (Array.all_eq_true_iff_forall_mem.1 h1) v (by simpa using hv))
 refine ⟨_,vp,?_⟩
 obtain ⟨l1,l2⟩:=qj3 cur.toList k n cs.toList (yX outs) (by simpa using hs) hk (by simpa using qM) ht
 have qas : ∀ cells : Array Value,Part (fun b => b < g + 1) W3 (W3.setRow g cells):=fun cells => qdq cells (Nat.lt_succ_self g)
 refine ⟨by rw [List.length_append,h.len];rfl,fun c hm => ?_,fun c hm => ?_,⟨_,setRow_heap _ _ cur _ _ _ hc3,?_,?_⟩,fun i c hi => ?_,below_setRow (h.below.trans (hb.mono h.below.size)) (by omega) _⟩
 ·rcases List.mem_append.1 hm with hm | hm
  ·exact h.sz c hm
  ·rw [List.mem_singleton.1 hm];exact qM
 ·rcases List.mem_append.1 hm with hm | hm
  ·exact h.one c hm
  ·rw [List.mem_singleton.1 hm];exact h1
 ·rw [Array.length_toList,qM] 
  simp only [Nat.add_zero,List.size_toArray]
  exact l1
 ·rw [Array.length_toList,qM]
  simp only [Nat.add_zero]
  rw [l2]
  unfold yX
  rw [List.flatMap_append]
  simp
 ·by_cases hik : i < outs.length
  ·rw [List.getElem?_append_left hik] at hi
   have h0:=(hR i).part _ _ _ _ (h.rel i c hi) (Part.of_below hb)
   exact (hR i).part _ _ _ _ h0 (qas _)
  ·rw [List.getElem?_append_right (by omega)] at hi
   have xj : i = k:=by
    have := (List.getElem?_eq_some_iff.1 hi).1
    simp at this
    have := h.len
    omega
   subst xj
   rw [h.len,Nat.sub_self] at hi
   obtain rfl : cs = c:=by simpa using hi
   exact (hR i).part _ _ _ _ hr (qas _)
theorem qt8 {outs : List (Array Value)} (h : ∀ c ∈ outs,c.size = 9) : ∀ (i j : Nat) (c : Array Value),outs[i]? = some c -> j < 9 -> (yX outs)[i * 9 + j]? = c[j]?:=by
 induction outs with
 | nil => intro i j c hi;simp at hi
 | cons d outs ih =>
   intro i j c hi hj
   have h1 : d.toList.length = 9:=by rw [Array.length_toList];exact h d (List.mem_cons_self ..)
   have h2:=ih fun e he => h e (List.mem_cons_of_mem _ he)
   unfold yX at h2 ⊢
   rw [List.flatMap_cons]
   match i,hi with
   | 0,hi =>
     obtain rfl : d = c:=Option.some.inj hi
     rw [List.getElem?_append_left (by omega),Nat.zero_mul,Nat.zero_add]
     simp
   | i + 1,hi => rw [List.getElem?_append_right (by omega),h1,show (i + 1) * 9 + j - 9 = i * 9 + j from by omega,h2 i j c hi hj]
theorem CpRow9.rowIn {α : Type} {T : TypeId} {V : World -> Nat -> Array Value -> α -> Prop} (hV : qgC V) {R : Nat -> Nat -> Array Value -> World -> Prop} {g m : Nat} {outs : List (Array Value)} {w W : World} (h : CpRow9 T R g m m outs w W) {l : List α} (hl : l.length = m)
 (hR : ∀ i x B cs,l[i]? = some x -> R i B cs W -> qge V (fun b => B <= b) W cs x) : qih V 9 (fun b => g <= b) W l (some ⟨g,0,none⟩):=by
 obtain ⟨cur,hc,hs,ht⟩:=h.row
 refine ⟨World.mask W (fun b => g <= b),qeA W _,fun i x hi => ?_⟩
 have qB:=(List.getElem?_eq_some_iff.1 hi).1
 have qE:=h.len
 obtain ⟨c,hci⟩ : ∃ c,outs[i]? = some c:=⟨_,List.getElem?_eq_getElem (by omega)⟩
 have hcz:=h.sz c (List.mem_of_getElem? hci)
 refine ⟨⟨g,0,none⟩,c,rfl,?_,hcz,fun j v hv => ?_,(hR i x (g + 1) c hi (h.rel i c hci)).maskV hV (fun b hb => by omega)⟩
 ·have := (Array.getElem?_eq_some_iff.1 hc).1
  unfold World.mask
  simpa using this
 ·have hj : j < 9:=by rw [<- hcz];exact (Array.getElem?_eq_some_iff.1 hv).1
  rw [yl,zD,qdi W _ ⟨g,_,none⟩ (Nat.le_refl g)]
  refine qc hc _ ?_
  have h1:=qt8 h.sz i j c hci hj
  rw [<- ht,hv,List.getElem?_take] at h1
  split at h1
  ·simpa using h1
  ·cases h1
structure CpRow10 (T : TypeId) (R : Nat -> Nat -> Array Value -> World -> Prop) (g n k : Nat) (outs : List (Array Value)) (w W : World) : Prop where
 len : outs.length = k
 sz : ∀ c ∈ outs,c.size = 10
 one : ∀ c ∈ outs,c.all (·.oneCell') = true
 row : ∃ cur : Array Value,W.heap[g]? = some (.cells cur T (0,0)) /\ cur.size = n * 10 /\ cur.toList.take (k * 10) = yX outs
 rel : ∀ i c,outs[i]? = some c -> R i (g + 1) c W
 below : Below w.heap.size w W
theorem qjC (cur : List Value) (k n : Nat) (cs : List Value) (fl : List Value) (hc : cur.length = n * 10) (hk : k < n) (qM : cs.length = 10) (ht : cur.take (k * 10) = fl) :
 (cur.take (k * 10) ++ cs ++ cur.drop (k * 10 + 10)).length = n * 10 /\ (cur.take (k * 10) ++ cs ++ cur.drop (k * 10 + 10)).take ((k + 1) * 10) = fl ++ cs:=by
 have h1 : (cur.take (k * 10)).length = k * 10:=by rw [List.length_take];omega
 constructor
 ·simp only [List.length_append,List.length_drop,h1,qM,hc]
  omega
 ·rw [List.take_append_of_le_length (by rw [List.length_append,h1,qM];omega),List.take_of_length_le (by rw [List.length_append,h1,qM];omega),ht]
theorem CpRow10.next {T : TypeId} {R : Nat -> Nat -> Array Value -> World -> Prop} (hR : ∀ i,Stays (R i)) {g n k : Nat} {outs : List (Array Value)} {w W W3 : World} (h : CpRow10 T R g n k outs w W) (hk : k < n) (hgw : g = w.heap.size) {cs : Array Value} (qM : cs.size = 10) (h1 : cs.all (·.oneCell') = true)
 (hb : Below W.heap.size W W3) (hr : R k (g + 1) cs W3) : ∃ W4,(storeCells ⟨g,k * 10,none⟩ cs.toList).run Tryz.prog W3 = .ok () W4 /\ CpRow10 T R g n (k + 1) (outs ++ [cs]) w W4:=by
 obtain ⟨cur,hc,hs,ht⟩:=h.row
 have hc3:=qg hb hc
 have vp:=run_storeCells_at (P:=Tryz.prog) g (k * 10) T cs.toList 0 cur W3 hc3 (by rw [Array.length_toList,qM,hs];omega) (fun v hv => (Array.all_eq_true_iff_forall_mem.1 h1) v (by simpa using hv))
 refine ⟨_,vp,?_⟩
 obtain ⟨l1,l2⟩:=qjC cur.toList k n cs.toList (yX outs) (by simpa using hs) hk (by simpa using qM) ht
 have qas : ∀ cells : Array Value,Part (fun b => b < g + 1) W3 (W3.setRow g cells):=fun cells => qdq cells (Nat.lt_succ_self g)
 refine ⟨by rw [List.length_append,h.len];rfl,fun c hm => ?_,fun c hm => ?_,⟨_,setRow_heap _ _ cur _ _ _ hc3,?_,?_⟩,fun i c hi => ?_,below_setRow (h.below.trans (hb.mono h.below.size)) (by omega) _⟩
 ·rcases List.mem_append.1 hm with hm | hm
  ·exact h.sz c hm
  ·rw [List.mem_singleton.1 hm];exact qM
 ·rcases List.mem_append.1 hm with hm | hm
  ·exact h.one c hm
  ·rw [List.mem_singleton.1 hm];exact h1
 ·rw [Array.length_toList,qM] 
  simp only [Nat.add_zero,List.size_toArray]
  exact l1
 ·rw [Array.length_toList,qM]
  simp only [Nat.add_zero]
  rw [l2]
  unfold yX
  rw [List.flatMap_append]
  simp
 ·by_cases hik : i < outs.length
  ·rw [List.getElem?_append_left hik] at hi
   have h0:=(hR i).part _ _ _ _ (h.rel i c hi) (Part.of_below hb)
   exact (hR i).part _ _ _ _ h0 (qas _)
  ·rw [List.getElem?_append_right (by omega)] at hi
   have xj : i = k:=by
    have := (List.getElem?_eq_some_iff.1 hi).1
    simp at this
    have := h.len
    omega
   subst xj
   rw [h.len,Nat.sub_self] at hi
   obtain rfl : cs = c:=by simpa using hi
   exact (hR i).part _ _ _ _ hr (qas _)
theorem qsQ {outs : List (Array Value)} (h : ∀ c ∈ outs,c.size = 10) : ∀ (i j : Nat) (c : Array Value),outs[i]? = some c -> j < 10 -> (yX outs)[i * 10 + j]? = c[j]?:=by
 induction outs with
 | nil => intro i j c hi;simp at hi
 | cons d outs ih =>
   intro i j c hi hj
   have h1 : d.toList.length = 10:=by rw [Array.length_toList];exact h d (List.mem_cons_self ..)
   have h2:=ih fun e he => h e (List.mem_cons_of_mem _ he)
   unfold yX at h2 ⊢
   rw [List.flatMap_cons]
   match i,hi with
   | 0,hi =>
     obtain rfl : d = c:=Option.some.inj hi
     rw [List.getElem?_append_left (by omega),Nat.zero_mul,Nat.zero_add]
     simp
   | i + 1,hi => rw [List.getElem?_append_right (by omega),h1,show (i + 1) * 10 + j - 10 = i * 10 + j from by omega,h2 i j c hi hj]
theorem CpRow10.rowIn {α : Type} {T : TypeId} {V : World -> Nat -> Array Value -> α -> Prop} (hV : qgC V) {R : Nat -> Nat -> Array Value -> World -> Prop} {g m : Nat} {outs : List (Array Value)} {w W : World} (h : CpRow10 T R g m m outs w W) {l : List α} (hl : l.length = m)
 (hR : ∀ i x B cs,l[i]? = some x -> R i B cs W -> qge V (fun b => B <= b) W cs x) : qih V 10 (fun b => g <= b) W l (some ⟨g,0,none⟩):=by
 obtain ⟨cur,hc,hs,ht⟩:=h.row
 refine ⟨World.mask W (fun b => g <= b),qeA W _,fun i x hi => ?_⟩
 have qB:=(List.getElem?_eq_some_iff.1 hi).1
 have qE:=h.len
 obtain ⟨c,hci⟩ : ∃ c,outs[i]? = some c:=⟨_,List.getElem?_eq_getElem (by omega)⟩
 have hcz:=h.sz c (List.mem_of_getElem? hci)
 refine ⟨⟨g,0,none⟩,c,rfl,?_,hcz,fun j v hv => ?_,(hR i x (g + 1) c hi (h.rel i c hci)).maskV hV (fun b hb => by omega)⟩
 ·have := (Array.getElem?_eq_some_iff.1 hc).1
  unfold World.mask
  simpa using this
 ·have hj : j < 10:=by rw [<- hcz];exact (Array.getElem?_eq_some_iff.1 hv).1
  rw [yl,zD,qdi W _ ⟨g,_,none⟩ (Nat.le_refl g)]
  refine qc hc _ ?_
  have h1:=qsQ h.sz i j c hci hj
  rw [<- ht,hv,List.getElem?_take] at h1
  split at h1
  ·simpa using h1
  ·cases h1
end
section
open Go.RowKit
theorem ExRow.ofV {w : World} {B : Nat} {l : List Ex} {A : Option Addr} (h : qD VEx 4 w B l A) : ExRow w B l A:=by
 cases l with
 | nil => exact .nil A
 | cons x0 l0 =>
   obtain ⟨a,cs0,rfl,qx,_⟩:=h 0 x0 rfl
   have h1 : ∀ i : Nat,∃ p : Option Addr × Nat,∀ k n s m,(x0 :: l0)[i]? = some (.mk k n s m) -> (w.cell? (a.add (i * 4)) = some (.int .i64 k) /\ w.cell? ((a.add (i * 4)).add 1) = some (.int .i64 n) /\ w.cell? ((a.add (i * 4)).add 2) = some (.string ⟨s.toArray⟩) /\
    w.cell? ((a.add (i * 4)).add 3) = some (.slice p.1 m.length p.2) /\ s.length <= maxLen /\ m.length <= maxLen) /\ ExRow w B m p.1:=by
    intro i
    cases e : (x0 :: l0)[i]? with
    | none => exact ⟨(none,0),fun k n s m hx => by cases hx⟩
    | some x =>
      obtain ⟨a',cs,ha,_,_,hc,k,n,s,m,A',c',hx,rfl,b1,b2,r⟩:=h i x e
      obtain rfl:=Option.some.inj ha
      refine ⟨(A',c'),fun k2 n2 s2 m2 hy => ?_⟩
      rw [hx] at hy
      injection hy with hy
      injection hy with y1 y2 y3 y4
      subst y1 y2 y3 y4
      have c0:=hc 0 _ rfl
      rw [show (a.add (i * 4)).add 0 = a.add (i * 4) by simp [Addr.add]] at c0
      exact ⟨⟨c0,hc 1 _ rfl,hc 2 _ rfl,hc 3 _ rfl,b1,b2⟩,r⟩
   obtain ⟨f,hf⟩:=Classical.axiomOfChoice h1
   exact .row a _ (fun i => (f i).1) (fun i => (f i).2) qx (fun i k n s m hi => (hf i k n s m hi).1) (fun i k n s m hi => (hf i k n s m hi).2)
end
section
open Go.RowKit
theorem CnRow.ofV {w : World} {B : Nat} {l : List Cn} {A : Option Addr} (h : qD VCn 10 w B l A) : CnRow w B l A:=by
 cases l with
 | nil => exact .nil A
 | cons x0 l0 =>
   obtain ⟨a,cs0,rfl,qx,_⟩:=h 0 x0 rfl
   have h1 : ∀ i : Nat,∃ p : (Option Addr × Nat) × (Option Addr × Nat) × (Option Addr × Nat),∀ k ak an sa al bk bn sb bl m,(x0 :: l0)[i]? = some (.mk k (.mk ak an sa al) (.mk bk bn sb bl) m) ->
    (CCells w (a.add (i * 10)) k ak an sa (.slice p.1.1 al.length p.1.2) bk bn sb (.slice p.2.1.1 bl.length p.2.1.2) (.slice p.2.2.1 m.length p.2.2.2) /\ sa.length <= maxLen /\ al.length <= maxLen /\ sb.length <= maxLen /\ bl.length <= maxLen /\ m.length <= maxLen /\ ExRow w B al p.1.1 /\ ExRow w B bl p.2.1.1) /\ CnRow w B m p.2.2.1:=by
    intro i
    cases e : (x0 :: l0)[i]? with
    | none => exact ⟨((none,0),(none,0),(none,0)),fun k ak an sa al bk bn sb bl m hx => by cases hx⟩
    | some x =>
      obtain ⟨a',cs,ha,_,_,hc,k,ak,an,sa,al,bk,bn,sb,bl,m,Aa,ca,Ab,cb,Al,cl,hx,rfl,⟨b1,b2,b3,b4,b5⟩,ra,rb,rl⟩:=h i x e
      obtain rfl:=Option.some.inj ha
      refine ⟨((Aa,ca),(Ab,cb),(Al,cl)),fun k2 ak2 an2 sa2 al2 bk2 bn2 sb2 bl2 m2 hy => ?_⟩
      rw [hx] at hy
      injection hy with hy
      injection hy with y1 y2 y3 y4
      injection y2 with y5 y6 y7 y8
      injection y3 with y9 y10 y11 y12
      subst y1 y4 y5 y6 y7 y8 y9 y10 y11 y12
      have c0:=hc 0 _ rfl
      rw [show (a.add (i * 10)).add 0 = a.add (i * 10) by simp [Addr.add]] at c0
      exact ⟨⟨⟨c0,hc 1 _ rfl,hc 2 _ rfl,hc 3 _ rfl,hc 4 _ rfl,hc 5 _ rfl,hc 6 _ rfl,hc 7 _ rfl,hc 8 _ rfl,hc 9 _ rfl⟩,b1,b2,b3,b4,b5,ra,rb⟩,rl⟩
   obtain ⟨f,hf⟩:=Classical.axiomOfChoice h1
   exact .row a _ (fun i => (f i).1.1) (fun i => (f i).2.1.1) (fun i => (f i).2.2.1) (fun i => (f i).1.2) (fun i => (f i).2.1.2) (fun i => (f i).2.2.2) qx (fun i k ak an sa al bk bn sb bl m hi => (hf i k ak an sa al bk bn sb bl m hi).1) (fun i k ak an sa al bk bn sb bl m hi => (hf i k ak an sa al bk bn sb bl m hi).2)
end
section
open Go.RowKit
theorem qtm {w : World} {B : Nat} {l : List Pm} {A : Option Addr} (h : qD zp 2 w B l A) : yT w B l A:=by
 cases l with
 | nil => exact .nil A
 | cons x0 l0 =>
   obtain ⟨a,cs0,rfl,qx,_⟩:=h 0 x0 rfl
   refine .row a _ qx (fun i x hi => ?_)
   obtain ⟨a',cs,ha,_,_,hc,rfl,b1,b2⟩:=h i x hi
   obtain rfl:=Option.some.inj ha
   have c0:=hc 0 _ rfl
   rw [show (a.add (i * 2)).add 0 = a.add (i * 2) by simp [Addr.add]] at c0
   exact ⟨c0,hc 1 _ rfl,b1,b2⟩
end
section
open Go.RowKit
theorem StRow.ofV {w : World} {B : Nat} {l : List St} {A : Option Addr} (h : qD VSt 24 w B l A) : StRow w B l A:=by
 cases l with
 | nil => exact .nil A
 | cons x0 l0 =>
   obtain ⟨a,cs0,rfl,qx,_⟩:=h 0 x0 rfl
   have h1 : ∀ i : Nat,∃ d : SAd,∀ x,(x0 :: l0)[i]? = some x -> ((∀ j v,(jW d x)[j]? = some v -> w.cell? ((a.add (i * 24)).add j) = some v) /\ xS w B d x) /\ StRow w B x.body d.s /\ StRow w B x.els d.t:=by
    intro i
    cases e : (x0 :: l0)[i]? with
    | none => exact ⟨sAd0,fun x hx => by cases hx⟩
    | some x =>
      obtain ⟨a',cs,ha,_,_,hc,d,rfl,r1,r2,r3⟩:=h i x e
      obtain rfl:=Option.some.inj ha
      exact ⟨d,fun y hy => by obtain rfl:=Option.some.inj hy;exact ⟨⟨hc,r1⟩,r2,r3⟩⟩
   obtain ⟨f,hf⟩:=Classical.axiomOfChoice h1
   exact .row a _ f qx (fun i x hi => (hf i x hi).1) (fun i x hi => (hf i x hi).2.1) (fun i x hi => (hf i x hi).2.2)
end
section
open Go.RowKit Go.Lib
/-! ### Record -/
theorem qg1 (w : World) (B : Nat) : yW w B vI ⟨[],[]⟩:=⟨none,0,rfl,Nat.zero_le _,Nat.zero_le _,.nil _⟩
def qkU (w : World) (lo : Nat) (cs : Array Value) (x : Rc) : Prop :=
 ∃ (A : Option Addr) (c : Nat),cs = #[.string ⟨x.nm.toArray⟩,.slice A x.fs.length c] /\ x.nm.length <= maxLen /\ x.fs.length <= maxLen /\ qD zp 2 w w.heap.size x.fs A /\ ∀ a,A = some a -> x.fs ≠ [] -> lo <= a.block
theorem qkU.rc {w : World} {lo : Nat} {cs : Array Value} {x : Rc} (h : qkU w lo cs x) : yW w w.heap.size cs x:=by
 obtain ⟨A,c,h1,h2,h3,h4,_⟩:=h
 exact ⟨A,c,h1,h2,h3,qtm h4⟩
theorem qkU.near {g : Nat} {w w' : World} {lo : Nat} {cs : Array Value} {x : Rc} (h : qkU w lo cs x) (hn : Near g w w') (hg : g < lo) : qkU w' lo cs x:=by
 obtain ⟨A,c,h1,h2,h3,h4,h5⟩:=h
 exact ⟨A,c,h1,h2,h3,xN hn.size (vU hn (Nat.le_refl _) h4 (fun a ha hl => by have := h5 a ha hl;omega)),h5⟩
theorem js {w : World} {B : Nat} {cs : Array Value} {x : Rc} (h : yW w B cs x) : cs.size = 2 /\ cs.all (·.oneCell') = true:=by
 obtain ⟨A,c,rfl,_⟩:=h
 exact ⟨rfl,by rw [List.all_toArray];rfl⟩
end
section
open Go.RowKit Go.Lib
def qnF (N : Nat) (x : Pr) (cs : Array Value) : Prop:=cs.size = N /\ cs.all (·.oneCell') = true /\ cs[0]? = some (.string ⟨x.nm.toArray⟩)
theorem qnF.set {N : Nat} {x : Pr} {cs : Array Value} (h : qnF N x cs) (i : Nat) (hi : 0 < i) (v : Value) (hv : v.oneCell' = true) : qnF N x (cs.setIfInBounds i v):=by
 refine ⟨by rw [Array.size_setIfInBounds];exact h.1,?_,?_⟩
 ·rw [Array.all_eq_true_iff_forall_mem] at *
  intro u hu
  obtain ⟨j,hj,he⟩:=Array.getElem_of_mem hu
  rw [Array.getElem_setIfInBounds] at he
  split at he
  ·rw [<- he];exact hv
  ·rw [<- he];exact (Array.all_eq_true_iff_forall_mem.1 h.2.1) _ (Array.getElem_mem _)
  ·rw [Array.size_setIfInBounds] at hj;exact hj
 ·rw [Array.getElem?_setIfInBounds_ne (by omega)]
  exact h.2.2
def qra (k : Nat) (cs cs' : Array Value) : Prop:=∀ j v,k < j -> cs[j]? = some v -> cs'[j]? = some v
theorem qra.set {k i : Nat} {cs cs' : Array Value} (h : qra k cs cs') (jD : k < i) (v : Value) : qra i cs (cs'.setIfInBounds i v):=by
 intro j u hj hu
 rw [Array.getElem?_setIfInBounds_ne (by omega)]
 exact h j u (by omega) hu
/-! ### types.Proc -/
end
section
open Go.ChangeShapes Go.WideShapes Go.RowKit Go.WideElems
theorem qcU {H : Type} {enc : TypeId × Value -> H} {P : Program} {base : Nat} {W W' : World} {sp' : Nat -> Bool} (hl : laidOutB P = true) :
 ∀ {ts : List TypeId} {vs : List Value} {ds : List (DataW H)} {ps : List MemPlace},(∀ t ∈ ts,P.readableRec t = true /\ t < P.types.size) -> DataW.TrodAll enc P W base (fun _ => true) true ts vs ds ps ->
  (∀ p ∈ ps,W.sameAt W' p) -> (∀ p ∈ ps,sp' p.block = true) -> DataW.TrodAll enc P W' base sp' true ts vs ds ps
 | [],vs,ds,ps,_,h,_,_ => by
   obtain ⟨rfl,rfl,rfl⟩:=trodAll_nil h
   exact rfl
 | t :: ts,vs,ds,ps,ht,h,hs,hsp => by
   obtain ⟨v,vs1,d,ds1,a,b,rfl,rfl,rfl,h1,h2⟩:=trodAll_cons h
   have hr:=ht t (List.mem_cons_self ..)
   exact trodAll_cons_mk (Trod_stays hl hr.1 hr.2 h1 (fun p hp => hs p (List.mem_append_left _ hp)) (fun p hp => hsp p (List.mem_append_left _ hp)))
    (qcU hl (fun t' h' => ht t' (List.mem_cons_of_mem _ h')) h2 (fun p hp => hs p (List.mem_append_right _ hp)) (fun p hp => hsp p (List.mem_append_right _ hp)))
end
end Go.Proofs.YtojjfdegkooknaaGreatDoor
