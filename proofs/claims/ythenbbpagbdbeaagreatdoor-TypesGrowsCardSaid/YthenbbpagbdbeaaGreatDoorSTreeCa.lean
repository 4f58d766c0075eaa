import Derived.Test.YthenbbpagbdbeaaGreatDoorSTreeAx
import Derived.Test.YthenbbpagbdbeaaGreatDoorSTreeMa
set_option linter.unusedVariables false
set_option linter.unusedSimpArgs false
namespace Go.Proofs.YthenbbpagbdbeaaGreatDoor
open Go.RowKit
def VInC {α : Type} (V : World → Nat → Array Value → α → Prop) (S : Nat → Prop) (w : World) (cs : Array Value) (x : α) : Prop:=∃ w0,In S w0 w ∧ V w0 w0.heap.size cs x
def SubsV {α : Type} (V : World → Nat → Array Value → α → Prop) : Prop:=∀ (w0 w : World) (B : Nat) (cs : Array Value) (x : α),Sub w0 w → V w0 B cs x → V w w.heap.size cs x
def RowInC {α : Type} (V : World → Nat → Array Value → α → Prop) (n : Nat) (S : Nat → Prop) (w : World) (l : List α) (A : Option Addr) : Prop:=∃ w0,In S w0 w ∧ RowV V n w0 w0.heap.size l A
theorem VInC.maskV {α : Type} {V : World → Nat → Array Value → α → Prop} (hV : SubsV V) {S S' : Nat → Prop} {w : World} {cs : Array Value} {x : α} (h : VInC V S w cs x) (hS : ∀ b,S b → S' b) : V (World.mask w S') (World.mask w S').heap.size cs x:=by
 obtain ⟨w0,h1,h2⟩:=h
 exact hV w0 _ _ cs x (h1.mask hS) h2
theorem VInC.out {α : Type} {V : World → Nat → Array Value → α → Prop} (hV : SubsV V) {S : Nat → Prop} {w : World} {cs : Array Value} {x : α} (h : VInC V S w cs x) : V w w.heap.size cs x:=by
 obtain ⟨w0,h1,h2⟩:=h
 exact hV w0 _ _ cs x h1.toSub h2
structure CpRow3 (T : TypeId) (R : Nat → Nat → Array Value → World → Prop) (g n k : Nat) (outs : List (Array Value)) (w W : World) : Prop where
 len : outs.length = k
 sz : ∀ c ∈ outs,c.size = 3
 one : ∀ c ∈ outs,c.all (·.oneCell') = true
 row : ∃ cur : Array Value,W.heap[g]? = some (.cells cur T (0,0)) ∧ cur.size = n * 3 ∧ cur.toList.take (k * 3) = flatC outs
 rel : ∀ i c,outs[i]? = some c → R i (g + 1) c W
 below : Below w.heap.size w W
theorem stored_take3 (cur : List Value) (k n : Nat) (cs : List Value) (fl : List Value) (hc : cur.length = n * 3) (hk : k < n) (h24 : cs.length = 3) (ht : cur.take (k * 3) = fl) :
 (cur.take (k * 3) ++ cs ++ cur.drop (k * 3 + 3)).length = n * 3 ∧ (cur.take (k * 3) ++ cs ++ cur.drop (k * 3 + 3)).take ((k + 1) * 3) = fl ++ cs:=by
 have h1 : (cur.take (k * 3)).length = k * 3:=by rw [List.length_take];omega
 constructor
 ·simp only [List.length_append,List.length_drop,h1,h24,hc]
  omega
 ·rw [List.take_append_of_le_length (by rw [List.length_append,h1,h24];omega),List.take_of_length_le (by rw [List.length_append,h1,h24];omega),ht]
theorem CpRow3.next {T : TypeId} {R : Nat → Nat → Array Value → World → Prop} (hR : ∀ i,Stays (R i)) {g n k : Nat} {outs : List (Array Value)} {w W W3 : World} (h : CpRow3 T R g n k outs w W) (hk : k < n) (hgw : g = w.heap.size) {cs : Array Value} (h24 : cs.size = 3) (h1 : cs.all (·.oneCell') = true)
 (hb : Below W.heap.size W W3) (hr : R k (g + 1) cs W3) : ∃ W4,(storeCells ⟨g,k * 3,none⟩ cs.toList).run Tryz.prog W3 = .ok () W4 ∧ CpRow3 T R g n (k + 1) (outs ++ [cs]) w W4:=by
 obtain ⟨cur,hc,hs,ht⟩:=h.row
 have hc3:=kept_box hb hc
 have hrun:=run_storeCells_at (P:=Tryz.prog) g (k * 3) T cs.toList 0 cur W3 hc3 (by rw [Array.length_toList,h24,hs];omega) (fun v hv => (Array.all_eq_true_iff_forall_mem.1 h1) v (by simpa using hv))
 refine ⟨_,hrun,?_⟩
 obtain ⟨l1,l2⟩:=stored_take3 cur.toList k n cs.toList (flatC outs) (by simpa using hs) hk (by simpa using h24) ht
 have hpart : ∀ cells : Array Value,Part (fun b => b < g + 1) W3 (W3.setRow g cells):=fun cells => part_row cells (Nat.lt_succ_self g)
 refine ⟨by rw [List.length_append,h.len];rfl,fun c hm => ?_,fun c hm => ?_,⟨_,setRow_heap _ _ cur _ _ _ hc3,?_,?_⟩,fun i c hi => ?_,below_setRow (h.below.trans (hb.mono h.below.size)) (by omega) _⟩
 ·rcases List.mem_append.1 hm with hm | hm
  ·exact h.sz c hm
  ·rw [List.mem_singleton.1 hm];exact h24
 ·rcases List.mem_append.1 hm with hm | hm
  ·exact h.one c hm
  ·rw [List.mem_singleton.1 hm];exact h1
 ·rw [Array.length_toList,h24] 
  simp only [Nat.add_zero,List.size_toArray]
  exact l1
 ·rw [Array.length_toList,h24]
  simp only [Nat.add_zero]
  rw [l2]
  unfold flatC
  rw [List.flatMap_append]
  simp
 ·by_cases hik : i < outs.length
  ·rw [List.getElem?_append_left hik] at hi
   have h0:=(hR i).part _ _ _ _ (h.rel i c hi) (Part.of_below hb)
   exact (hR i).part _ _ _ _ h0 (hpart _)
  ·rw [List.getElem?_append_right (by omega)] at hi
   have hi0 : i = k:=by
    have := (List.getElem?_eq_some_iff.1 hi).1
    simp at this
    have := h.len
    omega
   subst hi0
   rw [h.len,Nat.sub_self] at hi
   obtain rfl : cs = c:=by simpa using hi
   exact (hR i).part _ _ _ _ hr (hpart _)
theorem flatC3 {outs : List (Array Value)} (h : ∀ c ∈ outs,c.size = 3) : ∀ (i j : Nat) (c : Array Value),outs[i]? = some c → j < 3 → (flatC outs)[i * 3 + j]? = c[j]?:=by
 induction outs with
 | nil => intro i j c hi;simp at hi
 | cons d outs ih =>
   intro i j c hi hj
   have h1 : d.toList.length = 3:=by rw [Array.length_toList];exact h d (List.mem_cons_self ..)
   have h2:=ih fun e he => h e (List.mem_cons_of_mem _ he)
   unfold flatC at h2 ⊢
   rw [List.flatMap_cons]
   match i,hi with
   | 0,hi =>
     obtain rfl : d = c:=Option.some.inj hi
     rw [List.getElem?_append_left (by omega),Nat.zero_mul,Nat.zero_add]
     simp
   | i + 1,hi => rw [List.getElem?_append_right (by omega),h1,show (i + 1) * 3 + j - 3 = i * 3 + j from by omega,h2 i j c hi hj]
theorem CpRow3.rowIn {α : Type} {T : TypeId} {V : World → Nat → Array Value → α → Prop} (hV : SubsV V) {R : Nat → Nat → Array Value → World → Prop} {g m : Nat} {outs : List (Array Value)} {w W : World} (h : CpRow3 T R g m m outs w W) {l : List α} (hl : l.length = m)
 (hR : ∀ i x B cs,l[i]? = some x → R i B cs W → VInC V (fun b => B ≤ b) W cs x) : RowInC V 3 (fun b => g ≤ b) W l (some ⟨g,0,none⟩):=by
 obtain ⟨cur,hc,hs,ht⟩:=h.row
 refine ⟨World.mask W (fun b => g ≤ b),mask_in W _,fun i x hi => ?_⟩
 have hlt:=(List.getElem?_eq_some_iff.1 hi).1
 have hlen:=h.len
 obtain ⟨c,hci⟩ : ∃ c,outs[i]? = some c:=⟨_,List.getElem?_eq_getElem (by omega)⟩
 have hcz:=h.sz c (List.mem_of_getElem? hci)
 refine ⟨⟨g,0,none⟩,c,rfl,?_,hcz,fun j v hv => ?_,(hR i x (g + 1) c hi (h.rel i c hci)).maskV hV (fun b hb => by omega)⟩
 ·have := (Array.getElem?_eq_some_iff.1 hc).1
  unfold World.mask
  simpa using this
 ·have hj : j < 3:=by rw [← hcz];exact (Array.getElem?_eq_some_iff.1 hv).1
  rw [add_add_plain,add_block0,mask_at W _ ⟨g,_,none⟩ (Nat.le_refl g)]
  refine cell_of_block hc _ ?_
  have h1:=flatC3 h.sz i j c hci hj
  rw [← ht,hv,List.getElem?_take] at h1
  split at h1
  ·simpa using h1
  ·cases h1
structure CpRow4 (T : TypeId) (R : Nat → Nat → Array Value → World → Prop) (g n k : Nat) (outs : List (Array Value)) (w W : World) : Prop where
 len : outs.length = k
 sz : ∀ c ∈ outs,c.size = 4
 one : ∀ c ∈ outs,c.all (·.oneCell') = true
 row : ∃ cur : Array Value,W.heap[g]? = some (.cells cur T (0,0)) ∧ cur.size = n * 4 ∧ cur.toList.take (k * 4) = flatC outs
 rel : ∀ i c,outs[i]? = some c → R i (g + 1) c W
 below : Below w.heap.size w W
theorem stored_take4 (cur : List Value) (k n : Nat) (cs : List Value) (fl : List Value) (hc : cur.length = n * 4) (hk : k < n) (h24 : cs.length = 4) (ht : cur.take (k * 4) = fl) :
 (cur.take (k * 4) ++ cs ++ cur.drop (k * 4 + 4)).length = n * 4 ∧ (cur.take (k * 4) ++ cs ++ cur.drop (k * 4 + 4)).take ((k + 1) * 4) = fl ++ cs:=by
 have h1 : (cur.take (k * 4)).length = k * 4:=by rw [List.length_take];omega
 constructor
 ·simp only [List.length_append,List.length_drop,h1,h24,hc]
  omega
 ·rw [List.take_append_of_le_length (by rw [List.length_append,h1,h24];omega),List.take_of_length_le (by rw [List.length_append,h1,h24];omega),ht]
theorem CpRow4.next {T : TypeId} {R : Nat → Nat → Array Value → World → Prop} (hR : ∀ i,Stays (R i)) {g n k : Nat} {outs : List (Array Value)} {w W W3 : World} (h : CpRow4 T R g n k outs w W) (hk : k < n) (hgw : g = w.heap.size) {cs : Array Value} (h24 : cs.size = 4) (h1 : cs.all (·.oneCell') = true)
 (hb : Below W.heap.size W W3) (hr : R k (g + 1) cs W3) : ∃ W4,(storeCells ⟨g,k * 4,none⟩ cs.toList).run Tryz.prog W3 = .ok () W4 ∧ CpRow4 T R g n (k + 1) (outs ++ [cs]) w W4:=by
 obtain ⟨cur,hc,hs,ht⟩:=h.row
 have hc3:=kept_box hb hc
 have hrun:=run_storeCells_at (P:=Tryz.prog) g (k * 4) T cs.toList 0 cur W3 hc3 (by rw [Array.length_toList,h24,hs];omega) (fun v hv => (Array.all_eq_true_iff_forall_mem.1 h1) v (by simpa using hv))
 refine ⟨_,hrun,?_⟩
 obtain ⟨l1,l2⟩:=stored_take4 cur.toList k n cs.toList (flatC outs) (by simpa using hs) hk (by simpa using h24) ht
 have hpart : ∀ cells : Array Value,Part (fun b => b < g + 1) W3 (W3.setRow g cells):=fun cells => part_row cells (Nat.lt_succ_self g)
 refine ⟨by rw [List.length_append,h.len];rfl,fun c hm => ?_,fun c hm => ?_,⟨_,setRow_heap _ _ cur _ _ _ hc3,?_,?_⟩,fun i c hi => ?_,below_setRow (h.below.trans (hb.mono h.below.size)) (by omega) _⟩
 ·rcases List.mem_append.1 hm with hm | hm
  ·exact h.sz c hm
  ·rw [List.mem_singleton.1 hm];exact h24
 ·rcases List.mem_append.1 hm with hm | hm
  ·exact h.one c hm
  ·rw [List.mem_singleton.1 hm];exact h1
 ·rw [Array.length_toList,h24] 
  simp only [Nat.add_zero,List.size_toArray]
  exact l1
 ·rw [Array.length_toList,h24]
  simp only [Nat.add_zero]
  rw [l2]
  unfold flatC
  rw [List.flatMap_append]
  simp
 ·by_cases hik : i < outs.length
  ·rw [List.getElem?_append_left hik] at hi
   have h0:=(hR i).part _ _ _ _ (h.rel i c hi) (Part.of_below hb)
   exact (hR i).part _ _ _ _ h0 (hpart _)
  ·rw [List.getElem?_append_right (by omega)] at hi
   have hi0 : i = k:=by
    have := (List.getElem?_eq_some_iff.1 hi).1
    simp at this
    have := h.len
    omega
   subst hi0
   rw [h.len,Nat.sub_self] at hi
   obtain rfl : cs = c:=by simpa using hi
   exact (hR i).part _ _ _ _ hr (hpart _)
theorem flatC4 {outs : List (Array Value)} (h : ∀ c ∈ outs,c.size = 4) : ∀ (i j : Nat) (c : Array Value),outs[i]? = some c → j < 4 → (flatC outs)[i * 4 + j]? = c[j]?:=by
 induction outs with
 | nil => intro i j c hi;simp at hi
 | cons d outs ih =>
   intro i j c hi hj
   have h1 : d.toList.length = 4:=by rw [Array.length_toList];exact h d (List.mem_cons_self ..)
   have h2:=ih fun e he => h e (List.mem_cons_of_mem _ he)
   unfold flatC at h2 ⊢
   rw [List.flatMap_cons]
   match i,hi with
   | 0,hi =>
     obtain rfl : d = c:=Option.some.inj hi
     rw [List.getElem?_append_left (by omega),Nat.zero_mul,Nat.zero_add]
     simp
   | i + 1,hi => rw [List.getElem?_append_right (by omega),h1,show (i + 1) * 4 + j - 4 = i * 4 + j from by omega,h2 i j c hi hj]
theorem CpRow4.rowIn {α : Type} {T : TypeId} {V : World → Nat → Array Value → α → Prop} (hV : SubsV V) {R : Nat → Nat → Array Value → World → Prop} {g m : Nat} {outs : List (Array Value)} {w W : World} (h : CpRow4 T R g m m outs w W) {l : List α} (hl : l.length = m)
 (hR : ∀ i x B cs,l[i]? = some x → R i B cs W → VInC V (fun b => B ≤ b) W cs x) : RowInC V 4 (fun b => g ≤ b) W l (some ⟨g,0,none⟩):=by
 obtain ⟨cur,hc,hs,ht⟩:=h.row
 refine ⟨World.mask W (fun b => g ≤ b),mask_in W _,fun i x hi => ?_⟩
 have hlt:=(List.getElem?_eq_some_iff.1 hi).1
 have hlen:=h.len
 obtain ⟨c,hci⟩ : ∃ c,outs[i]? = some c:=⟨_,List.getElem?_eq_getElem (by omega)⟩
 have hcz:=h.sz c (List.mem_of_getElem? hci)
 refine ⟨⟨g,0,none⟩,c,rfl,?_,hcz,fun j v hv => ?_,(hR i x (g + 1) c hi (h.rel i c hci)).maskV hV (fun b hb => by omega)⟩
 ·have := (Array.getElem?_eq_some_iff.1 hc).1
  unfold World.mask
  simpa using this
 ·have hj : j < 4:=by rw [← hcz];exact (Array.getElem?_eq_some_iff.1 hv).1
  rw [add_add_plain,add_block0,mask_at W _ ⟨g,_,none⟩ (Nat.le_refl g)]
  refine cell_of_block hc _ ?_
  have h1:=flatC4 h.sz i j c hci hj
  rw [← ht,hv,List.getElem?_take] at h1
  split at h1
  ·simpa using h1
  ·cases h1
structure CpRow9 (T : TypeId) (R : Nat → Nat → Array Value → World → Prop) (g n k : Nat) (outs : List (Array Value)) (w W : World) : Prop where
 len : outs.length = k
 sz : ∀ c ∈ outs,c.size = 9
 one : ∀ c ∈ outs,c.all (·.oneCell') = true
 row : ∃ cur : Array Value,W.heap[g]? = some (.cells cur T (0,0)) ∧ cur.size = n * 9 ∧ cur.toList.take (k * 9) = flatC outs
 rel : ∀ i c,outs[i]? = some c → R i (g + 1) c W
 below : Below w.heap.size w W
theorem stored_take9 (cur : List Value) (k n : Nat) (cs : List Value) (fl : List Value) (hc : cur.length = n * 9) (hk : k < n) (h24 : cs.length = 9) (ht : cur.take (k * 9) = fl) :
 (cur.take (k * 9) ++ cs ++ cur.drop (k * 9 + 9)).length = n * 9 ∧ (cur.take (k * 9) ++ cs ++ cur.drop (k * 9 + 9)).take ((k + 1) * 9) = fl ++ cs:=by
 have h1 : (cur.take (k * 9)).length = k * 9:=by rw [List.length_take];omega
 constructor
 ·simp only [List.length_append,List.length_drop,h1,h24,hc]
  omega
 ·rw [List.take_append_of_le_length (by rw [List.length_append,h1,h24];omega),List.take_of_length_le (by rw [List.length_append,h1,h24];omega),ht]
theorem CpRow9.next {T : TypeId} {R : Nat → Nat → Array Value → World → Prop} (hR : ∀ i,Stays (R i)) {g n k : Nat} {outs : List (Array Value)} {w W W3 : World} (h : CpRow9 T R g n k outs w W) (hk : k < n) (hgw : g = w.heap.size) {cs : Array Value} (h24 : cs.size = 9) (h1 : cs.all (·.oneCell') = true)
 (hb : Below W.heap.size W W3) (hr : R k (g + 1) cs W3) : ∃ W4,(storeCells ⟨g,k * 9,none⟩ cs.toList).run Tryz.prog W3 = .ok () W4 ∧ CpRow9 T R g n (k + 1) (outs ++ [cs]) w W4:=by
 obtain ⟨cur,hc,hs,ht⟩:=h.row
 have hc3:=kept_box hb hc
 have hrun:=run_storeCells_at (P:=Tryz.prog) g (k * 9) T cs.toList 0 cur W3 hc3 (by rw [Array.length_toList,h24,hs];omega) (fun v hv => (Array.all_eq_true_iff_forall_mem.1 h1) v (by simpa using hv))
 refine ⟨_,hrun,?_⟩
 obtain ⟨l1,l2⟩:=stored_take9 cur.toList k n cs.toList (flatC outs) (by simpa using hs) hk (by simpa using h24) ht
 have hpart : ∀ cells : Array Value,Part (fun b => b < g + 1) W3 (W3.setRow g cells):=fun cells => part_row cells (Nat.lt_succ_self g)
 refine ⟨by rw [List.length_append,h.len];rfl,fun c hm => ?_,fun c hm => ?_,⟨_,setRow_heap _ _ cur _ _ _ hc3,?_,?_⟩,fun i c hi => ?_,below_setRow (h.below.trans (hb.mono h.below.size)) (by omega) _⟩
 ·rcases List.mem_append.1 hm with hm | hm
  ·exact h.sz c hm
  ·rw [List.mem_singleton.1 hm];exact h24
 ·rcases List.mem_append.1 hm with hm | hm
  ·exact h.one c hm
  ·rw [List.mem_singleton.1 hm];exact h1
 ·rw [Array.length_toList,h24] 
  simp only [Nat.add_zero,List.size_toArray]
  exact l1
 ·rw [Array.length_toList,h24]
  simp only [Nat.add_zero]
  rw [l2]
  unfold flatC
  rw [List.flatMap_append]
  simp
 ·by_cases hik : i < outs.length
  ·rw [List.getElem?_append_left hik] at hi
   have h0:=(hR i).part _ _ _ _ (h.rel i c hi) (Part.of_below hb)
   exact (hR i).part _ _ _ _ h0 (hpart _)
  ·rw [List.getElem?_append_right (by omega)] at hi
   have hi0 : i = k:=by
    have := (List.getElem?_eq_some_iff.1 hi).1
    simp at this
    have := h.len
    omega
   subst hi0
   rw [h.len,Nat.sub_self] at hi
   obtain rfl : cs = c:=by simpa using hi
   exact (hR i).part _ _ _ _ hr (hpart _)
theorem flatC9 {outs : List (Array Value)} (h : ∀ c ∈ outs,c.size = 9) : ∀ (i j : Nat) (c : Array Value),outs[i]? = some c → j < 9 → (flatC outs)[i * 9 + j]? = c[j]?:=by
 induction outs with
 | nil => intro i j c hi;simp at hi
 | cons d outs ih =>
   intro i j c hi hj
   have h1 : d.toList.length = 9:=by rw [Array.length_toList];exact h d (List.mem_cons_self ..)
   have h2:=ih fun e he => h e (List.mem_cons_of_mem _ he)
   unfold flatC at h2 ⊢
   rw [List.flatMap_cons]
   match i,hi with
   | 0,hi =>
     obtain rfl : d = c:=Option.some.inj hi
     rw [List.getElem?_append_left (by omega),Nat.zero_mul,Nat.zero_add]
     simp
   | i + 1,hi => rw [List.getElem?_append_right (by omega),h1,show (i + 1) * 9 + j - 9 = i * 9 + j from by omega,h2 i j c hi hj]
theorem CpRow9.rowIn {α : Type} {T : TypeId} {V : World → Nat → Array Value → α → Prop} (hV : SubsV V) {R : Nat → Nat → Array Value → World → Prop} {g m : Nat} {outs : List (Array Value)} {w W : World} (h : CpRow9 T R g m m outs w W) {l : List α} (hl : l.length = m)
 (hR : ∀ i x B cs,l[i]? = some x → R i B cs W → VInC V (fun b => B ≤ b) W cs x) : RowInC V 9 (fun b => g ≤ b) W l (some ⟨g,0,none⟩):=by
 obtain ⟨cur,hc,hs,ht⟩:=h.row
 refine ⟨World.mask W (fun b => g ≤ b),mask_in W _,fun i x hi => ?_⟩
 have hlt:=(List.getElem?_eq_some_iff.1 hi).1
 have hlen:=h.len
 obtain ⟨c,hci⟩ : ∃ c,outs[i]? = some c:=⟨_,List.getElem?_eq_getElem (by omega)⟩
 have hcz:=h.sz c (List.mem_of_getElem? hci)
 refine ⟨⟨g,0,none⟩,c,rfl,?_,hcz,fun j v hv => ?_,(hR i x (g + 1) c hi (h.rel i c hci)).maskV hV (fun b hb => by omega)⟩
 ·have := (Array.getElem?_eq_some_iff.1 hc).1
  unfold World.mask
  simpa using this
 ·have hj : j < 9:=by rw [← hcz];exact (Array.getElem?_eq_some_iff.1 hv).1
  rw [add_add_plain,add_block0,mask_at W _ ⟨g,_,none⟩ (Nat.le_refl g)]
  refine cell_of_block hc _ ?_
  have h1:=flatC9 h.sz i j c hci hj
  rw [← ht,hv,List.getElem?_take] at h1
  split at h1
  ·simpa using h1
  ·cases h1
structure CpRow10 (T : TypeId) (R : Nat → Nat → Array Value → World → Prop) (g n k : Nat) (outs : List (Array Value)) (w W : World) : Prop where
 len : outs.length = k
 sz : ∀ c ∈ outs,c.size = 10
 one : ∀ c ∈ outs,c.all (·.oneCell') = true
 row : ∃ cur : Array Value,W.heap[g]? = some (.cells cur T (0,0)) ∧ cur.size = n * 10 ∧ cur.toList.take (k * 10) = flatC outs
 rel : ∀ i c,outs[i]? = some c → R i (g + 1) c W
 below : Below w.heap.size w W
theorem stored_take10 (cur : List Value) (k n : Nat) (cs : List Value) (fl : List Value) (hc : cur.length = n * 10) (hk : k < n) (h24 : cs.length = 10) (ht : cur.take (k * 10) = fl) :
 (cur.take (k * 10) ++ cs ++ cur.drop (k * 10 + 10)).length = n * 10 ∧ (cur.take (k * 10) ++ cs ++ cur.drop (k * 10 + 10)).take ((k + 1) * 10) = fl ++ cs:=by
 have h1 : (cur.take (k * 10)).length = k * 10:=by rw [List.length_take];omega
 constructor
 ·simp only [List.length_append,List.length_drop,h1,h24,hc]
  omega
 ·rw [List.take_append_of_le_length (by rw [List.length_append,h1,h24];omega),List.take_of_length_le (by rw [List.length_append,h1,h24];omega),ht]
theorem CpRow10.next {T : TypeId} {R : Nat → Nat → Array Value → World → Prop} (hR : ∀ i,Stays (R i)) {g n k : Nat} {outs : List (Array Value)} {w W W3 : World} (h : CpRow10 T R g n k outs w W) (hk : k < n) (hgw : g = w.heap.size) {cs : Array Value} (h24 : cs.size = 10) (h1 : cs.all (·.oneCell') = true)
 (hb : Below W.heap.size W W3) (hr : R k (g + 1) cs W3) : ∃ W4,(storeCells ⟨g,k * 10,none⟩ cs.toList).run Tryz.prog W3 = .ok () W4 ∧ CpRow10 T R g n (k + 1) (outs ++ [cs]) w W4:=by
 obtain ⟨cur,hc,hs,ht⟩:=h.row
 have hc3:=kept_box hb hc
 have hrun:=run_storeCells_at (P:=Tryz.prog) g (k * 10) T cs.toList 0 cur W3 hc3 (by rw [Array.length_toList,h24,hs];omega) (fun v hv => (Array.all_eq_true_iff_forall_mem.1 h1) v (by simpa using hv))
 refine ⟨_,hrun,?_⟩
 obtain ⟨l1,l2⟩:=stored_take10 cur.toList k n cs.toList (flatC outs) (by simpa using hs) hk (by simpa using h24) ht
 have hpart : ∀ cells : Array Value,Part (fun b => b < g + 1) W3 (W3.setRow g cells):=fun cells => part_row cells (Nat.lt_succ_self g)
 refine ⟨by rw [List.length_append,h.len];rfl,fun c hm => ?_,fun c hm => ?_,⟨_,setRow_heap _ _ cur _ _ _ hc3,?_,?_⟩,fun i c hi => ?_,below_setRow (h.below.trans (hb.mono h.below.size)) (by omega) _⟩
 ·rcases List.mem_append.1 hm with hm | hm
  ·exact h.sz c hm
  ·rw [List.mem_singleton.1 hm];exact h24
 ·rcases List.mem_append.1 hm with hm | hm
  ·exact h.one c hm
  ·rw [List.mem_singleton.1 hm];exact h1
 ·rw [Array.length_toList,h24] 
  simp only [Nat.add_zero,List.size_toArray]
  exact l1
 ·rw [Array.length_toList,h24]
  simp only [Nat.add_zero]
  rw [l2]
  unfold flatC
  rw [List.flatMap_append]
  simp
 ·by_cases hik : i < outs.length
  ·rw [List.getElem?_append_left hik] at hi
   have h0:=(hR i).part _ _ _ _ (h.rel i c hi) (Part.of_below hb)
   exact (hR i).part _ _ _ _ h0 (hpart _)
  ·rw [List.getElem?_append_right (by omega)] at hi
   have hi0 : i = k:=by
    have := (List.getElem?_eq_some_iff.1 hi).1
    simp at this
    have := h.len
    omega
   subst hi0
   rw [h.len,Nat.sub_self] at hi
   obtain rfl : cs = c:=by simpa using hi
   exact (hR i).part _ _ _ _ hr (hpart _)
theorem flatC10 {outs : List (Array Value)} (h : ∀ c ∈ outs,c.size = 10) : ∀ (i j : Nat) (c : Array Value),outs[i]? = some c → j < 10 → (flatC outs)[i * 10 + j]? = c[j]?:=by
 induction outs with
 | nil => intro i j c hi;simp at hi
 | cons d outs ih =>
   intro i j c hi hj
   have h1 : d.toList.length = 10:=by rw [Array.length_toList];exact h d (List.mem_cons_self ..)
   have h2:=ih fun e he => h e (List.mem_cons_of_mem _ he)
   unfold flatC at h2 ⊢
   rw [List.flatMap_cons]
   match i,hi with
   | 0,hi =>
     obtain rfl : d = c:=Option.some.inj hi
     rw [List.getElem?_append_left (by omega),Nat.zero_mul,Nat.zero_add]
     simp
   | i + 1,hi => rw [List.getElem?_append_right (by omega),h1,show (i + 1) * 10 + j - 10 = i * 10 + j from by omega,h2 i j c hi hj]
theorem CpRow10.rowIn {α : Type} {T : TypeId} {V : World → Nat → Array Value → α → Prop} (hV : SubsV V) {R : Nat → Nat → Array Value → World → Prop} {g m : Nat} {outs : List (Array Value)} {w W : World} (h : CpRow10 T R g m m outs w W) {l : List α} (hl : l.length = m)
 (hR : ∀ i x B cs,l[i]? = some x → R i B cs W → VInC V (fun b => B ≤ b) W cs x) : RowInC V 10 (fun b => g ≤ b) W l (some ⟨g,0,none⟩):=by
 obtain ⟨cur,hc,hs,ht⟩:=h.row
 refine ⟨World.mask W (fun b => g ≤ b),mask_in W _,fun i x hi => ?_⟩
 have hlt:=(List.getElem?_eq_some_iff.1 hi).1
 have hlen:=h.len
 obtain ⟨c,hci⟩ : ∃ c,outs[i]? = some c:=⟨_,List.getElem?_eq_getElem (by omega)⟩
 have hcz:=h.sz c (List.mem_of_getElem? hci)
 refine ⟨⟨g,0,none⟩,c,rfl,?_,hcz,fun j v hv => ?_,(hR i x (g + 1) c hi (h.rel i c hci)).maskV hV (fun b hb => by omega)⟩
 ·have := (Array.getElem?_eq_some_iff.1 hc).1
  unfold World.mask
  simpa using this
 ·have hj : j < 10:=by rw [← hcz];exact (Array.getElem?_eq_some_iff.1 hv).1
  rw [add_add_plain,add_block0,mask_at W _ ⟨g,_,none⟩ (Nat.le_refl g)]
  refine cell_of_block hc _ ?_
  have h1:=flatC10 h.sz i j c hci hj
  rw [← ht,hv,List.getElem?_take] at h1
  split at h1
  ·simpa using h1
  ·cases h1
end Go.Proofs.YthenbbpagbdbeaaGreatDoor
