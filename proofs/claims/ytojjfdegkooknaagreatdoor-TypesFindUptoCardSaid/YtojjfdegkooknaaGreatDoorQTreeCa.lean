import Derived.Test.YtojjfdegkooknaaGreatDoorQTreeAx
import Derived.Test.YtojjfdegkooknaaGreatDoorQTreeMa
set_option linter.unusedVariables false
set_option linter.unusedSimpArgs false
namespace Go.Proofs.YtojjfdegkooknaaGreatDoor
set_option maxRecDepth 100000
set_option maxHeartbeats 4000000
open Go.RowKit
def VInC {α : Type} (V : World → Nat → Array Value → α → Prop) (S : Nat → Prop) (w : World) (cs : Array Value) (x : α) : Prop:=∃ w0,In S w0 w ∧ V w0 w0.heap.size cs x
def SubsV {α : Type} (V : World → Nat → Array Value → α → Prop) : Prop:=∀ (w0 w : World) (B : Nat) (cs : Array Value) (x : α),Sub w0 w → V w0 B cs x → V w w.heap.size cs x
def RowInC {α : Type} (V : World → Nat → Array Value → α → Prop) (n : Nat) (S : Nat → Prop) (w : World) (l : List α) (A : Option Addr) : Prop:=∃ w0,In S w0 w ∧ RowV V n w0 w0.heap.size l A
theorem VInC.maskV {α : Type} {V : World → Nat → Array Value → α → Prop} (hV : SubsV V) {S S' : Nat → Prop} {w : World} {cs : Array Value} {x : α} (h : VInC V S w cs x) (hS : ∀ b,S b → S' b) : V (World.mask w S') (World.mask w S').heap.size cs x:=by
 obtain ⟨w0,h1,h2⟩:=h
 exact hV w0 _ _ cs x (h1.mask hS) h2
theorem VInC.out {α : Type} {V : World → Nat → Array Value → α → Prop} (hV : SubsV V) {S : Nat → Prop} {w : World} {cs : Array Value} {x : α} (h : VInC V S w cs x) : V w w.heap.size cs x:=by
 obtain ⟨w0,h1,h2⟩:=h
 exact hV w0 _ _ cs x h1.toSub h2
theorem vin_stays {α : Type} (V : World → Nat → Array Value → α → Prop) (x : α) : Stays (fun B cs W => VInC V (fun b => B ≤ b) W cs x) :=
 ⟨fun B cs W W' h hp => by
   obtain ⟨w0,h1,h2⟩:=h
   exact ⟨w0,fun q v hq => ⟨(hp.cell (lt_of_cell (h1 q v hq).1) (by have : B ≤ q.block:=(h1 q v hq).2;omega)).trans (h1 q v hq).1,(h1 q v hq).2⟩,h2⟩,
  fun B B' cs W h hB => by
   obtain ⟨w0,h1,h2⟩:=h
   exact ⟨w0,fun q v hq => ⟨(h1 q v hq).1,Nat.le_trans hB (h1 q v hq).2⟩,h2⟩⟩
structure CpRow3 (T : TypeId) (R : Nat → Nat → Array Value → World → Prop) (g n k : Nat) (outs : List (Array Value)) (w W : World) : Prop where
 len : outs.length = k
 sz : ∀ c ∈ outs,c.size = 3
 one : ∀ c ∈ outs,c.all (·.oneCell') = true
 row : ∃ cur : Array Value,W.heap[g]? = some (.cells cur T (0,0)) ∧ cur.size = n * 3 ∧ cur.toList.take (k * 3) = flatC outs
 rel : ∀ i c,outs[i]? = some c → R i (g + 1) c W
 below : Below w.heap.size w W
theorem stored_take3 (cur : List Value) (k n : Nat) (cs : List Value) (fl : List Value) (hc : cur.length = n * 3) (hk : k < n) (h24 : cs.length = 3) (ht : cur.take (k * 3) = fl) :
 (cur.take (k * 3) ++ cs ++ cur.drop (k * 3 + 3)).length = n * 3 ∧ (cur.take (k * 3) ++ cs ++ cur.drop (k * 3 + 3)).take ((k + 1) * 3) = fl ++ cs:=by
 have h1 : (cur.take (k * 3)).length = k * 3:=by rw [List.length_take];omega
 constructor
 ·simp only [List.length_append,List.length_drop,h1,h24,hc]
  omega
 ·rw [List.take_append_of_le_length (by rw [List.length_append,h1,h24];omega),List.take_of_length_le (by rw [List.length_append,h1,h24];omega),ht]
theorem CpRow3.next {T : TypeId} {R : Nat → Nat → Array Value → World → Prop} (hR : ∀ i,Stays (R i)) {g n k : Nat} {outs : List (Array Value)} {w W W3 : World} (h : CpRow3 T R g n k outs w W) (hk : k < n) (hgw : g = w.heap.size) {cs : Array Value} (h24 : cs.size = 3) (h1 : cs.all (·.oneCell') = true)
 (hb : Below W.heap.size W W3) (hr : R k (g + 1) cs W3) : ∃ W4,(storeCells ⟨g,k * 3,none⟩ cs.toList).run Tryz.prog W3 = .ok () W4 ∧ CpRow3 T R g n (k + 1) (outs ++ [cs]) w W4:=by
 obtain ⟨cur,hc,hs,ht⟩:=h.row
 have hc3:=kept_box hb hc
 have hrun:=run_storeCells_at (P:=Tryz.prog) g (k * 3) T cs.toList 0 cur W3 hc3 (by rw [Array.length_toList,h24,hs];omega) (fun v hv => (Array.all_eq_true_iff_forall_mem.1 h1) v (by simpa using hv))
 refine ⟨_,hrun,?_⟩
 obtain ⟨l1,l2⟩:=stored_take3 cur.toList k n cs.toList (flatC outs) (by simpa using hs) hk (by simpa using h24) ht
 have hpart : ∀ cells : Array Value,Part (fun b => b < g + 1) W3 (W3.setRow g cells):=fun cells => part_row cells (Nat.lt_succ_self g)
 refine ⟨by rw [List.length_append,h.len];rfl,fun c hm => ?_,fun c hm => ?_,⟨_,setRow_heap _ _ cur _ _ _ hc3,?_,?_⟩,fun i c hi => ?_,below_setRow (h.below.trans (hb.mono h.below.size)) (by omega) _⟩
 ·rcases List.mem_append.1 hm with hm | hm
  ·exact h.sz c hm
  ·rw [List.mem_singleton.1 hm];exact h24
 ·rcases List.mem_append.1 hm with hm | hm
  ·exact h.one c hm
  ·rw [List.mem_singleton.1 hm];exact h1
 ·rw [Array.length_toList,h24] 
  simp only [Nat.add_zero,List.size_toArray]
  exact l1
 ·rw [Array.length_toList,h24]
  simp only [Nat.add_zero]
  rw [l2]
  unfold flatC
  rw [List.flatMap_append]
  simp
 ·by_cases hik : i < outs.length
  ·rw [List.getElem?_append_left hik] at hi
   have h0:=(hR i).part _ _ _ _ (h.rel i c hi) (Part.of_below hb)
   exact (hR i).part _ _ _ _ h0 (hpart _)
  ·rw [List.getElem?_append_right (by omega)] at hi
   have hi0 : i = k:=by
    have := (List.getElem?_eq_some_iff.1 hi).1
    simp at this
    have := h.len
    omega
   subst hi0
   rw [h.len,Nat.sub_self] at hi
   obtain rfl : cs = c:=by simpa using hi
   exact (hR i).part _ _ _ _ hr (hpart _)
theorem flatC3 {outs : List (Array Value)} (h : ∀ c ∈ outs,c.size = 3) : ∀ (i j : Nat) (c : Array Value),outs[i]? = some c → j < 3 → (flatC outs)[i * 3 + j]? = c[j]?:=by
 induction outs with
 | nil => intro i j c hi;simp at hi
 | cons d outs ih =>
   intro i j c hi hj
   have h1 : d.toList.length = 3:=by rw [Array.length_toList];exact h d (List.mem_cons_self ..)
   have h2:=ih fun e he => h e (List.mem_cons_of_mem _ he)
   unfold flatC at h2 ⊢
   rw [List.flatMap_cons]
   match i,hi with
   | 0,hi =>
     obtain rfl : d = c:=Option.some.inj hi
     rw [List.getElem?_append_left (by omega),Nat.zero_mul,Nat.zero_add]
     simp
   | i + 1,hi => rw [List.getElem?_append_right (by omega),h1,show (i + 1) * 3 + j - 3 = i * 3 + j from by omega,h2 i j c hi hj]
theorem CpRow3.rowIn {α : Type} {T : TypeId} {V : World → Nat → Array Value → α → Prop} (hV : SubsV V) {R : Nat → Nat → Array Value → World → Prop} {g m : Nat} {outs : List (Array Value)} {w W : World} (h : CpRow3 T R g m m outs w W) {l : List α} (hl : l.length = m)
 (hR : ∀ i x B cs,l[i]? = some x → R i B cs W → VInC V (fun b => B ≤ b) W cs x) : RowInC V 3 (fun b => g ≤ b) W l (some ⟨g,0,none⟩):=by
 obtain ⟨cur,hc,hs,ht⟩:=h.row
 refine ⟨World.mask W (fun b => g ≤ b),mask_in W _,fun i x hi => ?_⟩
 have hlt:=(List.getElem?_eq_some_iff.1 hi).1
 have hlen:=h.len
 obtain ⟨c,hci⟩ : ∃ c,outs[i]? = some c:=⟨_,List.getElem?_eq_getElem (by omega)⟩
 have hcz:=h.sz c (List.mem_of_getElem? hci)
 refine ⟨⟨g,0,none⟩,c,rfl,?_,hcz,fun j v hv => ?_,(hR i x (g + 1) c hi (h.rel i c hci)).maskV hV (fun b hb => by omega)⟩
 ·have := (Array.getElem?_eq_some_iff.1 hc).1
  unfold World.mask
  simpa using this
 ·have hj : j < 3:=by rw [← hcz];exact (Array.getElem?_eq_some_iff.1 hv).1
  rw [add_add_plain,add_block0,mask_at W _ ⟨g,_,none⟩ (Nat.le_refl g)]
  refine cell_of_block hc _ ?_
  have h1:=flatC3 h.sz i j c hci hj
  rw [← ht,hv,List.getElem?_take] at h1
  split at h1
  ·simpa using h1
  ·cases h1
structure CpRow4 (T : TypeId) (R : Nat → Nat → Array Value → World → Prop) (g n k : Nat) (outs : List (Array Value)) (w W : World) : Prop where
 len : outs.length = k
 sz : ∀ c ∈ outs,c.size = 4
 one : ∀ c ∈ outs,c.all (·.oneCell') = true
 row : ∃ cur : Array Value,W.heap[g]? = some (.cells cur T (0,0)) ∧ cur.size = n * 4 ∧ cur.toList.take (k * 4) = flatC outs
 rel : ∀ i c,outs[i]? = some c → R i (g + 1) c W
 below : Below w.heap.size w W
theorem stored_take4 (cur : List Value) (k n : Nat) (cs : List Value) (fl : List Value) (hc : cur.length = n * 4) (hk : k < n) (h24 : cs.length = 4) (ht : cur.take (k * 4) = fl) :
 (cur.take (k * 4) ++ cs ++ cur.drop (k * 4 + 4)).length = n * 4 ∧ (cur.take (k * 4) ++ cs ++ cur.drop (k * 4 + 4)).take ((k + 1) * 4) = fl ++ cs:=by
 have h1 : (cur.take (k * 4)).length = k * 4:=by rw [List.length_take];omega
 constructor
 ·simp only [List.length_append,List.length_drop,h1,h24,hc]
  omega
 ·rw [List.take_append_of_le_length (by rw [List.length_append,h1,h24];omega),List.take_of_length_le (by rw [List.length_append,h1,h24];omega),ht]
theorem CpRow4.next {T : TypeId} {R : Nat → Nat → Array Value → World → Prop} (hR : ∀ i,Stays (R i)) {g n k : Nat} {outs : List (Array Value)} {w W W3 : World} (h : CpRow4 T R g n k outs w W) (hk : k < n) (hgw : g = w.heap.size) {cs : Array Value} (h24 : cs.size = 4) (h1 : cs.all (·.oneCell') = true)
 (hb : Below W.heap.size W W3) (hr : R k (g + 1) cs W3) : ∃ W4,(storeCells ⟨g,k * 4,none⟩ cs.toList).run Tryz.prog W3 = .ok () W4 ∧ CpRow4 T R g n (k + 1) (outs ++ [cs]) w W4:=by
 obtain ⟨cur,hc,hs,ht⟩:=h.row
 have hc3:=kept_box hb hc
 have hrun:=run_storeCells_at (P:=Tryz.prog) g (k * 4) T cs.toList 0 cur W3 hc3 (by rw [Array.length_toList,h24,hs];omega) (fun v hv => (Array.all_eq_true_iff_forall_mem.1 h1) v (by simpa using hv))
 refine ⟨_,hrun,?_⟩
 obtain ⟨l1,l2⟩:=stored_take4 cur.toList k n cs.toList (flatC outs) (by simpa using hs) hk (by simpa using h24) ht
 have hpart : ∀ cells : Array Value,Part (fun b => b < g + 1) W3 (W3.setRow g cells):=fun cells => part_row cells (Nat.lt_succ_self g)
 refine ⟨by rw [List.length_append,h.len];rfl,fun c hm => ?_,fun c hm => ?_,⟨_,setRow_heap _ _ cur _ _ _ hc3,?_,?_⟩,fun i c hi => ?_,below_setRow (h.below.trans (hb.mono h.below.size)) (by omega) _⟩
 ·rcases List.mem_append.1 hm with hm | hm
  ·exact h.sz c hm
  ·rw [List.mem_singleton.1 hm];exact h24
 ·rcases List.mem_append.1 hm with hm | hm
  ·exact h.one c hm
  ·rw [List.mem_singleton.1 hm];exact h1
 ·rw [Array.length_toList,h24] 
  simp only [Nat.add_zero,List.size_toArray]
  exact l1
 ·rw [Array.length_toList,h24]
  simp only [Nat.add_zero]
  rw [l2]
  unfold flatC
  rw [List.flatMap_append]
  simp
 ·by_cases hik : i < outs.length
  ·rw [List.getElem?_append_left hik] at hi
   have h0:=(hR i).part _ _ _ _ (h.rel i c hi) (Part.of_below hb)
   exact (hR i).part _ _ _ _ h0 (hpart _)
  ·rw [List.getElem?_append_right (by omega)] at hi
   have hi0 : i = k:=by
    have := (List.getElem?_eq_some_iff.1 hi).1
    simp at this
    have := h.len
    omega
   subst hi0
   rw [h.len,Nat.sub_self] at hi
   obtain rfl : cs = c:=by simpa using hi
   exact (hR i).part _ _ _ _ hr (hpart _)
theorem flatC4 {outs : List (Array Value)} (h : ∀ c ∈ outs,c.size = 4) : ∀ (i j : Nat) (c : Array Value),outs[i]? = some c → j < 4 → (flatC outs)[i * 4 + j]? = c[j]?:=by
 induction outs with
 | nil => intro i j c hi;simp at hi
 | cons d outs ih =>
   intro i j c hi hj
   have h1 : d.toList.length = 4:=by rw [Array.length_toList];exact h d (List.mem_cons_self ..)
   have h2:=ih fun e he => h e (List.mem_cons_of_mem _ he)
   unfold flatC at h2 ⊢
   rw [List.flatMap_cons]
   match i,hi with
   | 0,hi =>
     obtain rfl : d = c:=Option.some.inj hi
     rw [List.getElem?_append_left (by omega),Nat.zero_mul,Nat.zero_add]
     simp
   | i + 1,hi => rw [List.getElem?_append_right (by omega),h1,show (i + 1) * 4 + j - 4 = i * 4 + j from by omega,h2 i j c hi hj]
theorem CpRow4.rowIn {α : Type} {T : TypeId} {V : World → Nat → Array Value → α → Prop} (hV : SubsV V) {R : Nat → Nat → Array Value → World → Prop} {g m : Nat} {outs : List (Array Value)} {w W : World} (h : CpRow4 T R g m m outs w W) {l : List α} (hl : l.length = m)
 (hR : ∀ i x B cs,l[i]? = some x → R i B cs W → VInC V (fun b => B ≤ b) W cs x) : RowInC V 4 (fun b => g ≤ b) W l (some ⟨g,0,none⟩):=by
 obtain ⟨cur,hc,hs,ht⟩:=h.row
 refine ⟨World.mask W (fun b => g ≤ b),mask_in W _,fun i x hi => ?_⟩
 have hlt:=(List.getElem?_eq_some_iff.1 hi).1
 have hlen:=h.len
 obtain ⟨c,hci⟩ : ∃ c,outs[i]? = some c:=⟨_,List.getElem?_eq_getElem (by omega)⟩
 have hcz:=h.sz c (List.mem_of_getElem? hci)
 refine ⟨⟨g,0,none⟩,c,rfl,?_,hcz,fun j v hv => ?_,(hR i x (g + 1) c hi (h.rel i c hci)).maskV hV (fun b hb => by omega)⟩
 ·have := (Array.getElem?_eq_some_iff.1 hc).1
  unfold World.mask
  simpa using this
 ·have hj : j < 4:=by rw [← hcz];exact (Array.getElem?_eq_some_iff.1 hv).1
  rw [add_add_plain,add_block0,mask_at W _ ⟨g,_,none⟩ (Nat.le_refl g)]
  refine cell_of_block hc _ ?_
  have h1:=flatC4 h.sz i j c hci hj
  rw [← ht,hv,List.getElem?_take] at h1
  split at h1
  ·simpa using h1
  ·cases h1
structure CpRow9 (T : TypeId) (R : Nat → Nat → Array Value → World → Prop) (g n k : Nat) (outs : List (Array Value)) (w W : World) : Prop where
 len : outs.length = k
 sz : ∀ c ∈ outs,c.size = 9
 one : ∀ c ∈ outs,c.all (·.oneCell') = true
 row : ∃ cur : Array Value,W.heap[g]? = some (.cells cur T (0,0)) ∧ cur.size = n * 9 ∧ cur.toList.take (k * 9) = flatC outs
 rel : ∀ i c,outs[i]? = some c → R i (g + 1) c W
 below : Below w.heap.size w W
theorem stored_take9 (cur : List Value) (k n : Nat) (cs : List Value) (fl : List Value) (hc : cur.length = n * 9) (hk : k < n) (h24 : cs.length = 9) (ht : cur.take (k * 9) = fl) :
 (cur.take (k * 9) ++ cs ++ cur.drop (k * 9 + 9)).length = n * 9 ∧ (cur.take (k * 9) ++ cs ++ cur.drop (k * 9 + 9)).take ((k + 1) * 9) = fl ++ cs:=by
 have h1 : (cur.take (k * 9)).length = k * 9:=by rw [List.length_take];omega
 constructor
 ·simp only [List.length_append,List.length_drop,h1,h24,hc]
  omega
 ·rw [List.take_append_of_le_length (by rw [List.length_append,h1,h24];omega),List.take_of_length_le (by rw [List.length_append,h1,h24];omega),ht]
theorem CpRow9.next {T : TypeId} {R : Nat → Nat → Array Value → World → Prop} (hR : ∀ i,Stays (R i)) {g n k : Nat} {outs : List (Array Value)} {w W W3 : World} (h : CpRow9 T R g n k outs w W) (hk : k < n) (hgw : g = w.heap.size) {cs : Array Value} (h24 : cs.size = 9) (h1 : cs.all (·.oneCell') = true)
 (hb : Below W.heap.size W W3) (hr : R k (g + 1) cs W3) : ∃ W4,(storeCells ⟨g,k * 9,none⟩ cs.toList).run Tryz.prog W3 = .ok () W4 ∧ CpRow9 T R g n (k + 1) (outs ++ [cs]) w W4:=by
 obtain ⟨cur,hc,hs,ht⟩:=h.row
 have hc3:=kept_box hb hc
 have hrun:=run_storeCells_at (P:=Tryz.prog) g (k * 9) T cs.toList 0 cur W3 hc3 (by rw [Array.length_toList,h24,hs];omega) (fun v hv => (Array.all_eq_true_iff_forall_mem.1 h1) v (by simpa using hv))
 refine ⟨_,hrun,?_⟩
 obtain ⟨l1,l2⟩:=stored_take9 cur.toList k n cs.toList (flatC outs) (by simpa using hs) hk (by simpa using h24) ht
 have hpart : ∀ cells : Array Value,Part (fun b => b < g + 1) W3 (W3.setRow g cells):=fun cells => part_row cells (Nat.lt_succ_self g)
 refine ⟨by rw [List.length_append,h.len];rfl,fun c hm => ?_,fun c hm => ?_,⟨_,setRow_heap _ _ cur _ _ _ hc3,?_,?_⟩,fun i c hi => ?_,below_setRow (h.below.trans (hb.mono h.below.size)) (by omega) _⟩
 ·rcases List.mem_append.1 hm with hm | hm
  ·exact h.sz c hm
  ·rw [List.mem_singleton.1 hm];exact h24
 ·rcases List.mem_append.1 hm with hm | hm
  ·exact h.one c hm
  ·rw [List.mem_singleton.1 hm];exact h1
 ·rw [Array.length_toList,h24] 
  simp only [Nat.add_zero,List.size_toArray]
  exact l1
 ·rw [Array.length_toList,h24]
  simp only [Nat.add_zero]
  rw [l2]
  unfold flatC
  rw [List.flatMap_append]
  simp
 ·by_cases hik : i < outs.length
  ·rw [List.getElem?_append_left hik] at hi
   have h0:=(hR i).part _ _ _ _ (h.rel i c hi) (Part.of_below hb)
   exact (hR i).part _ _ _ _ h0 (hpart _)
  ·rw [List.getElem?_append_right (by omega)] at hi
   have hi0 : i = k:=by
    have := (List.getElem?_eq_some_iff.1 hi).1
    simp at this
    have := h.len
    omega
   subst hi0
   rw [h.len,Nat.sub_self] at hi
   obtain rfl : cs = c:=by simpa using hi
   exact (hR i).part _ _ _ _ hr (hpart _)
theorem flatC9 {outs : List (Array Value)} (h : ∀ c ∈ outs,c.size = 9) : ∀ (i j : Nat) (c : Array Value),outs[i]? = some c → j < 9 → (flatC outs)[i * 9 + j]? = c[j]?:=by
 induction outs with
 | nil => intro i j c hi;simp at hi
 | cons d outs ih =>
   intro i j c hi hj
   have h1 : d.toList.length = 9:=by rw [Array.length_toList];exact h d (List.mem_cons_self ..)
   have h2:=ih fun e he => h e (List.mem_cons_of_mem _ he)
   unfold flatC at h2 ⊢
   rw [List.flatMap_cons]
   match i,hi with
   | 0,hi =>
     obtain rfl : d = c:=Option.some.inj hi
     rw [List.getElem?_append_left (by omega),Nat.zero_mul,Nat.zero_add]
     simp
   | i + 1,hi => rw [List.getElem?_append_right (by omega),h1,show (i + 1) * 9 + j - 9 = i * 9 + j from by omega,h2 i j c hi hj]
theorem CpRow9.rowIn {α : Type} {T : TypeId} {V : World → Nat → Array Value → α → Prop} (hV : SubsV V) {R : Nat → Nat → Array Value → World → Prop} {g m : Nat} {outs : List (Array Value)} {w W : World} (h : CpRow9 T R g m m outs w W) {l : List α} (hl : l.length = m)
 (hR : ∀ i x B cs,l[i]? = some x → R i B cs W → VInC V (fun b => B ≤ b) W cs x) : RowInC V 9 (fun b => g ≤ b) W l (some ⟨g,0,none⟩):=by
 obtain ⟨cur,hc,hs,ht⟩:=h.row
 refine ⟨World.mask W (fun b => g ≤ b),mask_in W _,fun i x hi => ?_⟩
 have hlt:=(List.getElem?_eq_some_iff.1 hi).1
 have hlen:=h.len
 obtain ⟨c,hci⟩ : ∃ c,outs[i]? = some c:=⟨_,List.getElem?_eq_getElem (by omega)⟩
 have hcz:=h.sz c (List.mem_of_getElem? hci)
 refine ⟨⟨g,0,none⟩,c,rfl,?_,hcz,fun j v hv => ?_,(hR i x (g + 1) c hi (h.rel i c hci)).maskV hV (fun b hb => by omega)⟩
 ·have := (Array.getElem?_eq_some_iff.1 hc).1
  unfold World.mask
  simpa using this
 ·have hj : j < 9:=by rw [← hcz];exact (Array.getElem?_eq_some_iff.1 hv).1
  rw [add_add_plain,add_block0,mask_at W _ ⟨g,_,none⟩ (Nat.le_refl g)]
  refine cell_of_block hc _ ?_
  have h1:=flatC9 h.sz i j c hci hj
  rw [← ht,hv,List.getElem?_take] at h1
  split at h1
  ·simpa using h1
  ·cases h1
structure CpRow10 (T : TypeId) (R : Nat → Nat → Array Value → World → Prop) (g n k : Nat) (outs : List (Array Value)) (w W : World) : Prop where
 len : outs.length = k
 sz : ∀ c ∈ outs,c.size = 10
 one : ∀ c ∈ outs,c.all (·.oneCell') = true
 row : ∃ cur : Array Value,W.heap[g]? = some (.cells cur T (0,0)) ∧ cur.size = n * 10 ∧ cur.toList.take (k * 10) = flatC outs
 rel : ∀ i c,outs[i]? = some c → R i (g + 1) c W
 below : Below w.heap.size w W
theorem stored_take10 (cur : List Value) (k n : Nat) (cs : List Value) (fl : List Value) (hc : cur.length = n * 10) (hk : k < n) (h24 : cs.length = 10) (ht : cur.take (k * 10) = fl) :
 (cur.take (k * 10) ++ cs ++ cur.drop (k * 10 + 10)).length = n * 10 ∧ (cur.take (k * 10) ++ cs ++ cur.drop (k * 10 + 10)).take ((k + 1) * 10) = fl ++ cs:=by
 have h1 : (cur.take (k * 10)).length = k * 10:=by rw [List.length_take];omega
 constructor
 ·simp only [List.length_append,List.length_drop,h1,h24,hc]
  omega
 ·rw [List.take_append_of_le_length (by rw [List.length_append,h1,h24];omega),List.take_of_length_le (by rw [List.length_append,h1,h24];omega),ht]
theorem CpRow10.next {T : TypeId} {R : Nat → Nat → Array Value → World → Prop} (hR : ∀ i,Stays (R i)) {g n k : Nat} {outs : List (Array Value)} {w W W3 : World} (h : CpRow10 T R g n k outs w W) (hk : k < n) (hgw : g = w.heap.size) {cs : Array Value} (h24 : cs.size = 10) (h1 : cs.all (·.oneCell') = true)
 (hb : Below W.heap.size W W3) (hr : R k (g + 1) cs W3) : ∃ W4,(storeCells ⟨g,k * 10,none⟩ cs.toList).run Tryz.prog W3 = .ok () W4 ∧ CpRow10 T R g n (k + 1) (outs ++ [cs]) w W4:=by
 obtain ⟨cur,hc,hs,ht⟩:=h.row
 have hc3:=kept_box hb hc
 have hrun:=run_storeCells_at (P:=Tryz.prog) g (k * 10) T cs.toList 0 cur W3 hc3 (by rw [Array.length_toList,h24,hs];omega) (fun v hv => (Array.all_eq_true_iff_forall_mem.1 h1) v (by simpa using hv))
 refine ⟨_,hrun,?_⟩
 obtain ⟨l1,l2⟩:=stored_take10 cur.toList k n cs.toList (flatC outs) (by simpa using hs) hk (by simpa using h24) ht
 have hpart : ∀ cells : Array Value,Part (fun b => b < g + 1) W3 (W3.setRow g cells):=fun cells => part_row cells (Nat.lt_succ_self g)
 refine ⟨by rw [List.length_append,h.len];rfl,fun c hm => ?_,fun c hm => ?_,⟨_,setRow_heap _ _ cur _ _ _ hc3,?_,?_⟩,fun i c hi => ?_,below_setRow (h.below.trans (hb.mono h.below.size)) (by omega) _⟩
 ·rcases List.mem_append.1 hm with hm | hm
  ·exact h.sz c hm
  ·rw [List.mem_singleton.1 hm];exact h24
 ·rcases List.mem_append.1 hm with hm | hm
  ·exact h.one c hm
  ·rw [List.mem_singleton.1 hm];exact h1
 ·rw [Array.length_toList,h24] 
  simp only [Nat.add_zero,List.size_toArray]
  exact l1
 ·rw [Array.length_toList,h24]
  simp only [Nat.add_zero]
  rw [l2]
  unfold flatC
  rw [List.flatMap_append]
  simp
 ·by_cases hik : i < outs.length
  ·rw [List.getElem?_append_left hik] at hi
   have h0:=(hR i).part _ _ _ _ (h.rel i c hi) (Part.of_below hb)
   exact (hR i).part _ _ _ _ h0 (hpart _)
  ·rw [List.getElem?_append_right (by omega)] at hi
   have hi0 : i = k:=by
    have := (List.getElem?_eq_some_iff.1 hi).1
    simp at this
    have := h.len
    omega
   subst hi0
   rw [h.len,Nat.sub_self] at hi
   obtain rfl : cs = c:=by simpa using hi
   exact (hR i).part _ _ _ _ hr (hpart _)
theorem flatC10 {outs : List (Array Value)} (h : ∀ c ∈ outs,c.size = 10) : ∀ (i j : Nat) (c : Array Value),outs[i]? = some c → j < 10 → (flatC outs)[i * 10 + j]? = c[j]?:=by
 induction outs with
 | nil => intro i j c hi;simp at hi
 | cons d outs ih =>
   intro i j c hi hj
   have h1 : d.toList.length = 10:=by rw [Array.length_toList];exact h d (List.mem_cons_self ..)
   have h2:=ih fun e he => h e (List.mem_cons_of_mem _ he)
   unfold flatC at h2 ⊢
   rw [List.flatMap_cons]
   match i,hi with
   | 0,hi =>
     obtain rfl : d = c:=Option.some.inj hi
     rw [List.getElem?_append_left (by omega),Nat.zero_mul,Nat.zero_add]
     simp
   | i + 1,hi => rw [List.getElem?_append_right (by omega),h1,show (i + 1) * 10 + j - 10 = i * 10 + j from by omega,h2 i j c hi hj]
theorem CpRow10.rowIn {α : Type} {T : TypeId} {V : World → Nat → Array Value → α → Prop} (hV : SubsV V) {R : Nat → Nat → Array Value → World → Prop} {g m : Nat} {outs : List (Array Value)} {w W : World} (h : CpRow10 T R g m m outs w W) {l : List α} (hl : l.length = m)
 (hR : ∀ i x B cs,l[i]? = some x → R i B cs W → VInC V (fun b => B ≤ b) W cs x) : RowInC V 10 (fun b => g ≤ b) W l (some ⟨g,0,none⟩):=by
 obtain ⟨cur,hc,hs,ht⟩:=h.row
 refine ⟨World.mask W (fun b => g ≤ b),mask_in W _,fun i x hi => ?_⟩
 have hlt:=(List.getElem?_eq_some_iff.1 hi).1
 have hlen:=h.len
 obtain ⟨c,hci⟩ : ∃ c,outs[i]? = some c:=⟨_,List.getElem?_eq_getElem (by omega)⟩
 have hcz:=h.sz c (List.mem_of_getElem? hci)
 refine ⟨⟨g,0,none⟩,c,rfl,?_,hcz,fun j v hv => ?_,(hR i x (g + 1) c hi (h.rel i c hci)).maskV hV (fun b hb => by omega)⟩
 ·have := (Array.getElem?_eq_some_iff.1 hc).1
  unfold World.mask
  simpa using this
 ·have hj : j < 10:=by rw [← hcz];exact (Array.getElem?_eq_some_iff.1 hv).1
  rw [add_add_plain,add_block0,mask_at W _ ⟨g,_,none⟩ (Nat.le_refl g)]
  refine cell_of_block hc _ ?_
  have h1:=flatC10 h.sz i j c hci hj
  rw [← ht,hv,List.getElem?_take] at h1
  split at h1
  ·simpa using h1
  ·cases h1
theorem infoExprC : (Tryz.prog.info? 84).map (fun i => (i.zero,i.size,i.bytes)) = some (some (.agg #[.int .i64 0,.int .i64 0,.string ⟨#[]⟩,.slice none 0 0]),4,56):=by kernel_rfl
theorem hid_ExprC : ∃ (T N : Nat) (zc : Array Value),84 = T ∧ N = 4 ∧ zc.size = N ∧ (∀ w : World,(isAgg T).run Tryz.prog w = .ok true w) ∧ (∀ w : World,(sizeOf T).run Tryz.prog w = .ok N w) ∧ (∀ w : World,(zeroValue T).run Tryz.prog w = .ok (.agg zc) w) :=
 ⟨_,4,#[.int .i64 0,.int .i64 0,.string ⟨#[]⟩,.slice none 0 0],rfl,rfl,rfl,fun w => by kernel_rfl,fun w => by kernel_rfl,fun w => by kernel_rfl⟩
theorem copyList_Expr (R : Nat → Nat → Array Value → World → Prop) (hR : ∀ i,Stays (R i)) (ins : List (Array Value)) (hin : ∀ c ∈ ins,c.size = 4) (hin1 : ∀ (i : Nat) (c : Array Value),ins[i]? = some c → c.all (·.oneCell') = true) (a : Addr) (n c : Nat) (w : World) (hn : n * 56 ≤ 140737488355328) (hlen : ins.length = n) (ha : 0 < n → a.block < w.heap.size)
 (hrow : ∀ i cs,ins[i]? = some cs → ∀ (j : Nat) (v : Value),cs[j]? = some v → w.cell? ((a.add (i * 4)).add j) = some v)
 (hC : ∀ i cs W,ins[i]? = some cs → Below w.heap.size w W → Calls Tryz.prog 120 #[.agg cs] W fun e w' => ∃ cs' : Array Value,e = .returned (.agg cs') ∧ cs'.size = 4 ∧ cs'.all (·.oneCell') = true ∧ R i W.heap.size cs' w' ∧ Below W.heap.size W w') :
 Calls Tryz.prog 121 #[.slice (some a) n c,.func (.func 120) #[] #[]] w fun e w' =>
  ∃ outs,e = .returned (.slice (some ⟨w.heap.size,0,none⟩) n n) ∧ CpRow4 84 R w.heap.size n n outs w w':=by
 obtain ⟨i0,hi,hiz,his,hib⟩:=info_parts infoExprC
 obtain ⟨T,N,zc,hT,hN,hzc,hag,hsz,hzv⟩:=hid_ExprC
 have e1 : ∀ y : Operand,Op.load 84 y = Op.load T y:=fun y => by rw [hT]
 have e2 : ∀ y z : Operand,Op.store 84 y z = Op.store T y z:=fun y z => by rw [hT]
 have e3 : Op.alloc 84 = Op.alloc T:=by rw [hT]
 have hq:=fun w => Lib.run_eql_slice_nil (P:=Tryz.prog) w 82 _ (some a) n c 0 0 Tryz.underlying82
 have HH:=Lib.hid (And.intro hR (And.intro hin (And.intro hrow (And.intro hC (And.intro hN (And.intro hT hin1))))))
 clear hR hin hrow hC hN hin1
 go_enter Tryz.func121,Tryz.ntmps121
 simp only [e1,e2,e3]
 clear e1 e2 e3 hT
 go_wp2_with (at_make;refine wpList_make_full _ rfl _ _ 82 rfl w.heap.size 84 i0 _ 4 Tryz.underlying82 hi hiz his _ _ _ _ n rfl rfl rfl rfl ?b2 ?b3 (Nat.le_refl _) ?_)
 case b2 => first | omega | (rw [hib];omega)
 case b3 => unfold maxLen;omega
 intro w2 hown hgrow
 have hb0 : Below w.heap.size w w2:=⟨hgrow.os,hgrow.tape,hgrow.output,hgrow.size,fun k hk => hgrow.block k hk (by simp)⟩
 have HS : Hid (CpRow4 84 R w.heap.size n 0 [] w w2):=Lib.hid (by
  refine ⟨rfl,(fun c h => by cases h),(fun c h => by cases h),?_,(fun i c h => by cases h),hb0⟩
  rcases hown.2 with ⟨hv,hn0⟩ | ⟨g,cap,cur,hv,hg,hb,h1,h2,h3,h4⟩
  ·cases hv
  ·injection hv with hA hl hcap
   injection hA with hA
   injection hA with hA
   subst hA hcap
   refine ⟨cur,hb,?_,rfl⟩
   exact h3)
 clear hown hgrow hb0 hi hiz his hib
 go_wp2
 go_loopg [15] n (fun m j wr => ∃ (k : Nat) (outs : List (Array Value)),m = n - k ∧ k ≤ n ∧ j = .int .i64 k ∧ CpRow4 84 R w.heap.size n k outs w wr)
 case atStart => exact ⟨0,[],rfl,Nat.zero_le _,rfl,HS.out⟩
 case round =>
  obtain ⟨k,outs,rfl,hk,rfl,hcp⟩:=hrel
  have HCp:=Lib.hid hcp
  clear hcp
  by_cases hlt : k < n
  ·obtain ⟨cs,hcs⟩ : ∃ cs,ins[k]? = some cs:=⟨_,List.getElem?_eq_getElem (by omega)⟩
   have hszc : cs.size = N:=(HH.out.2.1 cs (List.mem_of_getElem? hcs)).trans HH.out.2.2.2.2.1.symm
   have hl1:=load_list (W:=wr) (a:=a.add (k * 4)) (N:=N) (cs:=cs) (fun j v hv => (HCp.out.below.cell (by rw [show ((a.add (k * 4)).add j).block = a.block by unfold Addr.add;split <;> split <;> rfl];exact ha (by omega))).trans (HH.out.2.2.1 k cs hcs j v hv)) hszc
   have hst:=store_fresh (w:=wr) (t:=T) (hzc.trans hszc.symm) (HH.out.2.2.2.2.2.2 k cs hcs)
   have hl2:=load_new (heap_of_alloc wr (.cells cs T)) hszc
   have hz:=size_of_alloc wr (.cells cs T)
   have HC2:=Lib.hid (HH.out.2.2.2.1 k cs (wr.alloc (.cells cs T)) hcs (HCp.out.below.trans ((below_alloc wr _).mono HCp.out.below.size)))
   have hki : (k : Int) < n:=by omega
   clear hcs
   go_wp2_with (go_at_call 120;refine HC2.out.mono ?_;rintro e w3 ⟨cs',rfl,h24',h1',hr,hb⟩;obtain ⟨w4,hw4,hcp4⟩:=HCp.out.next HH.out.1 hlt rfl h24' h1' ((below_alloc wr (.cells cs T)).chain hb) ((HH.out.1 k).mono _ _ _ _ hr (by have := HCp.out.below.size;have := HCp.out.row;obtain ⟨cur,hcur,_⟩:=this;have := (Array.getElem?_eq_some_iff.1 hcur).1;omega));have hsz' : cs'.size = N:=(h24'.trans HH.out.2.2.2.2.1.symm);have HC4:=Lib.hid hcp4;clear hcp4 h24' h1' hr hb)
   go_roundg (n - (k + 1))
   case measure => omega
   case rel => exact ⟨k + 1,outs ++ [cs'],rfl,by omega,by go_num,HC4.out⟩
  ·obtain rfl : k = n:=by omega
   go_wp2
   go_ret
   exact ⟨outs,rfl,HCp.out⟩
theorem infoCondC : (Tryz.prog.info? 87).map (fun i => (i.zero,i.size,i.bytes)) = some (some (.agg #[.int .i64 0,.int .i64 0,.int .i64 0,.string ⟨#[]⟩,.slice none 0 0,.int .i64 0,.int .i64 0,.string ⟨#[]⟩,.slice none 0 0,.slice none 0 0]),10,144):=by kernel_rfl
theorem hid_CondC : ∃ (T N : Nat) (zc : Array Value),87 = T ∧ N = 10 ∧ zc.size = N ∧ (∀ w : World,(isAgg T).run Tryz.prog w = .ok true w) ∧ (∀ w : World,(sizeOf T).run Tryz.prog w = .ok N w) ∧ (∀ w : World,(zeroValue T).run Tryz.prog w = .ok (.agg zc) w) :=
 ⟨_,10,#[.int .i64 0,.int .i64 0,.int .i64 0,.string ⟨#[]⟩,.slice none 0 0,.int .i64 0,.int .i64 0,.string ⟨#[]⟩,.slice none 0 0,.slice none 0 0],rfl,rfl,rfl,fun w => by kernel_rfl,fun w => by kernel_rfl,fun w => by kernel_rfl⟩
theorem copyList_Cond (R : Nat → Nat → Array Value → World → Prop) (hR : ∀ i,Stays (R i)) (ins : List (Array Value)) (hin : ∀ c ∈ ins,c.size = 10) (hin1 : ∀ (i : Nat) (c : Array Value),ins[i]? = some c → c.all (·.oneCell') = true) (a : Addr) (n c : Nat) (w : World) (hn : n * 144 ≤ 140737488355328) (hlen : ins.length = n) (ha : 0 < n → a.block < w.heap.size)
 (hrow : ∀ i cs,ins[i]? = some cs → ∀ (j : Nat) (v : Value),cs[j]? = some v → w.cell? ((a.add (i * 10)).add j) = some v)
 (hC : ∀ i cs W,ins[i]? = some cs → Below w.heap.size w W → Calls Tryz.prog 149 #[.agg cs] W fun e w' => ∃ cs' : Array Value,e = .returned (.agg cs') ∧ cs'.size = 10 ∧ cs'.all (·.oneCell') = true ∧ R i W.heap.size cs' w' ∧ Below W.heap.size W w') :
 Calls Tryz.prog 184 #[.slice (some a) n c,.func (.func 149) #[] #[]] w fun e w' =>
  ∃ outs,e = .returned (.slice (some ⟨w.heap.size,0,none⟩) n n) ∧ CpRow10 87 R w.heap.size n n outs w w':=by
 obtain ⟨i0,hi,hiz,his,hib⟩:=info_parts infoCondC
 obtain ⟨T,N,zc,hT,hN,hzc,hag,hsz,hzv⟩:=hid_CondC
 have e1 : ∀ y : Operand,Op.load 87 y = Op.load T y:=fun y => by rw [hT]
 have e2 : ∀ y z : Operand,Op.store 87 y z = Op.store T y z:=fun y z => by rw [hT]
 have e3 : Op.alloc 87 = Op.alloc T:=by rw [hT]
 have hq:=fun w => Lib.run_eql_slice_nil (P:=Tryz.prog) w 85 _ (some a) n c 0 0 Tryz.underlying85
 have HH:=Lib.hid (And.intro hR (And.intro hin (And.intro hrow (And.intro hC (And.intro hN (And.intro hT hin1))))))
 clear hR hin hrow hC hN hin1
 go_enter Tryz.func184,Tryz.ntmps184
 simp only [e1,e2,e3]
 clear e1 e2 e3 hT
 go_wp2_with (at_make;refine wpList_make_full _ rfl _ _ 85 rfl w.heap.size 87 i0 _ 10 Tryz.underlying85 hi hiz his _ _ _ _ n rfl rfl rfl rfl ?b2 ?b3 (Nat.le_refl _) ?_)
 case b2 => first | omega | (rw [hib];omega)
 case b3 => unfold maxLen;omega
 intro w2 hown hgrow
 have hb0 : Below w.heap.size w w2:=⟨hgrow.os,hgrow.tape,hgrow.output,hgrow.size,fun k hk => hgrow.block k hk (by simp)⟩
 have HS : Hid (CpRow10 87 R w.heap.size n 0 [] w w2):=Lib.hid (by
  refine ⟨rfl,(fun c h => by cases h),(fun c h => by cases h),?_,(fun i c h => by cases h),hb0⟩
  rcases hown.2 with ⟨hv,hn0⟩ | ⟨g,cap,cur,hv,hg,hb,h1,h2,h3,h4⟩
  ·cases hv
  ·injection hv with hA hl hcap
   injection hA with hA
   injection hA with hA
   subst hA hcap
   refine ⟨cur,hb,?_,rfl⟩
   exact h3)
 clear hown hgrow hb0 hi hiz his hib
 go_wp2
 go_loopg [15] n (fun m j wr => ∃ (k : Nat) (outs : List (Array Value)),m = n - k ∧ k ≤ n ∧ j = .int .i64 k ∧ CpRow10 87 R w.heap.size n k outs w wr)
 case atStart => exact ⟨0,[],rfl,Nat.zero_le _,rfl,HS.out⟩
 case round =>
  obtain ⟨k,outs,rfl,hk,rfl,hcp⟩:=hrel
  have HCp:=Lib.hid hcp
  clear hcp
  by_cases hlt : k < n
  ·obtain ⟨cs,hcs⟩ : ∃ cs,ins[k]? = some cs:=⟨_,List.getElem?_eq_getElem (by omega)⟩
   have hszc : cs.size = N:=(HH.out.2.1 cs (List.mem_of_getElem? hcs)).trans HH.out.2.2.2.2.1.symm
   have hl1:=load_list (W:=wr) (a:=a.add (k * 10)) (N:=N) (cs:=cs) (fun j v hv => (HCp.out.below.cell (by rw [show ((a.add (k * 10)).add j).block = a.block by unfold Addr.add;split <;> split <;> rfl];exact ha (by omega))).trans (HH.out.2.2.1 k cs hcs j v hv)) hszc
   have hst:=store_fresh (w:=wr) (t:=T) (hzc.trans hszc.symm) (HH.out.2.2.2.2.2.2 k cs hcs)
   have hl2:=load_new (heap_of_alloc wr (.cells cs T)) hszc
   have hz:=size_of_alloc wr (.cells cs T)
   have HC2:=Lib.hid (HH.out.2.2.2.1 k cs (wr.alloc (.cells cs T)) hcs (HCp.out.below.trans ((below_alloc wr _).mono HCp.out.below.size)))
   have hki : (k : Int) < n:=by omega
   clear hcs
   go_wp2_with (go_at_call 149;refine HC2.out.mono ?_;rintro e w3 ⟨cs',rfl,h24',h1',hr,hb⟩;obtain ⟨w4,hw4,hcp4⟩:=HCp.out.next HH.out.1 hlt rfl h24' h1' ((below_alloc wr (.cells cs T)).chain hb) ((HH.out.1 k).mono _ _ _ _ hr (by have := HCp.out.below.size;have := HCp.out.row;obtain ⟨cur,hcur,_⟩:=this;have := (Array.getElem?_eq_some_iff.1 hcur).1;omega));have hsz' : cs'.size = N:=(h24'.trans HH.out.2.2.2.2.1.symm);have HC4:=Lib.hid hcp4;clear hcp4 h24' h1' hr hb)
   go_roundg (n - (k + 1))
   case measure => omega
   case rel => exact ⟨k + 1,outs ++ [cs'],rfl,by omega,by go_num,HC4.out⟩
  ·obtain rfl : k = n:=by omega
   go_wp2
   go_ret
   exact ⟨outs,rfl,HCp.out⟩
theorem infoAtomC : (Tryz.prog.info? 148).map (fun i => (i.zero,i.size,i.bytes)) = some (some (.agg #[.int .i64 0,.int .i64 0,.int .i64 0,.string ⟨#[]⟩,.slice none 0 0,.int .i64 0,.int .i64 0,.string ⟨#[]⟩,.slice none 0 0]),9,120):=by kernel_rfl
theorem hid_AtomC : ∃ (T N : Nat) (zc : Array Value),148 = T ∧ N = 9 ∧ zc.size = N ∧ (∀ w : World,(isAgg T).run Tryz.prog w = .ok true w) ∧ (∀ w : World,(sizeOf T).run Tryz.prog w = .ok N w) ∧ (∀ w : World,(zeroValue T).run Tryz.prog w = .ok (.agg zc) w) :=
 ⟨_,9,#[.int .i64 0,.int .i64 0,.int .i64 0,.string ⟨#[]⟩,.slice none 0 0,.int .i64 0,.int .i64 0,.string ⟨#[]⟩,.slice none 0 0],rfl,rfl,rfl,fun w => by kernel_rfl,fun w => by kernel_rfl,fun w => by kernel_rfl⟩
theorem copyList_Atom (R : Nat → Nat → Array Value → World → Prop) (hR : ∀ i,Stays (R i)) (ins : List (Array Value)) (hin : ∀ c ∈ ins,c.size = 9) (hin1 : ∀ (i : Nat) (c : Array Value),ins[i]? = some c → c.all (·.oneCell') = true) (a : Addr) (n c : Nat) (w : World) (hn : n * 120 ≤ 140737488355328) (hlen : ins.length = n) (ha : 0 < n → a.block < w.heap.size)
 (hrow : ∀ i cs,ins[i]? = some cs → ∀ (j : Nat) (v : Value),cs[j]? = some v → w.cell? ((a.add (i * 9)).add j) = some v)
 (hC : ∀ i cs W,ins[i]? = some cs → Below w.heap.size w W → Calls Tryz.prog 87 #[.agg cs] W fun e w' => ∃ cs' : Array Value,e = .returned (.agg cs') ∧ cs'.size = 9 ∧ cs'.all (·.oneCell') = true ∧ R i W.heap.size cs' w' ∧ Below W.heap.size W w') :
 Calls Tryz.prog 86 #[.slice (some a) n c,.func (.func 87) #[] #[]] w fun e w' =>
  ∃ outs,e = .returned (.slice (some ⟨w.heap.size,0,none⟩) n n) ∧ CpRow9 148 R w.heap.size n n outs w w':=by
 obtain ⟨i0,hi,hiz,his,hib⟩:=info_parts infoAtomC
 obtain ⟨T,N,zc,hT,hN,hzc,hag,hsz,hzv⟩:=hid_AtomC
 have e1 : ∀ y : Operand,Op.load 148 y = Op.load T y:=fun y => by rw [hT]
 have e2 : ∀ y z : Operand,Op.store 148 y z = Op.store T y z:=fun y z => by rw [hT]
 have e3 : Op.alloc 148 = Op.alloc T:=by rw [hT]
 have hq:=fun w => Lib.run_eql_slice_nil (P:=Tryz.prog) w 66 _ (some a) n c 0 0 Tryz.underlying66
 have HH:=Lib.hid (And.intro hR (And.intro hin (And.intro hrow (And.intro hC (And.intro hN (And.intro hT hin1))))))
 clear hR hin hrow hC hN hin1
 go_enter Tryz.func86,Tryz.ntmps86
 simp only [e1,e2,e3]
 clear e1 e2 e3 hT
 go_wp2_with (at_make;refine wpList_make_full _ rfl _ _ 66 rfl w.heap.size 148 i0 _ 9 Tryz.underlying66 hi hiz his _ _ _ _ n rfl rfl rfl rfl ?b2 ?b3 (Nat.le_refl _) ?_)
 case b2 => first | omega | (rw [hib];omega)
 case b3 => unfold maxLen;omega
 intro w2 hown hgrow
 have hb0 : Below w.heap.size w w2:=⟨hgrow.os,hgrow.tape,hgrow.output,hgrow.size,fun k hk => hgrow.block k hk (by simp)⟩
 have HS : Hid (CpRow9 148 R w.heap.size n 0 [] w w2):=Lib.hid (by
  refine ⟨rfl,(fun c h => by cases h),(fun c h => by cases h),?_,(fun i c h => by cases h),hb0⟩
  rcases hown.2 with ⟨hv,hn0⟩ | ⟨g,cap,cur,hv,hg,hb,h1,h2,h3,h4⟩
  ·cases hv
  ·injection hv with hA hl hcap
   injection hA with hA
   injection hA with hA
   subst hA hcap
   refine ⟨cur,hb,?_,rfl⟩
   exact h3)
 clear hown hgrow hb0 hi hiz his hib
 go_wp2
 go_loopg [15] n (fun m j wr => ∃ (k : Nat) (outs : List (Array Value)),m = n - k ∧ k ≤ n ∧ j = .int .i64 k ∧ CpRow9 148 R w.heap.size n k outs w wr)
 case atStart => exact ⟨0,[],rfl,Nat.zero_le _,rfl,HS.out⟩
 case round =>
  obtain ⟨k,outs,rfl,hk,rfl,hcp⟩:=hrel
  have HCp:=Lib.hid hcp
  clear hcp
  by_cases hlt : k < n
  ·obtain ⟨cs,hcs⟩ : ∃ cs,ins[k]? = some cs:=⟨_,List.getElem?_eq_getElem (by omega)⟩
   have hszc : cs.size = N:=(HH.out.2.1 cs (List.mem_of_getElem? hcs)).trans HH.out.2.2.2.2.1.symm
   have hl1:=load_list (W:=wr) (a:=a.add (k * 9)) (N:=N) (cs:=cs) (fun j v hv => (HCp.out.below.cell (by rw [show ((a.add (k * 9)).add j).block = a.block by unfold Addr.add;split <;> split <;> rfl];exact ha (by omega))).trans (HH.out.2.2.1 k cs hcs j v hv)) hszc
   have hst:=store_fresh (w:=wr) (t:=T) (hzc.trans hszc.symm) (HH.out.2.2.2.2.2.2 k cs hcs)
   have hl2:=load_new (heap_of_alloc wr (.cells cs T)) hszc
   have hz:=size_of_alloc wr (.cells cs T)
   have HC2:=Lib.hid (HH.out.2.2.2.1 k cs (wr.alloc (.cells cs T)) hcs (HCp.out.below.trans ((below_alloc wr _).mono HCp.out.below.size)))
   have hki : (k : Int) < n:=by omega
   clear hcs
   go_wp2_with (go_at_call 87;refine HC2.out.mono ?_;rintro e w3 ⟨cs',rfl,h24',h1',hr,hb⟩;obtain ⟨w4,hw4,hcp4⟩:=HCp.out.next HH.out.1 hlt rfl h24' h1' ((below_alloc wr (.cells cs T)).chain hb) ((HH.out.1 k).mono _ _ _ _ hr (by have := HCp.out.below.size;have := HCp.out.row;obtain ⟨cur,hcur,_⟩:=this;have := (Array.getElem?_eq_some_iff.1 hcur).1;omega));have hsz' : cs'.size = N:=(h24'.trans HH.out.2.2.2.2.1.symm);have HC4:=Lib.hid hcp4;clear hcp4 h24' h1' hr hb)
   go_roundg (n - (k + 1))
   case measure => omega
   case rel => exact ⟨k + 1,outs ++ [cs'],rfl,by omega,by go_num,HC4.out⟩
  ·obtain rfl : k = n:=by omega
   go_wp2
   go_ret
   exact ⟨outs,rfl,HCp.out⟩
theorem infoCellC : (Tryz.prog.info? 97).map (fun i => (i.zero,i.size,i.bytes)) = some (some (.agg #[.int .i64 0,.string ⟨#[]⟩,.slice none 0 0]),3,48):=by kernel_rfl
theorem hid_CellC : ∃ (T N : Nat) (zc : Array Value),97 = T ∧ N = 3 ∧ zc.size = N ∧ (∀ w : World,(isAgg T).run Tryz.prog w = .ok true w) ∧ (∀ w : World,(sizeOf T).run Tryz.prog w = .ok N w) ∧ (∀ w : World,(zeroValue T).run Tryz.prog w = .ok (.agg zc) w) :=
 ⟨_,3,#[.int .i64 0,.string ⟨#[]⟩,.slice none 0 0],rfl,rfl,rfl,fun w => by kernel_rfl,fun w => by kernel_rfl,fun w => by kernel_rfl⟩
theorem copyList_Cell (R : Nat → Nat → Array Value → World → Prop) (hR : ∀ i,Stays (R i)) (ins : List (Array Value)) (hin : ∀ c ∈ ins,c.size = 3) (hin1 : ∀ (i : Nat) (c : Array Value),ins[i]? = some c → c.all (·.oneCell') = true) (a : Addr) (n c : Nat) (w : World) (hn : n * 48 ≤ 140737488355328) (hlen : ins.length = n) (ha : 0 < n → a.block < w.heap.size)
 (hrow : ∀ i cs,ins[i]? = some cs → ∀ (j : Nat) (v : Value),cs[j]? = some v → w.cell? ((a.add (i * 3)).add j) = some v)
 (hC : ∀ i cs W,ins[i]? = some cs → Below w.heap.size w W → Calls Tryz.prog 89 #[.agg cs] W fun e w' => ∃ cs' : Array Value,e = .returned (.agg cs') ∧ cs'.size = 3 ∧ cs'.all (·.oneCell') = true ∧ R i W.heap.size cs' w' ∧ Below W.heap.size W w') :
 Calls Tryz.prog 88 #[.slice (some a) n c,.func (.func 89) #[] #[]] w fun e w' =>
  ∃ outs,e = .returned (.slice (some ⟨w.heap.size,0,none⟩) n n) ∧ CpRow3 97 R w.heap.size n n outs w w':=by
 obtain ⟨i0,hi,hiz,his,hib⟩:=info_parts infoCellC
 obtain ⟨T,N,zc,hT,hN,hzc,hag,hsz,hzv⟩:=hid_CellC
 have e1 : ∀ y : Operand,Op.load 97 y = Op.load T y:=fun y => by rw [hT]
 have e2 : ∀ y z : Operand,Op.store 97 y z = Op.store T y z:=fun y z => by rw [hT]
 have e3 : Op.alloc 97 = Op.alloc T:=by rw [hT]
 have hq:=fun w => Lib.run_eql_slice_nil (P:=Tryz.prog) w 67 _ (some a) n c 0 0 Tryz.underlying67
 have HH:=Lib.hid (And.intro hR (And.intro hin (And.intro hrow (And.intro hC (And.intro hN (And.intro hT hin1))))))
 clear hR hin hrow hC hN hin1
 go_enter Tryz.func88,Tryz.ntmps88
 simp only [e1,e2,e3]
 clear e1 e2 e3 hT
 go_wp2_with (at_make;refine wpList_make_full _ rfl _ _ 67 rfl w.heap.size 97 i0 _ 3 Tryz.underlying67 hi hiz his _ _ _ _ n rfl rfl rfl rfl ?b2 ?b3 (Nat.le_refl _) ?_)
 case b2 => first | omega | (rw [hib];omega)
 case b3 => unfold maxLen;omega
 intro w2 hown hgrow
 have hb0 : Below w.heap.size w w2:=⟨hgrow.os,hgrow.tape,hgrow.output,hgrow.size,fun k hk => hgrow.block k hk (by simp)⟩
 have HS : Hid (CpRow3 97 R w.heap.size n 0 [] w w2):=Lib.hid (by
  refine ⟨rfl,(fun c h => by cases h),(fun c h => by cases h),?_,(fun i c h => by cases h),hb0⟩
  rcases hown.2 with ⟨hv,hn0⟩ | ⟨g,cap,cur,hv,hg,hb,h1,h2,h3,h4⟩
  ·cases hv
  ·injection hv with hA hl hcap
   injection hA with hA
   injection hA with hA
   subst hA hcap
   refine ⟨cur,hb,?_,rfl⟩
   exact h3)
 clear hown hgrow hb0 hi hiz his hib
 go_wp2
 go_loopg [15] n (fun m j wr => ∃ (k : Nat) (outs : List (Array Value)),m = n - k ∧ k ≤ n ∧ j = .int .i64 k ∧ CpRow3 97 R w.heap.size n k outs w wr)
 case atStart => exact ⟨0,[],rfl,Nat.zero_le _,rfl,HS.out⟩
 case round =>
  obtain ⟨k,outs,rfl,hk,rfl,hcp⟩:=hrel
  have HCp:=Lib.hid hcp
  clear hcp
  by_cases hlt : k < n
  ·obtain ⟨cs,hcs⟩ : ∃ cs,ins[k]? = some cs:=⟨_,List.getElem?_eq_getElem (by omega)⟩
   have hszc : cs.size = N:=(HH.out.2.1 cs (List.mem_of_getElem? hcs)).trans HH.out.2.2.2.2.1.symm
   have hl1:=load_list (W:=wr) (a:=a.add (k * 3)) (N:=N) (cs:=cs) (fun j v hv => (HCp.out.below.cell (by rw [show ((a.add (k * 3)).add j).block = a.block by unfold Addr.add;split <;> split <;> rfl];exact ha (by omega))).trans (HH.out.2.2.1 k cs hcs j v hv)) hszc
   have hst:=store_fresh (w:=wr) (t:=T) (hzc.trans hszc.symm) (HH.out.2.2.2.2.2.2 k cs hcs)
   have hl2:=load_new (heap_of_alloc wr (.cells cs T)) hszc
   have hz:=size_of_alloc wr (.cells cs T)
   have HC2:=Lib.hid (HH.out.2.2.2.1 k cs (wr.alloc (.cells cs T)) hcs (HCp.out.below.trans ((below_alloc wr _).mono HCp.out.below.size)))
   have hki : (k : Int) < n:=by omega
   clear hcs
   go_wp2_with (go_at_call 89;refine HC2.out.mono ?_;rintro e w3 ⟨cs',rfl,h24',h1',hr,hb⟩;obtain ⟨w4,hw4,hcp4⟩:=HCp.out.next HH.out.1 hlt rfl h24' h1' ((below_alloc wr (.cells cs T)).chain hb) ((HH.out.1 k).mono _ _ _ _ hr (by have := HCp.out.below.size;have := HCp.out.row;obtain ⟨cur,hcur,_⟩:=this;have := (Array.getElem?_eq_some_iff.1 hcur).1;omega));have hsz' : cs'.size = N:=(h24'.trans HH.out.2.2.2.2.1.symm);have HC4:=Lib.hid hcp4;clear hcp4 h24' h1' hr hb)
   go_roundg (n - (k + 1))
   case measure => omega
   case rel => exact ⟨k + 1,outs ++ [cs'],rfl,by omega,by go_num,HC4.out⟩
  ·obtain rfl : k = n:=by omega
   go_wp2
   go_ret
   exact ⟨outs,rfl,HCp.out⟩
theorem infoFormulaC : (Tryz.prog.info? 69).map (fun i => (i.zero,i.size,i.bytes)) = some (some (.agg #[.slice none 0 0,.slice none 0 0,.slice none 0 0]),3,72):=by kernel_rfl
theorem hid_FormulaC : ∃ (T N : Nat) (zc : Array Value),69 = T ∧ N = 3 ∧ zc.size = N ∧ (∀ w : World,(isAgg T).run Tryz.prog w = .ok true w) ∧ (∀ w : World,(sizeOf T).run Tryz.prog w = .ok N w) ∧ (∀ w : World,(zeroValue T).run Tryz.prog w = .ok (.agg zc) w) :=
 ⟨_,3,#[.slice none 0 0,.slice none 0 0,.slice none 0 0],rfl,rfl,rfl,fun w => by kernel_rfl,fun w => by kernel_rfl,fun w => by kernel_rfl⟩
theorem copyList_Formula (R : Nat → Nat → Array Value → World → Prop) (hR : ∀ i,Stays (R i)) (ins : List (Array Value)) (hin : ∀ c ∈ ins,c.size = 3) (hin1 : ∀ (i : Nat) (c : Array Value),ins[i]? = some c → c.all (·.oneCell') = true) (a : Addr) (n c : Nat) (w : World) (hn : n * 72 ≤ 140737488355328) (hlen : ins.length = n) (ha : 0 < n → a.block < w.heap.size)
 (hrow : ∀ i cs,ins[i]? = some cs → ∀ (j : Nat) (v : Value),cs[j]? = some v → w.cell? ((a.add (i * 3)).add j) = some v)
 (hC : ∀ i cs W,ins[i]? = some cs → Below w.heap.size w W → Calls Tryz.prog 66 #[.agg cs] W fun e w' => ∃ cs' : Array Value,e = .returned (.agg cs') ∧ cs'.size = 3 ∧ cs'.all (·.oneCell') = true ∧ R i W.heap.size cs' w' ∧ Below W.heap.size W w') :
 Calls Tryz.prog 65 #[.slice (some a) n c,.func (.func 66) #[] #[]] w fun e w' =>
  ∃ outs,e = .returned (.slice (some ⟨w.heap.size,0,none⟩) n n) ∧ CpRow3 69 R w.heap.size n n outs w w':=by
 obtain ⟨i0,hi,hiz,his,hib⟩:=info_parts infoFormulaC
 obtain ⟨T,N,zc,hT,hN,hzc,hag,hsz,hzv⟩:=hid_FormulaC
 have e1 : ∀ y : Operand,Op.load 69 y = Op.load T y:=fun y => by rw [hT]
 have e2 : ∀ y z : Operand,Op.store 69 y z = Op.store T y z:=fun y z => by rw [hT]
 have e3 : Op.alloc 69 = Op.alloc T:=by rw [hT]
 have hq:=fun w => Lib.run_eql_slice_nil (P:=Tryz.prog) w 43 _ (some a) n c 0 0 Tryz.underlying43
 have HH:=Lib.hid (And.intro hR (And.intro hin (And.intro hrow (And.intro hC (And.intro hN (And.intro hT hin1))))))
 clear hR hin hrow hC hN hin1
 go_enter Tryz.func65,Tryz.ntmps65
 simp only [e1,e2,e3]
 clear e1 e2 e3 hT
 go_wp2_with (at_make;refine wpList_make_full _ rfl _ _ 43 rfl w.heap.size 69 i0 _ 3 Tryz.underlying43 hi hiz his _ _ _ _ n rfl rfl rfl rfl ?b2 ?b3 (Nat.le_refl _) ?_)
 case b2 => first | omega | (rw [hib];omega)
 case b3 => unfold maxLen;omega
 intro w2 hown hgrow
 have hb0 : Below w.heap.size w w2:=⟨hgrow.os,hgrow.tape,hgrow.output,hgrow.size,fun k hk => hgrow.block k hk (by simp)⟩
 have HS : Hid (CpRow3 69 R w.heap.size n 0 [] w w2):=Lib.hid (by
  refine ⟨rfl,(fun c h => by cases h),(fun c h => by cases h),?_,(fun i c h => by cases h),hb0⟩
  rcases hown.2 with ⟨hv,hn0⟩ | ⟨g,cap,cur,hv,hg,hb,h1,h2,h3,h4⟩
  ·cases hv
  ·injection hv with hA hl hcap
   injection hA with hA
   injection hA with hA
   subst hA hcap
   refine ⟨cur,hb,?_,rfl⟩
   exact h3)
 clear hown hgrow hb0 hi hiz his hib
 go_wp2
 go_loopg [15] n (fun m j wr => ∃ (k : Nat) (outs : List (Array Value)),m = n - k ∧ k ≤ n ∧ j = .int .i64 k ∧ CpRow3 69 R w.heap.size n k outs w wr)
 case atStart => exact ⟨0,[],rfl,Nat.zero_le _,rfl,HS.out⟩
 case round =>
  obtain ⟨k,outs,rfl,hk,rfl,hcp⟩:=hrel
  have HCp:=Lib.hid hcp
  clear hcp
  by_cases hlt : k < n
  ·obtain ⟨cs,hcs⟩ : ∃ cs,ins[k]? = some cs:=⟨_,List.getElem?_eq_getElem (by omega)⟩
   have hszc : cs.size = N:=(HH.out.2.1 cs (List.mem_of_getElem? hcs)).trans HH.out.2.2.2.2.1.symm
   have hl1:=load_list (W:=wr) (a:=a.add (k * 3)) (N:=N) (cs:=cs) (fun j v hv => (HCp.out.below.cell (by rw [show ((a.add (k * 3)).add j).block = a.block by unfold Addr.add;split <;> split <;> rfl];exact ha (by omega))).trans (HH.out.2.2.1 k cs hcs j v hv)) hszc
   have hst:=store_fresh (w:=wr) (t:=T) (hzc.trans hszc.symm) (HH.out.2.2.2.2.2.2 k cs hcs)
   have hl2:=load_new (heap_of_alloc wr (.cells cs T)) hszc
   have hz:=size_of_alloc wr (.cells cs T)
   have HC2:=Lib.hid (HH.out.2.2.2.1 k cs (wr.alloc (.cells cs T)) hcs (HCp.out.below.trans ((below_alloc wr _).mono HCp.out.below.size)))
   have hki : (k : Int) < n:=by omega
   clear hcs
   go_wp2_with (go_at_call 66;refine HC2.out.mono ?_;rintro e w3 ⟨cs',rfl,h24',h1',hr,hb⟩;obtain ⟨w4,hw4,hcp4⟩:=HCp.out.next HH.out.1 hlt rfl h24' h1' ((below_alloc wr (.cells cs T)).chain hb) ((HH.out.1 k).mono _ _ _ _ hr (by have := HCp.out.below.size;have := HCp.out.row;obtain ⟨cur,hcur,_⟩:=this;have := (Array.getElem?_eq_some_iff.1 hcur).1;omega));have hsz' : cs'.size = N:=(h24'.trans HH.out.2.2.2.2.1.symm);have HC4:=Lib.hid hcp4;clear hcp4 h24' h1' hr hb)
   go_roundg (n - (k + 1))
   case measure => omega
   case rel => exact ⟨k + 1,outs ++ [cs'],rfl,by omega,by go_num,HC4.out⟩
  ·obtain rfl : k = n:=by omega
   go_wp2
   go_ret
   exact ⟨outs,rfl,HCp.out⟩
theorem infoCallC : (Tryz.prog.info? 217).map (fun i => (i.zero,i.size,i.bytes)) = some (some (.agg #[.string ⟨#[]⟩,.string ⟨#[]⟩,.slice none 0 0]),3,56):=by kernel_rfl
theorem hid_CallC : ∃ (T N : Nat) (zc : Array Value),217 = T ∧ N = 3 ∧ zc.size = N ∧ (∀ w : World,(isAgg T).run Tryz.prog w = .ok true w) ∧ (∀ w : World,(sizeOf T).run Tryz.prog w = .ok N w) ∧ (∀ w : World,(zeroValue T).run Tryz.prog w = .ok (.agg zc) w) :=
 ⟨_,3,#[.string ⟨#[]⟩,.string ⟨#[]⟩,.slice none 0 0],rfl,rfl,rfl,fun w => by kernel_rfl,fun w => by kernel_rfl,fun w => by kernel_rfl⟩
theorem copyList_Call (R : Nat → Nat → Array Value → World → Prop) (hR : ∀ i,Stays (R i)) (ins : List (Array Value)) (hin : ∀ c ∈ ins,c.size = 3) (hin1 : ∀ (i : Nat) (c : Array Value),ins[i]? = some c → c.all (·.oneCell') = true) (a : Addr) (n c : Nat) (w : World) (hn : n * 56 ≤ 140737488355328) (hlen : ins.length = n) (ha : 0 < n → a.block < w.heap.size)
 (hrow : ∀ i cs,ins[i]? = some cs → ∀ (j : Nat) (v : Value),cs[j]? = some v → w.cell? ((a.add (i * 3)).add j) = some v)
 (hC : ∀ i cs W,ins[i]? = some cs → Below w.heap.size w W → Calls Tryz.prog 151 #[.agg cs] W fun e w' => ∃ cs' : Array Value,e = .returned (.agg cs') ∧ cs'.size = 3 ∧ cs'.all (·.oneCell') = true ∧ R i W.heap.size cs' w' ∧ Below W.heap.size W w') :
 Calls Tryz.prog 150 #[.slice (some a) n c,.func (.func 151) #[] #[]] w fun e w' =>
  ∃ outs,e = .returned (.slice (some ⟨w.heap.size,0,none⟩) n n) ∧ CpRow3 217 R w.heap.size n n outs w w':=by
 obtain ⟨i0,hi,hiz,his,hib⟩:=info_parts infoCallC
 obtain ⟨T,N,zc,hT,hN,hzc,hag,hsz,hzv⟩:=hid_CallC
 have e1 : ∀ y : Operand,Op.load 217 y = Op.load T y:=fun y => by rw [hT]
 have e2 : ∀ y z : Operand,Op.store 217 y z = Op.store T y z:=fun y z => by rw [hT]
 have e3 : Op.alloc 217 = Op.alloc T:=by rw [hT]
 have hq:=fun w => Lib.run_eql_slice_nil (P:=Tryz.prog) w 88 _ (some a) n c 0 0 Tryz.underlying88
 have HH:=Lib.hid (And.intro hR (And.intro hin (And.intro hrow (And.intro hC (And.intro hN (And.intro hT hin1))))))
 clear hR hin hrow hC hN hin1
 go_enter Tryz.func150,Tryz.ntmps150
 simp only [e1,e2,e3]
 clear e1 e2 e3 hT
 go_wp2_with (at_make;refine wpList_make_full _ rfl _ _ 88 rfl w.heap.size 217 i0 _ 3 Tryz.underlying88 hi hiz his _ _ _ _ n rfl rfl rfl rfl ?b2 ?b3 (Nat.le_refl _) ?_)
 case b2 => first | omega | (rw [hib];omega)
 case b3 => unfold maxLen;omega
 intro w2 hown hgrow
 have hb0 : Below w.heap.size w w2:=⟨hgrow.os,hgrow.tape,hgrow.output,hgrow.size,fun k hk => hgrow.block k hk (by simp)⟩
 have HS : Hid (CpRow3 217 R w.heap.size n 0 [] w w2):=Lib.hid (by
  refine ⟨rfl,(fun c h => by cases h),(fun c h => by cases h),?_,(fun i c h => by cases h),hb0⟩
  rcases hown.2 with ⟨hv,hn0⟩ | ⟨g,cap,cur,hv,hg,hb,h1,h2,h3,h4⟩
  ·cases hv
  ·injection hv with hA hl hcap
   injection hA with hA
   injection hA with hA
   subst hA hcap
   refine ⟨cur,hb,?_,rfl⟩
   exact h3)
 clear hown hgrow hb0 hi hiz his hib
 go_wp2
 go_loopg [15] n (fun m j wr => ∃ (k : Nat) (outs : List (Array Value)),m = n - k ∧ k ≤ n ∧ j = .int .i64 k ∧ CpRow3 217 R w.heap.size n k outs w wr)
 case atStart => exact ⟨0,[],rfl,Nat.zero_le _,rfl,HS.out⟩
 case round =>
  obtain ⟨k,outs,rfl,hk,rfl,hcp⟩:=hrel
  have HCp:=Lib.hid hcp
  clear hcp
  by_cases hlt : k < n
  ·obtain ⟨cs,hcs⟩ : ∃ cs,ins[k]? = some cs:=⟨_,List.getElem?_eq_getElem (by omega)⟩
   have hszc : cs.size = N:=(HH.out.2.1 cs (List.mem_of_getElem? hcs)).trans HH.out.2.2.2.2.1.symm
   have hl1:=load_list (W:=wr) (a:=a.add (k * 3)) (N:=N) (cs:=cs) (fun j v hv => (HCp.out.below.cell (by rw [show ((a.add (k * 3)).add j).block = a.block by unfold Addr.add;split <;> split <;> rfl];exact ha (by omega))).trans (HH.out.2.2.1 k cs hcs j v hv)) hszc
   have hst:=store_fresh (w:=wr) (t:=T) (hzc.trans hszc.symm) (HH.out.2.2.2.2.2.2 k cs hcs)
   have hl2:=load_new (heap_of_alloc wr (.cells cs T)) hszc
   have hz:=size_of_alloc wr (.cells cs T)
   have HC2:=Lib.hid (HH.out.2.2.2.1 k cs (wr.alloc (.cells cs T)) hcs (HCp.out.below.trans ((below_alloc wr _).mono HCp.out.below.size)))
   have hki : (k : Int) < n:=by omega
   clear hcs
   go_wp2_with (go_at_call 151;refine HC2.out.mono ?_;rintro e w3 ⟨cs',rfl,h24',h1',hr,hb⟩;obtain ⟨w4,hw4,hcp4⟩:=HCp.out.next HH.out.1 hlt rfl h24' h1' ((below_alloc wr (.cells cs T)).chain hb) ((HH.out.1 k).mono _ _ _ _ hr (by have := HCp.out.below.size;have := HCp.out.row;obtain ⟨cur,hcur,_⟩:=this;have := (Array.getElem?_eq_some_iff.1 hcur).1;omega));have hsz' : cs'.size = N:=(h24'.trans HH.out.2.2.2.2.1.symm);have HC4:=Lib.hid hcp4;clear hcp4 h24' h1' hr hb)
   go_roundg (n - (k + 1))
   case measure => omega
   case rel => exact ⟨k + 1,outs ++ [cs'],rfl,by omega,by go_num,HC4.out⟩
  ·obtain rfl : k = n:=by omega
   go_wp2
   go_ret
   exact ⟨outs,rfl,HCp.out⟩
end Go.Proofs.YtojjfdegkooknaaGreatDoor
