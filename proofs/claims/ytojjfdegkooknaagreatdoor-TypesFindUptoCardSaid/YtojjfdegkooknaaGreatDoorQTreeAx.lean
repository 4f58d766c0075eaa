import Derived.OrdersHeld
import Derived.OrdersIn
import Derived.TacticsIn
import Derived.NoCompiler
import Derived.Test.YtojjfdegkooknaaGreatDoorProg
import Derived.OwnWalkIn
import Derived.Laws.AppendOwn
import Derived.RowKit
import Derived.Test.YtojjfdegkooknaaGreatDoorQTreeB
import Derived.OwnWalk
import Derived.Shelf.Abstract
import Derived.Shelf.RegionOpen
import Derived.Test.YtojjfdegkooknaaGreatDoorQTreeXv
import Derived.Test.YtojjfdegkooknaaGreatDoorQTreeV
import Derived.Great.BuildSlice
import Derived.Great.FillDense
import Derived.Stop.RegionWithIn
set_option linter.unusedVariables false
set_option linter.unusedSimpArgs false
namespace Go.Proofs.YtojjfdegkooknaaGreatDoor
section
variable {F : Fence} {n : Nat} {P : Program} {ops : Array Oper} {Q : Exit → Act → World → Prop} {md : Region.Mode} {S : World → Prop}
def Steady (P : Program) (ops : Array Oper) (S : World → Prop) (o : Oper) (v : Value) (a : Act) : Prop:=YieldsIf P ops S o v a ∧ ∀ w,o.about P w a.eval = none
def noDefers (ops : Array Oper) : Bool:=ops.toList.all fun o => match o.op with | .defer _ => false | _ => true
theorem noDefers_at (h : noDefers ops = true) {j : Nat} {o : Oper} (hj : ops[j]? = some o) (c : Call) : o.op ≠ .defer c:=fun e => by
 have h1:=List.all_eq_true.1 h o (Array.mem_toList_iff.2 (Array.mem_of_getElem? hj))
 rw [e] at h1
 cases h1
theorem Steady.run {i : Nat} {o : Oper} {v : Value} {a : Act} (hi : ops[i]? = some o) (hd : ∀ c,o.op ≠ .defer c) (hy : Steady P ops S o v a)
 {K : Act → World → Prop} {w : World} (hS : S w) (h : K (a.put o.dst v) w) : wpOpIn F n P ops Q i K a w:=by
 have hc : ∀ f,o.about P w a.eval = some f → F.fn f:=fun f hf => by rw [hy.2 w] at hf;cases hf
 unfold wpOpIn
 rw [hi]
 show if Region.wanted o (yielded ops a.tmps) = true then _ else _
 rcases hy.1 with ⟨hw,hv⟩ | ⟨hw,rfl⟩
 ·rw [if_pos hw]
  refine ⟨hc,?_⟩
  rw [Oper.semAt_eq _ _ _ hd,hv w hS]
  exact h
 ·rw [if_neg (by rw [hw];exact Bool.false_ne_true)]
  exact ⟨hc,h⟩
theorem Steady.put {oi oj : Oper} {v u : Value} {a : Act} (hy : Steady P ops S oi v a) (hsi : ∀ cs b,oi.op ≠ .select cs b) (h3 : ∀ d,oj.dst = some d → d ∉ oi.looksAt ops) : Steady P ops S oi v (a.put oj.dst u) :=
 ⟨hy.1.of_same (execOp_put oi hsi a oj.dst u h3) (wanted_put oi a oj.dst u h3),fun w => by rw [about_put oi w a oj.dst u h3];exact hy.2 w⟩
theorem swapped {j : Nat} {oi oj : Oper} {v : Value} (hj : ops[j]? = some oj) (hap : oi.apart ops oj = true) (hdj : ∀ c,oj.op ≠ .defer c)
 (hsi : ∀ cs b,oi.op ≠ .select cs b) (hsj : ∀ cs b,oj.op ≠ .select cs b)
 (hQ : ∀ c a w,Q (.panic c) (a.put oi.dst v) w → Q (.panic c) a w) {K : Act → World → Prop} {a : Act} {w : World}
 (hy : Steady P ops S oi v a) (h : wpOpIn F n P ops Q j K (a.put oi.dst v) w) :
 wpOpIn F n P ops Q j (fun a' w' => Steady P ops S oi v a' ∧ K (a'.put oi.dst v) w') a w:=by
 obtain ⟨h1,h2,h3⟩:=Oper.apart_spec hap
 have put1 : ∀ u {w' : World},K ((a.put oi.dst v).put oj.dst u) w' → Steady P ops S oi v (a.put oj.dst u) ∧ K ((a.put oj.dst u).put oi.dst v) w':=fun u w' hk =>
  ⟨hy.put hsi h3,by rw [← Act.put_comm a v u h2];exact hk⟩
 have ab:=about_put (P:=P) oj w a oi.dst v h1
 have wa:=wanted_put oj a oi.dst v h1
 have ex:=execOp_put oj hsj a oi.dst v h1
 unfold wpOpIn at h ⊢
 rw [hj] at h ⊢
 change (if Region.wanted oj (yielded ops (a.put oi.dst v).tmps) = true then _ else _) at h
 show if Region.wanted oj (yielded ops a.tmps) = true then _ else _
 rw [wa] at h
 by_cases hw : Region.wanted oj (yielded ops a.tmps) = true
 ·rw [if_pos hw] at h ⊢
  unfold Oper.wpIn at h ⊢
  rw [ab,Oper.semAt_eq _ _ _ hdj,ex] at h
  rw [Oper.semAt_eq _ _ _ hdj]
  refine ⟨h.1,?_⟩
  have hh:=h.2
  clear h ab wa ex hw
  revert hh
  generalize (execOp a.eval oj).run P w = r
  intro hh
  cases r with
  | halt x w' =>
    cases x <;> simp only [Oper.uponIn] at hh ⊢
    case panic u => exact hQ _ _ _ hh
  | ok x w' =>
    cases x <;> simp only [Oper.uponIn] at hh ⊢
    case value u => exact put1 u hh
    case skip => exact put1 undef hh
    case defer d =>
     refine ⟨⟨(hy.1.of_same (a':={ a with defers:=d :: a.defers }) rfl rfl).of_same (execOp_put oi hsi _ oj.dst _ h3) (wanted_put oi _ oj.dst _ h3),fun w => ?_⟩,?_⟩
     ·rw [about_put oi w _ oj.dst _ h3];exact hy.2 w
     ·rw [← Act.put_comm _ v undef h2,← Act.put_defers];exact hh
    case enter f args =>
     refine ⟨hh.1,hh.2.mono fun e w'' he => ?_⟩
     cases e with
     | returned u => exact put1 u he
     | panicked c => exact hQ _ _ _ he
     | outgrown => exact he
    case row row args => exact ⟨hh.1,hh.2.mono fun u w'' he => put1 u he⟩
    case round l f tmps assign body =>
     refine ⟨hh.1,hh.2.mono fun e w'' he => ?_⟩
     cases e with
     | returned u => exact put1 u he
     | panicked c => exact hQ _ _ _ he
     | outgrown => exact he
 ·rw [if_neg hw] at h ⊢
  exact ⟨by rw [← ab];exact h.1,put1 undef h.2⟩
def AnyS (F : Fence) (n : Nat) (P : Program) (md : Region.Mode) (ops : Array Oper) (Q : Exit → Act → World → Prop) (S : World → Prop) : Nat → Array Bool → Act → World → Prop
 | 0,l,a,w => Region.ready md ops l = [] ∧ Q .normal a w
 | k + 1,l,a,w => (Region.ready md ops l = [] → Q .normal a w) ∧ ∀ i ∈ Region.ready md ops l,wpOpIn F n P ops Q i (fun a' w' => S w' ∧ AnyS F n P md ops Q S k (l.setIfInBounds i true) a' w') a w
theorem AnyS.plain : ∀ (k : Nat) (l : Array Bool) (a : Act) (w : World),AnyS F n P md ops Q S k l a w → wpAnyIn F n P md ops Q k l a w
 | 0,_,_,_,h => h
 | k + 1,_,_,_,h => ⟨h.1,fun i hi => wpOpIn_mono (fun a' w' h' => AnyS.plain k _ a' w' h'.2) (h.2 i hi)⟩
theorem AnyS.first {i : Nat} {oi : Oper} {v : Value} (hi : ops[i]? = some oi) (hnd : noDefers ops = true) (hsel : ∀ (j : Nat) (o : Oper) cs b,ops[j]? = some o → o.op ≠ .select cs b)
 (hQ : ∀ c a w,Q (.panic c) (a.put oi.dst v) w → Q (.panic c) a w) : ∀ (k : Nat) (l : Array Bool) (a : Act) (w : World),
   (∀ j oj,ops[j]? = some oj → j ≠ i → l.getD j true = false → (∀ e ∈ oj.after,Region.binds md e = true → e.on ≠ i) → oi.apart ops oj = true) →
   i ∈ Region.ready md ops l → Steady P ops S oi v a → S w → AnyS F n P md ops Q S k (l.setIfInBounds i true) (a.put oi.dst v) w → AnyS F n P md ops Q S (k + 1) l a w:=by
 intro k
 induction k with
 | zero =>
   intro l a w _ hr hy hS H
   refine ⟨fun h => (by rw [h] at hr;cases hr),fun j hj => ?_⟩
   by_cases hji : j = i
   ·subst hji;exact hy.run hi (noDefers_at hnd hi) hS ⟨hS,H⟩
   ·have := ready_mono hj hji
    rw [H.1] at this
    cases this
 | succ k ih =>
   intro l a w hfree hr hy hS H
   refine ⟨fun h => (by rw [h] at hr;cases hr),fun j hj => ?_⟩
   by_cases hji : j = i
   ·subst hji;exact hy.run hi (noDefers_at hnd hi) hS ⟨hS,H⟩
   obtain ⟨hjun,oj,hoj,hall⟩:=mem_ready.1 hj
   have hi0:=(mem_ready.1 hr).1
   have hnot : ∀ e ∈ oj.after,Region.binds md e = true → e.on ≠ i:=by
    intro e he hb heq
    have h1:=hall e he hb
    rw [heq] at h1
    rcases Nat.lt_or_ge i l.size with h' | h'
    ·simp [h'] at hi0 h1;rw [hi0] at h1;cases h1
    ·simp [Array.getElem?_eq_none h'] at h1
   have h2:=swapped hoj (hfree j oj hoj hji hjun hnot) (noDefers_at hnd hoj) (fun cs b => hsel i oi cs b hi) (fun cs b => hsel j oj cs b hoj) hQ hy (H.2 j (ready_mono hj hji))
   refine wpOpIn_mono (fun a' w' h3 => ⟨h3.2.1,ih (l.setIfInBounds j true) a' w' (fun m om hm hmi hun hno => ?_) (ready_mono hr (Ne.symm hji)) h3.1 h3.2.1 ?_⟩) h2
   ·refine hfree m om hm hmi ?_ hno
    by_cases hjm : j = m
    ·subst hjm;exact hjun
    ·rw [getD_set_ne true hjm] at hun;exact hun
   ·rw [Array.setIfInBounds_comm _ _ hji]
    exact h3.2.2
theorem AnyS.take (i : Nat) {oi : Oper} {v : Value} {k : Nat} {l : Array Bool} {a : Act} {w : World} (hS : S w) (hi : ops[i]? = some oi)
 (hnd : noDefers ops = true) (hs : Region.noSelect ops = true) (hf : Region.free md ops l i = true) (hr : (Region.ready md ops l).contains i = true)
 (hQ : ∀ c a w,Q (.panic c) (a.put oi.dst v) w → Q (.panic c) a w) (hw : Region.wanted oi (yielded ops a.tmps) = true) (ha : ∀ w,oi.about P w a.eval = none) (hv : ∀ w,S w → (execOp a.eval oi).run P w = .ok (.value v) w)
 (h : AnyS F n P md ops Q S k (l.setIfInBounds i true) (a.put oi.dst v) w) : AnyS F n P md ops Q S (k + 1) l a w :=
 AnyS.first hi hnd (Region.noSelect_spec hs) hQ k l a w (Region.free_spec hi hf) (by simpa using hr) ⟨.inl ⟨hw,hv⟩,ha⟩ hS h
theorem AnyS.one (i : Nat) {o : Oper} {k : Nat} {l : Array Bool} {a : Act} {w : World} (hr : Region.ready md ops l = [i]) (ho : ops[i]? = some o) (hw : Region.wanted o (yielded ops a.tmps) = true)
 (h : ∀ K : Act → World → Prop,(∀ a w,S w → AnyS F n P md ops Q S k (l.setIfInBounds i true) a w → K a w) → Oper.wpIn F n P o a w K Q) : AnyS F n P md ops Q S (k + 1) l a w:=by
 refine ⟨fun h0 => (by rw [hr] at h0;cases h0),fun j hj => ?_⟩
 rw [hr] at hj
 obtain rfl:=List.mem_singleton.1 hj
 unfold wpOpIn
 rw [ho]
 show if Region.wanted o (yielded ops a.tmps) = true then _ else _
 rw [if_pos hw]
 exact h _ (fun _ _ h1 h2 => ⟨h1,h2⟩)
theorem AnyS.done {l : Array Bool} {a : Act} {w : World} (hr : Region.ready md ops l = []) (h : Q .normal a w) : ∀ k,AnyS F n P md ops Q S k l a w
 | 0 => ⟨hr,h⟩
 | _ + 1 => ⟨fun _ => h,by rw [hr];simp⟩
end
end Go.Proofs.YtojjfdegkooknaaGreatDoor
namespace Go.Proofs.YtojjfdegkooknaaGreatDoor
open Go.RowKit
end Go.Proofs.YtojjfdegkooknaaGreatDoor
namespace Go.Proofs.YtojjfdegkooknaaGreatDoor
open Go.RowKit
structure Stays (R : Nat → Array Value → World → Prop) : Prop where
 part : ∀ B v W W',R B v W → Part (fun b => b < B) W W' → R B v W'
 mono : ∀ B B' v W,R B v W → B' ≤ B → R B' v W
theorem load_new {W : World} {cs : Array Value} {t : TypeId} {N b : Nat} (h : W.heap[b]? = some (.cells cs t (0,0))) (hN : cs.size = N) : (loadCellsFrom ⟨b,0,none⟩ 0 N #[]).run Tryz.prog W = .ok cs W :=
 load_list (a:=⟨b,0,none⟩) (fun j v hv => by rw [add_block0];exact cell_of_block h j hv) hN
theorem part_row {W : World} {b B : Nat} (cs : Array Value) (hb : b < B) : Part (fun k => k < B) W (W.setRow b cs) :=
 ⟨rfl,rfl,rfl,by simp,fun k hk hn => by
   have hne : k ≠ b:=by omega
   simp only [World.setRow,Array.getElem?_modify]
   rw [if_neg (by omega)]⟩
end Go.Proofs.YtojjfdegkooknaaGreatDoor
namespace Go.Proofs.YtojjfdegkooknaaGreatDoor
open Go.RowKit
theorem infoStmt : (Tryz.prog.info? 90).map (fun i => (i.zero,i.size,i.bytes)) = some (some (.agg #[.int .i64 0,.int .i64 0,.int .i64 0,.string ⟨#[]⟩,.string ⟨#[]⟩,.string ⟨#[]⟩,.int .i64 0,.int .i64 0,.string ⟨#[]⟩,.slice none 0 0,.int .i64 0,.int .i64 0,.int .i64 0,.string ⟨#[]⟩,.slice none 0 0,.int .i64 0,.int .i64 0,.string ⟨#[]⟩,.slice none 0 0,.slice none 0 0,.slice none 0 0,.slice none 0 0,.slice none 0 0,.slice none 0 0]),24,368):=by kernel_rfl
def flatC (outs : List (Array Value)) : List Value:=outs.flatMap (·.toList)
structure CpRow (R : Nat → Nat → Array Value → World → Prop) (g n k : Nat) (outs : List (Array Value)) (w W : World) : Prop where
 len : outs.length = k
 sz : ∀ c ∈ outs,c.size = 24
 one : ∀ c ∈ outs,c.all (·.oneCell') = true
 row : ∃ cur : Array Value,W.heap[g]? = some (.cells cur 90 (0,0)) ∧ cur.size = n * 24 ∧ cur.toList.take (k * 24) = flatC outs
 rel : ∀ i c,outs[i]? = some c → R i (g + 1) c W
 below : Below w.heap.size w W
theorem stored_take (cur : List Value) (k n : Nat) (cs : List Value) (fl : List Value) (hc : cur.length = n * 24) (hk : k < n) (h24 : cs.length = 24) (ht : cur.take (k * 24) = fl) :
 (cur.take (k * 24) ++ cs ++ cur.drop (k * 24 + 24)).length = n * 24 ∧ (cur.take (k * 24) ++ cs ++ cur.drop (k * 24 + 24)).take ((k + 1) * 24) = fl ++ cs:=by
 have h1 : (cur.take (k * 24)).length = k * 24:=by rw [List.length_take];omega
 constructor
 ·simp only [List.length_append,List.length_drop,h1,h24,hc]
  omega
 ·rw [List.take_append_of_le_length (by rw [List.length_append,h1,h24];omega),List.take_of_length_le (by rw [List.length_append,h1,h24];omega),ht]
theorem CpRow.next {R : Nat → Nat → Array Value → World → Prop} (hR : ∀ i,Stays (R i)) {g n k : Nat} {outs : List (Array Value)} {w W W3 : World} (h : CpRow R g n k outs w W) (hk : k < n) (hgw : g = w.heap.size) {cs : Array Value} (h24 : cs.size = 24) (h1 : cs.all (·.oneCell') = true)
 (hb : Below W.heap.size W W3) (hr : R k (g + 1) cs W3) : ∃ W4,(storeCells ⟨g,k * 24,none⟩ cs.toList).run Tryz.prog W3 = .ok () W4 ∧ CpRow R g n (k + 1) (outs ++ [cs]) w W4:=by
 obtain ⟨cur,hc,hs,ht⟩:=h.row
 have hc3:=kept_box hb hc
 have hrun:=run_storeCells_at (P:=Tryz.prog) g (k * 24) 90 cs.toList 0 cur W3 hc3 (by rw [Array.length_toList,h24,hs];omega) (fun v hv => (Array.all_eq_true_iff_forall_mem.1 h1) v (by simpa using hv))
 refine ⟨_,hrun,?_⟩
 obtain ⟨l1,l2⟩:=stored_take cur.toList k n cs.toList (flatC outs) (by simpa using hs) hk (by simpa using h24) ht
 have hpart : ∀ cells : Array Value,Part (fun b => b < g + 1) W3 (W3.setRow g cells):=fun cells => part_row cells (Nat.lt_succ_self g)
 refine ⟨by rw [List.length_append,h.len];rfl,fun c hm => ?_,fun c hm => ?_,⟨_,setRow_heap _ _ cur _ _ _ hc3,?_,?_⟩,fun i c hi => ?_,below_setRow (h.below.trans (hb.mono h.below.size)) (by omega) _⟩
 ·rcases List.mem_append.1 hm with hm | hm
  ·exact h.sz c hm
  ·rw [List.mem_singleton.1 hm];exact h24
 ·rcases List.mem_append.1 hm with hm | hm
  ·exact h.one c hm
  ·rw [List.mem_singleton.1 hm];exact h1
 ·rw [Array.length_toList,h24] 
  simp only [Nat.add_zero,List.size_toArray]
  exact l1
 ·rw [Array.length_toList,h24]
  simp only [Nat.add_zero]
  rw [l2]
  unfold flatC
  rw [List.flatMap_append]
  simp
 ·by_cases hik : i < outs.length
  ·rw [List.getElem?_append_left hik] at hi
   have h0:=(hR i).part _ _ _ _ (h.rel i c hi) (Part.of_below hb)
   exact (hR i).part _ _ _ _ h0 (hpart _)
  ·rw [List.getElem?_append_right (by omega)] at hi
   have hi0 : i = k:=by
    have := (List.getElem?_eq_some_iff.1 hi).1
    simp at this
    have := h.len
    omega
   subst hi0
   rw [h.len,Nat.sub_self] at hi
   obtain rfl : cs = c:=by simpa using hi
   exact (hR i).part _ _ _ _ hr (hpart _)
theorem store_fresh {w : World} {t : TypeId} {zc cs : Array Value} (hs : zc.size = cs.size) (h1 : cs.all (·.oneCell') = true) : (storeCells ⟨w.heap.size,0,none⟩ cs.toList).run Tryz.prog (w.alloc (.cells zc t)) = .ok () (w.alloc (.cells cs t)):=by
 have := store_cells (b:=w.heap.size) (heap_of_alloc w (.cells zc t)) hs h1
 rw [World.setRow_alloc_new] at this
 exact this
end Go.Proofs.YtojjfdegkooknaaGreatDoor
namespace Go.Proofs.YtojjfdegkooknaaGreatDoor
open Go.RowKit
def OneRow (cs : Array Value) (B : Nat) (v : Value) (W : World) : Prop:=∃ (g : Nat) (cur : Array Value),v = .slice (some ⟨g,0,none⟩) 1 1 ∧ B ≤ g ∧ W.heap[g]? = some (.cells cur 90 (0,0)) ∧ cur.size = 24 ∧ cur = cs
theorem OneRow.part {cs : Array Value} {B : Nat} {v : Value} {W W' : World} (h : OneRow cs B v W) (hp : Part (fun b => b < B) W W') : OneRow cs B v W':=by
 obtain ⟨g,cur,hv,hg,hc,hs⟩:=h
 exact ⟨g,cur,hv,hg,(hp.block g (Array.getElem?_eq_some_iff.1 hc).1 (by omega)).trans hc,hs⟩
theorem OneRow.mono {cs : Array Value} {B B' : Nat} {v : Value} {W : World} (h : OneRow cs B v W) (hB : B' ≤ B) : OneRow cs B' v W:=by
 obtain ⟨g,cur,hv,hg,hr⟩:=h
 exact ⟨g,cur,hv,Nat.le_trans hB hg,hr⟩
theorem flatC_get {outs : List (Array Value)} (h : ∀ c ∈ outs,c.size = 24) : ∀ (i j : Nat) (cs : Array Value),outs[i]? = some cs → j < 24 → (flatC outs)[i * 24 + j]? = cs[j]?:=by
 induction outs with
 | nil => intro i j cs hi;simp at hi
 | cons c outs ih =>
   intro i j cs hi hj
   have h1:=h c (List.mem_cons_self ..)
   have e : flatC (c :: outs) = c.toList ++ flatC outs:=by unfold flatC;rw [List.flatMap_cons]
   rw [e]
   cases i with
   | zero =>
     obtain rfl : c = cs:=by simpa using hi
     rw [List.getElem?_append_left (by rw [Array.length_toList];omega)]
     simp
   | succ i =>
     rw [List.getElem?_append_right (by rw [Array.length_toList];omega),Array.length_toList,h1,show (i + 1) * 24 + j - 24 = i * 24 + j by omega]
     exact ih (fun d hd => h d (List.mem_cons_of_mem _ hd)) i j cs (by simpa using hi) hj
theorem CpRow.cells {R : Nat → Nat → Array Value → World → Prop} {g n : Nat} {outs : List (Array Value)} {w W : World} (h : CpRow R g n n outs w W) (i : Nat) (cs : Array Value) (hi : outs[i]? = some cs) (j : Nat) (v : Value) (hv : cs[j]? = some v) :
 W.cell? (((⟨g,0,none⟩ : Addr).add (i * 24)).add j) = some v:=by
 obtain ⟨cur,hc,hs,ht⟩:=h.row
 have hj : j < 24:=by
  have := (Array.getElem?_eq_some_iff.1 hv).1
  rw [h.sz cs (List.mem_of_getElem? hi)] at this
  exact this
 rw [add_add_plain,add_block0]
 refine cell_of_block hc _ ?_
 have h1:=flatC_get h.sz i j cs hi hj
 rw [← ht,List.take_of_length_le (by rw [Array.length_toList];omega)] at h1
 rw [← hv,← h1]
 simp
end Go.Proofs.YtojjfdegkooknaaGreatDoor
namespace Go.Proofs.YtojjfdegkooknaaGreatDoor
open Go.RowKit
attribute [local go_sem] Oper.semAt_some
theorem room_of_none {F : Fence} (hd : F.depth = none) (n : Nat) : F.room n:=by
 intro d h
 rw [hd] at h
 cases h
theorem RoundIn.anyDepth {F : Fence} (hd : F.depth = none) {m m' : Nat} {P : Program} {l : Nat} {f : FuncId} {tmps : Array Value} {assign body : Code} {w : World} {R : Ending → World → Prop}
 (h : RoundIn F m P l f tmps assign body w R) : RoundIn F m' P l f tmps assign body w R:=⟨h.1,fun c cs _ => h.2 c cs (room_of_none hd _)⟩
theorem YieldAt.anyDepth {F : Fence} (hd : F.depth = none) {m : Nat} (m' : Nat) {P : Program} {l : Nat} {args : Array Value} {W : World} {R : Ending → World → Prop} (h : YieldAt F m P l args W R) : YieldAt F m' P l args W R:=by
 obtain ⟨fn,tmps,assign,body,hy,hR⟩:=h
 exact ⟨fn,tmps,assign,body,hy,RoundIn.anyDepth hd hR⟩
abbrev WkPv (B : Nat) (Pv : Nat → Prop) : Nat → Prop:=fun b => Pv b ∨ b = B ∨ b = B + 1 ∨ b = B + 2
structure WkSt (Q : Nat → Prop) (J : (Nat → Prop) → List (Nat × Array Value) → World → Prop) (l B : Nat) (W0 : World) (whole : List (Array Value)) (Pv : Nat → Prop) (pre : List (Array Value)) (W : World) : Prop where
 ex : ∃ xs : List (Nat × Array Value),xs.length = pre.length ∧ J (WkPv B Pv) xs W
 pfx : pre <+: whole
 fn : W.cell? ⟨B,0,none⟩ = some (.func (.yield l) #[] #[])
 num : W.heap[B + 1]? = some (.cells #[.int .i64 pre.length] 3 (0,0))
 q : ∀ b,Q b → W.heap[b]? = W0.heap[b]?
 off : ∀ b,Pv b → W0.heap.size ≤ b
 size : W0.heap.size ≤ W.heap.size
theorem WkSt.abid {Q : Nat → Prop} {J : (Nat → Prop) → List (Nat × Array Value) → World → Prop} {l B : Nat} {W0 : World} {whole : List (Array Value)} (hJ : Abid J) (hB : B + 2 < W0.heap.size) (hQ : ∀ b,Q b → b < W0.heap.size) : Abid (WkSt Q J l B W0 whole):=by
 intro Pv Pv' s W W' h hp hn hl
 obtain ⟨xs,hx,hj⟩:=h.ex
 have hlt : ∀ b,b < W0.heap.size → b < W.heap.size:=fun b hb => Nat.lt_of_lt_of_le hb h.size
 have hno : ∀ b,b < W0.heap.size → ¬ Pv b:=fun b hb hp => by have := h.off b hp;omega
 refine ⟨⟨xs,hx,hJ _ _ _ _ _ hj (hp.mono fun b hb => Or.inl hb) (fun b hb => ?_) (fun b hb => ?_)⟩,h.pfx,(hp.cell (p:=⟨B,0,none⟩) (hlt B (by omega)) (hno B (by omega))).trans h.fn,(hp.block (B + 1) (hlt _ (by omega)) (hno _ (by omega))).trans h.num,
  fun b hb => (hp.block b (hlt b (hQ b hb)) (hno b (hQ b hb))).trans (h.q b hb),fun b hb => ?_,Nat.le_trans h.size hp.size⟩
 ·rcases hb with hb | hb
  ·exact (hn b hb).imp (fun h => Or.inl h) id
  ·exact Or.inl (Or.inr hb)
 ·have := hp.size
  have := h.size
  rcases hb with hb | rfl | rfl | rfl
  ·exact hl b hb
  ·omega
  ·omega
  ·omega
 ·rcases hn b hb with hb | hb
  ·exact h.off b hb
  ·exact Nat.le_trans h.size hb
structure WkEnd (Jx : (Nat → Prop) → List (Nat × Array Value) → World → Prop) (B : Nat) (W0 : World) (whole : List (Array Value)) (c : Code) (Pv : Nat → Prop) (pre : List (Array Value)) (W : World) : Prop where
 ret : c = .ret
 ex : ∃ xs : List (Nat × Array Value),xs.length ≤ whole.length ∧ Jx (WkPv B Pv) xs W
 off : ∀ b,Pv b → W0.heap.size ≤ b
 size : W0.heap.size ≤ W.heap.size
theorem WkEnd.abid {Jx : (Nat → Prop) → List (Nat × Array Value) → World → Prop} {B : Nat} {W0 : World} {whole : List (Array Value)} (hJ : Abid Jx) (hB : B + 2 < W0.heap.size) (c : Code) : Abid (WkEnd Jx B W0 whole c):=by
 intro Pv Pv' s W W' h hp hn hl
 obtain ⟨xs,hx,hj⟩:=h.ex
 refine ⟨h.ret,⟨xs,hx,hJ _ _ _ _ _ hj (hp.mono fun b hb => Or.inl hb) (fun b hb => ?_) (fun b hb => ?_)⟩,fun b hb => ?_,Nat.le_trans h.size hp.size⟩
 ·rcases hb with hb | hb
  ·exact (hn b hb).imp (fun h => Or.inl h) id
  ·exact Or.inl (Or.inr hb)
 ·have := hp.size
  have := h.size
  rcases hb with hb | rfl | rfl | rfl
  ·exact hl b hb
  ·omega
  ·omega
  ·omega
 ·rcases hn b hb with hb | hb
  ·exact h.off b hb
  ·exact Nat.le_trans h.size hb
end Go.Proofs.YtojjfdegkooknaaGreatDoor
namespace Go.Proofs.YtojjfdegkooknaaGreatDoor
open Go.RowKit
abbrev rowTwo : Array Value:=#[.int .i64 2,.int .i64 0,.string ⟨#[121]⟩,.slice none 0 0,.int .i64 2,.int .i64 0,.string ⟨#[120]⟩,.slice none 0 0]
abbrev rowOne (r2 : Nat) : Array Value:=#[.int .i64 4,.int .i64 0,.string ⟨#[]⟩,.slice (some ⟨r2,0,none⟩) 2 2]
structure EAt (W : World) (r1 r2 : Nat) : Prop where
 h1 : W.heap[r1]? = some (.cells (rowOne r2) 84 (0,0))
 h2 : W.heap[r2]? = some (.cells rowTwo 84 (0,0))
abbrev exTwo : List Ex:=[.mk 2 0 [121] [],.mk 2 0 [120] []]
abbrev exOne : List Ex:=[.mk 4 0 [] exTwo]
theorem EAt.lt1 {W : World} {r1 r2 : Nat} (h : EAt W r1 r2) : r1 < W.heap.size:=(Array.getElem?_eq_some_iff.1 h.h1).1
theorem EAt.lt2 {W : World} {r1 r2 : Nat} (h : EAt W r1 r2) : r2 < W.heap.size:=(Array.getElem?_eq_some_iff.1 h.h2).1
theorem EAt.stay {W W' : World} {r1 r2 : Nat} (h : EAt W r1 r2) (hb : Below W.heap.size W W') : EAt W' r1 r2:=⟨kept_box hb h.h1,kept_box hb h.h2⟩
theorem EAt.two {W : World} {r1 r2 : Nat} (h : EAt W r1 r2) : ExRow W W.heap.size exTwo (some ⟨r2,0,none⟩):=by
 refine .row _ _ (fun _ => none) (fun _ => 0) h.lt2 (fun i k n s l hi => ?_) (fun i k n s l hi => ?_)
 ·match i,hi with
  | 0,hi =>
    injection hi with hi;injection hi with e1 e2 e3 e4;subst e1 e2 e3 e4
    simp only [add_block0]
    exact ⟨cell_of_block h.h2 0 rfl,cell_of_block h.h2 1 rfl,cell_of_block h.h2 2 rfl,cell_of_block h.h2 3 rfl,by decide,by decide⟩
  | 1,hi =>
    injection hi with hi;injection hi with e1 e2 e3 e4;subst e1 e2 e3 e4
    simp only [add_block0]
    exact ⟨cell_of_block h.h2 4 rfl,cell_of_block h.h2 5 rfl,cell_of_block h.h2 6 rfl,cell_of_block h.h2 7 rfl,by decide,by decide⟩
  | i + 2,hi => simp at hi
 ·match i,hi with
  | 0,hi => injection hi with hi;injection hi with e1 e2 e3 e4;subst e4;exact .nil _
  | 1,hi => injection hi with hi;injection hi with e1 e2 e3 e4;subst e4;exact .nil _
  | i + 2,hi => simp at hi
theorem EAt.one {W : World} {r1 r2 : Nat} (h : EAt W r1 r2) : ExRow W W.heap.size exOne (some ⟨r1,0,none⟩):=by
 refine .row _ _ (fun _ => some ⟨r2,0,none⟩) (fun _ => 2) h.lt1 (fun i k n s l hi => ?_) (fun i k n s l hi => ?_)
 ·match i,hi with
  | 0,hi =>
    injection hi with hi;injection hi with e1 e2 e3 e4;subst e1 e2 e3 e4
    simp only [add_block0]
    exact ⟨cell_of_block h.h1 0 rfl,cell_of_block h.h1 1 rfl,cell_of_block h.h1 2 rfl,cell_of_block h.h1 3 rfl,by decide,by decide⟩
  | i + 1,hi => simp at hi
 ·match i,hi with
  | 0,hi => injection hi with hi;injection hi with e1 e2 e3 e4;subst e4;exact h.two
  | i + 1,hi => simp at hi
end Go.Proofs.YtojjfdegkooknaaGreatDoor
namespace Go.Proofs.YtojjfdegkooknaaGreatDoor
open Go.RowKit
def nmA (k : Nat) : List UInt8:=if k = 0 then [] else if k = 1 then [120] else [121]
def nmsA (n : Nat) : List Value:=(List.range n).map fun k => .string ⟨(nmA k).toArray⟩
structure AwSt (N : Nat) (W0 : World) (Pv : Nat → Prop) (pre : List (Nat × Array Value)) (W : World) : Prop where
 row : ∃ A c,W.heap[N]? = some (.cells #[.slice A pre.length c] 98 (0,0)) ∧ W.ownsRow W0.heap.size 9 1 (.slice A pre.length c) pre.length (nmsA pre.length) ∧ ∀ g,(Value.slice A pre.length c).ownBlock = some g → ¬ Pv g
 off : ∀ b,Pv b → W0.heap.size ≤ b
 size : W0.heap.size ≤ W.heap.size
 keep : ∀ b,b < W0.heap.size → b ≠ N → W.heap[b]? = W0.heap[b]?
 os : W.os = W0.os
 tape : W.tape = W0.tape
 output : W.output = W0.output
theorem AwSt.abid {N : Nat} {W0 : World} (hN : N < W0.heap.size) : Abid (AwSt N W0):=by
 intro Pv Pv' s W W' h hp hn hl
 obtain ⟨A,c,h1,h2,h3⟩:=h.row
 have hno : ∀ b,b < W0.heap.size → ¬ Pv b:=fun b hb hp => by have := h.off b hp;omega
 refine ⟨⟨A,c,(hp.block N (Nat.lt_of_lt_of_le hN h.size) (hno N hN)).trans h1,?_,fun g hg hpg => ?_⟩,fun b hb => ?_,Nat.le_trans h.size hp.size,fun b hb hne => (hp.block b (Nat.lt_of_lt_of_le hb h.size) (hno b hb)).trans (h.keep b hb hne),hp.os.trans h.os,hp.tape.trans h.tape,hp.output.trans h.output⟩
 ·obtain ⟨hl0,hr⟩:=h2
  refine ⟨hl0,hr.imp id fun ⟨g,cap,cur,e1,e2,e3,e4⟩ => ⟨g,cap,cur,e1,e2,?_,e4⟩⟩
  have hgl:=(Array.getElem?_eq_some_iff.1 e3).1
  exact (hp.block g hgl (h3 g (by rw [e1];rfl))).trans e3
 ·rcases hn g hpg with hx | hx
  ·exact h3 g hg hx
  ·have := (h2.lt g hg).2
   omega
 ·rcases hn b hb with hb | hb
  ·exact h.off b hb
  ·exact Nat.le_trans h.size hb
end Go.Proofs.YtojjfdegkooknaaGreatDoor
namespace Go.Proofs.YtojjfdegkooknaaGreatDoor
open Go.RowKit
attribute [local go_sem] Oper.semAt_some
end Go.Proofs.YtojjfdegkooknaaGreatDoor
