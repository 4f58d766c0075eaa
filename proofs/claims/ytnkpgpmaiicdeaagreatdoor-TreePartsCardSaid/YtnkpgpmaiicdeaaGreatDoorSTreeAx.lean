/-
  A region that draws its order, in a loop's round inside a fence: an operation that yields the same value in every world of a class S comes first, where S holds behind each operation that is carried out. append to a row of one's own: the new row lies in the old block or in a new one. copyStmts' literal: a copy of a statement, a level further in. copyList at statements, with copyStmts' literal: a new row of copies. Copies of the example's statements; tree.Walk at the example's list. inOrder's iterator: its contract for any list of statements. awake's expression: tree.Expr and tree.Vars at it. awake: what its walk says. awake returns true.
-/
import Derived.OrdersHeld
import Derived.OrdersIn
import Derived.TacticsIn
import Derived.NoCompiler
import Derived.Test.YtnkpgpmaiicdeaaGreatDoorProg
import Derived.OwnWalkIn
import Derived.Laws.AppendOwn
import Derived.RowKit
import Derived.Test.YtnkpgpmaiicdeaaGreatDoorSTreeB
import Derived.OwnWalk
import Derived.Shelf.Abstract
import Derived.Shelf.RegionOpen
import Derived.Test.YtnkpgpmaiicdeaaGreatDoorSTreeXv
import Derived.Test.YtnkpgpmaiicdeaaGreatDoorSTreeV
import Derived.Great.BuildSlice
import Derived.Great.FillDense
import Derived.Stop.RegionWithIn
set_option linter.unusedVariables false
set_option linter.unusedSimpArgs false
namespace Go.Proofs.YtnkpgpmaiicdeaaGreatDoor
set_option maxRecDepth 100000
set_option maxHeartbeats 8000000
section
variable {F : Fence} {n : Nat} {P : Program} {ops : Array Oper} {Q : Exit → Act → World → Prop} {md : Region.Mode} {S : World → Prop}
def Steady (P : Program) (ops : Array Oper) (S : World → Prop) (o : Oper) (v : Value) (a : Act) : Prop:=YieldsIf P ops S o v a ∧ ∀ w,o.about P w a.eval = none
def noDefers (ops : Array Oper) : Bool:=ops.toList.all fun o => match o.op with | .defer _ => false | _ => true
theorem noDefers_at (h : noDefers ops = true) {j : Nat} {o : Oper} (hj : ops[j]? = some o) (c : Call) : o.op ≠ .defer c:=fun e => by
 have h1:=List.all_eq_true.1 h o (Array.mem_toList_iff.2 (Array.mem_of_getElem? hj))
 rw [e] at h1
 cases h1
theorem Steady.run {i : Nat} {o : Oper} {v : Value} {a : Act} (hi : ops[i]? = some o) (hd : ∀ c,o.op ≠ .defer c) (hy : Steady P ops S o v a)
 {K : Act → World → Prop} {w : World} (hS : S w) (h : K (a.put o.dst v) w) : wpOpIn F n P ops Q i K a w:=by
 have hc : ∀ f,o.about P w a.eval = some f → F.fn f:=fun f hf => by rw [hy.2 w] at hf;cases hf
 unfold wpOpIn
 rw [hi]
 show if Region.wanted o (yielded ops a.tmps) = true then _ else _
 rcases hy.1 with ⟨hw,hv⟩ | ⟨hw,rfl⟩
 ·rw [if_pos hw]
  refine ⟨hc,?_⟩
  rw [Oper.semAt_eq _ _ _ hd,hv w hS]
  exact h
 ·rw [if_neg (by rw [hw];exact Bool.false_ne_true)]
  exact ⟨hc,h⟩
theorem Steady.put {oi oj : Oper} {v u : Value} {a : Act} (hy : Steady P ops S oi v a) (hsi : ∀ cs b,oi.op ≠ .select cs b) (h3 : ∀ d,oj.dst = some d → d ∉ oi.looksAt ops) : Steady P ops S oi v (a.put oj.dst u) :=
 ⟨hy.1.of_same (execOp_put oi hsi a oj.dst u h3) (wanted_put oi a oj.dst u h3),fun w => by rw [about_put oi w a oj.dst u h3];exact hy.2 w⟩
theorem swapped {j : Nat} {oi oj : Oper} {v : Value} (hj : ops[j]? = some oj) (hap : oi.apart ops oj = true) (hdj : ∀ c,oj.op ≠ .defer c)
 (hsi : ∀ cs b,oi.op ≠ .select cs b) (hsj : ∀ cs b,oj.op ≠ .select cs b)
 (hQ : ∀ c a w,Q (.panic c) (a.put oi.dst v) w → Q (.panic c) a w) {K : Act → World → Prop} {a : Act} {w : World}
 (hy : Steady P ops S oi v a) (h : wpOpIn F n P ops Q j K (a.put oi.dst v) w) :
 wpOpIn F n P ops Q j (fun a' w' => Steady P ops S oi v a' ∧ K (a'.put oi.dst v) w') a w:=by
 obtain ⟨h1,h2,h3⟩:=Oper.apart_spec hap
 have put1 : ∀ u {w' : World},K ((a.put oi.dst v).put oj.dst u) w' → Steady P ops S oi v (a.put oj.dst u) ∧ K ((a.put oj.dst u).put oi.dst v) w':=fun u w' hk =>
  ⟨hy.put hsi h3,by rw [← Act.put_comm a v u h2];exact hk⟩
 have ab:=about_put (P:=P) oj w a oi.dst v h1
 have wa:=wanted_put oj a oi.dst v h1
 have ex:=execOp_put oj hsj a oi.dst v h1
 unfold wpOpIn at h ⊢
 rw [hj] at h ⊢
 change (if Region.wanted oj (yielded ops (a.put oi.dst v).tmps) = true then _ else _) at h
 show if Region.wanted oj (yielded ops a.tmps) = true then _ else _
 rw [wa] at h
 by_cases hw : Region.wanted oj (yielded ops a.tmps) = true
 ·rw [if_pos hw] at h ⊢
  unfold Oper.wpIn at h ⊢
  rw [ab,Oper.semAt_eq _ _ _ hdj,ex] at h
  rw [Oper.semAt_eq _ _ _ hdj]
  refine ⟨h.1,?_⟩
  have hh:=h.2
  clear h ab wa ex hw
  revert hh
  generalize (execOp a.eval oj).run P w = r
  intro hh
  cases r with
  | halt x w' =>
    cases x <;> simp only [Oper.uponIn] at hh ⊢
    case panic u => exact hQ _ _ _ hh
  | ok x w' =>
    cases x <;> simp only [Oper.uponIn] at hh ⊢
    case value u => exact put1 u hh
    case skip => exact put1 undef hh
    case defer d =>
     refine ⟨⟨(hy.1.of_same (a':={ a with defers:=d :: a.defers }) rfl rfl).of_same (execOp_put oi hsi _ oj.dst _ h3) (wanted_put oi _ oj.dst _ h3),fun w => ?_⟩,?_⟩
     ·rw [about_put oi w _ oj.dst _ h3];exact hy.2 w
     ·rw [← Act.put_comm _ v undef h2,← Act.put_defers];exact hh
    case enter f args =>
     refine ⟨hh.1,hh.2.mono fun e w'' he => ?_⟩
     cases e with
     | returned u => exact put1 u he
     | panicked c => exact hQ _ _ _ he
     | outgrown => exact he
    case row row args => exact ⟨hh.1,hh.2.mono fun u w'' he => put1 u he⟩
    case round l f tmps assign body =>
     refine ⟨hh.1,hh.2.mono fun e w'' he => ?_⟩
     cases e with
     | returned u => exact put1 u he
     | panicked c => exact hQ _ _ _ he
     | outgrown => exact he
 ·rw [if_neg hw] at h ⊢
  exact ⟨by rw [← ab];exact h.1,put1 undef h.2⟩
def AnyS (F : Fence) (n : Nat) (P : Program) (md : Region.Mode) (ops : Array Oper) (Q : Exit → Act → World → Prop) (S : World → Prop) : Nat → Array Bool → Act → World → Prop
 | 0,l,a,w => Region.ready md ops l = [] ∧ Q .normal a w
 | k + 1,l,a,w => (Region.ready md ops l = [] → Q .normal a w) ∧ ∀ i ∈ Region.ready md ops l,wpOpIn F n P ops Q i (fun a' w' => S w' ∧ AnyS F n P md ops Q S k (l.setIfInBounds i true) a' w') a w
theorem AnyS.plain : ∀ (k : Nat) (l : Array Bool) (a : Act) (w : World),AnyS F n P md ops Q S k l a w → wpAnyIn F n P md ops Q k l a w
 | 0,_,_,_,h => h
 | k + 1,_,_,_,h => ⟨h.1,fun i hi => wpOpIn_mono (fun a' w' h' => AnyS.plain k _ a' w' h'.2) (h.2 i hi)⟩
theorem AnyS.first {i : Nat} {oi : Oper} {v : Value} (hi : ops[i]? = some oi) (hnd : noDefers ops = true) (hsel : ∀ (j : Nat) (o : Oper) cs b,ops[j]? = some o → o.op ≠ .select cs b)
 (hQ : ∀ c a w,Q (.panic c) (a.put oi.dst v) w → Q (.panic c) a w) : ∀ (k : Nat) (l : Array Bool) (a : Act) (w : World),
   (∀ j oj,ops[j]? = some oj → j ≠ i → l.getD j true = false → (∀ e ∈ oj.after,Region.binds md e = true → e.on ≠ i) → oi.apart ops oj = true) →
   i ∈ Region.ready md ops l → Steady P ops S oi v a → S w → AnyS F n P md ops Q S k (l.setIfInBounds i true) (a.put oi.dst v) w → AnyS F n P md ops Q S (k + 1) l a w:=by
 intro k
 induction k with
 | zero =>
   intro l a w _ hr hy hS H
   refine ⟨fun h => (by rw [h] at hr;cases hr),fun j hj => ?_⟩
   by_cases hji : j = i
   ·subst hji;exact hy.run hi (noDefers_at hnd hi) hS ⟨hS,H⟩
   ·have := ready_mono hj hji
    rw [H.1] at this
    cases this
 | succ k ih =>
   intro l a w hfree hr hy hS H
   refine ⟨fun h => (by rw [h] at hr;cases hr),fun j hj => ?_⟩
   by_cases hji : j = i
   ·subst hji;exact hy.run hi (noDefers_at hnd hi) hS ⟨hS,H⟩
   obtain ⟨hjun,oj,hoj,hall⟩:=mem_ready.1 hj
   have hi0:=(mem_ready.1 hr).1
   have hnot : ∀ e ∈ oj.after,Region.binds md e = true → e.on ≠ i:=by
    intro e he hb heq
    have h1:=hall e he hb
    rw [heq] at h1
    rcases Nat.lt_or_ge i l.size with h' | h'
    ·simp [h'] at hi0 h1;rw [hi0] at h1;cases h1
    ·simp [Array.getElem?_eq_none h'] at h1
   have h2:=swapped hoj (hfree j oj hoj hji hjun hnot) (noDefers_at hnd hoj) (fun cs b => hsel i oi cs b hi) (fun cs b => hsel j oj cs b hoj) hQ hy (H.2 j (ready_mono hj hji))
   refine wpOpIn_mono (fun a' w' h3 => ⟨h3.2.1,ih (l.setIfInBounds j true) a' w' (fun m om hm hmi hun hno => ?_) (ready_mono hr (Ne.symm hji)) h3.1 h3.2.1 ?_⟩) h2
   ·refine hfree m om hm hmi ?_ hno
    by_cases hjm : j = m
    ·subst hjm;exact hjun
    ·rw [getD_set_ne true hjm] at hun;exact hun
   ·rw [Array.setIfInBounds_comm _ _ hji]
    exact h3.2.2
theorem AnyS.take (i : Nat) {oi : Oper} {v : Value} {k : Nat} {l : Array Bool} {a : Act} {w : World} (hS : S w) (hi : ops[i]? = some oi)
 (hnd : noDefers ops = true) (hs : Region.noSelect ops = true) (hf : Region.free md ops l i = true) (hr : (Region.ready md ops l).contains i = true)
 (hQ : ∀ c a w,Q (.panic c) (a.put oi.dst v) w → Q (.panic c) a w) (hw : Region.wanted oi (yielded ops a.tmps) = true) (ha : ∀ w,oi.about P w a.eval = none) (hv : ∀ w,S w → (execOp a.eval oi).run P w = .ok (.value v) w)
 (h : AnyS F n P md ops Q S k (l.setIfInBounds i true) (a.put oi.dst v) w) : AnyS F n P md ops Q S (k + 1) l a w :=
 AnyS.first hi hnd (Region.noSelect_spec hs) hQ k l a w (Region.free_spec hi hf) (by simpa using hr) ⟨.inl ⟨hw,hv⟩,ha⟩ hS h
theorem AnyS.one (i : Nat) {o : Oper} {k : Nat} {l : Array Bool} {a : Act} {w : World} (hr : Region.ready md ops l = [i]) (ho : ops[i]? = some o) (hw : Region.wanted o (yielded ops a.tmps) = true)
 (h : ∀ K : Act → World → Prop,(∀ a w,S w → AnyS F n P md ops Q S k (l.setIfInBounds i true) a w → K a w) → Oper.wpIn F n P o a w K Q) : AnyS F n P md ops Q S (k + 1) l a w:=by
 refine ⟨fun h0 => (by rw [hr] at h0;cases h0),fun j hj => ?_⟩
 rw [hr] at hj
 obtain rfl:=List.mem_singleton.1 hj
 unfold wpOpIn
 rw [ho]
 show if Region.wanted o (yielded ops a.tmps) = true then _ else _
 rw [if_pos hw]
 exact h _ (fun _ _ h1 h2 => ⟨h1,h2⟩)
theorem AnyS.done {l : Array Bool} {a : Act} {w : World} (hr : Region.ready md ops l = []) (h : Q .normal a w) : ∀ k,AnyS F n P md ops Q S k l a w
 | 0 => ⟨hr,h⟩
 | _ + 1 => ⟨fun _ => h,by rw [hr];simp⟩
theorem wpIn_region_S (S : World → Prop) {id : Nat} {a : Act} {w : World} (hm : P.follows .mixedOrders = true)
 (h : AnyS F n P .any ops Q S ops.size (Array.replicate ops.size false) a w.drew) : (Code.region id ops true).wpIn F n P Q a w :=
 wpIn_region_any hm (AnyS.plain _ _ _ _ h)
end
end Go.Proofs.YtnkpgpmaiicdeaaGreatDoor
namespace Go.Proofs.YtnkpgpmaiicdeaaGreatDoor
set_option maxRecDepth 100000
set_option maxHeartbeats 8000000
open Go.RowKit
theorem run_append_new {P : Program} {w : World} (base : Nat) (t ty e : TypeId) (i : TypeInfo) (z : Value) (size bytes : Nat) (ht : P.underlying t = some (.slice e)) (hi : P.info? e = some i) (hz : i.zero = some z)
 (hsize : i.size = size) (hby : i.bytes = bytes) (hzs : z.cells.size = size) (hsz : 0 < size)
 (v : Value) (n : Nat) (xs : List Value) (hown : w.ownsRow base e size v n xs)
 (a : Addr) (m c : Nat) (news : List Value) (hl : news.length = m * size) (hnews : ∀ j u,news[j]? = some u → w.cell? (a.add j) = some u) (h1 : ∀ u ∈ news,u.oneCell' = true)
 (h63 : n + m ≤ maxLen) (hbytes : (n + m) * bytes ≤ 140737488355328) (hbase : base ≤ w.heap.size) :
 ∃ v' w',(Builtin.append_ #[t,t] ty #[v,.slice (some a) m c]).run P w = .ok v' w' ∧ w'.ownsRow base e size v' (n + m) (xs ++ news) ∧ w.grownBy w' v.ownBlock ∧ ∀ g,v'.ownBlock = some g → v.ownBlock = some g ∨ w.heap.size ≤ g:=by
 obtain ⟨v',w',hr,ho,hg,-⟩:=run_append_own (P:=P) w base t ty e i z size bytes ht hi hz hsize hby hzs hsz v n xs hown a m c news hl hnews h1 h63 hbytes hbase
 refine ⟨v',w',hr,ho,hg,fun b hb => ?_⟩
 have hm63 : n + m ≤ 9223372036854775807:=by simp only [maxLen] at h63;omega
 rcases hown.2 with ⟨rfl,rfl⟩ | ⟨g,cap,cur,rfl,hbg,hgc,hnc,hcm,hcs,htake⟩
 ·obtain ⟨v2,w2,hr2,ho2,-,-⟩:=run_append_own (P:=P) w w.heap.size t ty e i z size bytes ht hi hz hsize hby hzs hsz _ 0 [] (World.ownsRow_nil w _ e size) a m c news hl hnews h1 h63 hbytes (Nat.le_refl _)
  rw [hr] at hr2
  injection hr2 with e1 e2
  subst e1
  exact .inr (ho2.lt b hb).1
 ·subst hsize hby
  by_cases hroom : n + m ≤ cap
  ·have hfit : n * i.size + news.length ≤ cur.size:=by rw [hl,hcs,← Nat.add_mul];exact Nat.mul_le_mul_right _ hroom
   rw [run_append_room (P:=P) w t ty e i ht hi g n cap cur hgc a m c news hl hnews h1 hroom hfit] at hr
   injection hr with e1 e2
   subst e1
   exact .inl hb
  ·rw [run_append_grow (P:=P) w t ty e i z ht hi hz ⟨g,0,none⟩ n cap xs hown.1 (hown.cells (g:=g) rfl) a m c news hl hnews (by omega) (by omega) (growslice_fits (by omega) hbytes)] at hr
   injection hr with e1 e2
   subst e1
   injection hb with hb
   exact .inr (Nat.le_of_eq hb)
theorem wpListIn_append_new {F : Fence} {n : Nat} {P : Program} (w : World) {ops : Array Oper} {rest : List Oper} {o : Oper} {a : Act} {Q : Exit → Act → World → Prop}
 (hg : o.guard = none) (s x : Operand) (t : TypeId) (hop : o.op = Op.call { callee:=Callee.builtin Builtin.append,args:=#[s,x],argTypes:=#[t,t] })
 (base : Nat) (e : TypeId) (i : TypeInfo) (z : Value) (size bytes : Nat) (h1 : P.underlying t = some (.slice e)) (h2 : P.info? e = some i) (h3 : i.zero = some z) (h4 : i.size = size) (h5 : i.bytes = bytes) (h6 : z.cells.size = size) (h7 : 0 < size)
 (v : Value) (k : Nat) (xs : List Value) (hs : a.eval s = v) (hown : w.ownsRow base e size v k xs) (ad : Addr) (m c : Nat) (news : List Value) (hx : a.eval x = .slice (some ad) m c) (hn : news.length = m * size)
 (hc : ∀ j u,news[j]? = some u → w.cell? (ad.add j) = some u) (h1c : ∀ u ∈ news,u.oneCell' = true) (b1 : k + m ≤ maxLen) (b2 : (k + m) * bytes ≤ 140737488355328) (b3 : base ≤ w.heap.size)
 (hK : ∀ v' w',w'.ownsRow base e size v' (k + m) (xs ++ news) → w.grownBy w' v.ownBlock → (∀ g,v'.ownBlock = some g → v.ownBlock = some g ∨ w.heap.size ≤ g) → wpListIn F n P ops Q rest (a.put o.dst v') w') :
 wpListIn F n P ops Q (o :: rest) a w:=by
 obtain ⟨v',w',hrun,r1,r2,r3⟩:=run_append_new (P:=P) base t o.type e i z size bytes h1 h2 h3 h4 h5 h6 h7 v k xs hown ad m c news hn hc h1c b1 b2 b3
 refine wpListIn_plain hg fun K hK' => ?_
 unfold Oper.wpIn
 refine ⟨?_,?_⟩
 ·simp [Oper.about,hop,resolve,Target.leads,Sem.run_pure]
 ·rw [Oper.semAt_plain F _ _ (by rw [hop];intro c hc';cases hc')]
  simp [execOp,hop,resolve,invoke,builtin,hs,hx,hrun,Result.andThen]
  exact hK' _ _ (hK v' w' r1 r2 r3)
end Go.Proofs.YtnkpgpmaiicdeaaGreatDoor
namespace Go.Proofs.YtnkpgpmaiicdeaaGreatDoor
set_option maxRecDepth 100000
set_option maxHeartbeats 8000000
open Go.RowKit
structure Stays (R : Nat → Array Value → World → Prop) : Prop where
 part : ∀ B v W W',R B v W → Part (fun b => b < B) W W' → R B v W'
 mono : ∀ B B' v W,R B v W → B' ≤ B → R B' v W
theorem load_new {W : World} {cs : Array Value} {t : TypeId} {N b : Nat} (h : W.heap[b]? = some (.cells cs t (0,0))) (hN : cs.size = N) : (loadCellsFrom ⟨b,0,none⟩ 0 N #[]).run Tryz.prog W = .ok cs W :=
 load_list (a:=⟨b,0,none⟩) (fun j v hv => by rw [add_block0];exact cell_of_block h j hv) hN
theorem part_row {W : World} {b B : Nat} (cs : Array Value) (hb : b < B) : Part (fun k => k < B) W (W.setRow b cs) :=
 ⟨rfl,rfl,rfl,by simp,fun k hk hn => by
   have hne : k ≠ b:=by omega
   simp only [World.setRow,Array.getElem?_modify]
   rw [if_neg (by omega)]⟩
theorem cs1_any (R : Nat → Array Value → World → Prop) (hR : Stays R) (cs : Array Value) (h24 : cs.size = 24) (lv : Int) (p : Nat) (w : World) (hp : w.cell? ⟨p,0,none⟩ = some (.int .i64 lv)) (hpl : p < w.heap.size) (h : 1 ≤ lv) (h2 : lv ≤ 9223372036854775807)
 (hC : ∀ W,Below w.heap.size w W → Calls Tryz.prog 30 #[.agg cs,.int .i64 (lv - 1)] W fun e w' => ∃ cs' : Array Value,e = .returned (.agg cs') ∧ cs'.size = 24 ∧ cs'.all (·.oneCell') = true ∧ R W.heap.size cs' w' ∧ Below W.heap.size W w') :
 Calls Tryz.prog 86 #[.agg cs,.pointer (some ⟨p,0,none⟩)] w fun e w' => ∃ cs' : Array Value,e = .returned (.agg cs') ∧ cs'.size = 24 ∧ cs'.all (·.oneCell') = true ∧ R w.heap.size cs' w' ∧ Below w.heap.size w w':=by
 obtain ⟨T,N,zc,hT,hN,hzc,hag,hsz,hzv⟩:=stmt_hidden2
 have e1 : ∀ y : Operand,Op.load 40 y = Op.load T y:=fun y => by rw [hT]
 have e2 : ∀ y z : Operand,Op.store 40 y z = Op.store T y z:=fun y z => by rw [hT]
 have e3 : Op.alloc 40 = Op.alloc T:=by rw [hT]
 have e4 : ∀ y : Operand,Op.box 40 y = Op.box T y:=fun y => by rw [hT]
 have hszc : cs.size = N:=h24.trans hN.symm
 have hb1:=heap_of_alloc w (.cells cs T)
 have hb2:=heap_keep (o:=.cells zc T) hb1
 have hb3:=heap_alloc2_new w (.cells cs T) (.cells zc T)
 have hld:=load_new hb2 hszc
 have hld1:=load_new hb1 hszc
 have hlb:=blw (o:=.cells zc T) (blw (o:=.cells cs T) (Below.refl w.heap.size w))
 have HH:=Lib.hid (And.intro hC (And.intro hR (And.intro hN (And.intro hT (And.intro hb3 hlb)))))
 have hl1 : lv - 1 ≤ 9223372036854775807:=by omega
 have hl0 : -9223372036854775808 ≤ lv - 1:=by omega
 clear hC hR hN hb1 hb2 hb3 hlb h24
 go_enter Tryz.func86,Tryz.ntmps86
 simp only [e1,e2,e3,e4]
 clear e1 e2 e3 e4 hT
 go_wp2_with (go_at_call 30;refine (HH.out.1 _ HH.out.2.2.2.2.2).mono ?_;rintro e w3 ⟨cs2,rfl,h24',h1',hr,hb⟩;have hres:=kept_box (b:=w.heap.size + 1) (o:=.cells zc T (0,0)) hb HH.out.2.2.2.2.1;have hst:=store_cells (cs:=cs2) hres (hzc.trans (h24'.trans HH.out.2.2.1.symm).symm) h1';have hsz2 : cs2.size = N:=h24'.trans HH.out.2.2.1.symm;have HBR:=Lib.hid (And.intro hres (And.intro hr (And.intro hb (And.intro h24' h1'))));clear hres hr hb h24' h1')
 refine bodyPost_ret (results_cell_row rfl _ _ (w.heap.size + 1) T cs2 (0,0) _ rfl (setRow_heap _ _ zc _ _ _ HBR.out.1) Tryz.underlying40 rfl (by rw [hsz2,HH.out.2.2.1];kernel_rfl)) rfl ?_
 have hz2 : w.heap.size + 1 < ((w.alloc (.cells cs T)).alloc (.cells zc T)).heap.size:=(Array.getElem?_eq_some_iff.1 HH.out.2.2.2.2.1).1
 refine ⟨cs2,rfl,HBR.out.2.2.2.1,HBR.out.2.2.2.2,?_,below_setRow (HH.out.2.2.2.2.2.chain HBR.out.2.2.1) (Nat.le_succ _) cs2⟩
 refine HH.out.2.1.mono _ _ _ _ (HH.out.2.1.part _ _ _ _ HBR.out.2.1 (part_row cs2 hz2)) (by omega)
end Go.Proofs.YtnkpgpmaiicdeaaGreatDoor
namespace Go.Proofs.YtnkpgpmaiicdeaaGreatDoor
set_option maxRecDepth 100000
set_option maxHeartbeats 8000000
open Go.RowKit
theorem infoStmt : (Tryz.prog.info? 40).map (fun i => (i.zero,i.size,i.bytes)) = some (some (.agg #[.int .i64 0,.int .i64 0,.int .i64 0,.string ⟨#[]⟩,.string ⟨#[]⟩,.string ⟨#[]⟩,.int .i64 0,.int .i64 0,.string ⟨#[]⟩,.slice none 0 0,.int .i64 0,.int .i64 0,.int .i64 0,.string ⟨#[]⟩,.slice none 0 0,.int .i64 0,.int .i64 0,.string ⟨#[]⟩,.slice none 0 0,.slice none 0 0,.slice none 0 0,.slice none 0 0,.slice none 0 0,.slice none 0 0]),24,368):=by kernel_rfl
def flatC (outs : List (Array Value)) : List Value:=outs.flatMap (·.toList)
theorem flatC_len {outs : List (Array Value)} (h : ∀ c ∈ outs,c.size = 24) : (flatC outs).length = outs.length * 24:=by
 induction outs with
 | nil => rfl
 | cons c outs ih =>
   have h1:=h c (List.mem_cons_self ..)
   have h2:=ih fun d hd => h d (List.mem_cons_of_mem _ hd)
   unfold flatC at h2 ⊢
   rw [List.flatMap_cons,List.length_append,h2,Array.length_toList,h1,List.length_cons]
   omega
structure CpRow (R : Nat → Nat → Array Value → World → Prop) (g n k : Nat) (outs : List (Array Value)) (w W : World) : Prop where
 len : outs.length = k
 sz : ∀ c ∈ outs,c.size = 24
 one : ∀ c ∈ outs,c.all (·.oneCell') = true
 row : ∃ cur : Array Value,W.heap[g]? = some (.cells cur 40 (0,0)) ∧ cur.size = n * 24 ∧ cur.toList.take (k * 24) = flatC outs
 rel : ∀ i c,outs[i]? = some c → R i (g + 1) c W
 below : Below w.heap.size w W
theorem stored_take (cur : List Value) (k n : Nat) (cs : List Value) (fl : List Value) (hc : cur.length = n * 24) (hk : k < n) (h24 : cs.length = 24) (ht : cur.take (k * 24) = fl) :
 (cur.take (k * 24) ++ cs ++ cur.drop (k * 24 + 24)).length = n * 24 ∧ (cur.take (k * 24) ++ cs ++ cur.drop (k * 24 + 24)).take ((k + 1) * 24) = fl ++ cs:=by
 have h1 : (cur.take (k * 24)).length = k * 24:=by rw [List.length_take];omega
 constructor
 ·simp only [List.length_append,List.length_drop,h1,h24,hc]
  omega
 ·rw [List.take_append_of_le_length (by rw [List.length_append,h1,h24];omega),List.take_of_length_le (by rw [List.length_append,h1,h24];omega),ht]
theorem CpRow.next {R : Nat → Nat → Array Value → World → Prop} (hR : ∀ i,Stays (R i)) {g n k : Nat} {outs : List (Array Value)} {w W W3 : World} (h : CpRow R g n k outs w W) (hk : k < n) (hgw : g = w.heap.size) {cs : Array Value} (h24 : cs.size = 24) (h1 : cs.all (·.oneCell') = true)
 (hb : Below W.heap.size W W3) (hr : R k (g + 1) cs W3) : ∃ W4,(storeCells ⟨g,k * 24,none⟩ cs.toList).run Tryz.prog W3 = .ok () W4 ∧ CpRow R g n (k + 1) (outs ++ [cs]) w W4:=by
 obtain ⟨cur,hc,hs,ht⟩:=h.row
 have hc3:=kept_box hb hc
 have hrun:=run_storeCells_at (P:=Tryz.prog) g (k * 24) 40 cs.toList 0 cur W3 hc3 (by rw [Array.length_toList,h24,hs];omega) (fun v hv => (Array.all_eq_true_iff_forall_mem.1 h1) v (by simpa using hv))
 refine ⟨_,hrun,?_⟩
 obtain ⟨l1,l2⟩:=stored_take cur.toList k n cs.toList (flatC outs) (by simpa using hs) hk (by simpa using h24) ht
 have hpart : ∀ cells : Array Value,Part (fun b => b < g + 1) W3 (W3.setRow g cells):=fun cells => part_row cells (Nat.lt_succ_self g)
 refine ⟨by rw [List.length_append,h.len];rfl,fun c hm => ?_,fun c hm => ?_,⟨_,setRow_heap _ _ cur _ _ _ hc3,?_,?_⟩,fun i c hi => ?_,below_setRow (h.below.trans (hb.mono h.below.size)) (by omega) _⟩
 ·rcases List.mem_append.1 hm with hm | hm
  ·exact h.sz c hm
  ·rw [List.mem_singleton.1 hm];exact h24
 ·rcases List.mem_append.1 hm with hm | hm
  ·exact h.one c hm
  ·rw [List.mem_singleton.1 hm];exact h1
 ·rw [Array.length_toList,h24] 
  simp only [Nat.add_zero,List.size_toArray]
  exact l1
 ·rw [Array.length_toList,h24]
  simp only [Nat.add_zero]
  rw [l2]
  unfold flatC
  rw [List.flatMap_append]
  simp
 ·by_cases hik : i < outs.length
  ·rw [List.getElem?_append_left hik] at hi
   have h0:=(hR i).part _ _ _ _ (h.rel i c hi) (Part.of_below hb)
   exact (hR i).part _ _ _ _ h0 (hpart _)
  ·rw [List.getElem?_append_right (by omega)] at hi
   have hi0 : i = k:=by
    have := (List.getElem?_eq_some_iff.1 hi).1
    simp at this
    have := h.len
    omega
   subst hi0
   rw [h.len,Nat.sub_self] at hi
   obtain rfl : cs = c:=by simpa using hi
   exact (hR i).part _ _ _ _ hr (hpart _)
theorem store_fresh {w : World} {t : TypeId} {zc cs : Array Value} (hs : zc.size = cs.size) (h1 : cs.all (·.oneCell') = true) : (storeCells ⟨w.heap.size,0,none⟩ cs.toList).run Tryz.prog (w.alloc (.cells zc t)) = .ok () (w.alloc (.cells cs t)):=by
 have := store_cells (b:=w.heap.size) (heap_of_alloc w (.cells zc t)) hs h1
 rw [World.setRow_alloc_new] at this
 exact this
theorem copyList_any (R : Nat → Nat → Array Value → World → Prop) (hR : ∀ i,Stays (R i)) (ins : List (Array Value)) (hin : ∀ c ∈ ins,c.size = 24) (hin1 : ∀ (i : Nat) (c : Array Value),ins[i]? = some c → c.all (·.oneCell') = true) (a : Addr) (n c p : Nat) (w : World) (hn : n ≤ 1000000) (hlen : ins.length = n) (ha : a.block < w.heap.size)
 (hrow : ∀ i cs,ins[i]? = some cs → ∀ (j : Nat) (v : Value),cs[j]? = some v → w.cell? ((a.add (i * 24)).add j) = some v)
 (hC : ∀ i cs W,ins[i]? = some cs → Below w.heap.size w W → Calls Tryz.prog 86 #[.agg cs,.pointer (some ⟨p,0,none⟩)] W fun e w' => ∃ cs' : Array Value,e = .returned (.agg cs') ∧ cs'.size = 24 ∧ cs'.all (·.oneCell') = true ∧ R i W.heap.size cs' w' ∧ Below W.heap.size W w') :
 Calls Tryz.prog 85 #[.slice (some a) n c,.func (.func 86) #[] #[.pointer (some ⟨p,0,none⟩)]] w fun e w' =>
  ∃ outs,e = .returned (.slice (some ⟨w.heap.size,0,none⟩) n n) ∧ CpRow R w.heap.size n n outs w w':=by
 obtain ⟨i0,hi,hiz,his,hib⟩:=info_parts infoStmt
 obtain ⟨T,N,zc,hT,hN,hzc,hag,hsz,hzv⟩:=stmt_hidden2
 have e1 : ∀ y : Operand,Op.load 40 y = Op.load T y:=fun y => by rw [hT]
 have e2 : ∀ y z : Operand,Op.store 40 y z = Op.store T y z:=fun y z => by rw [hT]
 have e3 : Op.alloc 40 = Op.alloc T:=by rw [hT]
 have hq:=fun w => Lib.run_eql_slice_nil (P:=Tryz.prog) w 22 _ (some a) n c 0 0 Tryz.underlying22
 have HH:=Lib.hid (And.intro hR (And.intro hin (And.intro hrow (And.intro hC (And.intro hN (And.intro hT hin1))))))
 clear hR hin hrow hC hN hin1
 go_enter Tryz.func85,Tryz.ntmps85
 simp only [e1,e2,e3]
 clear e1 e2 e3 hT
 go_wp2_with (at_make;refine wpList_make_full _ rfl _ _ 22 rfl w.heap.size 40 i0 _ 24 Tryz.underlying22 hi hiz his _ _ _ _ n rfl rfl rfl rfl ?b2 ?b3 (Nat.le_refl _) ?_)
 case b2 => first | omega | (rw [hib];omega)
 case b3 => unfold maxLen;omega
 intro w2 hown hgrow
 have hb0 : Below w.heap.size w w2:=⟨hgrow.os,hgrow.tape,hgrow.output,hgrow.size,fun k hk => hgrow.block k hk (by simp)⟩
 have HS : Hid (CpRow R w.heap.size n 0 [] w w2):=Lib.hid (by
  refine ⟨rfl,(fun c h => by cases h),(fun c h => by cases h),?_,(fun i c h => by cases h),hb0⟩
  rcases hown.2 with ⟨hv,hn0⟩ | ⟨g,cap,cur,hv,hg,hb,h1,h2,h3,h4⟩
  ·cases hv
  ·injection hv with hA hl hcap
   injection hA with hA
   injection hA with hA
   subst hA hcap
   refine ⟨cur,hb,?_,rfl⟩
   exact h3)
 clear hown hgrow hb0 hi hiz his hib
 go_wp2
 go_loopg [15] n (fun m j wr => ∃ (k : Nat) (outs : List (Array Value)),m = n - k ∧ k ≤ n ∧ j = .int .i64 k ∧ CpRow R w.heap.size n k outs w wr)
 case atStart => exact ⟨0,[],rfl,Nat.zero_le _,rfl,HS.out⟩
 case round =>
  obtain ⟨k,outs,rfl,hk,rfl,hcp⟩:=hrel
  have HCp:=Lib.hid hcp
  clear hcp
  by_cases hlt : k < n
  ·obtain ⟨cs,hcs⟩ : ∃ cs,ins[k]? = some cs:=⟨_,List.getElem?_eq_getElem (by omega)⟩
   have hszc : cs.size = N:=(HH.out.2.1 cs (List.mem_of_getElem? hcs)).trans HH.out.2.2.2.2.1.symm
   have hl1:=load_list (W:=wr) (a:=a.add (k * 24)) (N:=N) (cs:=cs) (fun j v hv => (HCp.out.below.cell (by rw [show ((a.add (k * 24)).add j).block = a.block by unfold Addr.add;split <;> split <;> rfl];exact ha)).trans (HH.out.2.2.1 k cs hcs j v hv)) hszc
   have hst:=store_fresh (w:=wr) (t:=T) (hzc.trans hszc.symm) (HH.out.2.2.2.2.2.2 k cs hcs)
   have hl2:=load_new (heap_of_alloc wr (.cells cs T)) hszc
   have hz:=size_of_alloc wr (.cells cs T)
   have HC2:=Lib.hid (HH.out.2.2.2.1 k cs (wr.alloc (.cells cs T)) hcs (HCp.out.below.trans ((below_alloc wr _).mono HCp.out.below.size)))
   have hki : (k : Int) < n:=by omega
   clear hcs
   go_wp2_with (go_at_call 86;refine HC2.out.mono ?_;rintro e w3 ⟨cs',rfl,h24',h1',hr,hb⟩;obtain ⟨w4,hw4,hcp4⟩:=HCp.out.next HH.out.1 hlt rfl h24' h1' ((below_alloc wr (.cells cs T)).chain hb) ((HH.out.1 k).mono _ _ _ _ hr (by have := HCp.out.below.size;have := HCp.out.row;obtain ⟨cur,hcur,_⟩:=this;have := (Array.getElem?_eq_some_iff.1 hcur).1;omega));have hsz' : cs'.size = N:=(h24'.trans HH.out.2.2.2.2.1.symm);have HC4:=Lib.hid hcp4;clear hcp4 h24' h1' hr hb)
   go_roundg (n - (k + 1))
   case measure => omega
   case rel => exact ⟨k + 1,outs ++ [cs'],rfl,by omega,by go_num,HC4.out⟩
  ·obtain rfl : k = n:=by omega
   go_wp2
   go_ret
   exact ⟨outs,rfl,HCp.out⟩
theorem copyStmts_any (R : Nat → Nat → Array Value → World → Prop) (hR : ∀ i,Stays (R i)) (ins : List (Array Value)) (hin : ∀ c ∈ ins,c.size = 24) (hin1 : ∀ (i : Nat) (c : Array Value),ins[i]? = some c → c.all (·.oneCell') = true) (a : Addr) (n c : Nat) (lv : Int) (w : World) (hn : n ≤ 1000000) (hlen : ins.length = n) (ha : a.block < w.heap.size) (h : 1 ≤ lv) (h2 : lv ≤ 9223372036854775807)
 (hrow : ∀ i cs,ins[i]? = some cs → ∀ (j : Nat) (v : Value),cs[j]? = some v → w.cell? ((a.add (i * 24)).add j) = some v)
 (hC : ∀ i cs W,ins[i]? = some cs → Below w.heap.size w W → Calls Tryz.prog 30 #[.agg cs,.int .i64 (lv - 1)] W fun e w' => ∃ cs' : Array Value,e = .returned (.agg cs') ∧ cs'.size = 24 ∧ cs'.all (·.oneCell') = true ∧ R i W.heap.size cs' w' ∧ Below W.heap.size W w') :
 Calls Tryz.prog 45 #[.slice (some a) n c,.int .i64 lv] w fun e w' => ∃ g outs,e = .returned (.slice (some ⟨g,0,none⟩) n n) ∧ w.heap.size ≤ g ∧ CpRow R g n n outs w w':=by
 have hz:=size_of_alloc w (.cells #[.int .i64 lv] 3)
 have hb:=below_alloc w (.cells #[.int .i64 lv] 3)
 have hlvc:=cell_of_block (heap_of_alloc w (.cells #[.int .i64 lv] 3)) 0 (v:=.int .i64 lv) rfl
 have HL:=Lib.hid (copyList_any R hR ins hin hin1 a n c w.heap.size (w.alloc (.cells #[.int .i64 lv] 3)) hn hlen (by omega)
  (fun i cs hi j v hv => (hb.cell (by rw [show ((a.add (i * 24)).add j).block = a.block by unfold Addr.add;split <;> split <;> rfl];exact ha)).trans (hrow i cs hi j v hv))
  (fun i cs W hi hW => cs1_any (R i) (hR i) cs (hin cs (List.mem_of_getElem? hi)) lv w.heap.size W ((hW.cell (p:=⟨w.heap.size,0,none⟩) (by show w.heap.size < _;omega)).trans hlvc) (by have := hW.size;omega) h h2
    (fun W' hW' => hC i cs W' hi (hb.trans ((hW.trans (hW'.mono hW.size)).mono (by omega))))))
 have h0 : ¬ lv = 0:=by omega
 clear hR hin hin1 hrow hC hlvc
 go_enter Tryz.func45,Tryz.ntmps45
 go_wp2_with (go_at_call 85;refine HL.out.mono ?_;rintro e w3 ⟨outs,rfl,hcp⟩;have HC:=Lib.hid hcp;clear hcp)
 go_ret
 have hc:=HC.out
 rw [hz] at hc
 exact ⟨_,outs,rfl,Nat.le_succ _,⟨hc.len,hc.sz,hc.one,hc.row,hc.rel,hb.chain hc.below⟩⟩
end Go.Proofs.YtnkpgpmaiicdeaaGreatDoor
namespace Go.Proofs.YtnkpgpmaiicdeaaGreatDoor
set_option maxRecDepth 100000
set_option maxHeartbeats 8000000
open Go.RowKit
theorem leaf_copy {cs : Array Value} {ek en ck ak bk : Int} (hS : NilSt cs ek en ck ak bk (.slice none 0 0)) (lv : Int) (w : World) (h : 1 ≤ lv) (h2 : lv ≤ 9223372036854775807) :
 Calls Tryz.prog 30 #[.agg cs,.int .i64 lv] w fun e w' => e = .returned (.agg cs) ∧ Below w.heap.size w w':=by
 refine (copyStmt_any (fun _ v _ => v = .slice none 0 0) (fun _ _ _ _ hv _ => hv) (fun _ _ _ _ hv _ => hv) cs ek en ck ak bk (.slice none 0 0) hS lv w h h2
  (fun W _ => (cs_nil lv W h h2).mono fun e w' ⟨he,hw⟩ => ⟨none,0,0,he,rfl,hw ▸ below_alloc _ _⟩)).mono fun e w' ⟨x,n,c,he,hv,hb⟩ => ⟨?_,hb⟩
 rw [he,hv,set_same hS.c22]
def OneRow (cs : Array Value) (B : Nat) (v : Value) (W : World) : Prop:=∃ (g : Nat) (cur : Array Value),v = .slice (some ⟨g,0,none⟩) 1 1 ∧ B ≤ g ∧ W.heap[g]? = some (.cells cur 40 (0,0)) ∧ cur.size = 24 ∧ cur = cs
theorem OneRow.part {cs : Array Value} {B : Nat} {v : Value} {W W' : World} (h : OneRow cs B v W) (hp : Part (fun b => b < B) W W') : OneRow cs B v W':=by
 obtain ⟨g,cur,hv,hg,hc,hs⟩:=h
 exact ⟨g,cur,hv,hg,(hp.block g (Array.getElem?_eq_some_iff.1 hc).1 (by omega)).trans hc,hs⟩
theorem OneRow.mono {cs : Array Value} {B B' : Nat} {v : Value} {W : World} (h : OneRow cs B v W) (hB : B' ≤ B) : OneRow cs B' v W:=by
 obtain ⟨g,cur,hv,hg,hr⟩:=h
 exact ⟨g,cur,hv,Nat.le_trans hB hg,hr⟩
theorem one_copy {cs : Array Value} {ek en ck ak bk : Int} (hS : NilSt cs ek en ck ak bk (.slice none 0 0)) (a : Addr) (c : Nat) (lv : Int) (w : World) (h : 2 ≤ lv) (h2 : lv ≤ 9223372036854775807) (ha : a.block < w.heap.size)
 (hrow : ∀ (j : Nat) (v : Value),cs[j]? = some v → w.cell? (a.add j) = some v) :
 Calls Tryz.prog 45 #[.slice (some a) 1 c,.int .i64 lv] w fun e w' => ∃ x n c',e = .returned (.slice x n c') ∧ OneRow cs w.heap.size (.slice x n c') w' ∧ Below w.heap.size w w':=by
 refine (copyStmts_any (fun _ _ v _ => v = cs) (fun _ => ⟨fun _ _ _ _ hv _ => hv,fun _ _ _ _ hv _ => hv⟩) [cs] (fun d hd => by rw [List.mem_singleton.1 hd];exact hS.h24) (fun i d hi => by
  have : d ∈ [cs]:=List.mem_of_getElem? hi
  rw [List.mem_singleton.1 this];exact hS.h1) a 1 c lv w (by omega) rfl ha (by omega) h2 (fun i d hi j v hv => by
  have hi0 : i = 0:=by have := (List.getElem?_eq_some_iff.1 hi).1;simpa using this
  subst hi0
  obtain rfl : cs = d:=by simpa using hi
  rw [add_add_plain,show 0 * 24 + j = j by omega]
  exact hrow j v hv) (fun i d W hi hW => by
  have hm : d ∈ [cs]:=List.mem_of_getElem? hi
  rw [List.mem_singleton.1 hm]
  exact (leaf_copy hS (lv - 1) W (by omega) (by omega)).mono fun e w' ⟨he,hb⟩ => ⟨cs,he,hS.h24,hS.h1,rfl,hb⟩)).mono fun e w' ⟨g,outs,he,hg,hc⟩ => ⟨_,_,_,he,?_,hc.below⟩
 obtain ⟨cur,hcur,hsz,htk⟩:=hc.row
 refine ⟨g,cur,rfl,hg,hcur,hsz,?_⟩
 have h1 : outs = [cs]:=by
  match outs,hc.len,hc.rel with
  | [d],_,hr => rw [hr 0 d rfl]
 rw [h1] at htk
 have h24 : cur.toList.length = 24:=by simpa using hsz
 rw [List.take_of_length_le (by omega)] at htk
 have : cur.toList = cs.toList:=by rw [htk];simp [flatC]
 exact Array.toList_inj.1 this
theorem while_copy {cs cb : Array Value} {ek en ck ak bk ek2 en2 ck2 ak2 bk2 : Int} {a : Addr} {c : Nat} (hS : NilSt cs ek en ck ak bk (.slice (some a) 1 c)) (hSb : NilSt cb ek2 en2 ck2 ak2 bk2 (.slice none 0 0)) (lv : Int) (w : World) (h : 2 ≤ lv) (h2 : lv ≤ 9223372036854775807) (ha : a.block < w.heap.size)
 (hrow : ∀ (j : Nat) (v : Value),cb[j]? = some v → w.cell? (a.add j) = some v) :
 Calls Tryz.prog 30 #[.agg cs,.int .i64 lv] w fun e w' => ∃ v,e = .returned (.agg (cs.setIfInBounds 22 v)) ∧ OneRow cb w.heap.size v w' ∧ Below w.heap.size w w':=by
 refine (copyStmt_any (OneRow cb) (fun _ _ _ _ hv hp => hv.part hp) (fun _ _ _ _ hv hB => hv.mono hB) cs ek en ck ak bk (.slice (some a) 1 c) hS lv w (by omega) h2
  (fun W hW => one_copy hSb a c lv W h h2 (Nat.lt_of_lt_of_le ha hW.size) (fun j v hv => (hW.cell (by rw [show (a.add j).block = a.block by unfold Addr.add;split <;> rfl];exact ha)).trans (hrow j v hv)))).mono fun e w' ⟨x,n,c',he,hv,hb⟩ => ⟨_,he,hv,hb⟩
theorem flatC_get {outs : List (Array Value)} (h : ∀ c ∈ outs,c.size = 24) : ∀ (i j : Nat) (cs : Array Value),outs[i]? = some cs → j < 24 → (flatC outs)[i * 24 + j]? = cs[j]?:=by
 induction outs with
 | nil => intro i j cs hi;simp at hi
 | cons c outs ih =>
   intro i j cs hi hj
   have h1:=h c (List.mem_cons_self ..)
   have e : flatC (c :: outs) = c.toList ++ flatC outs:=by unfold flatC;rw [List.flatMap_cons]
   rw [e]
   cases i with
   | zero =>
     obtain rfl : c = cs:=by simpa using hi
     rw [List.getElem?_append_left (by rw [Array.length_toList];omega)]
     simp
   | succ i =>
     rw [List.getElem?_append_right (by rw [Array.length_toList];omega),Array.length_toList,h1,show (i + 1) * 24 + j - 24 = i * 24 + j by omega]
     exact ih (fun d hd => h d (List.mem_cons_of_mem _ hd)) i j cs (by simpa using hi) hj
theorem CpRow.cells {R : Nat → Nat → Array Value → World → Prop} {g n : Nat} {outs : List (Array Value)} {w W : World} (h : CpRow R g n n outs w W) (i : Nat) (cs : Array Value) (hi : outs[i]? = some cs) (j : Nat) (v : Value) (hv : cs[j]? = some v) :
 W.cell? (((⟨g,0,none⟩ : Addr).add (i * 24)).add j) = some v:=by
 obtain ⟨cur,hc,hs,ht⟩:=h.row
 have hj : j < 24:=by
  have := (Array.getElem?_eq_some_iff.1 hv).1
  rw [h.sz cs (List.mem_of_getElem? hi)] at this
  exact this
 rw [add_add_plain,add_block0]
 refine cell_of_block hc _ ?_
 have h1:=flatC_get h.sz i j cs hi hj
 rw [← ht,List.take_of_length_le (by rw [Array.length_toList];omega)] at h1
 rw [← hv,← h1]
 simp
def TwoR (csW csO csT : Array Value) (i B : Nat) (v : Array Value) (W : World) : Prop:=if i = 0 then ∃ u,v = csW.setIfInBounds 22 u ∧ OneRow csO B u W else v = csT
theorem two_stays (csW csO csT : Array Value) (i : Nat) : Stays (TwoR csW csO csT i):=by
 unfold TwoR
 by_cases h : i = 0
 ·simp only [if_pos h]
  exact ⟨fun _ _ _ _ ⟨u,hv,ho⟩ hp => ⟨u,hv,ho.part hp⟩,fun _ _ _ _ ⟨u,hv,ho⟩ hB => ⟨u,hv,ho.mono hB⟩⟩
 ·simp only [if_neg h]
  exact ⟨fun _ _ _ _ hv _ => hv,fun _ _ _ _ hv _ => hv⟩
theorem two_ord {csW csO csT : Array Value} {ek en ck ak bk ek2 en2 ck2 ak2 bk2 ek3 en3 ck3 ak3 bk3 : Int} {ab : Addr} {cb : Nat} (hW : NilSt csW ek en ck ak bk (.slice (some ab) 1 cb)) (hO : NilSt csO ek2 en2 ck2 ak2 bk2 (.slice none 0 0)) (hT : NilSt csT ek3 en3 ck3 ak3 bk3 (.slice none 0 0))
 {g : Nat} {outs : List (Array Value)} {w W : World} (hg : w.heap.size ≤ g) (h : CpRow (TwoR csW csO csT) g 2 2 outs w W) :
 ∃ (g1 : Nat),w.heap.size ≤ g1 ∧ g1 < W.heap.size ∧ W.heap[g1]? = some (.cells csO 40 (0,0)) ∧ Ord W (fun b => b = g ∨ b = g1) (some ⟨g,0,none⟩) 2 [csW.setIfInBounds 22 (.slice (some ⟨g1,0,none⟩) 1 1),csO,csT]:=by
 obtain ⟨v0,v1,rfl⟩ : ∃ v0 v1,outs = [v0,v1]:=by
  match outs,h.len with
  | [v0,v1],_ => exact ⟨v0,v1,rfl⟩
 have r0:=h.rel 0 v0 rfl
 have r1:=h.rel 1 v1 rfl
 unfold TwoR at r0 r1
 rw [if_pos rfl] at r0
 rw [if_neg (by omega)] at r1
 obtain ⟨u,rfl,g1,cur,rfl,hg1,hcur,hcs,rfl⟩:=r0
 subst r1
 have hgs : g < W.heap.size:=by
  obtain ⟨c0,hc0,_⟩:=h.row
  exact (Array.getElem?_eq_some_iff.1 hc0).1
 have hg1s:=(Array.getElem?_eq_some_iff.1 hcur).1
 have hb : ((⟨g,0,none⟩ : Addr).add 24).block = g:=by rw [add_block0]
 refine ⟨g1,by omega,hg1s,hcur,?_⟩
 refine Ord.cons ⟨g,0,none⟩ 1 _ (some ⟨g1,0,none⟩) none 1 0 1 0 [cur] [] [v1] (.inl rfl) hgs (h.sz _ (List.mem_cons_self ..)) (h.one _ (List.mem_cons_self ..)) (by decide) (by decide) (fun j v hv => ?_) ?_ ?_ ?_ (.nil none) ?_
 ·have := h.cells 0 _ rfl j v hv
  rwa [show ((⟨g,0,none⟩ : Addr).add (0 * 24)) = ⟨g,0,none⟩ by simp [Addr.add]] at this
 ·rw [Array.getElem?_setIfInBounds_self_of_lt (by rw [hW.h24];omega)]
 ·rw [Array.getElem?_setIfInBounds_ne (by omega)];exact hW.c23
 ·exact Ord.cons ⟨g1,0,none⟩ 0 cur none none 0 0 0 0 [] [] [] (.inr rfl) hg1s hO.h24 hO.h1 (by decide) (by decide) (fun j v hv => by rw [add_block0];exact cell_of_block hcur j hv) hO.c22 hO.c23 (.nil none) (.nil none) (.nil _)
 ·exact Ord.cons _ 0 v1 none none 0 0 0 0 [] [] [] (.inl hb) (by rw [hb];exact hgs) hT.h24 hT.h1 (by decide) (by decide) (fun j v hv => h.cells 1 v1 rfl j v hv) hT.c22 hT.c23 (.nil none) (.nil none) (.nil _)
theorem clone_stmts (P : Nat → List (Array Value) → World → Prop) (A : Option Addr) (n c : Nat) (w : World)
 (h : Calls Tryz.prog 45 #[.slice A n c,.int .i64 9223372036854775807] w fun e w' => ∃ g outs,e = .returned (.slice (some ⟨g,0,none⟩) n n) ∧ P g outs w') :
 Calls Tryz.prog 27 #[.slice A n c] w fun e w' => ∃ g outs,e = .returned (.slice (some ⟨g,0,none⟩) n n) ∧ P g outs w':=by
 have H:=Lib.hid h
 clear h
 go_enter Tryz.func27,Tryz.ntmps27
 go_wp2_with (go_at_call 45;refine H.out.mono ?_;rintro e w3 ⟨g,outs,rfl,hq⟩;have HP:=Lib.hid hq;clear hq)
 go_ret
 exact ⟨g,outs,rfl,HP.out⟩
theorem walk_two {csW csO csT : Array Value} {ek en ck ak bk ek2 en2 ck2 ak2 bk2 ek3 en3 ck3 ak3 bk3 : Int} {ab : Addr} {cb : Nat} (hW : NilSt csW ek en ck ak bk (.slice (some ab) 1 cb)) (hO : NilSt csO ek2 en2 ck2 ak2 bk2 (.slice none 0 0)) (hT : NilSt csT ek3 en3 ck3 ak3 bk3 (.slice none 0 0))
 (a : Addr) (c : Nat) (w : World) (ha : a.block < w.heap.size) (hab : ab.block < w.heap.size) (h0 : ∀ (j : Nat) (v : Value),csW[j]? = some v → w.cell? (a.add j) = some v) (h1 : ∀ (j : Nat) (v : Value),csT[j]? = some v → w.cell? ((a.add 24).add j) = some v) (hb : ∀ (j : Nat) (v : Value),csO[j]? = some v → w.cell? (ab.add j) = some v) :
 Calls Tryz.prog 8 #[.slice (some a) 2 c] w fun e w' => ∃ (b g g1 : Nat),e = .returned (.func (.func 28) #[] #[.pointer (some ⟨b,0,none⟩)]) ∧ w'.cell? ⟨b,0,none⟩ = some (.slice (some ⟨g,0,none⟩) 2 2) ∧ b < w'.heap.size ∧ w.heap.size ≤ g ∧ g < w'.heap.size ∧ w.heap.size ≤ g1 ∧ g1 < w'.heap.size ∧ w'.heap[g1]? = some (.cells csO 40 (0,0)) ∧
  Ord w' (fun b => b = g ∨ b = g1) (some ⟨g,0,none⟩) 2 [csW.setIfInBounds 22 (.slice (some ⟨g1,0,none⟩) 1 1),csO,csT] ∧ Below w.heap.size w w':=by
 have HC:=Lib.hid (copyStmts_any (TwoR csW csO csT) (two_stays csW csO csT) [csW,csT] (fun d hd => by
  simp only [List.mem_cons,List.not_mem_nil,or_false] at hd
  rcases hd with rfl | rfl
  ·exact hW.h24
  ·exact hT.h24) (fun i d hi => by
  have hd : d ∈ [csW,csT]:=List.mem_of_getElem? hi
  simp only [List.mem_cons,List.not_mem_nil,or_false] at hd
  rcases hd with rfl | rfl
  ·exact hW.h1
  ·exact hT.h1) a 2 c 9223372036854775807 w (by omega) rfl ha (by omega) (by omega) (fun i d hi j v hv => by
  match i,hi with
  | 0,hi =>
    obtain rfl : csW = d:=by simpa using hi
    rw [show a.add (0 * 24) = a by simp [Addr.add]]
    exact h0 j v hv
  | 1,hi =>
    obtain rfl : csT = d:=by simpa using hi
    exact h1 j v hv) (fun i d W hi hBW => by
  match i,hi with
  | 0,hi =>
    obtain rfl : csW = d:=by simpa using hi
    exact (while_copy hW hO (9223372036854775807 - 1) W (by omega) (by omega) (Nat.lt_of_lt_of_le hab hBW.size) (fun j v hv => (hBW.cell (by rw [show (ab.add j).block = ab.block by unfold Addr.add;split <;> rfl];exact hab)).trans (hb j v hv))).mono fun e w' ⟨v,he,hv,hbb⟩ =>
     ⟨_,he,by rw [Array.size_setIfInBounds];exact hW.h24,(by obtain ⟨g,cur,rfl,_⟩:=hv;exact all_set hW.h1 _ _ _),(by unfold TwoR;rw [if_pos rfl];exact ⟨v,rfl,hv⟩),hbb⟩
  | 1,hi =>
    obtain rfl : csT = d:=by simpa using hi
    exact (leaf_copy hT (9223372036854775807 - 1) W (by omega) (by omega)).mono fun e w' ⟨he,hbb⟩ => ⟨csT,he,hT.h24,hT.h1,(by unfold TwoR;rw [if_neg (by omega)]),hbb⟩))
 have HS:=Lib.hid (And.intro hW (And.intro hO hT))
 clear h0 h1 hb hW hO hT
 go_enter Tryz.func8,Tryz.ntmps8
 go_wp2_with (go_at_call 27;refine (clone_stmts _ _ _ _ _ HC.out).mono ?_;rintro e w3 ⟨g,outs,rfl,hg,hcp⟩;have HP:=Lib.hid (And.intro hg hcp);clear hg hcp)
 go_ret
 obtain ⟨g1,h1,h2,h3,ho⟩:=two_ord HS.out.1 HS.out.2.1 HS.out.2.2 HP.out.1 HP.out.2
 have hgs : g < w3.heap.size:=by
  obtain ⟨c0,hc0,_⟩:=HP.out.2.row
  exact (Array.getElem?_eq_some_iff.1 hc0).1
 refine ⟨w3.heap.size,g,g1,rfl,cell_of_block (heap_of_alloc w3 _) 0 rfl,by rw [size_of_alloc];omega,HP.out.1,by rw [size_of_alloc];omega,h1,by rw [size_of_alloc];omega,heap_keep h3,ho.keep (fun b hq => ?_) (fun b hq => ?_),HP.out.2.below.alloc HP.out.2.below.size _⟩
 ·refine Below.heap_alloc w3 _ b ?_
  rcases hq with rfl | rfl
  ·exact hgs
  ·exact h2
 ·rw [size_of_alloc]
  rcases hq with rfl | rfl <;> omega
end Go.Proofs.YtnkpgpmaiicdeaaGreatDoor
namespace Go.Proofs.YtnkpgpmaiicdeaaGreatDoor
set_option maxRecDepth 100000
set_option maxHeartbeats 8000000
open Go.RowKit
attribute [local go_sem] Oper.semAt_some
theorem room_of_none {F : Fence} (hd : F.depth = none) (n : Nat) : F.room n:=by
 intro d h
 rw [hd] at h
 cases h
theorem RoundIn.anyDepth {F : Fence} (hd : F.depth = none) {m m' : Nat} {P : Program} {l : Nat} {f : FuncId} {tmps : Array Value} {assign body : Code} {w : World} {R : Ending → World → Prop}
 (h : RoundIn F m P l f tmps assign body w R) : RoundIn F m' P l f tmps assign body w R:=⟨h.1,fun c cs _ => h.2 c cs (room_of_none hd _)⟩
theorem YieldAt.anyDepth {F : Fence} (hd : F.depth = none) {m : Nat} (m' : Nat) {P : Program} {l : Nat} {args : Array Value} {W : World} {R : Ending → World → Prop} (h : YieldAt F m P l args W R) : YieldAt F m' P l args W R:=by
 obtain ⟨fn,tmps,assign,body,hy,hR⟩:=h
 exact ⟨fn,tmps,assign,body,hy,RoundIn.anyDepth hd hR⟩
theorem inOrder_seq (F : Fence) (m : Nat) (hd : F.depth = none) (h142 : F.fn 46) (h143 : F.fn 47) (hro : F.round = none) (b n c : Nat) (A : Option Addr) (whole : List (Array Value)) (Q : Nat → Prop) (w : World)
 (hbox : w.cell? ⟨b,0,none⟩ = some (.slice A n c)) (hb : b < w.heap.size) (hO : Ord w Q A n whole) (hQ : ∀ b,Q b → b < w.heap.size) (hn : n ≤ maxLen) :
 SeqOwn F m Tryz.prog 46 #[.pointer (some ⟨b,0,none⟩)] (fun cs : Array Value => #[.agg cs]) Q (fun pre x _ => pre ++ [x] <+: whole) (fun xs _ => xs = whole) (fun pre _ => pre <+: whole) w:=by
 intro l J Jx W hbl hJ hJx hY h0
 have hdd : ∀ k : Nat,(F.depth.isSome = true → 1 ≤ k):=fun k h => by rw [hd] at h;cases h
 have hbox2:=(hbl.cell (p:=⟨b,0,none⟩) hb).trans hbox
 have hO2 : Ord W Q A n whole:=hO.keep (fun b hb => hbl.block b (hQ b hb)) (fun b hb => Nat.lt_of_lt_of_le (hQ b hb) hbl.size)
 have hp:=ya_in F hd h143 hro l W.heap.size Q J Jx whole hJ (fun b hb => Nat.lt_of_lt_of_le (hQ b hb) hbl.size)
  (fun m' Pv pre cs W1 hj hl hg hpre => YieldAt.anyDepth hd m' (hY Pv pre cs W1 hj hl hg hpre)) (whole.length + 1) whole (Nat.lt_succ_self _) (m - 1) n c A (fun _ => False) [] W hn hO2 h0 (fun _ h => h.elim) (fun _ h => h.elim) (Nat.le_refl _) (by simp)
 have HP:=Lib.hid hp
 clear hp hY hO hO2 hJ hJx h0 hQ hbox hbl
 refine callsIn_of_wp Tryz.func46 rfl h142 ?_ hro
 simp only [Tryz.ntmps46,List.size_toArray,List.length_cons,List.length_nil,Nat.reduceAdd,Nat.reduceSub,Array.replicate_succ,Array.replicate_zero,List.push_toArray,List.append_toArray,List.nil_append,List.cons_append]
 gi_wp2_with ((try refine ⟨hdd _,?_⟩);gi_at_call 47;refine HP.out.mono ?_;rintro e W1 ⟨hk,hs,Pv1,s1,s2,s3,(⟨rfl,hj⟩ | ⟨rfl,q,hq,hx⟩)⟩)
 ·go_end0
  exact ⟨⟨_,rfl⟩,Pv1,s2,.inl ⟨_,rfl,by simpa using hj⟩⟩
 ·go_end0
  exact ⟨⟨_,rfl⟩,Pv1,s2,.inr ⟨q,hq,by simpa using hx⟩⟩
abbrev WkPv (B : Nat) (Pv : Nat → Prop) : Nat → Prop:=fun b => Pv b ∨ b = B ∨ b = B + 1 ∨ b = B + 2
structure WkSt (Q : Nat → Prop) (J : (Nat → Prop) → List (Nat × Array Value) → World → Prop) (l B : Nat) (W0 : World) (whole : List (Array Value)) (Pv : Nat → Prop) (pre : List (Array Value)) (W : World) : Prop where
 ex : ∃ xs : List (Nat × Array Value),xs.length = pre.length ∧ J (WkPv B Pv) xs W
 pfx : pre <+: whole
 fn : W.cell? ⟨B,0,none⟩ = some (.func (.yield l) #[] #[])
 num : W.heap[B + 1]? = some (.cells #[.int .i64 pre.length] 3 (0,0))
 q : ∀ b,Q b → W.heap[b]? = W0.heap[b]?
 off : ∀ b,Pv b → W0.heap.size ≤ b
 size : W0.heap.size ≤ W.heap.size
theorem WkSt.abid {Q : Nat → Prop} {J : (Nat → Prop) → List (Nat × Array Value) → World → Prop} {l B : Nat} {W0 : World} {whole : List (Array Value)} (hJ : Abid J) (hB : B + 2 < W0.heap.size) (hQ : ∀ b,Q b → b < W0.heap.size) : Abid (WkSt Q J l B W0 whole):=by
 intro Pv Pv' s W W' h hp hn hl
 obtain ⟨xs,hx,hj⟩:=h.ex
 have hlt : ∀ b,b < W0.heap.size → b < W.heap.size:=fun b hb => Nat.lt_of_lt_of_le hb h.size
 have hno : ∀ b,b < W0.heap.size → ¬ Pv b:=fun b hb hp => by have := h.off b hp;omega
 refine ⟨⟨xs,hx,hJ _ _ _ _ _ hj (hp.mono fun b hb => Or.inl hb) (fun b hb => ?_) (fun b hb => ?_)⟩,h.pfx,(hp.cell (p:=⟨B,0,none⟩) (hlt B (by omega)) (hno B (by omega))).trans h.fn,(hp.block (B + 1) (hlt _ (by omega)) (hno _ (by omega))).trans h.num,
  fun b hb => (hp.block b (hlt b (hQ b hb)) (hno b (hQ b hb))).trans (h.q b hb),fun b hb => ?_,Nat.le_trans h.size hp.size⟩
 ·rcases hb with hb | hb
  ·exact (hn b hb).imp (fun h => Or.inl h) id
  ·exact Or.inl (Or.inr hb)
 ·have := hp.size
  have := h.size
  rcases hb with hb | rfl | rfl | rfl
  ·exact hl b hb
  ·omega
  ·omega
  ·omega
 ·rcases hn b hb with hb | hb
  ·exact h.off b hb
  ·exact Nat.le_trans h.size hb
structure WkEnd (Jx : (Nat → Prop) → List (Nat × Array Value) → World → Prop) (B : Nat) (W0 : World) (whole : List (Array Value)) (c : Code) (Pv : Nat → Prop) (pre : List (Array Value)) (W : World) : Prop where
 ret : c = .ret
 ex : ∃ xs : List (Nat × Array Value),xs.length ≤ whole.length ∧ Jx (WkPv B Pv) xs W
 off : ∀ b,Pv b → W0.heap.size ≤ b
 size : W0.heap.size ≤ W.heap.size
theorem WkEnd.abid {Jx : (Nat → Prop) → List (Nat × Array Value) → World → Prop} {B : Nat} {W0 : World} {whole : List (Array Value)} (hJ : Abid Jx) (hB : B + 2 < W0.heap.size) (c : Code) : Abid (WkEnd Jx B W0 whole c):=by
 intro Pv Pv' s W W' h hp hn hl
 obtain ⟨xs,hx,hj⟩:=h.ex
 refine ⟨h.ret,⟨xs,hx,hJ _ _ _ _ _ hj (hp.mono fun b hb => Or.inl hb) (fun b hb => ?_) (fun b hb => ?_)⟩,fun b hb => ?_,Nat.le_trans h.size hp.size⟩
 ·rcases hb with hb | hb
  ·exact (hn b hb).imp (fun h => Or.inl h) id
  ·exact Or.inl (Or.inr hb)
 ·have := hp.size
  have := h.size
  rcases hb with hb | rfl | rfl | rfl
  ·exact hl b hb
  ·omega
  ·omega
  ·omega
 ·rcases hn b hb with hb | hb
  ·exact h.off b hb
  ·exact Nat.le_trans h.size hb
theorem inOrder_in (F : Fence) (m : Nat) (h94 : F.fn 29) (hro : F.round = none) (A : Option Addr) (n c : Nat) (w : World) :
 CallsIn F m Tryz.prog 29 #[.slice A n c] w fun e w' => e = .returned (.func (.func 46) #[] #[.pointer (some ⟨w.heap.size,0,none⟩)]) ∧ w' = w.alloc (.cells #[.slice A n c] 22):=by
 refine callsIn_of_wp Tryz.func29 rfl h94 ?_ hro
 simp only [Tryz.ntmps29,List.size_toArray,List.length_cons,List.length_nil,Nat.reduceAdd,Nat.reduceSub,Array.replicate_succ,Array.replicate_zero,List.push_toArray,List.append_toArray,List.nil_append,List.cons_append]
 gi_wp2
 go_ret
 exact ⟨rfl,rfl⟩
theorem walk_seq (F : Fence) (m : Nat) (hm : 9 ≤ m) (hd : F.depth = none) (h96 : F.fn 28) (h94 : F.fn 29) (h97 : F.fn 30) (h142 : F.fn 46) (h143 : F.fn 47) (hro : F.round = none)
 (b n c : Nat) (A : Option Addr) (whole : List (Array Value)) (Q : Nat → Prop) (Rl : Nat → Array Value → World → Prop) (w : World)
 (hbox : w.cell? ⟨b,0,none⟩ = some (.slice A n c)) (hb : b < w.heap.size) (hO : Ord w Q A n whole) (hQ : ∀ b,Q b → b < w.heap.size) (hn : n ≤ maxLen) (hlen : whole.length ≤ 1000000)
 (hcopy : ∀ m (k : Nat) cs W,whole[k]? = some cs → (∀ b,Q b → W.heap[b]? = w.heap[b]?) → CallsIn F m Tryz.prog 30 #[.agg cs,.int .i64 30] W fun e W' => ∃ cs' : Array Value,e = .returned (.agg cs') ∧ Rl k cs' W' ∧ Below W.heap.size W W') :
 SeqOwn F m Tryz.prog 28 #[.pointer (some ⟨b,0,none⟩)] (fun x : Nat × Array Value => #[.int .i64 x.1,.agg x.2]) Q (fun pre x W => x.1 = pre.length ∧ pre.length < whole.length ∧ Rl pre.length x.2 W) (fun xs _ => xs.length = whole.length) (fun pre _ => pre.length ≤ whole.length) w:=by
 intro l J Jx W hbl hJ hJx hY h0
 have hdd : ∀ k : Nat,(F.depth.isSome = true → 1 ≤ k):=fun k h => by rw [hd] at h;cases h
 have hbox2:=(hbl.cell (p:=⟨b,0,none⟩) hb).trans hbox
 have hO2 : Ord W Q A n whole:=hO.keep (fun b hb => hbl.block b (hQ b hb)) (fun b hb => Nat.lt_of_lt_of_le (hQ b hb) hbl.size)
 have hb2 : b < W.heap.size:=Nat.lt_of_lt_of_le hb hbl.size
 have HI:=Lib.hid (fun m' W' => inOrder_in F m' h94 hro A n c W')
 have HH:=Lib.hid (And.intro hO2 (And.intro hJ (And.intro hJx (And.intro hY (And.intro h0 (And.intro hcopy (And.intro hQ hbl)))))))
 clear hO hO2 hJ hJx hY h0 hcopy hQ hbl hbox
 refine callsIn_of_wp_marks Tryz.func28 rfl h96 ?_ hro
 simp only [Tryz.ntmps28,List.size_toArray,List.length_cons,List.length_nil,Nat.reduceAdd,Nat.reduceSub,Array.replicate_succ,Array.replicate_zero,List.push_toArray,List.append_toArray,List.nil_append,List.cons_append]
 gi_wp2_with ((try refine ⟨hdd _,?_⟩);gi_at_call 29;refine (HI.out _ _).mono ?_;rintro e W1 ⟨rfl,rfl⟩)
 obtain ⟨B,hB⟩ : ∃ B,B = W.heap.size:=⟨_,rfl⟩
 have hs1:=size_of_alloc W (.cells #[.func (.yield l) #[] #[]] 80)
 have hs2:=size_of_alloc (W.alloc (.cells #[.func (.yield l) #[] #[]] 80)) (.cells #[.int .i64 0] 3)
 have hs3:=size_of_alloc ((W.alloc (.cells #[.func (.yield l) #[] #[]] 80)).alloc (.cells #[.int .i64 0] 3)) (.cells #[.slice A n c] 22)
 have hk0:=heap_keep (o:=.cells #[.slice A n c] 22) (heap_keep (o:=.cells #[.int .i64 0] 3) (heap_of_alloc W (.cells #[.func (.yield l) #[] #[]] 80)))
 have hk1:=heap_keep (o:=.cells #[.slice A n c] 22) (heap_of_alloc (W.alloc (.cells #[.func (.yield l) #[] #[]] 80)) (.cells #[.int .i64 0] 3))
 have hk2:=heap_of_alloc ((W.alloc (.cells #[.func (.yield l) #[] #[]] 80)).alloc (.cells #[.int .i64 0] 3)) (.cells #[.slice A n c] 22)
 have hbw : Below W.heap.size W (((W.alloc (.cells #[.func (.yield l) #[] #[]] 80)).alloc (.cells #[.int .i64 0] 3)).alloc (.cells #[.slice A n c] 22)):=((below_alloc W _).chain (below_alloc _ _)).chain (below_alloc _ _)
 rw [hs1] at hk1 hs2
 rw [hs2] at hk2 hs3
 generalize hW0 : ((W.alloc (.cells #[.func (.yield l) #[] #[]] 80)).alloc (.cells #[.int .i64 0] 3)).alloc (.cells #[.slice A n c] 22) = W0 at *
 have HBW:=Lib.hid hB
 rw [← hB] at hs1 hs2 hs3 hk0 hk1 hk2 hbw hb2 ⊢
 have hQW : ∀ b,Q b → b < B:=fun b hb => by rw [HBW.out];exact Nat.lt_of_lt_of_le (HH.out.2.2.2.2.2.2.1 b hb) HH.out.2.2.2.2.2.2.2.size
 have hOW : Ord W0 Q A n whole:=HH.out.1.keep (fun b hb => hbw.block b (hQW b hb)) (fun b hb => by have := hQW b hb;omega)
 refine wpIn_rangeFunc_pv hro (by omega) (gf:=46) (lb:=#[.pointer (some ⟨B + 1 + 1,0,none⟩)]) rfl h142 (enters_of Tryz.func46 (by kernel_rfl) rfl)
  (inOrder_seq F (m - 1) hd h142 h143 hro (B + 1 + 1) n c A whole Q W0 (cell_of_block hk2 0 rfl) (by omega) hOW (fun b hb => by have := hQW b hb;omega) hn) (Below.refl _ _) (fun _ => rfl)
  (WkSt Q J l B W0 whole) (WkEnd Jx B W0 whole) (WkSt.abid HH.out.2.1 (by omega) (fun b hb => by have := hQW b hb;omega)) (fun c => WkEnd.abid HH.out.2.2.1 (by omega) c) ?start ?round (fun b hb => by have := hQW b hb;omega) (fun _ _ _ h _ => h) (fun _ _ _ h _ => h) ?done ?stop
 case start =>
  refine ⟨⟨[],rfl,HH.out.2.1 _ _ _ _ _ HH.out.2.2.2.2.1 (Part.of_below (by rw [← HBW.out];exact hbw)) (fun b hb => ?_) (fun b hb => ?_)⟩,List.nil_prefix,cell_of_block hk0 0 rfl,hk1,fun _ _ => rfl,fun _ h => h.elim,Nat.le_refl _⟩
  ·have := HBW.out
   rcases hb with hb | rfl | rfl | rfl
   ·exact hb.elim
   ·exact Or.inr (by omega)
   ·exact Or.inr (by omega)
   ·exact Or.inr (by omega)
  ·rcases hb with hb | rfl | rfl | rfl
   ·exact hb.elim
   ·omega
   ·omega
   ·omega
 case round =>
  intro Pv pre cs W1 r hlt hge hD hL hr hI hy
  obtain ⟨rst,hrst⟩:=hy
  have hk : whole[pre.length]? = some cs:=by rw [← hrst];simp
  have hkl : pre.length < whole.length:=(List.getElem?_eq_some_iff.1 hk).1
  have hcs:=hOW.sized hk
  have hz1:=size_of_alloc W1 (.cells cs 40)
  have hbx:=heap_of_alloc W1 (.cells cs 40)
  have hsz1:=hI.size
  obtain ⟨T,M,hT,hM,hag,hsz⟩:=stmt_hidden
  have e1 : ∀ y : Operand,Op.load 40 y = Op.load T y:=fun y => by rw [hT]
  have e2 : ∀ y z : Operand,Op.store 40 y z = Op.store T y z:=fun y z => by rw [hT]
  simp only [e1,e2]
  have hszc : cs.size = M:=hcs.1.trans hM.symm
  have hst:=store_new (w:=W1) hcs.1 hcs.2
  have HM:=Lib.hid hM
  have HR:=Lib.hid (And.intro hI (And.intro hlt (And.intro hge (And.intro hD (And.intro hL (And.intro hk hrst))))))
  clear hT e1 e2 hM hlt hge hD hL hrst hr
  gi_wp2
  refine ⟨Part.alloc _ _,fun r' => ?_⟩
  have hne : W1.heap.size ≠ W0.heap.size + 1:=fun e => by have := HR.out.2.1 _ HR.out.2.2.2.2.1;omega
  obtain ⟨Wb,hWb⟩ : ∃ Wb,Wb = (W1.alloc (.cells cs 40)).putObj (W0.heap.size + 1) (.loop r'):=⟨_,rfl⟩
  have hzb : Wb.heap.size = W1.heap.size + 1:=by rw [hWb];simp
  have hpb : Part Pv W1 Wb:=by rw [hWb];exact (Part.alloc _ _).trans (Part.putObj _ _ HR.out.2.2.2.2.1)
  have hIb : WkSt Q J l B W0 whole Pv pre Wb:=WkSt.abid HH.out.2.1 (by omega) (fun b hb => by have := hQW b hb;omega) Pv Pv pre W1 Wb hI hpb (fun b hb => Or.inl hb) (fun b hb => by have := HR.out.2.1 b hb;omega)
  have hbb : Wb.heap[W1.heap.size]? = some (.cells cs 40 (0,0)):=by rw [hWb];exact (World.putObj_heap_other hne).trans hbx
  have hld:=load_list (W:=Wb) (a:=⟨W1.heap.size,0,none⟩) (N:=M) (cs:=cs) (fun j v hv => by rw [add_block0];exact cell_of_block hbb j hv) hszc
  rw [← hWb]
  have later : ∀ W3,Below Wb.heap.size Wb W3 → WkSt Q J l B W0 whole Pv pre W3:=fun W3 hb3 => WkSt.abid HH.out.2.1 (by omega) (fun b hb => by have := hQW b hb;omega) Pv Pv pre Wb W3 hIb (Part.of_below hb3) (fun b hb => Or.inl hb) (fun b hb => by have := HR.out.2.1 b hb;have := hb3.size;omega)
  have HCP : Hid (∀ m' W',Below Wb.heap.size Wb W' → CallsIn F m' Tryz.prog 30 #[.agg cs,.int .i64 30] W' fun e W3 => ∃ cs' : Array Value,e = .returned (.agg cs') ∧ Rl pre.length cs' W3 ∧ Below Wb.heap.size Wb W3):=Lib.hid (fun m' W' hb' =>
   (HH.out.2.2.2.2.2.1 m' pre.length cs W' HR.out.2.2.2.2.2.1 (fun b hb => by
     have h1:=(later W' hb').q b hb
     have h2:=hbw.block b (hQW b hb)
     have h3:=HH.out.2.2.2.2.2.2.2.block b (HH.out.2.2.2.2.2.2.1 b hb)
     rw [h1,h2,h3])).mono fun e W3 ⟨cs',he,hr,hb⟩ => ⟨cs',he,hr,hb'.trans (hb.mono hb'.size)⟩)
  have HYY : Hid (∀ m' W3 (cs' : Array Value),Rl pre.length cs' W3 → Below Wb.heap.size Wb W3 → YieldAt F m' Tryz.prog l #[.int .i64 pre.length,.agg cs'] W3 fun e W4 =>
   ∃ t : Bool,e = .returned (.bool t) ∧ W4.cell? ⟨B + 1,0,none⟩ = some (.int .i64 pre.length) ∧ W4.frozen? ⟨B + 1,0,none⟩ = false ∧ B + 1 < W4.heap.size ∧ W4.cell? ⟨B,0,none⟩ = some (.func (.yield l) #[] #[]) ∧ (loadCellsFrom ⟨W1.heap.size,0,none⟩ 0 M #[]).run Tryz.prog W4 = .ok cs W4 ∧
    Hid ((t = true → ∀ v,ownPostP (fun b => Pv b ∨ Q b) (WkSt Q J l B W0 whole Pv) (fun c => WkEnd Jx B W0 whole c Pv) (pre ++ [cs]) Wb .normal v (W4.setCell ⟨B + 1,0,none⟩ (.int .i64 (pre.length + 1)))) ∧
     (t = false → ∀ v,ownPostP (fun b => Pv b ∨ Q b) (WkSt Q J l B W0 whole Pv) (fun c => WkEnd Jx B W0 whole c Pv) (pre ++ [cs]) Wb .ret v W4))):=Lib.hid (fun m' W3 cs' hr hb3 => by
   have h3:=later W3 hb3
   obtain ⟨xs,hx,hj1⟩:=HR.out.1.ex
   have hlt3 : ∀ b,WkPv B Pv b ∨ b = W1.heap.size → b < W3.heap.size:=fun b hb => by
    have := hb3.size
    have := h3.size
    rcases hb with (hb | rfl | rfl | rfl) | rfl
    ·have := HR.out.2.1 b hb;omega
    ·omega
    ·omega
    ·omega
    ·omega
   have hj : J (fun b => WkPv B Pv b ∨ b = W1.heap.size) xs W3:=HH.out.2.1 _ _ _ _ _ hj1 ((hpb.mono (fun b hb => Or.inl hb)).trans (Part.of_below hb3)) (fun b hb => hb.imp id (fun e => Nat.le_of_eq e.symm)) hlt3
   have hy0:=HH.out.2.2.2.1 (fun b => WkPv B Pv b ∨ b = W1.heap.size) xs (xs.length,cs') W3 hj hlt3 (fun b hb => by
    rw [← HBW.out]
    rcases hb with (hb | rfl | rfl | rfl) | rfl
    ·have := HR.out.2.2.1 b hb;omega
    ·omega
    ·omega
    ·omega
    ·omega) ⟨rfl,by rw [hx];exact hkl,by rw [hx];exact hr⟩
   have hy1:=YieldAt.anyDepth hd m' hy0
   dsimp only at hy1
   rw [hx] at hy1
   refine YieldAt.mono hy1 fun e W4 ⟨hk4,hs4,ho⟩ => ?_
   have hkB : ∀ b,b < W3.heap.size → Pv b ∨ Q b → W4.heap[b]? = W3.heap[b]?:=fun b hb hpq => hk4 b hb (hpq.imp (fun h => Or.inl (Or.inl h)) id)
   have hkeep : ∀ b,b < Wb.heap.size → Pv b ∨ Q b → W4.heap[b]? = Wb.heap[b]?:=fun b hb hpq => (hkB b (Nat.lt_of_lt_of_le hb hb3.size) hpq).trans (hb3.block b hb)
   have hnum4 : W4.heap[B + 1]? = some (.cells #[.int .i64 pre.length] 3 (0,0)):=(hk4 (B + 1) (hlt3 _ (Or.inl (Or.inr (Or.inr (Or.inl rfl))))) (Or.inl (Or.inl (Or.inr (Or.inr (Or.inl rfl)))))).trans h3.num
   have hfn4 : W4.cell? ⟨B,0,none⟩ = some (.func (.yield l) #[] #[]):=(World.cell?_of_block (w:=W3) (a:=⟨B,0,none⟩) (hk4 B (hlt3 _ (Or.inl (Or.inr (Or.inl rfl)))) (Or.inl (Or.inl (Or.inr (Or.inl rfl)))))).trans h3.fn
   have hbb4 : W4.heap[W1.heap.size]? = some (.cells cs 40 (0,0)):=(hk4 W1.heap.size (hlt3 _ (Or.inr rfl)) (Or.inl (Or.inr rfl))).trans ((hb3.block W1.heap.size (by omega)).trans hbb)
   have hld4:=load_list (W:=W4) (a:=⟨W1.heap.size,0,none⟩) (N:=M) (cs:=cs) (fun j v hv => by rw [add_block0];exact cell_of_block hbb4 j hv) hszc
   have hs34 : Wb.heap.size ≤ W4.heap.size:=Nat.le_trans hb3.size hs4
   have hlt4 : ∀ b,WkPv B Pv b → b < W4.heap.size:=fun b hb => Nat.lt_of_lt_of_le (hlt3 b (Or.inl hb)) hs4
   have hpre : pre ++ [cs] <+: whole:=⟨rst,HR.out.2.2.2.2.2.2⟩
   have hxl : (xs ++ [(pre.length,cs')]).length = (pre ++ [cs]).length:=by simp [hx]
   rcases ho with ⟨rfl,hj4⟩ | ⟨rfl,hx4⟩
   ·refine ⟨true,rfl,cell_of_block hnum4 0 rfl,frozen_at hnum4 0,hlt4 _ (Or.inr (Or.inr (Or.inl rfl))),hfn4,hld4,fun _ v => ⟨fun b hb hpq => ?_,?_,?_⟩,fun h => by cases h⟩
    ·refine (Below.heap_setCell W4 ⟨B + 1,0,none⟩ _ b ?_).trans (hkeep b hb hpq)
     show b ≠ B + 1
     rcases hpq with hq | hq
     ·have := h3.off b hq;omega
     ·have := hQW b hq;omega
    ·show Wb.heap.size ≤ (W4.setCell ⟨B + 1,0,none⟩ _).heap.size
     simp [World.setCell]
     exact hs34
    ·refine ⟨⟨xs ++ [(pre.length,cs')],hxl,HH.out.2.1 _ _ _ _ _ hj4 (Part.setCell W4 (a:=⟨B + 1,0,none⟩) _ (Or.inl (Or.inr (Or.inr (Or.inl rfl))))) (fun b hb => Or.inl (Or.inl hb)) (fun b hb => by have := hlt4 b hb;simp [World.setCell];exact this)⟩,hpre,?_,?_,fun b hb => ?_,h3.off,?_⟩
     ·rw [World.cell?_of_block (w:=W4) (a:=⟨B,0,none⟩) (Below.heap_setCell W4 ⟨B + 1,0,none⟩ _ B (Nat.ne_of_lt (Nat.lt_succ_self B)))]
      exact hfn4
     ·have := heap_setCell_at hnum4 0 (.int .i64 (pre.length + 1))
      rw [this]
      simp
     ·refine (Below.heap_setCell W4 ⟨B + 1,0,none⟩ _ b ?_).trans ((hkB b (by have := h3.size;have := hQW b hb;omega) (Or.inr hb)).trans (h3.q b hb))
      show b ≠ B + 1
      have := hQW b hb
      omega
     ·have := h3.size
      simp [World.setCell]
      omega
   ·refine ⟨false,rfl,cell_of_block hnum4 0 rfl,frozen_at hnum4 0,hlt4 _ (Or.inr (Or.inr (Or.inl rfl))),hfn4,hld4,(fun h => by cases h),fun _ v => ⟨hkeep,hs34,rfl,⟨xs ++ [(pre.length,cs')],?_,HH.out.2.2.1 _ _ _ _ _ hx4 (Part.refl _ _) (fun b hb => Or.inl (Or.inl hb)) hlt4⟩,h3.off,Nat.le_trans h3.size hs4⟩⟩
    have := hpre.length_le
    omega)
  have HB:=Lib.hid (And.intro hIb later)
  have HBB:=Lib.hid hbb
  have hfn:=hIb.fn
  have hnm : Wb.cell? ⟨B + 1,0,none⟩ = some (.int .i64 pre.length):=cell_of_block hIb.num 0 rfl
  have hldD : (loadCellsFrom ⟨W1.heap.size,0,none⟩ 0 M #[]).run Tryz.prog Wb.drew = .ok cs Wb.drew:=load_list (W:=Wb.drew) (a:=⟨W1.heap.size,0,none⟩) (N:=M) (cs:=cs) (fun j v hv => by rw [add_block0];exact cell_of_block (W:=Wb.drew) hbb j hv) hszc
  have hldE : (loadCellsFrom ⟨W1.heap.size,0,none⟩ 0 M #[]).run Tryz.prog Wb.drew.drew = .ok cs Wb.drew.drew:=load_list (W:=Wb.drew.drew) (a:=⟨W1.heap.size,0,none⟩) (N:=M) (cs:=cs) (fun j v hv => by rw [add_block0];exact cell_of_block (W:=Wb.drew.drew) hbb j hv) hszc
  clear hIb later hpb hWb hI hbb hbw hOW hQW hbx hst hk
  have hmx : Tryz.prog.follows .mixedOrders = true:=by kernel_rfl
  rw [← HBW.out]
  clear hB hs1 hs2 hs3
  gi_wp2
  obtain ⟨S,hSd⟩ : ∃ S : World → Prop,S = fun Wx => Wx.cell? ⟨B,0,none⟩ = some (.func (.yield l) #[] #[]) ∧ Wx.cell? ⟨B + 1,0,none⟩ = some (.int .i64 pre.length) ∧ (loadCellsFrom ⟨W1.heap.size,0,none⟩ 0 M #[]).run Tryz.prog Wx = .ok cs Wx:=⟨_,rfl⟩
  have hS0 : S Wb.drew:=by rw [hSd];exact ⟨hfn,hnm,hldD⟩
  have s1 : ∀ Wx,S Wx → Wx.cell? ⟨B,0,none⟩ = some (.func (.yield l) #[] #[]):=fun Wx h => by rw [hSd] at h;exact h.1
  have s2 : ∀ Wx,S Wx → Wx.cell? ⟨B + 1,0,none⟩ = some (.int .i64 pre.length):=fun Wx h => by rw [hSd] at h;exact h.2.1
  have s3 : ∀ Wx,S Wx → (loadCellsFrom ⟨W1.heap.size,0,none⟩ 0 M #[]).run Tryz.prog Wx = .ok cs Wx:=fun Wx h => by rw [hSd] at h;exact h.2.2
  have hS3 : Hid (∀ W3,Below Wb.heap.size Wb W3 → S W3):=Lib.hid (fun W3 hb3 => by
   rw [hSd]
   exact ⟨(HB.out.2 W3 hb3).fn,cell_of_block (HB.out.2 W3 hb3).num 0 rfl,load_list (W:=W3) (a:=⟨W1.heap.size,0,none⟩) (N:=M) (cs:=cs) (fun j v hv => by rw [add_block0];exact cell_of_block (kept_box hb3 HBB.out) j hv) hszc⟩)
  have hS4 : Hid (∀ W4,W4.cell? ⟨B,0,none⟩ = some (.func (.yield l) #[] #[]) → W4.cell? ⟨B + 1,0,none⟩ = some (.int .i64 pre.length) → (loadCellsFrom ⟨W1.heap.size,0,none⟩ 0 M #[]).run Tryz.prog W4 = .ok cs W4 → S W4):=Lib.hid (fun W4 h1 h2 h3 => by rw [hSd];exact ⟨h1,h2,h3⟩)
  clear hSd hldD hldE hfn hnm hld
  refine wpIn_region_S S hmx ?_
  refine AnyS.take 0 (v:=.func (.yield l) #[] #[]) hS0 rfl (by kernel_rfl) (by kernel_rfl) (by kernel_rfl) (by kernel_rfl) (fun _ _ _ h => h) rfl (fun _ => rfl) ?v0 ?_
  case v0 =>
   intro Wx hSx
   have q1:=s1 Wx hSx
   clear s1 s2 s3
   go_simp
  refine AnyS.take 1 (v:=.int .i64 pre.length) hS0 rfl (by kernel_rfl) (by kernel_rfl) (by kernel_rfl) (by kernel_rfl) (fun _ _ _ h => h) rfl (fun _ => rfl) ?v1 ?_
  case v1 =>
   intro Wx hSx
   have q1:=s2 Wx hSx
   clear s1 s2 s3
   go_simp
  refine AnyS.take 2 (v:=.agg cs) hS0 rfl (by kernel_rfl) (by kernel_rfl) (by kernel_rfl) (by kernel_rfl) (fun _ _ _ h => h) rfl (fun _ => rfl) ?v2 ?_
  case v2 =>
   intro Wx hSx
   have q1:=s3 Wx hSx
   clear s1 s2 s3
   go_simp
  clear s1 s2 s3 hS0
  refine AnyS.one 3 (by kernel_rfl) rfl rfl (fun K hK => ?_)
  go_simp
  (try refine ⟨hdd _,?_⟩)
  refine (CallsIn.inRound (W0.heap.size + 1) (HCP.out _ _ (Below.refl _ _).drew)).mono ?_
  rintro e W3 ⟨cs',rfl,hRl,hb3⟩
  refine hK _ _ (hS3.out W3 hb3) ?_
  clear hK K
  have hS3':=hS3.out W3 hb3
  obtain ⟨fn,tmps,asg,bdy,hy2,hR⟩:=HYY.out (m - 1 - 1 - 1) W3 cs' hRl hb3
  clear hRl hb3
  refine AnyS.one 4 (by kernel_rfl) rfl rfl (fun K hK => ?_)
  go_simp
  (try refine ⟨hdd _,?_⟩)
  refine hR.mono ?_
  rintro e W4 ⟨t,rfl,q1,q2,q3,q4,q5,HP4⟩
  have hS4':=hS4.out W4 q4 q1 q5
  refine hK _ _ hS4' ?_
  clear hK K q4 q5
  refine AnyS.take 5 (v:=.bool (!t)) hS4' rfl (by kernel_rfl) (by kernel_rfl) (by kernel_rfl) (by kernel_rfl) (fun _ _ _ h => h) rfl (fun _ => rfl) ?v5 ?_
  case v5 =>
   intro Wx hSx
   go_simp
  refine AnyS.done (by kernel_rfl) ?_ _
  clear hS3' hS4' hS3 hS4
  cases t with
  | true =>
    gi_wp2
    exact HP4.out.1 trivial _
  | false =>
    gi_wp2
    exact HP4.out.2 trivial _
 case done =>
  intro Pv xs W1 hS hI hD hL hlt hdef
  have HI2:=Lib.hid (And.intro hI (And.intro hlt (And.intro hD hS)))
  clear hI hlt hD hL hS
  gi_wp2
  refine ⟨by simp,.inl ⟨_,_,rfl,run_takeDeferred hdef,?_⟩⟩
  obtain ⟨ys,hy,hj⟩:=HI2.out.1.ex
  refine ⟨_,results_none rfl _ _ _,⟨⟨_,rfl⟩,WkPv B Pv,fun b hb => ?_,.inl ⟨ys,by rw [hy,HI2.out.2.2.2],HH.out.2.1 _ _ _ _ _ hj (Part.putObj _ _ (Or.inl HI2.out.2.2.1)) (fun b hb => Or.inl hb) (fun b hb => ?_)⟩⟩⟩
  all_goals
   have h2:=HI2.out.1.size
   rw [show ∀ (k : Nat) (o : Obj),(W1.putObj k o).heap.size = W1.heap.size from fun k o => by simp]
   rcases hb with hb | rfl | rfl | rfl
   ·exact HI2.out.2.1 b hb
   ·omega
   ·omega
   ·omega
 case stop =>
  intro c' Pv pre W1 hS hI hD hL hlt hdef
  obtain rfl:=hI.ret
  have HI2:=Lib.hid (And.intro hI (And.intro hlt (And.intro hD hS)))
  clear hI hlt hD hL hS
  gi_wp2
  refine ⟨by simp,.inl ⟨_,_,rfl,run_takeDeferred hdef,?_⟩⟩
  obtain ⟨ys,hy,hj⟩:=HI2.out.1.ex
  refine ⟨_,results_none rfl _ _ _,⟨⟨_,rfl⟩,WkPv B Pv,fun b hb => ?_,.inr ⟨ys,hy,HH.out.2.2.1 _ _ _ _ _ hj (Part.putObj _ _ (Or.inl HI2.out.2.2.1)) (fun b hb => Or.inl hb) (fun b hb => ?_)⟩⟩⟩
  all_goals
   have h2:=HI2.out.1.size
   rw [show ∀ (k : Nat) (o : Obj),(W1.putObj k o).heap.size = W1.heap.size from fun k o => by simp]
   rcases hb with hb | rfl | rfl | rfl
   ·exact HI2.out.2.1 b hb
   ·omega
   ·omega
   ·omega
end Go.Proofs.YtnkpgpmaiicdeaaGreatDoor
namespace Go.Proofs.YtnkpgpmaiicdeaaGreatDoor
set_option maxRecDepth 100000
set_option maxHeartbeats 8000000
open Go.RowKit
open Go.Sort
abbrev rowTwo : Array Value:=#[.int .i64 2,.int .i64 0,.string ⟨#[121]⟩,.slice none 0 0,.int .i64 2,.int .i64 0,.string ⟨#[120]⟩,.slice none 0 0]
abbrev rowOne (r2 : Nat) : Array Value:=#[.int .i64 4,.int .i64 0,.string ⟨#[]⟩,.slice (some ⟨r2,0,none⟩) 2 2]
structure EAt (W : World) (r1 r2 : Nat) : Prop where
 h1 : W.heap[r1]? = some (.cells (rowOne r2) 33 (0,0))
 h2 : W.heap[r2]? = some (.cells rowTwo 33 (0,0))
abbrev exTwo : List Ex:=[.mk 2 0 [121] [],.mk 2 0 [120] []]
abbrev exOne : List Ex:=[.mk 4 0 [] exTwo]
theorem EAt.lt1 {W : World} {r1 r2 : Nat} (h : EAt W r1 r2) : r1 < W.heap.size:=(Array.getElem?_eq_some_iff.1 h.h1).1
theorem EAt.lt2 {W : World} {r1 r2 : Nat} (h : EAt W r1 r2) : r2 < W.heap.size:=(Array.getElem?_eq_some_iff.1 h.h2).1
theorem EAt.stay {W W' : World} {r1 r2 : Nat} (h : EAt W r1 r2) (hb : Below W.heap.size W W') : EAt W' r1 r2:=⟨kept_box hb h.h1,kept_box hb h.h2⟩
theorem EAt.two {W : World} {r1 r2 : Nat} (h : EAt W r1 r2) : ExRow W W.heap.size exTwo (some ⟨r2,0,none⟩):=by
 refine .row _ _ (fun _ => none) (fun _ => 0) h.lt2 (fun i k n s l hi => ?_) (fun i k n s l hi => ?_)
 ·match i,hi with
  | 0,hi =>
    injection hi with hi;injection hi with e1 e2 e3 e4;subst e1 e2 e3 e4
    simp only [add_block0]
    exact ⟨cell_of_block h.h2 0 rfl,cell_of_block h.h2 1 rfl,cell_of_block h.h2 2 rfl,cell_of_block h.h2 3 rfl,by decide,by decide⟩
  | 1,hi =>
    injection hi with hi;injection hi with e1 e2 e3 e4;subst e1 e2 e3 e4
    simp only [add_block0]
    exact ⟨cell_of_block h.h2 4 rfl,cell_of_block h.h2 5 rfl,cell_of_block h.h2 6 rfl,cell_of_block h.h2 7 rfl,by decide,by decide⟩
  | i + 2,hi => simp at hi
 ·match i,hi with
  | 0,hi => injection hi with hi;injection hi with e1 e2 e3 e4;subst e4;exact .nil _
  | 1,hi => injection hi with hi;injection hi with e1 e2 e3 e4;subst e4;exact .nil _
  | i + 2,hi => simp at hi
theorem EAt.one {W : World} {r1 r2 : Nat} (h : EAt W r1 r2) : ExRow W W.heap.size exOne (some ⟨r1,0,none⟩):=by
 refine .row _ _ (fun _ => some ⟨r2,0,none⟩) (fun _ => 2) h.lt1 (fun i k n s l hi => ?_) (fun i k n s l hi => ?_)
 ·match i,hi with
  | 0,hi =>
    injection hi with hi;injection hi with e1 e2 e3 e4;subst e1 e2 e3 e4
    simp only [add_block0]
    exact ⟨cell_of_block h.h1 0 rfl,cell_of_block h.h1 1 rfl,cell_of_block h.h1 2 rfl,cell_of_block h.h1 3 rfl,by decide,by decide⟩
  | i + 1,hi => simp at hi
 ·match i,hi with
  | 0,hi => injection hi with hi;injection hi with e1 e2 e3 e4;subst e4;exact h.two
  | i + 1,hi => simp at hi
theorem vE_awake : vE varB 1125899906842624 30 (.mk 6 2 [] exOne) = true:=by kernel_rfl
theorem e_expr (r1 r2 : Nat) (W : World) (h : EAt W r1 r2) :
 Calls Tryz.prog 14 #[exprV 6 2 ⟨#[]⟩ (.slice (some ⟨r1,0,none⟩) 1 1)] W fun e w' => e = .returned (.bool true) ∧ Below W.heap.size W w':=by
 have := texpr_any 6 2 [] exOne (some ⟨r1,0,none⟩) 1 W h.one (by decide) (by decide)
 rw [vE_awake] at this
 exact this
theorem sort_yx : [[121],[120]].mergeSort (fun (x y : List UInt8) => decide (x ≤ y)) = [[120],[121]]:=by
 simp [List.mergeSort,List.merge,List.MergeSort.Internal.splitInTwo]
 decide
theorem sort_xy : [[120],[121]].mergeSort (fun (x y : List UInt8) => decide (x ≤ y)) = [[120],[121]]:=by
 simp [List.mergeSort,List.merge,List.MergeSort.Internal.splitInTwo]
 decide
theorem putted_perm (ss : List (List UInt8)) (h : ss.Perm [[121],[120]]) : (ss.mergeSort (fun x y => decide (x ≤ y))).map encStr = [.string ⟨#[120]⟩,.string ⟨#[121]⟩]:=by
 have hl:=h.length_eq
 match ss,hl with
 | [a,b],_ =>
   have h1:=h.mem_iff (a:=a)
   have h2:=h.mem_iff (a:=b)
   have h3:=h.mem_iff (a:=[121])
   have h4:=h.mem_iff (a:=[120])
   simp only [List.mem_cons,List.not_mem_nil,or_false,true_or,or_true,true_iff,iff_true] at h1 h2 h3 h4
   rcases h1 with rfl | rfl
   ·rcases h2 with rfl | rfl
    ·simp at h4
    ·rw [sort_yx];rfl
   ·rcases h2 with rfl | rfl
    ·rw [sort_xy];rfl
    ·simp at h3
theorem e_vars (r1 r2 : Nat) (W : World) (h : EAt W r1 r2) :
 Calls Tryz.prog 23 #[exprV 6 2 ⟨#[]⟩ (.slice (some ⟨r1,0,none⟩) 1 1)] W fun e w' => ∃ g c,e = .returned (.slice (some ⟨g,0,none⟩) 2 c) ∧ w'.cell? ⟨g,0,none⟩ = some (.string ⟨#[120]⟩) ∧ w'.cell? ⟨g,1,none⟩ = some (.string ⟨#[121]⟩) ∧ Below W.heap.size W w':=by
 have hk : (strKeys (((DataW.map [] : DataW Unit).put (.string [121]) (.lit (.bool true))).put (.string [120]) (.lit (.bool true)))).Perm [[121],[120]]:=by
  first
   | exact (show _ = [[121],[120]] by kernel_rfl) ▸ List.Perm.refl _
   | exact (show _ = [[120],[121]] by kernel_rfl) ▸ List.Perm.swap _ _ _
   | decide
 refine (vars_any 6 2 ⟨#[]⟩ (some ⟨r1,0,none⟩) 1 1 2 (((DataW.map []).put (.string [121]) (.lit (.bool true))).put (.string [120]) (.lit (.bool true))) W (by decide) (by decide) (fun W2 b hb hB hN => ?_)).mono fun e w' ⟨v,ss,B,he,hp,hB,hrow,hnil,hbl⟩ => ?_
 ·have h2:=h.stay hb
  exact collect_nest 6 2 4 0 (by decide) (by decide) ⟨#[]⟩ ⟨#[]⟩ ⟨#[121]⟩ ⟨#[120]⟩ (by decide) (by decide) ⟨r1,0,none⟩ ⟨r2,0,none⟩ 1 2 b 0 (.map []) W2 h2.lt1 (by have := h.lt1;show r1 ≠ b;omega) h2.lt2 (by have := h.lt2;show r2 ≠ b;omega) hN (by decide)
   ⟨by rw [add_block0];exact cell_of_block h2.h1 0 rfl,by rw [add_add_plain,add_block0];exact cell_of_block h2.h1 1 rfl,by rw [add_add_plain,add_block0];exact cell_of_block h2.h1 2 rfl,by rw [add_add_plain,add_block0];exact cell_of_block h2.h1 3 rfl⟩
   ⟨by rw [add_block0];exact cell_of_block h2.h2 0 rfl,by rw [add_add_plain,add_block0];exact cell_of_block h2.h2 1 rfl,by rw [add_add_plain,add_block0];exact cell_of_block h2.h2 2 rfl,by rw [add_add_plain,add_block0];exact cell_of_block h2.h2 3 rfl⟩
   ⟨by rw [add_block0];exact cell_of_block h2.h2 4 rfl,by rw [add_add_plain,add_block0];exact cell_of_block h2.h2 5 rfl,by rw [add_add_plain,add_block0];exact cell_of_block h2.h2 6 rfl,by rw [add_add_plain,add_block0];exact cell_of_block h2.h2 7 rfl⟩
 ·replace hp:=hp.trans hk
  have hl : ss.length = 2:=hp.length_eq
  rw [putted_perm ss hp,hl] at hrow
  obtain ⟨_,⟨hv,h0⟩ | ⟨g,cap,cur,hv,hg,hc,h1,h2,h3,h4⟩⟩:=hrow
  ·cases h0
  ·subst hv
   have hcell : ∀ j x,([.string ⟨#[120]⟩,.string ⟨#[121]⟩] : List Value)[j]? = some x → w'.cell? ⟨g,j,none⟩ = some x:=fun j x hx => by
    refine cell_of_block hc j ?_
    rw [← h4,List.getElem?_take] at hx
    split at hx
    ·simpa using hx
    ·cases hx
   exact ⟨g,cap,he,hcell 0 _ rfl,hcell 1 _ rfl,hbl⟩
end Go.Proofs.YtnkpgpmaiicdeaaGreatDoor
namespace Go.Proofs.YtnkpgpmaiicdeaaGreatDoor
set_option maxRecDepth 100000
set_option maxHeartbeats 8000000
open Go.RowKit
abbrev condA : Array Value:=#[.int .i64 1,.int .i64 3,.int .i64 0,.string ⟨#[]⟩,.slice none 0 0,.int .i64 3,.int .i64 0,.string ⟨#[]⟩,.slice none 0 0,.slice none 0 0]
theorem stmt_hidden3 : ∃ (T N : Nat) (zc : Array Value),40 = T ∧ N = 24 ∧ zc.size = N ∧ (∀ w : World,(isAgg T).run Tryz.prog w = .ok true w) ∧ (∀ w : World,(sizeOf T).run Tryz.prog w = .ok N w) ∧ (∀ w : World,(zeroValue T).run Tryz.prog w = .ok (.agg zc) w) ∧
 zc = #[.int .i64 0,.int .i64 0,.int .i64 0,.string ⟨#[]⟩,.string ⟨#[]⟩,.string ⟨#[]⟩,.int .i64 0,.int .i64 0,.string ⟨#[]⟩,.slice none 0 0,.int .i64 0,.int .i64 0,.int .i64 0,.string ⟨#[]⟩,.slice none 0 0,.int .i64 0,.int .i64 0,.string ⟨#[]⟩,.slice none 0 0,.slice none 0 0,.slice none 0 0,.slice none 0 0,.slice none 0 0,.slice none 0 0] :=
 ⟨_,24,#[.int .i64 0,.int .i64 0,.int .i64 0,.string ⟨#[]⟩,.string ⟨#[]⟩,.string ⟨#[]⟩,.int .i64 0,.int .i64 0,.string ⟨#[]⟩,.slice none 0 0,.int .i64 0,.int .i64 0,.int .i64 0,.string ⟨#[]⟩,.slice none 0 0,.int .i64 0,.int .i64 0,.string ⟨#[]⟩,.slice none 0 0,.slice none 0 0,.slice none 0 0,.slice none 0 0,.slice none 0 0,.slice none 0 0],rfl,rfl,rfl,stmt_runs'.1,stmt_runs'.2,(fun w => by kernel_rfl),rfl⟩
theorem one_named : ∃ v : Array Value,(Value.agg #[.int .i64 1,.int .i64 0,.int .i64 0,.string ⟨#[120]⟩,.string ⟨#[]⟩,.string ⟨#[]⟩,.int .i64 1,.int .i64 1,.string ⟨#[]⟩,.slice none 0 0,.int .i64 0,.int .i64 0,.int .i64 0,.string ⟨#[]⟩,.slice none 0 0,.int .i64 0,.int .i64 0,.string ⟨#[]⟩,.slice none 0 0,.slice none 0 0,.slice none 0 0,.slice none 0 0,.slice none 0 0,.slice none 0 0] = .agg v) ∧ NilSt v 1 1 0 0 0 (.slice none 0 0) ∧ v[3]? = some (.string ⟨#[120]⟩):=⟨_,rfl,⟨rfl,by kernel_rfl,rfl,rfl,rfl,rfl,rfl,rfl,rfl,rfl,rfl,rfl,rfl,rfl,rfl,rfl,rfl,rfl,rfl,rfl⟩,rfl⟩
theorem two_named : ∃ v : Array Value,(Value.agg #[.int .i64 1,.int .i64 0,.int .i64 0,.string ⟨#[121]⟩,.string ⟨#[]⟩,.string ⟨#[]⟩,.int .i64 1,.int .i64 2,.string ⟨#[]⟩,.slice none 0 0,.int .i64 0,.int .i64 0,.int .i64 0,.string ⟨#[]⟩,.slice none 0 0,.int .i64 0,.int .i64 0,.string ⟨#[]⟩,.slice none 0 0,.slice none 0 0,.slice none 0 0,.slice none 0 0,.slice none 0 0,.slice none 0 0] = .agg v) ∧ NilSt v 1 2 0 0 0 (.slice none 0 0) ∧ v[3]? = some (.string ⟨#[121]⟩):=⟨_,rfl,⟨rfl,by kernel_rfl,rfl,rfl,rfl,rfl,rfl,rfl,rfl,rfl,rfl,rfl,rfl,rfl,rfl,rfl,rfl,rfl,rfl,rfl⟩,rfl⟩
theorem while_named (x : Option Addr) : ∃ v : Array Value,(Value.agg #[.int .i64 9,.int .i64 0,.int .i64 0,.string ⟨#[]⟩,.string ⟨#[]⟩,.string ⟨#[]⟩,.int .i64 0,.int .i64 0,.string ⟨#[]⟩,.slice none 0 0,.int .i64 1,.int .i64 3,.int .i64 0,.string ⟨#[]⟩,.slice none 0 0,.int .i64 3,.int .i64 0,.string ⟨#[]⟩,.slice none 0 0,.slice none 0 0,.slice none 0 0,.slice none 0 0,.slice x 1 1,.slice none 0 0] = .agg v) ∧ NilSt v 0 0 1 3 3 (.slice x 1 1) ∧ v[3]? = some (.string ⟨#[]⟩):=⟨_,rfl,⟨rfl,by kernel_rfl,rfl,rfl,rfl,rfl,rfl,rfl,rfl,rfl,rfl,rfl,rfl,rfl,rfl,rfl,rfl,rfl,rfl,rfl⟩,rfl⟩
theorem fill_rows (sz : Nat) (his : sz = 24) (zr : Array Value) (vs : List (Array Value)) (h24 : ∀ c ∈ vs,c.size = 24) (hz : zr.size = vs.length * 24) :
 Instr.fill (fun i => some (i * sz,sz)) zr (((vs.map Value.agg).zipIdx 0).map fun x => (x.2,x.1)) = some (flatC vs).toArray:=by
 subst his
 have := Go.Great.fill_whole (s:=24) (by decide) (vs.map Value.agg) zr (fun v hv => by
  obtain ⟨c,hc,rfl⟩:=List.mem_map.1 hv
  exact h24 c hc) (by rw [List.length_map,hz])
 rw [this,List.flatMap_map]
 rfl
theorem wpListIn_value {F : Fence} {n : Nat} {P : Program} {ops : Array Oper} {rest : List Oper} {o : Oper} {a : Act} {w : World} {Q : Exit → Act → World → Prop} (d : Nat) (_hd : o.dst = some d) (hg : o.guard = none) (hnd : ∀ c,o.op ≠ .defer c) (hab : o.about P w a.eval = none) (v : Value) (hrun : (execOp a.eval o).run P w = .ok (.value v) w)
 (hK : wpListIn F n P ops Q rest (a.put o.dst v) w) : wpListIn F n P ops Q (o :: rest) a w:=wpListIn_plain hg fun K hK' => by
 unfold Oper.wpIn
 refine ⟨fun f hf => (by rw [hab] at hf;cases hf),?_⟩
 rw [Oper.semAt_plain F _ _ hnd,hrun]
 exact hK' _ _ hK
theorem wpListIn_rows {F : Fence} {n : Nat} {ops : Array Oper} {rest : List Oper} {o : Oper} {a : Act} {w : World} {Q : Exit → Act → World → Prop} (d : Nat) (hd : o.dst = some d) (hg : o.guard = none) (len : Nat) (parts : Array (Nat × Operand)) (ho : o.op = .buildSlice 22 len parts) (vs : List (Array Value)) (hlen : vs.length = len) (h0 : 0 < len) (h1 : len ≤ 1000)
 (h24 : ∀ c ∈ vs,c.size = 24) (hparts : parts.toList.map (fun x => (x.1,a.eval x.2)) = ((vs.map Value.agg).zipIdx 0).map fun x => (x.2,x.1)) (N : Nat) (hN : w.heap.size = N)
 (h : wpListIn F n Tryz.prog ops Q rest (a.put (some d) (.slice (some ⟨N,0,none⟩) len len)) (w.alloc (.cells (flatC vs).toArray 40))) : wpListIn F n Tryz.prog ops Q (o :: rest) a w:=by
 obtain ⟨i0,hi,hiz,his,hib⟩:=info_parts infoStmt
 subst hN
 rw [← hd] at h
 refine wpListIn_plain hg fun K hK' => ?_
 unfold Oper.wpIn
 refine ⟨fun f hf => (by simp [Oper.about,ho] at hf),?_⟩
 rw [Oper.semAt_plain F _ _ (by rw [ho];intro c hc;cases hc)]
 have e : (parts.map fun (i,x) => (i,a.eval x)).toList = ((vs.map Value.agg).zipIdx 0).map fun x => (x.2,x.1):=by
  rw [← hparts,Array.toList_map]
 unfold execOp
 simp only [ho,Sem.run_bind]
 rw [run_buildSlice w 22 40 len _ _ i0 _ Tryz.underlying22 hi hiz (by rw [his];omega) (by rw [his];omega) (by rw [e];exact fill_rows i0.size his _ vs h24 (by simp [his,hlen]))]
 exact hK' _ _ h
def nmA (k : Nat) : List UInt8:=if k = 0 then [] else if k = 1 then [120] else [121]
def nmsA (n : Nat) : List Value:=(List.range n).map fun k => .string ⟨(nmA k).toArray⟩
theorem nmsA_succ (n : Nat) : nmsA (n + 1) = nmsA n ++ [.string ⟨(nmA n).toArray⟩]:=by
 unfold nmsA
 rw [List.range_succ,List.map_append]
 rfl
def RlA (k : Nat) (cs : Array Value) (_ : World) : Prop:=cs.size = 24 ∧ cs.all (·.oneCell') = true ∧ cs[3]? = some (.string ⟨(nmA k).toArray⟩)
theorem NilSt.set22 {cs : Array Value} {ek en ck ak bk : Int} {bd : Value} (h : NilSt cs ek en ck ak bk bd) (x : Option Addr) (n c : Nat) : NilSt (cs.setIfInBounds 22 (.slice x n c)) ek en ck ak bk (.slice x n c):=by
 have e : ∀ {j : Nat} {v : Value},j ≠ 22 → cs[j]? = some v → (cs.setIfInBounds 22 (.slice x n c))[j]? = some v:=fun hj hv => by
  rw [Array.getElem?_setIfInBounds_ne (Ne.symm hj)];exact hv
 refine ⟨by rw [Array.size_setIfInBounds];exact h.h24,all_set h.h1 x n c,e (by decide) h.c6,e (by decide) h.c7,e (by decide) h.c8,e (by decide) h.c9,e (by decide) h.c10,e (by decide) h.c11,e (by decide) h.c12,e (by decide) h.c13,e (by decide) h.c14,e (by decide) h.c15,e (by decide) h.c16,e (by decide) h.c17,e (by decide) h.c18,e (by decide) h.c19,e (by decide) h.c20,e (by decide) h.c21,?_,e (by decide) h.c23⟩
 rw [Array.getElem?_setIfInBounds_self_of_lt (by rw [h.h24];omega)]
theorem copies_three {csW csO csT : Array Value} {ek en ck ak bk ek2 en2 ck2 ak2 bk2 ek3 en3 ck3 ak3 bk3 : Int} {x : Option Addr} {c : Nat} (hW : NilSt csW ek en ck ak bk (.slice x 1 c)) (hO : NilSt csO ek2 en2 ck2 ak2 bk2 (.slice none 0 0)) (hT : NilSt csT ek3 en3 ck3 ak3 bk3 (.slice none 0 0))
 (h3W : csW[3]? = some (.string ⟨#[]⟩)) (h3O : csO[3]? = some (.string ⟨#[120]⟩)) (h3T : csT[3]? = some (.string ⟨#[121]⟩)) (g1 : Nat) (w : World) (hg : w.heap[g1]? = some (.cells csO 40 (0,0)))
 (k : Nat) (cs : Array Value) (W : World) (hk : ([csW.setIfInBounds 22 (.slice (some ⟨g1,0,none⟩) 1 1),csO,csT] : List (Array Value))[k]? = some cs) (hQ : W.heap[g1]? = w.heap[g1]?) :
 Calls Tryz.prog 30 #[.agg cs,.int .i64 30] W fun e W' => ∃ cs' : Array Value,e = .returned (.agg cs') ∧ RlA k cs' W' ∧ Below W.heap.size W W':=by
 have hg':=hQ.trans hg
 match k,hk with
 | 0,hk =>
   injection hk with hk;subst hk
   refine (while_copy (hW.set22 (some ⟨g1,0,none⟩) 1 1) hO 30 W (by omega) (by omega) (Array.getElem?_eq_some_iff.1 hg').1 (fun j v hv => by rw [add_block0];exact cell_of_block hg' j hv)).mono fun e w' ⟨v,he,hv,hb⟩ => ⟨_,he,?_,hb⟩
   obtain ⟨g,cur,rfl,_⟩:=hv
   refine ⟨by rw [Array.size_setIfInBounds,Array.size_setIfInBounds];exact hW.h24,all_set (all_set hW.h1 _ _ _) _ _ _,?_⟩
   rw [Array.getElem?_setIfInBounds_ne (by decide),Array.getElem?_setIfInBounds_ne (by decide)]
   exact h3W
 | 1,hk =>
   injection hk with hk;subst hk
   exact (leaf_copy hO 30 W (by omega) (by omega)).mono fun e w' ⟨he,hb⟩ => ⟨_,he,⟨hO.h24,hO.h1,h3O⟩,hb⟩
 | 2,hk =>
   injection hk with hk;subst hk
   exact (leaf_copy hT 30 W (by omega) (by omega)).mono fun e w' ⟨he,hb⟩ => ⟨_,he,⟨hT.h24,hT.h1,h3T⟩,hb⟩
 | k + 3,hk => simp at hk
structure AwSt (N : Nat) (W0 : World) (Pv : Nat → Prop) (pre : List (Nat × Array Value)) (W : World) : Prop where
 row : ∃ A c,W.heap[N]? = some (.cells #[.slice A pre.length c] 72 (0,0)) ∧ W.ownsRow W0.heap.size 9 1 (.slice A pre.length c) pre.length (nmsA pre.length) ∧ ∀ g,(Value.slice A pre.length c).ownBlock = some g → ¬ Pv g
 off : ∀ b,Pv b → W0.heap.size ≤ b
 size : W0.heap.size ≤ W.heap.size
 keep : ∀ b,b < W0.heap.size → b ≠ N → W.heap[b]? = W0.heap[b]?
 os : W.os = W0.os
 tape : W.tape = W0.tape
 output : W.output = W0.output
theorem AwSt.abid {N : Nat} {W0 : World} (hN : N < W0.heap.size) : Abid (AwSt N W0):=by
 intro Pv Pv' s W W' h hp hn hl
 obtain ⟨A,c,h1,h2,h3⟩:=h.row
 have hno : ∀ b,b < W0.heap.size → ¬ Pv b:=fun b hb hp => by have := h.off b hp;omega
 refine ⟨⟨A,c,(hp.block N (Nat.lt_of_lt_of_le hN h.size) (hno N hN)).trans h1,?_,fun g hg hpg => ?_⟩,fun b hb => ?_,Nat.le_trans h.size hp.size,fun b hb hne => (hp.block b (Nat.lt_of_lt_of_le hb h.size) (hno b hb)).trans (h.keep b hb hne),hp.os.trans h.os,hp.tape.trans h.tape,hp.output.trans h.output⟩
 ·obtain ⟨hl0,hr⟩:=h2
  refine ⟨hl0,hr.imp id fun ⟨g,cap,cur,e1,e2,e3,e4⟩ => ⟨g,cap,cur,e1,e2,?_,e4⟩⟩
  have hgl:=(Array.getElem?_eq_some_iff.1 e3).1
  exact (hp.block g hgl (h3 g (by rw [e1];rfl))).trans e3
 ·rcases hn g hpg with hx | hx
  ·exact h3 g hg hx
  ·have := (h2.lt g hg).2
   omega
 ·rcases hn b hb with hb | hb
  ·exact h.off b hb
  ·exact Nat.le_trans h.size hb
end Go.Proofs.YtnkpgpmaiicdeaaGreatDoor
namespace Go.Proofs.YtnkpgpmaiicdeaaGreatDoor
set_option maxRecDepth 100000
set_option maxHeartbeats 8000000
open Go.RowKit
attribute [local go_sem] Oper.semAt_some
theorem results_bool {fn : Func} {p : Tmp} (h : fn.results = #[.cell p 4]) (tmps : Array Value) (w : World) (a : Addr) (b : Bool) (hp : tmps.getD p undef = .pointer (some a)) (hc : w.cell? a = some (.bool b)) :
 (results fn tmps).run Tryz.prog w = .ok (.bool b) w:=by
 have hp' : tmps[p]?.getD undef = .pointer (some a):=by simpa using hp
 have hag : (isAgg 4).run Tryz.prog w = .ok false w:=by kernel_rfl
 simp [results,h,hp',asAddr,loadVar,hag,hc,go_sem,Result.andThen]
theorem infoStrA : (Tryz.prog.info? 9).map (fun i => (i.zero,i.size,i.bytes)) = some (some (.string ⟨#[]⟩),1,16):=by kernel_rfl
theorem awake_any (w : World) : Calls Tryz.prog 5 #[] w fun e w' => e = .returned (.bool true) ∧ Below w.heap.size w w':=by
 obtain ⟨T,M,zc,hT,hM,hzc,hag,hsz,hzv,hzl⟩:=stmt_hidden3
 have e1 : ∀ y : Operand,Op.load 40 y = Op.load T y:=fun y => by rw [hT]
 have e2 : ∀ y z : Operand,Op.store 40 y z = Op.store T y z:=fun y z => by rw [hT]
 have e3 : Op.alloc 40 = Op.alloc T:=by rw [hT]
 obtain ⟨oneV,hone,hOS,hO3⟩:=one_named
 obtain ⟨twoV,htwo,hTS,hT3⟩:=two_named
 obtain ⟨whV,hwh,hWS,hW3⟩:=while_named (some ⟨w.heap.size + 1 + 1 + 1 + 1 + 1,0,none⟩)
 have s1:=store_fresh (w:=w.alloc (.cells #[.bool false] 4)) (t:=T) (zc:=zc) (cs:=oneV) (by rw [hzc,hM,hOS.h24]) hOS.h1
 have s2:=store_fresh (w:=(w.alloc (.cells #[.bool false] 4)).alloc (.cells oneV T)) (t:=T) (zc:=zc) (cs:=twoV) (by rw [hzc,hM,hTS.h24]) hTS.h1
 obtain ⟨W5,hW5⟩ : ∃ W5,W5 = ((((w.alloc (.cells #[.bool false] 4)).alloc (.cells oneV T)).alloc (.cells twoV T)).alloc (.cells condA 36)).alloc (.cells #[.slice none 0 0] 72):=⟨_,rfl⟩
 have q1:=heap_of_alloc (w.alloc (.cells #[.bool false] 4)) (.cells oneV T)
 have q2:=heap_of_alloc ((w.alloc (.cells #[.bool false] 4)).alloc (.cells oneV T)) (.cells twoV T)
 have q0:=heap_keep (o:=.cells #[.slice none 0 0] 72) (heap_keep (o:=.cells condA 36) (heap_keep (o:=.cells twoV T) (heap_keep (o:=.cells oneV T) (heap_of_alloc w (.cells #[.bool false] 4)))))
 have q1:=heap_keep (o:=.cells #[.slice none 0 0] 72) (heap_keep (o:=.cells condA 36) (heap_keep (o:=.cells twoV T) q1))
 have q2:=heap_keep (o:=.cells #[.slice none 0 0] 72) (heap_keep (o:=.cells condA 36) q2)
 have q4:=heap_of_alloc ((((w.alloc (.cells #[.bool false] 4)).alloc (.cells oneV T)).alloc (.cells twoV T)).alloc (.cells condA 36)) (.cells #[.slice none 0 0] 72)
 have z5 : W5.heap.size = w.heap.size + 1 + 1 + 1 + 1 + 1:=by rw [hW5];simp only [size_of_alloc]
 have b5 : Below w.heap.size w W5:=by rw [hW5];exact ((((below_alloc w _).chain (below_alloc _ _)).chain (below_alloc _ _)).chain (below_alloc _ _)).chain (below_alloc _ _)
 rw [← hW5] at q0 q1 q2 q4
 simp only [size_of_alloc] at q1 q2 q4 s1 s2
 have hl1:=load_list (a:=⟨w.heap.size + 1,0,none⟩) (N:=M) (fun j v hv => by rw [add_block0];exact cell_of_block q1 j hv) (by rw [hM,hOS.h24])
 have q2':=heap_keep (o:=.cells (flatC [oneV]).toArray 40) q2
 have hl2:=load_list (a:=⟨w.heap.size + 1 + 1,0,none⟩) (N:=M) (fun j v hv => by rw [add_block0];exact cell_of_block q2' j hv) (by rw [hM,hTS.h24])
 rw [hW5] at hl1 hl2
 have z1 : oneV.size = M:=by rw [hM,hOS.h24]
 have z2 : twoV.size = M:=by rw [hM,hTS.h24]
 have HV1 : Hid (∀ c ∈ [oneV],c.size = 24):=Lib.hid (fun c hc => by rw [List.mem_singleton.1 hc];exact hOS.h24)
 have HV2 : Hid (∀ c ∈ [whV,twoV],c.size = 24):=Lib.hid (fun c hc => by
  simp only [List.mem_cons,List.not_mem_nil,or_false] at hc
  rcases hc with rfl | rfl
  ·exact hWS.h24
  ·exact hTS.h24)
 -- the walk's contract
 obtain ⟨W7,hW7⟩ : ∃ W7,W7 = (W5.alloc (.cells (flatC [oneV]).toArray 40)).alloc (.cells (flatC [whV,twoV]).toArray 40):=⟨_,rfl⟩
 have b7 : Below W5.heap.size W5 W7:=by rw [hW7];exact (below_alloc _ _).chain (below_alloc _ _)
 have z7 : W7.heap.size = w.heap.size + 1 + 1 + 1 + 1 + 1 + 1 + 1:=by rw [hW7];simp only [size_of_alloc,z5]
 have r5 : W7.heap[w.heap.size + 1 + 1 + 1 + 1 + 1]? = some (.cells (flatC [oneV]).toArray 40 (0,0)):=by rw [hW7,← z5];exact heap_keep (heap_of_alloc W5 _)
 have r6 : W7.heap[w.heap.size + 1 + 1 + 1 + 1 + 1 + 1]? = some (.cells (flatC [whV,twoV]).toArray 40 (0,0)):=by
  rw [hW7,← z5]
  have := heap_of_alloc (W5.alloc (.cells (flatC [oneV]).toArray 40)) (.cells (flatC [whV,twoV]).toArray 40)
  rwa [size_of_alloc] at this
 have HWk : Hid (Calls Tryz.prog 8 #[.slice (some ⟨w.heap.size + 1 + 1 + 1 + 1 + 1 + 1,0,none⟩) 2 2] W7 fun e w' => ∃ (b g g1 : Nat),e = .returned (.func (.func 28) #[] #[.pointer (some ⟨b,0,none⟩)]) ∧ w'.cell? ⟨b,0,none⟩ = some (.slice (some ⟨g,0,none⟩) 2 2) ∧ b < w'.heap.size ∧ W7.heap.size ≤ g ∧ g < w'.heap.size ∧ W7.heap.size ≤ g1 ∧ g1 < w'.heap.size ∧ w'.heap[g1]? = some (.cells oneV 40 (0,0)) ∧
  Ord w' (fun b => b = g ∨ b = g1) (some ⟨g,0,none⟩) 2 [whV.setIfInBounds 22 (.slice (some ⟨g1,0,none⟩) 1 1),oneV,twoV] ∧ Below W7.heap.size W7 w'):=Lib.hid (by
  have hlt : ∀ (c : Array Value) (j : Nat) (v : Value),c.size = 24 → c[j]? = some v → j < 24:=fun c j v hc hv => by rw [← hc];exact (Array.getElem?_eq_some_iff.1 hv).1
  refine walk_two hWS hOS hTS _ 2 W7 (by show w.heap.size + 1 + 1 + 1 + 1 + 1 + 1 < _;omega) (by show w.heap.size + 1 + 1 + 1 + 1 + 1 < _;omega) (fun j v hv => ?_) (fun j v hv => ?_) (fun j v hv => ?_)
  ·rw [add_block0]
   refine cell_of_block r6 j ?_
   have := flatC_get HV2.out 0 j whV rfl (hlt _ _ _ hWS.h24 hv)
   rw [Nat.zero_mul,Nat.zero_add] at this
   simpa using this.trans hv
  ·rw [add_add_plain,add_block0]
   refine cell_of_block r6 (24 + j) ?_
   have := flatC_get HV2.out 1 j twoV rfl (hlt _ _ _ hTS.h24 hv)
   rw [Nat.one_mul] at this
   simpa using this.trans hv
  ·rw [add_block0]
   refine cell_of_block r5 j ?_
   have := flatC_get HV1.out 0 j oneV rfl (hlt _ _ _ hOS.h24 hv)
   rw [Nat.zero_mul,Nat.zero_add] at this
   simpa using this.trans hv)
 have HN1:=Lib.hid hone
 have HN2:=Lib.hid htwo
 have HN3:=Lib.hid hwh
 have HM:=Lib.hid (And.intro hM hzc)
 have HT:=Lib.hid hT
 have HS:=Lib.hid (And.intro hOS (And.intro hO3 (And.intro hTS (And.intro hT3 (And.intro hWS hW3)))))
 have HB7:=Lib.hid (And.intro (b5.chain b7) (And.intro z7 (And.intro (kept_box b7 q0) (kept_box b7 q4))))
 clear hone htwo hwh hM hzc q0 q1 q2 q2' q4 hOS hO3 hTS hT3 hWS hW3 b5 b7 z7 r5 r6 hzl z5
 rw [hW5] at hW7
 clear hW5 W5
 have hq : ∀ b w,(binOp .eql 27 (.func (.func 28) #[] #[.pointer (some ⟨b,0,none⟩)]) .nilFunc).run Tryz.prog w = .ok (.bool false) w:=fun b w => by kernel_rfl
 have g40 : Fence.wide.fn 8:=trivial
 have g46 : Fence.wide.fn 22:=trivial
 have g15 : Fence.wide.fn 14:=trivial
 have g47 : Fence.wide.fn 23:=trivial
 refine (callsIn_wide (n:=20)).1 ?_
 refine callsIn_of_wp_marks Tryz.func5 rfl trivial ?_ rfl
 simp only [Tryz.ntmps5,List.size_toArray,List.length_nil,Nat.reduceSub,Array.replicate_succ,Array.replicate_zero,List.push_toArray,List.append_toArray,List.nil_append,List.cons_append,e1,e2,e3]
 clear e1 e2 e3 hT
 gi_wp2_with (first
  | (refine wpListIn_value 12 rfl rfl (by intro c hc;cases hc) rfl (.agg oneV) (by rw [← HN1.out];kernel_rfl) ?_)
  | (refine wpListIn_value 14 rfl rfl (by intro c hc;cases hc) rfl (.agg twoV) (by rw [← HN2.out];kernel_rfl) ?_)
  | (refine wpListIn_value 21 rfl rfl (by intro c hc;cases hc) rfl (.agg whV) (by rw [← HN3.out];kernel_rfl) ?_)
  | (refine wpListIn_rows 20 rfl rfl 1 _ rfl [oneV] rfl (by decide) (by decide) HV1.out (by rfl) (w.heap.size + 1 + 1 + 1 + 1 + 1) (by simp only [size_of_alloc]) ?_)
  | (refine wpListIn_rows 23 rfl rfl 2 _ rfl [whV,twoV] rfl (by decide) (by decide) HV2.out (by rfl) (w.heap.size + 1 + 1 + 1 + 1 + 1 + 1) (by simp only [size_of_alloc]) ?_)
  | (gi_at_call 8;rw [← hW7];refine (callsIn_wide.2 HWk.out).mono ?_;rintro e W8 ⟨b,g,g1,rfl,p1,p2,p3,p4,p5,p6,p7,p8,p9⟩;have HP:=Lib.hid (And.intro p1 (And.intro p2 (And.intro p3 (And.intro p4 (And.intro p5 (And.intro p6 (And.intro p7 (And.intro p8 p9))))))));clear p1 p2 p3 p4 p5 p6 p7 p8 p9))
 obtain ⟨N,hN⟩ : ∃ N,N = w.heap.size + 1 + 1 + 1 + 1:=⟨_,rfl⟩
 obtain ⟨R0,hR0⟩ : ∃ R0,R0 = w.heap.size:=⟨_,rfl⟩
 have HNN:=Lib.hid (And.intro hN hR0)
 have hb8:=HP.out.2.2.2.2.2.2.2.2
 have h7:=HB7.out.2.1
 have hNW8 : N < W8.heap.size:=by have := hb8.size;omega
 have hN8 : W8.heap[N]? = some (.cells #[.slice none 0 0] 72 (0,0)):=by rw [hN];exact kept_box hb8 HB7.out.2.2.2
 have hI0 : AwSt N W8 (fun _ => False) [] W8:=⟨⟨none,0,hN8,World.ownsRow_nil _ _ _ _,fun _ h => by cases h⟩,fun _ h => h.elim,Nat.le_refl _,fun _ _ _ => rfl,rfl,rfl,rfl⟩
 have h8:=Lib.hid hI0
 have hR8 : W8.heap[R0]? = some (.cells #[.bool false] 4 (0,0)):=by rw [hR0];exact kept_box hb8 HB7.out.2.2.1
 have HW8:=Lib.hid (And.intro hR8 (show Below R0 w W8 by rw [hR0];exact HB7.out.1.chain hb8))
 clear hR8 hb8
 clear hN8 hI0
 rw [← hN]
 have hN':=Lib.hid (And.intro trivial (show R0 < N ∧ N < W7.heap.size by omega))
 clear hN
 rw [← hR0] at h7 ⊢
 clear hR0 h7 s1 s2 hl1 hl2 hW7 q1 q2
 refine wpIn_rangeFunc_pv (F:=Fence.wide) rfl (by omega) (gf:=28) (lb:=#[.pointer (some ⟨b,0,none⟩)]) rfl trivial (enters_of Tryz.func28 (by kernel_rfl) rfl)
  (walk_seq Fence.wide (20 - 1) (by omega) rfl trivial trivial trivial trivial trivial rfl b 2 2 _ _ (fun b => b = g ∨ b = g1) RlA W8 HP.out.1 HP.out.2.1 HP.out.2.2.2.2.2.2.2.1 (fun b hb => by have := HP.out;rcases hb with rfl | rfl <;> omega) (by decide) (show 3 ≤ 1000000 by decide)
    (fun m k cs W hk hQ => callsIn_wide.2 (copies_three HS.out.2.2.2.2.1 HS.out.1 HS.out.2.2.1 HS.out.2.2.2.2.2 HS.out.2.1 HS.out.2.2.2.1 g1 W8 HP.out.2.2.2.2.2.2.1 k cs W hk (hQ g1 (Or.inr rfl)))))
  (Below.refl _ _) (fun _ => rfl) (AwSt N W8) (fun _ _ _ _ => False) (AwSt.abid hNW8) (fun _ _ _ _ _ _ h => h.elim) h8.out ?round (fun b hb => by have := HP.out;rcases hb with rfl | rfl <;> omega) (fun _ _ _ h _ => h) (fun _ _ _ h _ => h) ?done (fun _ _ _ _ _ h => h.elim)
 case round =>
  rintro Pv pre ⟨k,cs⟩ W1 r hlt hge hD hL hr hI ⟨hk,hkl,hcs,hca,hc3⟩
  dsimp only at hk hcs hca hc3
  subst hk
  obtain ⟨A,c,hrow,hown,hoff⟩:=hI.row
  have hNlt : N < W1.heap.size:=Nat.lt_of_lt_of_le hNW8 hI.size
  have hszc : cs.size = M:=hcs.trans HM.out.1.symm
  have hst:=store_fresh (w:=W1) (t:=T) (zc:=zc) (cs:=cs) (by rw [HM.out.2,hszc]) hca
  have hbx:=heap_of_alloc W1 (.cells cs T)
  have hrow1:=heap_keep (o:=.cells cs T) hrow
  have HR:=Lib.hid (And.intro hI (And.intro hlt (And.intro hge (And.intro hD (And.intro hL (And.intro hkl (And.intro hoff hNlt)))))))
  have HO:=Lib.hid hown
  clear hlt hge hD hL hr hkl hoff hown hI
  gi_wp2
  refine ⟨Part.alloc _ _,fun r' => ?_⟩
  have hne1 : W8.heap.size + 1 ≠ N:=by omega
  have hne : W1.heap.size ≠ W8.heap.size + 1:=fun e => by have := HR.out.2.1 _ HR.out.2.2.2.2.1;omega
  obtain ⟨Wb,hWb⟩ : ∃ Wb,Wb = (W1.alloc (.cells cs T)).putObj (W8.heap.size + 1) (.loop r'):=⟨_,rfl⟩
  have hzb : Wb.heap.size = W1.heap.size + 1:=by rw [hWb];simp
  have hpb : Part Pv W1 Wb:=by rw [hWb];exact (Part.alloc _ _).trans (Part.putObj _ _ HR.out.2.2.2.2.1)
  have hIb : AwSt N W8 Pv pre Wb:=AwSt.abid hNW8 Pv Pv pre W1 Wb HR.out.1 hpb (fun b hb => Or.inl hb) (fun b hb => by have := HR.out.2.1 b hb;omega)
  have hbb : Wb.heap[W1.heap.size]? = some (.cells cs T (0,0)):=by rw [hWb];exact (World.putObj_heap_other hne).trans hbx
  have hrb : Wb.heap[N]? = some (.cells #[.slice A pre.length c] 72 (0,0)):=by rw [hWb];exact (World.putObj_heap_other (Ne.symm hne1)).trans hrow1
  have hob : Wb.ownsRow W8.heap.size 9 1 (.slice A pre.length c) pre.length (nmsA pre.length):=by
   obtain ⟨hl0,hr⟩:=HO.out
   refine ⟨hl0,hr.imp id fun ⟨g,cap,cur,e1,e2,e3,e4⟩ => ⟨g,cap,cur,e1,e2,?_,e4⟩⟩
   exact (hpb.block g (Array.getElem?_eq_some_iff.1 e3).1 (HR.out.2.2.2.2.2.2.1 g (by rw [e1];rfl))).trans e3
  rw [← hWb]
  have cN:=cell_of_block hrb 0 (v:=.slice A pre.length c) rfl
  have c3:=cell_of_block hbb 3 hc3
  obtain ⟨nm,hnm⟩ : ∃ nm : ByteArray,nm = ⟨(nmA pre.length).toArray⟩:=⟨_,rfl⟩
  have HNM:=Lib.hid hnm
  rw [← hnm] at c3
  have HOA:=Lib.hid (hob.alloc (.cells #[.string nm] 9))
  have HX:=Lib.hid (And.intro hIb (And.intro hrb (And.intro hzb (And.intro hob hbb))))
  have hlen3 : pre.length < 3:=HR.out.2.2.2.2.2.1
  have hgn:=heap_of_alloc Wb (.cells #[.string nm] 9)
  have HNW:=Lib.hid hgn
  clear hzb hIb hrb hbb hob hWb hst hbx hrow1 hrow hc3 hgn hpb hnm
  have hi64 : (pre.length : Int) < 3:=by omega
  obtain ⟨i1,si,siz,sis,sib⟩:=info_parts infoStrA
  gi_wp2_with (first
   | (gi_at_builtin;refine wpListIn_append_new _ rfl _ _ 72 rfl W8.heap.size 9 i1 _ 1 16 Tryz.underlying72 si siz sis sib rfl (by decide) _ pre.length _ rfl HOA.out ⟨Wb.heap.size,0,none⟩ 1 1 [.string nm] rfl rfl ?ac ?ao ?b1 ?b2 ?b3 ?_))
  case ac =>
   intro j u hu
   match j,hu with
   | 0,hu => injection hu with hu;subst hu;rw [add_block0];exact cell_of_block HNW.out 0 rfl
   | j + 1,hu => simp at hu
  case ao => intro u hu;rw [List.mem_singleton.1 hu];rfl
  case b1 => unfold maxLen;omega
  case b2 => omega
  case b3 => rw [size_of_alloc];have := HX.out.1.size;omega
  intro v' w' ho hg hnew
  obtain ⟨g',c',rfl⟩ : ∃ g' c',v' = .slice (some ⟨g',0,none⟩) (pre.length + 1) c':=by
   rcases ho.2 with ⟨_,h0⟩ | ⟨g',cap,cur,e1,_⟩
   ·omega
   ·exact ⟨_,_,e1⟩
  have hoN : some N ≠ (Value.slice A pre.length c).ownBlock:=fun e => by
   have := (HX.out.2.2.2.1.lt N e.symm).1
   omega
  have hNr : w'.heap[N]? = some (.cells #[.slice A pre.length c] 72 (0,0)) :=
   (hg.block N (by rw [size_of_alloc];have := HX.out.1.size;omega) hoN).trans (heap_keep HX.out.2.1)
  have cN2:=cell_of_block hNr 0 (v:=.slice A pre.length c) rfl
  have fN2:=frozen_at hNr 0
  have HF:=Lib.hid (And.intro ho (And.intro hg (And.intro hnew (And.intro hoN hNr))))
  clear ho hg hnew hoN hNr cN c3
  gi_wp2
  have hg' : W8.heap.size ≤ g':=(HF.out.1.lt g' rfl).1
  have hsz':=HF.out.2.1.size
  rw [size_of_alloc] at hsz'
  have ownNe : ∀ b,(Pv b ∨ b = g ∨ b = g1) → some b ≠ (Value.slice A pre.length c).ownBlock:=fun b hb e => by
   rcases hb with hb | hb
   ·exact HR.out.2.2.2.2.2.2.1 b e.symm hb
   ·have h1:=(HX.out.2.2.2.1.lt b e.symm).1
    have h2:=HP.out.2.2.2.1
    have h3:=HP.out.2.2.2.2.2.1
    rcases hb with rfl | rfl <;> omega
  have neN : ∀ b,(Pv b ∨ b = g ∨ b = g1) → b ≠ N:=fun b hb => by
   have h2:=hN'.out.2.2
   have h3:=HP.out.2.2.1
   have h4:=HP.out.2.2.2.2.1
   rcases hb with hb | rfl | rfl
   ·have := HR.out.2.2.1 b hb;omega
   ·omega
   ·omega
  refine ⟨fun b hb hk => ?_,?_,?_⟩
  ·refine (Below.heap_setCell w' ⟨N,0,none⟩ _ b (neN b hk)).trans ((HF.out.2.1.block b (by rw [size_of_alloc];omega) (ownNe b hk)).trans (Below.heap_alloc Wb _ b hb))
  ·simp only [World.setCell,Array.size_modify]
   omega
  ·have hl1 : (pre ++ [(pre.length,cs)]).length = pre.length + 1:=by simp
   refine ⟨⟨some ⟨g',0,none⟩,c',?_,?_,fun q hq hpv => ?_⟩,HX.out.1.off,?_,fun b hb hne => ?_,?_,?_,?_⟩
   ·rw [hl1]
    exact heap_setCell_at HF.out.2.2.2.2 0 _
   ·rw [hl1,nmsA_succ,← HNM.out]
    obtain ⟨hl0,hr⟩:=HF.out.1
    refine ⟨hl0,hr.imp id fun ⟨g,cap,cur,e1,e2,e3,e4⟩ => ⟨g,cap,cur,e1,e2,?_,e4⟩⟩
    exact (Below.heap_setCell w' ⟨N,0,none⟩ _ g (by show g ≠ N;omega)).trans e3
   ·have hq' : (Value.slice (some ⟨g',0,none⟩) (pre.length + 1) c').ownBlock = some q:=hq
    rcases HF.out.2.2.1 q hq' with h | h
    ·exact HR.out.2.2.2.2.2.2.1 q h hpv
    ·have := HR.out.2.1 q hpv
     have := HX.out.2.2.1
     omega
   ·have := HX.out.1.size
    simp only [World.setCell,Array.size_modify]
    omega
   ·refine (Below.heap_setCell w' ⟨N,0,none⟩ _ b hne).trans ((HF.out.2.1.block b (by rw [size_of_alloc];have := HX.out.1.size;omega) (fun e => by have := (HX.out.2.2.2.1.lt b e.symm).1;omega)).trans ((Below.heap_alloc Wb _ b (by have := HX.out.1.size;omega)).trans (HX.out.1.keep b hb hne)))
   ·exact HF.out.2.1.os.trans HX.out.1.os
   ·exact HF.out.2.1.tape.trans HX.out.1.tape
   ·exact HF.out.2.1.output.trans HX.out.1.output
 case done =>
  intro Pv xs W1 hS hI hD hL hlt hdef
  have hS3 : xs.length = 3:=hS
  obtain ⟨A,c,hrow,hown,hoff⟩:=hI.row
  rw [hS3] at hrow hown
  obtain ⟨gn,rfl⟩ : ∃ gn,A = some ⟨gn,0,none⟩:=by
   rcases hown.2 with ⟨_,h0⟩ | ⟨gn,cap,cur,e1,_⟩
   ·cases h0
   ·injection e1 with e1;exact ⟨gn,e1⟩
  obtain ⟨curn,hgn⟩ : ∃ cur,W1.heap[gn]? = some (.cells cur 9 (0,0)):=by
   rcases hown.2 with ⟨h0,_⟩ | ⟨g',cap,cur,e1,_,e3,_⟩
   ·cases h0
   ·injection e1 with e1
    injection e1 with e1
    injection e1 with e1
    subst e1
    exact ⟨cur,e3⟩
  have hnc : ∀ j v,(nmsA 3)[j]? = some v → W1.cell? ⟨gn,j,none⟩ = some v:=fun j v hv => by
   have := hown.cells (g:=gn) rfl j v hv
   rwa [add_block0] at this
  have hN8:=hN'.out.2
  have hRow : W1.heap[R0]? = some (.cells #[.bool false] 4 (0,0)):=(hI.keep R0 (by omega) (by omega)).trans HW8.out.1
  have cN:=cell_of_block hrow 0 (v:=.slice (some ⟨gn,0,none⟩) 3 c) rfl
  have hRc:=cell_of_block hRow 0 (v:=.bool false) rfl
  obtain ⟨V5,hV5⟩ : ∃ V5,V5 = ((((W1.alloc (.cells #[.int .i64 2,.int .i64 0,.string ⟨#[120]⟩,.slice none 0 0] 33)).alloc (.cells #[.int .i64 2,.int .i64 0,.string ⟨#[121]⟩,.slice none 0 0] 33)).alloc (.cells rowTwo 33)).alloc (.cells (rowOne (W1.heap.size + 1 + 1)) 33)).alloc (exprC 6 2 ⟨#[]⟩ (.slice (some ⟨W1.heap.size + 1 + 1 + 1,0,none⟩) 1 1)):=⟨_,rfl⟩
  have bV : Below W1.heap.size W1 V5:=by rw [hV5];exact ((((below_alloc W1 _).chain (below_alloc _ _)).chain (below_alloc _ _)).chain (below_alloc _ _)).chain (below_alloc _ _)
  have zV : V5.heap.size = W1.heap.size + 1 + 1 + 1 + 1 + 1:=by rw [hV5];simp only [size_of_alloc]
  have hEA : EAt V5 (W1.heap.size + 1 + 1 + 1) (W1.heap.size + 1 + 1):=by
   constructor
   ·rw [hV5]
    have := heap_keep (o:=exprC 6 2 ⟨#[]⟩ (.slice (some ⟨W1.heap.size + 1 + 1 + 1,0,none⟩) 1 1)) (heap_of_alloc (((W1.alloc (.cells #[.int .i64 2,.int .i64 0,.string ⟨#[120]⟩,.slice none 0 0] 33)).alloc (.cells #[.int .i64 2,.int .i64 0,.string ⟨#[121]⟩,.slice none 0 0] 33)).alloc (.cells rowTwo 33)) (.cells (rowOne (W1.heap.size + 1 + 1)) 33))
    simp only [size_of_alloc] at this
    exact this
   ·rw [hV5]
    have := heap_keep (o:=exprC 6 2 ⟨#[]⟩ (.slice (some ⟨W1.heap.size + 1 + 1 + 1,0,none⟩) 1 1)) (heap_keep (o:=.cells (rowOne (W1.heap.size + 1 + 1)) 33) (heap_of_alloc ((W1.alloc (.cells #[.int .i64 2,.int .i64 0,.string ⟨#[120]⟩,.slice none 0 0] 33)).alloc (.cells #[.int .i64 2,.int .i64 0,.string ⟨#[121]⟩,.slice none 0 0] 33)) (.cells rowTwo 33)))
    simp only [size_of_alloc] at this
    exact this
  have hEB : V5.heap[W1.heap.size + 1 + 1 + 1 + 1]? = some (exprC 6 2 ⟨#[]⟩ (.slice (some ⟨W1.heap.size + 1 + 1 + 1,0,none⟩) 1 1)):=by
   rw [hV5]
   have := heap_of_alloc ((((W1.alloc (.cells #[.int .i64 2,.int .i64 0,.string ⟨#[120]⟩,.slice none 0 0] 33)).alloc (.cells #[.int .i64 2,.int .i64 0,.string ⟨#[121]⟩,.slice none 0 0] 33)).alloc (.cells rowTwo 33)).alloc (.cells (rowOne (W1.heap.size + 1 + 1)) 33)) (exprC 6 2 ⟨#[]⟩ (.slice (some ⟨W1.heap.size + 1 + 1 + 1,0,none⟩) 1 1))
   simp only [size_of_alloc] at this
   exact this
  have cN5:=(bV.cell (p:=⟨N,0,none⟩) (Array.getElem?_eq_some_iff.1 hrow).1).trans cN
  -- the first comparison
  have HE1 : Hid (Calls Tryz.prog 22 #[.slice (some ⟨gn,0,none⟩) 3 c,.slice (some ⟨W1.heap.size + 1 + 1 + 1 + 1 + 1,0,none⟩) 3 3] (V5.alloc (.cells #[.string ⟨#[]⟩,.string ⟨#[120]⟩,.string ⟨#[121]⟩] 9)) fun e w' => e = .returned (.bool true) ∧ Below V5.heap.size V5 w'):=Lib.hid (by
   have hnl:=heap_of_alloc V5 (.cells #[.string ⟨#[]⟩,.string ⟨#[120]⟩,.string ⟨#[121]⟩] 9)
   rw [zV] at hnl
   have bA:=bV.chain (below_alloc V5 (.cells #[.string ⟨#[]⟩,.string ⟨#[120]⟩,.string ⟨#[121]⟩] 9))
   refine (Tryz.slices_Equal_string gn 0 3 c (W1.heap.size + 1 + 1 + 1 + 1 + 1) 0 3 3 [⟨#[]⟩,⟨#[120]⟩,⟨#[121]⟩] [⟨#[]⟩,⟨#[120]⟩,⟨#[121]⟩] _ (by decide) (by decide) (by decide) (by decide) (fun j hj => ?_) (fun j hj => ?_)).mono fun e w' ⟨he,q,hw⟩ => ⟨by rw [he];rfl,hw ▸ below_dn (below_alloc _ _) q⟩
   ·rw [Nat.zero_add]
    match j,hj with
    | 0,_ => exact (bA.cell (p:=⟨gn,0,none⟩) (Array.getElem?_eq_some_iff.1 (show W1.heap[gn]? = _ from hgn)).1).trans (hnc 0 _ rfl)
    | 1,_ => exact (bA.cell (p:=⟨gn,1,none⟩) (Array.getElem?_eq_some_iff.1 (show W1.heap[gn]? = _ from hgn)).1).trans (hnc 1 _ rfl)
    | 2,_ => exact (bA.cell (p:=⟨gn,2,none⟩) (Array.getElem?_eq_some_iff.1 (show W1.heap[gn]? = _ from hgn)).1).trans (hnc 2 _ rfl)
   ·rw [Nat.zero_add]
    match j,hj with
    | 0,_ => exact cell_of_block hnl 0 rfl
    | 1,_ => exact cell_of_block hnl 1 rfl
    | 2,_ => exact cell_of_block hnl 2 rfl)
  have HE2 : Hid (∀ (w4 : World) (g4 c4 : Nat),w4.cell? ⟨g4,0,none⟩ = some (.string ⟨#[120]⟩) → w4.cell? ⟨g4,1,none⟩ = some (.string ⟨#[121]⟩) → Calls Tryz.prog 22 #[.slice (some ⟨g4,0,none⟩) 2 c4,.slice (some ⟨w4.heap.size,0,none⟩) 2 2] (w4.alloc (.cells #[.string ⟨#[120]⟩,.string ⟨#[121]⟩] 9)) fun e w' => e = .returned (.bool true) ∧ Below w4.heap.size w4 w'):=Lib.hid (fun w4 g4 c4 h0 h1 => by
   have hnl:=heap_of_alloc w4 (.cells #[.string ⟨#[120]⟩,.string ⟨#[121]⟩] 9)
   have bA:=below_alloc w4 (.cells #[.string ⟨#[120]⟩,.string ⟨#[121]⟩] 9)
   have hg4:=World.block_lt_of_cell? w4 _ h0
   refine (Tryz.slices_Equal_string g4 0 2 c4 w4.heap.size 0 2 2 [⟨#[120]⟩,⟨#[121]⟩] [⟨#[120]⟩,⟨#[121]⟩] _ (by decide) (by decide) (by decide) (by decide) (fun j hj => ?_) (fun j hj => ?_)).mono fun e w' ⟨he,q,hw⟩ => ⟨by rw [he];rfl,hw ▸ below_dn bA q⟩
   ·rw [Nat.zero_add]
    match j,hj with
    | 0,_ => exact (bA.cell (p:=⟨g4,0,none⟩) hg4).trans h0
    | 1,_ => exact (bA.cell (p:=⟨g4,1,none⟩) hg4).trans h1
   ·rw [Nat.zero_add]
    match j,hj with
    | 0,_ => exact cell_of_block hnl 0 rfl
    | 1,_ => exact cell_of_block hnl 1 rfl)
  have HI:=Lib.hid (And.intro hI (And.intro hlt (And.intro hdef (And.intro hRow (And.intro bV (And.intro hEA hEB))))))
  clear hS hI hD hL hlt hdef hS3 hown hoff hnc hRow hN8 hrow hgn hRc cN bV hEA hEB zV
  rw [hV5] at cN5
  gi_wp2_with (first
   | (gi_at_call 22;rw [← hV5];refine (callsIn_wide.2 HE1.out).mono ?_;rintro e w2 ⟨rfl,hb2⟩;have HB2:=Lib.hid hb2;have hc:=kept_box hb2 HI.out.2.2.2.2.2.2;have k0:=cell_of_block hc 0 (v:=.int .i64 6) rfl;have k1:=cell_of_block hc 1 (v:=.int .i64 2) rfl;have k2:=cell_of_block hc 2 (v:=.string ⟨#[]⟩) rfl;have k3:=cell_of_block hc 3 (v:=.slice (some ⟨W1.heap.size + 1 + 1 + 1,0,none⟩) 1 1) rfl;clear hc hb2)
   | (gi_at_call 14;refine (callsIn_wide.2 (e_expr _ _ w2 (HI.out.2.2.2.2.2.1.stay HB2.out))).mono ?_;rintro e w3 ⟨rfl,hb3⟩;have HB3:=Lib.hid (HB2.out.chain hb3);have hc:=kept_box HB3.out HI.out.2.2.2.2.2.2;have l0:=cell_of_block hc 0 (v:=.int .i64 6) rfl;have l1:=cell_of_block hc 1 (v:=.int .i64 2) rfl;have l2:=cell_of_block hc 2 (v:=.string ⟨#[]⟩) rfl;have l3:=cell_of_block hc 3 (v:=.slice (some ⟨W1.heap.size + 1 + 1 + 1,0,none⟩) 1 1) rfl;clear hc hb3)
   | (gi_at_call 23;refine (callsIn_wide.2 (e_vars _ _ w3 (HI.out.2.2.2.2.2.1.stay HB3.out))).mono ?_;rintro e w4 ⟨g4,c4,rfl,hx,hy,hb4⟩;have HB4:=Lib.hid (And.intro (HB3.out.chain hb4) (And.intro hx hy));clear hb4 hx hy)
   | (gi_at_call 22;refine (callsIn_wide.2 (HE2.out w4 g4 c4 HB4.out.2.1 HB4.out.2.2)).mono ?_;rintro e w5 ⟨rfl,hb5⟩;have HB5:=Lib.hid (HI.out.2.2.2.2.1.chain (HB4.out.1.chain hb5));have hc:=kept_box HB5.out HI.out.2.2.2.1;have m0:=cell_of_block hc 0 (v:=.bool false) rfl;have m1:=frozen_at hc 0;clear hc hb5))
  have hR0:=HNN.out.2
  have hdq : (w5.setCell ⟨R0,0,none⟩ (.bool true)).heap[W8.heap.size]? = some (.deferred (some [])):=by
   have hlt8:=HW8.out.2.size
   have h8:=(Array.getElem?_eq_some_iff.1 HW8.out.1).1
   exact (Below.heap_setCell w5 ⟨R0,0,none⟩ _ W8.heap.size (by show W8.heap.size ≠ R0;omega)).trans (kept_box HB5.out HI.out.2.2.1)
  refine ⟨by simp,.inl ⟨_,_,rfl,run_takeDeferred hdq,?_⟩⟩
  have h8:=(Array.getElem?_eq_some_iff.1 HW8.out.1).1
  have hres : ((w5.setCell ⟨R0,0,none⟩ (.bool true)).putObj W8.heap.size (.deferred none)).heap[R0]? = some (.cells #[.bool true] 4 (0,0)) :=
   (World.putObj_heap_other (by omega)).trans (heap_setCell_at (kept_box HB5.out HI.out.2.2.2.1) 0 (.bool true))
  refine ⟨_,results_bool rfl _ _ ⟨R0,0,none⟩ true rfl (cell_of_block hres 0 rfl),rfl,?_⟩
  have hb8:=HW8.out.2
  have hI:=HI.out.1
  have hb5:=HB5.out
  have hNR:=hN'.out.2.1
  have hsz8:=hI.size
  have hsz5:=hb5.size
  rw [← hR0]
  refine ⟨hb5.os.trans (hI.os.trans hb8.os),hb5.tape.trans (hI.tape.trans hb8.tape),hb5.output.trans (hI.output.trans hb8.output),?_,fun k hk => ?_⟩
  ·simp only [World.putObj_size,World.setCell,Array.size_modify]
   have := hb8.size
   omega
  ·refine (World.putObj_heap_other (by omega)).trans ((Below.heap_setCell w5 ⟨R0,0,none⟩ _ k (by show k ≠ R0;omega)).trans ((hb5.block k (by omega)).trans ((hI.keep k (by omega) (by omega)).trans (hb8.block k hk))))
end Go.Proofs.YtnkpgpmaiicdeaaGreatDoor
