import Derived.RangeFuncNested
import Derived.RangeFuncBound
import Derived.RangeFuncCalls
import Derived.RangeFuncLeaves
import Derived.WalkKit
import Derived.OwnWalkIn
import Derived.TacticsInMore
import Derived.LoopNIn
import Derived.LoopIn
import Derived.Test.YtojjfdegkooknaaGreatDoorProg
import Derived.Test.YtojjfdegkooknaaGreatDoorQLexMZ
import Derived.Laws.Rows
import Derived.Laws.Tables
import Derived.Deep.WholeRow
import Derived.Lib.Hide
import Derived.Deep.LoopGhost
set_option linter.unusedVariables false
set_option linter.unusedSimpArgs false
namespace Go.Proofs.YtojjfdegkooknaaGreatDoor
open Go.RowKit
structure Part (Pv : Nat → Prop) (W W' : World) : Prop where
 os : W'.os = W.os
 tape : W'.tape = W.tape
 output : W'.output = W.output
 size : W.heap.size ≤ W'.heap.size
 block : ∀ k,k < W.heap.size → ¬ Pv k → W'.heap[k]? = W.heap[k]?
theorem Part.refl (Pv : Nat → Prop) (W : World) : Part Pv W W:=⟨rfl,rfl,rfl,Nat.le_refl _,fun _ _ _ => rfl⟩
theorem Part.trans {Pv : Nat → Prop} {A B C : World} (h : Part Pv A B) (k : Part Pv B C) : Part Pv A C :=
 ⟨k.os.trans h.os,k.tape.trans h.tape,k.output.trans h.output,Nat.le_trans h.size k.size,fun i hi hp => (k.block i (Nat.lt_of_lt_of_le hi h.size) hp).trans (h.block i hi hp)⟩
theorem Part.mono {Pv Pv' : Nat → Prop} {A B : World} (h : Part Pv A B) (hp : ∀ b,Pv b → Pv' b) : Part Pv' A B :=
 ⟨h.os,h.tape,h.output,h.size,fun i hi hn => h.block i hi fun e => hn (hp i e)⟩
theorem Part.of_below {Pv : Nat → Prop} {A B : World} (h : Below A.heap.size A B) : Part Pv A B:=⟨h.os,h.tape,h.output,h.size,fun i hi _ => h.block i hi⟩
theorem Part.alloc {Pv : Nat → Prop} (W : World) (o : Obj) : Part Pv W (W.alloc o):=Part.of_below ((Below.refl _ W).alloc (Nat.le_refl _) o)
theorem Part.setCell {Pv : Nat → Prop} (W : World) {a : Addr} (v : Value) (h : Pv a.block) : Part Pv W (W.setCell a v) :=
 ⟨rfl,rfl,rfl,by simp [World.setCell],fun k _ hk => Below.heap_setCell _ _ _ _ fun e => hk (e ▸ h)⟩
theorem Part.cell {Pv : Nat → Prop} {W W' : World} (h : Part Pv W W') {p : Addr} (hp : p.block < W.heap.size) (hn : ¬ Pv p.block) : W'.cell? p = W.cell? p:=World.cell?_of_block (w:=W) (h.block p.block hp hn)
theorem Part.frozen {Pv : Nat → Prop} {W W' : World} (h : Part Pv W W') {p : Addr} (hp : p.block < W.heap.size) (hn : ¬ Pv p.block) : W'.frozen? p = W.frozen? p:=World.frozen?_of_block (w:=W) (h.block p.block hp hn)
def Abid {β : Type} (J : (Nat → Prop) → β → World → Prop) : Prop :=
 ∀ (Pv Pv' : Nat → Prop) (s : β) (W W' : World),J Pv s W → Part Pv W W' → (∀ b,Pv' b → Pv b ∨ W.heap.size ≤ b) → (∀ b,Pv' b → b < W'.heap.size) → J Pv' s W'
variable {F : Fence} {n : Nat} {P : Program}
end Go.Proofs.YtojjfdegkooknaaGreatDoor
namespace Go.Proofs.YtojjfdegkooknaaGreatDoor
open Go.RowKit
inductive Ord (W : World) (Q : Nat → Prop) : Option Addr → Nat → List (Array Value) → Prop
 | nil (A : Option Addr) : Ord W Q A 0 []
 | cons (a : Addr) (n : Nat) (cs : Array Value) (A1 A2 : Option Addr) (n1 n2 c1 c2 : Nat) (l1 l2 l3 : List (Array Value)) : Q a.block → a.block < W.heap.size → cs.size = 24 → cs.all (·.oneCell') = true → n1 ≤ maxLen → n2 ≤ maxLen →
    (∀ (j : Nat) (v : Value),cs[j]? = some v → W.cell? (a.add j) = some v) → cs[22]? = some (.slice A1 n1 c1) → cs[23]? = some (.slice A2 n2 c2) →
    Ord W Q A1 n1 l1 → Ord W Q A2 n2 l2 → Ord W Q (some (a.add 24)) n l3 → Ord W Q (some a) (n + 1) (cs :: (l1 ++ (l2 ++ l3)))
theorem Ord.keep {W W' : World} {Q : Nat → Prop} (hk : ∀ b,Q b → W'.heap[b]? = W.heap[b]?) (hs : ∀ b,Q b → b < W'.heap.size) {A : Option Addr} {n : Nat} {l : List (Array Value)} (h : Ord W Q A n l) : Ord W' Q A n l:=by
 induction h with
 | nil A => exact .nil A
 | cons a n cs A1 A2 n1 n2 c1 c2 l1 l2 l3 hq hb h24 h1c m1 m2 hc h22 h23 _ _ _ i1 i2 i3 =>
   refine .cons a n cs A1 A2 n1 n2 c1 c2 l1 l2 l3 hq (hs _ hq) h24 h1c m1 m2 (fun j v hv => ?_) h22 h23 i1 i2 i3
   rw [← hc j v hv]
   refine World.cell?_of_block (w:=W) ?_
   have e : (a.add j).block = a.block:=by unfold Addr.add;split <;> rfl
   rw [e]
   exact hk _ hq
theorem Ord.zero {W : World} {Q : Nat → Prop} {A : Option Addr} {ls : List (Array Value)} (h : Ord W Q A 0 ls) : ls = []:=by
 cases h
 rfl
theorem cell_of_block {W : World} {b : Nat} {cs : Array Value} {t : TypeId} (h : W.heap[b]? = some (.cells cs t (0,0))) (j : Nat) {v : Value} (hv : cs[j]? = some v) : W.cell? ⟨b,j,none⟩ = some v:=by
 simp [World.cell?,h,hv]
theorem add_add_plain (a : Addr) (i j : Nat) : (a.add i).add j = a.add (i + j):=by
 unfold Addr.add
 by_cases h1 : i = 0 <;> by_cases h2 : j = 0 <;> simp [h1,h2,Nat.add_assoc]
theorem add_block0 (b j : Nat) : (⟨b,0,none⟩ : Addr).add j = ⟨b,j,none⟩:=by
 unfold Addr.add
 split
 ·next h => subst h;rfl
 ·simp
def YPost (Q : Nat → Prop) (J Jx : (Nat → Prop) → List (Array Value) → World → Prop) (Pv : Nat → Prop) (xs : List (Array Value)) (W : World) (e : Ending) (W' : World) : Prop :=
 (∀ b,b < W.heap.size → Pv b ∨ Q b → W'.heap[b]? = W.heap[b]?) ∧ W.heap.size ≤ W'.heap.size ∧ ((e = .returned (.bool true) ∧ J Pv xs W') ∨ (e = .returned (.bool false) ∧ Jx Pv xs W'))
structure YaPost (Q : Nat → Prop) (J Jx : (Nat → Prop) → List (Array Value) → World → Prop) (Pv : Nat → Prop) (pre ls : List (Array Value)) (W : World) (e : Ending) (W' : World) : Prop where
 keep : ∀ b,b < W.heap.size → Pv b ∨ Q b → W'.heap[b]? = W.heap[b]?
 size : W.heap.size ≤ W'.heap.size
 out : ∃ Pv' : Nat → Prop,(∀ b,Pv b → Pv' b) ∧ (∀ b,Pv' b → b < W'.heap.size) ∧ (∀ b,Pv' b → Pv b ∨ W.heap.size ≤ b) ∧
  ((e = .returned (.bool true) ∧ J Pv' (pre ++ ls) W') ∨ (e = .returned (.bool false) ∧ ∃ q,q <+: ls ∧ Jx Pv' (pre ++ q) W'))
theorem stmt_runs' : (∀ w : World,(isAgg 90).run Tryz.prog w = .ok true w) ∧ (∀ w : World,(sizeOf 90).run Tryz.prog w = .ok 24 w) :=
 ⟨fun w => by kernel_rfl,fun w => by kernel_rfl⟩
theorem stmt_hidden : ∃ (T N : Nat),90 = T ∧ N = 24 ∧ (∀ w : World,(isAgg T).run Tryz.prog w = .ok true w) ∧ (∀ w : World,(sizeOf T).run Tryz.prog w = .ok N w) :=
 ⟨_,24,rfl,rfl,stmt_runs'.1,stmt_runs'.2⟩
theorem load_list {W : World} {a : Addr} {N : Nat} {cs : Array Value} (h : ∀ (j : Nat) (v : Value),cs[j]? = some v → W.cell? (a.add j) = some v) (hN : cs.size = N) : (loadCellsFrom a 0 N #[]).run Tryz.prog W = .ok cs W:=by
 have := run_loadCells_list (P:=Tryz.prog) (w:=W) a cs.toList (fun j v hv => h j v (by simpa using hv))
 rw [Array.length_toList,hN] at this
 simpa [loadCells] using this
theorem store_new {w : World} {cs : Array Value} (h24 : cs.size = 24) (h1 : cs.all (·.oneCell') = true) :
 (storeCells ⟨w.heap.size,0,none⟩ cs.toList).run Tryz.prog (w.alloc (.cells #[.int .i64 0,.int .i64 0,.int .i64 0,.string ⟨#[]⟩,.string ⟨#[]⟩,.string ⟨#[]⟩,.int .i64 0,.int .i64 0,.string ⟨#[]⟩,.slice none 0 0,.int .i64 0,.int .i64 0,.int .i64 0,.string ⟨#[]⟩,.slice none 0 0,.int .i64 0,.int .i64 0,.string ⟨#[]⟩,.slice none 0 0,.slice none 0 0,.slice none 0 0,.slice none 0 0,.slice none 0 0,.slice none 0 0] 90)) = .ok () (w.alloc (.cells cs 90)):=by
 have := run_storeCells_from (P:=Tryz.prog) w.heap.size 90 cs.toList 0 #[.int .i64 0,.int .i64 0,.int .i64 0,.string ⟨#[]⟩,.string ⟨#[]⟩,.string ⟨#[]⟩,.int .i64 0,.int .i64 0,.string ⟨#[]⟩,.slice none 0 0,.int .i64 0,.int .i64 0,.int .i64 0,.string ⟨#[]⟩,.slice none 0 0,.int .i64 0,.int .i64 0,.string ⟨#[]⟩,.slice none 0 0,.slice none 0 0,.slice none 0 0,.slice none 0 0,.slice none 0 0,.slice none 0 0] (w.alloc (.cells #[.int .i64 0,.int .i64 0,.int .i64 0,.string ⟨#[]⟩,.string ⟨#[]⟩,.string ⟨#[]⟩,.int .i64 0,.int .i64 0,.string ⟨#[]⟩,.slice none 0 0,.int .i64 0,.int .i64 0,.int .i64 0,.string ⟨#[]⟩,.slice none 0 0,.int .i64 0,.int .i64 0,.string ⟨#[]⟩,.slice none 0 0,.slice none 0 0,.slice none 0 0,.slice none 0 0,.slice none 0 0,.slice none 0 0] 90)) (heap_of_alloc _ _) (by simp [h24]) (fun v hv => (Array.all_eq_true_iff_forall_mem.1 h1) v (by simpa using hv))
 rw [show ((#[.int .i64 0,.int .i64 0,.int .i64 0,.string ⟨#[]⟩,.string ⟨#[]⟩,.string ⟨#[]⟩,.int .i64 0,.int .i64 0,.string ⟨#[]⟩,.slice none 0 0,.int .i64 0,.int .i64 0,.int .i64 0,.string ⟨#[]⟩,.slice none 0 0,.int .i64 0,.int .i64 0,.string ⟨#[]⟩,.slice none 0 0,.slice none 0 0,.slice none 0 0,.slice none 0 0,.slice none 0 0,.slice none 0 0] : Array Value).toList.take 0 ++ cs.toList).toArray = cs by simp,World.setRow_alloc_new] at this
 exact this
structure YaSt (Q : Nat → Prop) (J : (Nat → Prop) → List (Array Value) → World → Prop) (base : Nat) (Pv : Nat → Prop) (W : World) (pre dn : List (Array Value)) (B : Nat) (cs : Array Value) (Pv' : Nat → Prop) (Wx : World) : Prop where
 j : J Pv' (pre ++ dn) Wx
 sub : ∀ b,Pv b → Pv' b
 lt : ∀ b,Pv' b → b < Wx.heap.size
 ge : ∀ b,Pv' b → base ≤ b
 new : ∀ b,Pv' b → Pv b ∨ W.heap.size ≤ b
 own : Pv' B
 keep : ∀ b,b < W.heap.size → Pv b ∨ Q b → Wx.heap[b]? = W.heap[b]?
 size : W.heap.size ≤ Wx.heap.size
 box : Wx.heap[B]? = some (.cells cs 90 (0,0))
def YaFail (Q : Nat → Prop) (Jx : (Nat → Prop) → List (Array Value) → World → Prop) (Pv : Nat → Prop) (W : World) (pre ls : List (Array Value)) (Wx : World) : Prop :=
 (∀ b,b < W.heap.size → Pv b ∨ Q b → Wx.heap[b]? = W.heap[b]?) ∧ W.heap.size ≤ Wx.heap.size ∧ ∃ Pv' : Nat → Prop,(∀ b,Pv b → Pv' b) ∧ (∀ b,Pv' b → b < Wx.heap.size) ∧ (∀ b,Pv' b → Pv b ∨ W.heap.size ≤ b) ∧ ∃ q,q <+: ls ∧ Jx Pv' (pre ++ q) Wx
theorem YaSt.yield {Q : Nat → Prop} {J Jx : (Nat → Prop) → List (Array Value) → World → Prop} {base : Nat} {Pv Pv' : Nat → Prop} {W Wx W2 : World} {pre dn : List (Array Value)} {B : Nat} {cs : Array Value} {ls : List (Array Value)} {e : Ending}
 (h : YaSt Q J base Pv W pre dn B cs Pv' Wx) (hp : YPost Q J Jx Pv' (pre ++ dn ++ [cs]) Wx e W2) (hq : dn ++ [cs] <+: ls) :
 (e = .returned (.bool true) ∧ YaSt Q J base Pv W pre (dn ++ [cs]) B cs Pv' W2) ∨ (e = .returned (.bool false) ∧ YaFail Q Jx Pv W pre ls W2):=by
 obtain ⟨hk,hs,ho⟩:=hp
 have keep' : ∀ b,b < W.heap.size → Pv b ∨ Q b → W2.heap[b]? = W.heap[b]?:=fun b hb hpq => (hk b (Nat.lt_of_lt_of_le hb h.size) (hpq.imp (h.sub b) id)).trans (h.keep b hb hpq)
 have lt' : ∀ b,Pv' b → b < W2.heap.size:=fun b hb => Nat.lt_of_lt_of_le (h.lt b hb) hs
 rcases ho with ⟨rfl,hj⟩ | ⟨rfl,hx⟩
 ·exact .inl ⟨rfl,⟨by rw [← List.append_assoc];exact hj,h.sub,lt',h.ge,h.new,h.own,keep',Nat.le_trans h.size hs,(hk B (h.lt B h.own) (Or.inl h.own)).trans h.box⟩⟩
 ·exact .inr ⟨rfl,keep',Nat.le_trans h.size hs,Pv',h.sub,lt',h.new,dn ++ [cs],hq,by rw [← List.append_assoc];exact hx⟩
theorem YaSt.all {Q : Nat → Prop} {J Jx : (Nat → Prop) → List (Array Value) → World → Prop} {base : Nat} {Pv Pv' : Nat → Prop} {W Wx W2 : World} {pre dn : List (Array Value)} {B : Nat} {cs : Array Value} {ls l1 : List (Array Value)} {e : Ending}
 (h : YaSt Q J base Pv W pre dn B cs Pv' Wx) (hb : base ≤ W.heap.size) (hp : YaPost Q J Jx Pv' (pre ++ dn) l1 Wx e W2) (hq : dn ++ l1 <+: ls) :
 (e = .returned (.bool true) ∧ ∃ Pv2,YaSt Q J base Pv W pre (dn ++ l1) B cs Pv2 W2) ∨ (e = .returned (.bool false) ∧ YaFail Q Jx Pv W pre ls W2):=by
 obtain ⟨hk,hs,Pv2,s1,s2,s3,ho⟩:=hp
 have keep' : ∀ b,b < W.heap.size → Pv b ∨ Q b → W2.heap[b]? = W.heap[b]?:=fun b hb hpq => (hk b (Nat.lt_of_lt_of_le hb h.size) (hpq.imp (h.sub b) id)).trans (h.keep b hb hpq)
 have new' : ∀ b,Pv2 b → Pv b ∨ W.heap.size ≤ b:=fun b hb => (s3 b hb).elim (h.new b) fun hle => Or.inr (Nat.le_trans h.size hle)
 have ge' : ∀ b,Pv2 b → base ≤ b:=fun b hb' => (s3 b hb').elim (h.ge b) fun hle => Nat.le_trans hb (Nat.le_trans h.size hle)
 rcases ho with ⟨rfl,hj⟩ | ⟨rfl,q,hq2,hx⟩
 ·exact .inl ⟨rfl,Pv2,⟨by rw [← List.append_assoc];exact hj,fun b hb => s1 b (h.sub b hb),s2,ge',new',s1 B h.own,keep',Nat.le_trans h.size hs,(hk B (h.lt B h.own) (Or.inl h.own)).trans h.box⟩⟩
 ·refine .inr ⟨rfl,keep',Nat.le_trans h.size hs,Pv2,fun b hb => s1 b (h.sub b hb),s2,new',dn ++ q,?_,by rw [← List.append_assoc];exact hx⟩
  obtain ⟨r,hr⟩:=hq2
  obtain ⟨r2,hr2⟩:=hq
  exact ⟨r ++ r2,by rw [← hr2,← hr];simp⟩
end Go.Proofs.YtojjfdegkooknaaGreatDoor
