import Derived.OrdersHeld
import Derived.NoCompiler
import Derived.WalkKit
import Derived.Test.YtojjfdegkooknaaGreatDoorProg
set_option linter.unusedVariables false
set_option linter.unusedSimpArgs false
namespace Go.Proofs.YtojjfdegkooknaaGreatDoor
section
variable {P : Program} {ops : Array Oper} {Q : Exit → Act → World → Prop} {md : Region.Mode} {S : World → Prop}
theorem anyH_take (i : Nat) (d : Option Tmp) {oi : Oper} {v : Value} {k : Nat} {l : Array Bool} {a : Act} {w : World} (hS : S w) (hi : ops[i]? = some oi) (hd : oi.dst = d)
 (hs : Region.noSelect ops = true) (hf : Region.free md ops l i = true) (hr : (Region.ready md ops l).contains i = true)
 (hQ : ∀ c a w,Q (.panic c) (a.put d v) w → Q (.panic c) a w) (hw : Region.wanted oi (yielded ops a.tmps) = true) (hv : ∀ w,S w → (execOp a.eval oi).run P w = .ok (.value v) w)
 (h : wpAnyH P md ops Q S k (l.setIfInBounds i true) (a.put d v) w) : wpAnyH P md ops Q S (k + 1) l a w :=
 by subst hd;exact wpAnyH_take hi hs hf hr hQ (.inl ⟨hw,hv⟩) hS h
theorem anyH_skip (i : Nat) (d : Option Tmp) {oi : Oper} {k : Nat} {l : Array Bool} {a : Act} {w : World} (hS : S w) (hi : ops[i]? = some oi) (hd : oi.dst = d)
 (hs : Region.noSelect ops = true) (hf : Region.free md ops l i = true) (hr : (Region.ready md ops l).contains i = true)
 (hQ : ∀ c a w,Q (.panic c) (a.put d undef) w → Q (.panic c) a w) (hw : Region.wanted oi (yielded ops a.tmps) = false)
 (h : wpAnyH P md ops Q S k (l.setIfInBounds i true) (a.put d undef) w) : wpAnyH P md ops Q S (k + 1) l a w :=
 by subst hd;exact wpAnyH_take hi hs hf hr hQ (.inr ⟨hw,rfl⟩) hS h
theorem anyH_one (i : Nat) {o : Oper} {k : Nat} {l : Array Bool} {a : Act} {w : World} (hr : Region.ready md ops l = [i]) (ho : ops[i]? = some o) (hw : Region.wanted o (yielded ops a.tmps) = true)
 (h : ∀ K : Act → World → Prop,(∀ a w,S w → wpAnyH P md ops Q S k (l.setIfInBounds i true) a w → K a w) → Oper.wp P o a w K Q) : wpAnyH P md ops Q S (k + 1) l a w:=by
 refine ⟨fun h0 => (by rw [hr] at h0;cases h0),fun j hj => ?_⟩
 rw [hr] at hj
 obtain rfl:=List.mem_singleton.1 hj
 unfold wpOp
 rw [ho]
 show if Region.wanted o (yielded ops a.tmps) = true then _ else _
 rw [if_pos hw]
 exact .inl (h _ (fun _ _ h1 h2 => ⟨h1,h2⟩))
theorem tk (i d : Nat) (v : Value) {oi : Oper} {k : Nat} {l : Array Bool} {a : Act} {w : World} (hS : S w) (hv : ∀ w,S w → (execOp a.eval oi).run P w = .ok (.value v) w)
 (h : wpAnyH P md ops Q S k (l.setIfInBounds i true) (a.put (some d) v) w) (hi : ops[i]? = some oi:=by rfl) (hd : oi.dst = some d:=by rfl)
 (hs : Region.noSelect ops = true:=by kernel_rfl) (hf : Region.free md ops l i = true:=by kernel_rfl) (hr : (Region.ready md ops l).contains i = true:=by kernel_rfl)
 (hQ : ∀ c a w,Q (.panic c) (a.put (some d) v) w → Q (.panic c) a w:=by exact fun _ _ _ h => h) (hw : Region.wanted oi (yielded ops a.tmps) = true:=by kernel_rfl) : wpAnyH P md ops Q S (k + 1) l a w :=
 anyH_take i (some d) hS hi hd hs hf hr hQ hw hv h
theorem sk (i d : Nat) {oi : Oper} {k : Nat} {l : Array Bool} {a : Act} {w : World} (hS : S w)
 (h : wpAnyH P md ops Q S k (l.setIfInBounds i true) (a.put (some d) undef) w) (hi : ops[i]? = some oi:=by rfl) (hd : oi.dst = some d:=by rfl)
 (hs : Region.noSelect ops = true:=by kernel_rfl) (hf : Region.free md ops l i = true:=by kernel_rfl) (hr : (Region.ready md ops l).contains i = true:=by kernel_rfl)
 (hQ : ∀ c a w,Q (.panic c) (a.put (some d) undef) w → Q (.panic c) a w:=by exact fun _ _ _ h => h) (hw : Region.wanted oi (yielded ops a.tmps) = false:=by kernel_rfl) : wpAnyH P md ops Q S (k + 1) l a w :=
 anyH_skip i (some d) hS hi hd hs hf hr hQ hw h
theorem o1 (i : Nat) {o : Oper} {k : Nat} {l : Array Bool} {a : Act} {w : World}
 (h : ∀ K : Act → World → Prop,(∀ a w,S w → wpAnyH P md ops Q S k (l.setIfInBounds i true) a w → K a w) → Oper.wp P o a w K Q)
 (hr : Region.ready md ops l = [i]:=by kernel_rfl) (ho : ops[i]? = some o:=by rfl) (hw : Region.wanted o (yielded ops a.tmps) = true:=by kernel_rfl) : wpAnyH P md ops Q S (k + 1) l a w :=
 anyH_one i hr ho hw h
theorem pset : (∀ (a : Act) (d : Nat) (v : Value),a.put (some d) v = { a with tmps:=a.tmps.setIfInBounds d v }) ∧ (∀ (l : List Value) (i : Nat) (v : Value),l.toArray.setIfInBounds i v = (l.set i v).toArray) ∧
 (∀ (l : List Bool) (i : Nat) (v : Bool),l.toArray.setIfInBounds i v = (l.set i v).toArray) ∧ (∀ (x v : Value) (l : List Value),(x :: l).set 0 v = v :: l) ∧ (∀ (x v : Value) (l : List Value) (n : Nat),(x :: l).set (n + 1) v = x :: l.set n v) ∧
 (∀ (x v : Bool) (l : List Bool),(x :: l).set 0 v = v :: l) ∧ (∀ (x v : Bool) (l : List Bool) (n : Nat),(x :: l).set (n + 1) v = x :: l.set n v) :=
 ⟨fun _ _ _ => rfl,fun _ _ _ => List.setIfInBounds_toArray ..,fun _ _ _ => List.setIfInBounds_toArray ..,fun _ _ _ => rfl,fun _ _ _ _ => rfl,fun _ _ _ => rfl,fun _ _ _ _ => rfl⟩
end
end Go.Proofs.YtojjfdegkooknaaGreatDoor
