import Derived.Test.YtojjfdegkooknaaGreatDoorRows
import Derived.WalkKit
import Derived.WalkSpells
import Derived.WalkLawsBesides
import Derived.Lib.Hide
import Derived.Deep.RegionWith
import Derived.Laws.Rows
import Derived.Test.YtojjfdegkooknaaGreatDoorQLexMZ
import Derived.Test.YtojjfdegkooknaaGreatDoorQTreeY
import Derived.Deep.Draws
import Derived.Laws.CopyOwn
set_option linter.unusedVariables false
set_option linter.unusedSimpArgs false
namespace Go.Proofs.YtojjfdegkooknaaGreatDoor
open Go.RowKit
theorem heap_keep {W : World} {o v : Obj} {k : Nat} (h : W.heap[k]? = some v) : (W.alloc o).heap[k]? = some v :=
 (Below.heap_alloc W o k (Array.getElem?_eq_some_iff.1 h).1).trans h
abbrev exprV (k n : Int) (s : ByteArray) (l : Value) : Value:=.agg #[.int .i64 k,.int .i64 n,.string s,l]
end Go.Proofs.YtojjfdegkooknaaGreatDoor
namespace Go.Proofs.YtojjfdegkooknaaGreatDoor
open Go.RowKit
theorem heap_setCell_at {W : World} {b : Nat} {cs : Array Value} {t : TypeId} (h : W.heap[b]? = some (.cells cs t (0,0))) (i : Nat) (u : Value) : (W.setCell ⟨b,i,none⟩ u).heap[b]? = some (.cells (cs.setIfInBounds i u) t (0,0)):=by
 simp [World.setCell,Array.getElem?_modify,h]
theorem heap_setCell_off {W : World} {b g : Nat} {o : Obj} (h : W.heap[b]? = some o) (hg : b ≠ g) (i : Nat) (u : Value) : (W.setCell ⟨g,i,none⟩ u).heap[b]? = some o :=
 (Below.heap_setCell W ⟨g,i,none⟩ u b hg).trans h
theorem frozen_at {W : World} {b : Nat} {cs : Array Value} {t : TypeId} (h : W.heap[b]? = some (.cells cs t (0,0))) (i : Nat) : W.frozen? ⟨b,i,none⟩ = false:=by
 simp [World.frozen?,h]
theorem below_dn {B : Nat} {a w : World} (h : Below B a w) (n : Nat) : Below B a (w.drewN n):=h.trans ⟨rfl,rfl,rfl,Nat.le_refl _,fun _ _ => rfl⟩
theorem blw {w W : World} {o : Obj} (h : Below w.heap.size w W) : Below w.heap.size w (W.alloc o):=h.alloc h.size o
theorem kept_box {W W' : World} (hb : Below W.heap.size W W') {b : Nat} {o : Obj} (h : W.heap[b]? = some o) : W'.heap[b]? = some o :=
 (hb.block b (Array.getElem?_eq_some_iff.1 h).1).trans h
theorem store_cells {W : World} {b : Nat} {old cs : Array Value} {t : TypeId} (h : W.heap[b]? = some (.cells old t (0,0))) (hs : old.size = cs.size) (h1 : cs.all (·.oneCell') = true) : (storeCells ⟨b,0,none⟩ cs.toList).run Tryz.prog W = .ok () (W.setRow b cs):=by
 have := run_storeCells_from (P:=Tryz.prog) b t cs.toList 0 old W h (by simp;omega) (fun v hv => (Array.all_eq_true_iff_forall_mem.1 h1) v (by simpa using hv))
 simpa using this
theorem stmt_hidden2 : ∃ (T N : Nat) (zc : Array Value),90 = T ∧ N = 24 ∧ zc.size = N ∧ (∀ w : World,(isAgg T).run Tryz.prog w = .ok true w) ∧ (∀ w : World,(sizeOf T).run Tryz.prog w = .ok N w) ∧ (∀ w : World,(zeroValue T).run Tryz.prog w = .ok (.agg zc) w) :=
 ⟨_,24,#[.int .i64 0,.int .i64 0,.int .i64 0,.string ⟨#[]⟩,.string ⟨#[]⟩,.string ⟨#[]⟩,.int .i64 0,.int .i64 0,.string ⟨#[]⟩,.slice none 0 0,.int .i64 0,.int .i64 0,.int .i64 0,.string ⟨#[]⟩,.slice none 0 0,.int .i64 0,.int .i64 0,.string ⟨#[]⟩,.slice none 0 0,.slice none 0 0,.slice none 0 0,.slice none 0 0,.slice none 0 0,.slice none 0 0],rfl,rfl,rfl,stmt_runs'.1,stmt_runs'.2,fun w => by kernel_rfl⟩
end Go.Proofs.YtojjfdegkooknaaGreatDoor
namespace Go.Proofs.YtojjfdegkooknaaGreatDoor
set_option maxRecDepth 100000
set_option maxHeartbeats 4000000
open Go.RowKit
inductive Ex where
 | mk (k n : Int) (s : List UInt8) (l : List Ex) : Ex
inductive ExRow (w : World) (B : Nat) : List Ex → Option Addr → Prop
 | nil (A : Option Addr) : ExRow w B [] A
 | row (a : Addr) (es : List Ex) (Ad : Nat → Option Addr) (C : Nat → Nat) (hb : a.block < B)
    (cells : ∀ i k n s l,es[i]? = some (.mk k n s l) → w.cell? (a.add (i * 4)) = some (.int .i64 k) ∧ w.cell? ((a.add (i * 4)).add 1) = some (.int .i64 n) ∧ w.cell? ((a.add (i * 4)).add 2) = some (.string ⟨s.toArray⟩) ∧
      w.cell? ((a.add (i * 4)).add 3) = some (.slice (Ad i) l.length (C i)) ∧ s.length ≤ maxLen ∧ l.length ≤ maxLen)
    (sub : ∀ i k n s l,es[i]? = some (.mk k n s l) → ExRow w B l (Ad i)) : ExRow w B es (some a)
theorem ExRow.at_ {w : World} {B : Nat} {es : List Ex} {A : Option Addr} (h : ExRow w B es A) {i : Nat} {k n : Int} {s : List UInt8} {l : List Ex} (hi : es[i]? = some (.mk k n s l)) :
 ∃ a A' c',A = some a ∧ a.block < B ∧ w.cell? (a.add (i * 4)) = some (.int .i64 k) ∧ w.cell? ((a.add (i * 4)).add 1) = some (.int .i64 n) ∧ w.cell? ((a.add (i * 4)).add 2) = some (.string ⟨s.toArray⟩) ∧
  w.cell? ((a.add (i * 4)).add 3) = some (.slice A' l.length c') ∧ s.length ≤ maxLen ∧ l.length ≤ maxLen ∧ ExRow w B l A':=by
 cases h with
 | nil => simp at hi
 | row a es Ad C hb cells sub =>
   obtain ⟨h0,h1,h2,h3,h4,h5⟩:=cells i k n s l hi
   exact ⟨a,Ad i,C i,rfl,hb,h0,h1,h2,h3,h4,h5,sub i k n s l hi⟩
theorem block_adds (a : Addr) (n : Nat) : (a.add n).block = a.block:=by unfold Addr.add;split <;> rfl
theorem ExRow.keep {w w' : World} {B B' : Nat} (hk : ∀ p : Addr,p.block < B → w'.cell? p = w.cell? p) (hB : B ≤ B') {es : List Ex} {A : Option Addr} (h : ExRow w B es A) : ExRow w' B' es A:=by
 induction h with
 | nil A => exact .nil A
 | row a es Ad C hb cells sub ih =>
   refine .row a es Ad C (Nat.lt_of_lt_of_le hb hB) (fun i k n s l hi => ?_) ih
   obtain ⟨h0,h1,h2,h3,h4,h5⟩:=cells i k n s l hi
   have e : ∀ j,((a.add (i * 4)).add j).block < B:=fun j => by rw [block_adds,block_adds];exact hb
   exact ⟨(hk _ (by rw [block_adds];exact hb)).trans h0,(hk _ (e 1)).trans h1,(hk _ (e 2)).trans h2,(hk _ (e 3)).trans h3,h4,h5⟩
theorem ExRow.stay {w w' : World} {B C : Nat} (hb : Below C w w') (hC : B ≤ C) {es : List Ex} {A : Option Addr} (h : ExRow w B es A) : ExRow w' B es A :=
 h.keep (fun _ hp => hb.cell (Nat.lt_of_lt_of_le hp hC)) (Nat.le_refl _)
theorem ExRow.more {w : World} {B B' : Nat} (hB : B ≤ B') {es : List Ex} {A : Option Addr} (h : ExRow w B es A) : ExRow w B' es A:=h.keep (fun _ _ => rfl) hB
theorem all_take_succ {α : Type} (ok : α → Bool) (l : List α) (i : Nat) (x : α) (hi : l[i]? = some x) : (l.take (i + 1)).all ok = ((l.take i).all ok && ok x):=by
 rw [List.take_add_one,hi]
 simp
theorem all_of_false {α : Type} (ok : α → Bool) (l : List α) (i : Nat) (x : α) (hi : l[i]? = some x) (h : ok x = false) : l.all ok = false:=by
 rw [Bool.eq_false_iff]
 intro h1
 rw [List.all_eq_true.1 h1 x (List.mem_of_getElem? hi)] at h
 cases h
theorem vl_expr (ok : Ex → Bool) (G : Nat) (Fi Ca : Array Value) (hG : ∀ args w,(callFunc G args).run Tryz.prog w = .ok (.enter G args) w) (es : List Ex) (A : Option Addr) (c : Nat) (least most : Int) (w : World) (hn : es.length ≤ maxLen) (hr : ExRow w w.heap.size es A)
 (hC : ∀ k n s l A' c' W,Ex.mk k n s l ∈ es → Below w.heap.size w W → ExRow W w.heap.size l A' → s.length ≤ maxLen → l.length ≤ maxLen →
   Calls Tryz.prog G (Fi.push (exprV k n ⟨s.toArray⟩ (.slice A' l.length c')) ++ Ca) W fun e w' => e = .returned (.bool (ok (.mk k n s l))) ∧ Below W.heap.size W w') :
 Calls Tryz.prog 142 #[.slice A es.length c,.int .i64 least,.int .i64 most,.func (.func G) Fi Ca] w fun e w' =>
  e = .returned (.bool (decide (least ≤ es.length) && decide ((es.length : Int) ≤ most) && es.all ok)) ∧ Below w.heap.size w w':=by
 obtain ⟨n,hnn⟩ : ∃ n,n = es.length:=⟨_,rfl⟩
 have HH:=Lib.hid (And.intro hr (And.intro hC hnn))
 have HB0:=Lib.hid (Below.refl w.heap.size w)
 rw [← hnn] at hn ⊢
 clear hr hC hnn
 unfold maxLen at hn
 go_enter Tryz.func142,Tryz.ntmps142
 by_cases hl : (n : Int) < least
 ·go_wp2
  go_ret
  exact ⟨by rw [show decide (least ≤ (n : Int)) = false by simp;omega];rfl,HB0.out⟩
 by_cases hm : (n : Int) > most
 ·go_wp2
  go_ret
  exact ⟨by rw [show decide ((n : Int) ≤ most) = false by simp;omega];simp,HB0.out⟩
 go_wp2
 go_loopg [23] n (fun m j wr => ∃ k : Nat,m = n - k ∧ k ≤ n ∧ j = .int .i64 k ∧ Hid (Below w.heap.size w wr ∧ (es.take k).all ok = true))
 case atStart => exact ⟨0,rfl,Nat.zero_le _,rfl,Lib.hid ⟨HB0.out,rfl⟩⟩
 case round =>
  obtain ⟨k,rfl,hk,rfl,HI⟩:=hrel
  by_cases hlt : k < n
  ·have hki : (k : Int) < n:=by omega
   obtain ⟨⟨k0,n0,s,l⟩,hi⟩ : ∃ x,es[k]? = some x:=⟨es[k]'(by rw [← HH.out.2.2];exact hlt),List.getElem?_eq_getElem _⟩
   obtain ⟨a,A',c',rfl,hab,d0,d1,d2,d3,hs,hll,hrow⟩:=(HH.out.1.stay HI.out.1 (Nat.le_refl _)).at_ hi
   have c0:=d0
   have c1 : wr.cell? ⟨(a.add (k * 4)).block,(a.add (k * 4)).off + 1,none⟩ = some (.int .i64 n0):=d1
   have c2 : wr.cell? ⟨(a.add (k * 4)).block,(a.add (k * 4)).off + 2,none⟩ = some (.string ⟨s.toArray⟩):=d2
   have c3 : wr.cell? ⟨(a.add (k * 4)).block,(a.add (k * 4)).off + 3,none⟩ = some (.slice A' l.length c'):=d3
   have HJ:=Lib.hid (HI.out.1.alloc HI.out.1.size (.cells #[.int .i64 k0,.int .i64 n0,.string ⟨s.toArray⟩,.slice A' l.length c'] 84))
   have HC2:=Lib.hid (HH.out.2.1 k0 n0 s l A' c' (wr.alloc (.cells #[.int .i64 k0,.int .i64 n0,.string ⟨s.toArray⟩,.slice A' l.length c'] 84)) (List.mem_of_getElem? hi) HJ.out (hrow.stay (below_alloc wr _) HI.out.1.size) hs hll)
   have HX:=Lib.hid (And.intro hi (all_take_succ ok es k _ hi))
   clear d0 d1 d2 d3 hrow hs hll hi
   obtain ⟨okx,hokx⟩ : ∃ b,b = ok (.mk k0 n0 s l):=⟨_,rfl⟩
   rw [← hokx] at HC2 HX
   have HO:=Lib.hid hokx
   clear hokx
   go_wp2_with (refine HC2.out.mono ?_;rintro e w3 ⟨rfl,hb⟩;have HB3:=Lib.hid (HJ.out.trans (hb.mono HJ.out.size));clear hb)
   ·rename_i hf
    have hf' : ok (.mk k0 n0 s l) = false:=by rw [← HO.out];simpa using hf
    go_ret
    exact ⟨by rw [all_of_false ok es k _ HX.out.1 hf',Bool.and_false];rfl,HB3.out⟩
   ·rename_i hf
    have hf' : okx = true:=by simpa using hf
    go_roundg (n - (k + 1))
    case measure => omega
    case rel => exact ⟨k + 1,rfl,by omega,by go_num,Lib.hid ⟨HB3.out,by rw [HX.out.2,HI.out.2,hf'];rfl⟩⟩
  ·obtain rfl : k = n:=by omega
   go_wp2
   go_ret
   refine ⟨?_,HI.out.1⟩
   have := HI.out.2
   rw [List.take_of_length_le (by rw [HH.out.2.2];exact Nat.le_refl _)] at this
   rw [this,Bool.and_true,show decide (least ≤ (k : Int)) = true by simp;omega,show decide ((k : Int) ≤ most) = true by simp;omega]
   rfl
end Go.Proofs.YtojjfdegkooknaaGreatDoor
