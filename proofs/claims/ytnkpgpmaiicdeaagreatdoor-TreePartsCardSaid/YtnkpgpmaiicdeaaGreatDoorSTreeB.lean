/-
  Copies of statements whose lists are nil, but for the body.
  Expressions as trees, the rows of memory that hold them, and validList at them.
-/
import Derived.Test.YtnkpgpmaiicdeaaGreatDoorSTreeA
import Derived.Test.YtnkpgpmaiicdeaaGreatDoorSTreeY
import Derived.Deep.Draws
import Derived.Laws.CopyOwn
set_option linter.unusedVariables false
set_option linter.unusedSimpArgs false
namespace Go.Proofs.YtnkpgpmaiicdeaaGreatDoor
set_option maxRecDepth 100000
set_option maxHeartbeats 2000000
open Go.RowKit
structure NilSt (cs : Array Value) (ek en ck ak bk : Int) (bd : Value) : Prop where
 h24 : cs.size = 24
 h1 : cs.all (·.oneCell') = true
 c6 : cs[6]? = some (.int .i64 ek)
 c7 : cs[7]? = some (.int .i64 en)
 c8 : cs[8]? = some (.string ⟨#[]⟩)
 c9 : cs[9]? = some (.slice none 0 0)
 c10 : cs[10]? = some (.int .i64 ck)
 c11 : cs[11]? = some (.int .i64 ak)
 c12 : cs[12]? = some (.int .i64 0)
 c13 : cs[13]? = some (.string ⟨#[]⟩)
 c14 : cs[14]? = some (.slice none 0 0)
 c15 : cs[15]? = some (.int .i64 bk)
 c16 : cs[16]? = some (.int .i64 0)
 c17 : cs[17]? = some (.string ⟨#[]⟩)
 c18 : cs[18]? = some (.slice none 0 0)
 c19 : cs[19]? = some (.slice none 0 0)
 c20 : cs[20]? = some (.slice none 0 0)
 c21 : cs[21]? = some (.slice none 0 0)
 c22 : cs[22]? = some (bd)
 c23 : cs[23]? = some (.slice none 0 0)
theorem set_same {cs : Array Value} {i : Nat} {v : Value} (h : cs[i]? = some v) : cs.setIfInBounds i v = cs:=by
 apply Array.ext_getElem?
 intro j
 rw [Array.getElem?_setIfInBounds]
 split
 ·next e =>
  subst e
  have hlt:=(Array.getElem?_eq_some_iff.1 h).1
  rw [if_pos hlt,h]
 ·rfl
theorem heap_setCell_at {W : World} {b : Nat} {cs : Array Value} {t : TypeId} (h : W.heap[b]? = some (.cells cs t (0,0))) (i : Nat) (u : Value) : (W.setCell ⟨b,i,none⟩ u).heap[b]? = some (.cells (cs.setIfInBounds i u) t (0,0)):=by
 simp [World.setCell,Array.getElem?_modify,h]
theorem heap_setCell_off {W : World} {b g : Nat} {o : Obj} (h : W.heap[b]? = some o) (hg : b ≠ g) (i : Nat) (u : Value) : (W.setCell ⟨g,i,none⟩ u).heap[b]? = some o :=
 (Below.heap_setCell W ⟨g,i,none⟩ u b hg).trans h
theorem frozen_at {W : World} {b : Nat} {cs : Array Value} {t : TypeId} (h : W.heap[b]? = some (.cells cs t (0,0))) (i : Nat) : W.frozen? ⟨b,i,none⟩ = false:=by
 simp [World.frozen?,h]
theorem cs_nil (lv : Int) (w : World) (h : 1 ≤ lv) (h2 : lv ≤ 9223372036854775807) : Calls Tryz.prog 45 #[.slice none 0 0,.int .i64 lv] w fun e w' => e = .returned (.slice none 0 0) ∧ w' = w.alloc (.cells #[.int .i64 lv] 3):=by
 have h0 : ¬ lv = 0:=by omega
 go_enter Tryz.func45,Tryz.ntmps45
 go_wp2_with (go_at_call 85;refine (cl_stmt _ _).mono ?_;rintro e w1 ⟨rfl,rfl⟩)
 go_ret
 exact ⟨rfl,rfl⟩
theorem below_dn {B : Nat} {a w : World} (h : Below B a w) (n : Nat) : Below B a (w.drewN n):=h.trans ⟨rfl,rfl,rfl,Nat.le_refl _,fun _ _ => rfl⟩
theorem blw {w W : World} {o : Obj} (h : Below w.heap.size w W) : Below w.heap.size w (W.alloc o):=h.alloc h.size o
theorem heap_drewN {W : World} {v : Obj} {k q : Nat} (h : W.heap[k]? = some v) : (W.drewN q).heap[k]? = some v:=h
theorem kept_box {W W' : World} (hb : Below W.heap.size W W') {b : Nat} {o : Obj} (h : W.heap[b]? = some o) : W'.heap[b]? = some o :=
 (hb.block b (Array.getElem?_eq_some_iff.1 h).1).trans h
theorem box_after {W : World} {b : Nat} {cs : Array Value} {t : TypeId} (h : W.heap[b]? = some (.cells cs t (0,0))) (h23 : cs[23]? = some (.slice none 0 0)) (v : Value) (o : Obj) :
 (((W.setCell ⟨b,22,none⟩ v).setCell ⟨b,23,none⟩ (.slice none 0 0)).alloc o).heap[b]? = some (.cells (cs.setIfInBounds 22 v) t (0,0)):=by
 have := heap_keep (o:=o) (heap_setCell_at (heap_setCell_at h 22 v) 23 (.slice none 0 0))
 rw [set_same (cs:=cs.setIfInBounds 22 v) (by rw [Array.getElem?_setIfInBounds];simpa using h23)] at this
 exact this
theorem res_after {W : World} {b : Nat} {ob : Obj} (h : W.heap[b + 1]? = some ob) (v u : Value) (o : Obj) :
 (((W.setCell ⟨b,22,none⟩ v).setCell ⟨b,23,none⟩ u).alloc o).heap[b + 1]? = some ob :=
 heap_keep (heap_setCell_off (heap_setCell_off h (Nat.succ_ne_self _) 22 v) (Nat.succ_ne_self _) 23 u)
theorem part_after {B : Nat} {W : World} (v u : Value) (o : Obj) (cs : Array Value) (_hz : B + 1 < W.heap.size) :
 Part (fun b => b < B + 2) W ((((W.setCell ⟨B,22,none⟩ v).setCell ⟨B,23,none⟩ u).alloc o).setRow (B + 1) cs):=by
 have h1 : Part (fun b => b < B + 2) W (((W.setCell ⟨B,22,none⟩ v).setCell ⟨B,23,none⟩ u).alloc o) :=
  ((Part.setCell W (a:=⟨B,22,none⟩) v (show B < B + 2 by omega)).trans (Part.setCell _ (a:=⟨B,23,none⟩) u (show B < B + 2 by omega))).trans (Part.alloc _ o)
 refine h1.trans ⟨rfl,rfl,rfl,by simp,fun k hk hn => ?_⟩
 have hne : k ≠ B + 1:=by omega
 simp only [World.setRow,Array.getElem?_modify]
 rw [if_neg (by omega)]
theorem below_after {w W : World} (h : Below w.heap.size w W) (v u : Value) (o : Obj) (cs : Array Value) (hz : w.heap.size + 1 < W.heap.size) :
 Below w.heap.size w ((((W.setCell ⟨w.heap.size,22,none⟩ v).setCell ⟨w.heap.size,23,none⟩ u).alloc o).setRow (w.heap.size + 1) cs) :=
 below_setRow ((((h.setCell (p:=⟨w.heap.size,22,none⟩) (Nat.le_refl _) v).setCell (p:=⟨w.heap.size,23,none⟩) (Nat.le_refl _) u)).alloc (by simp [World.setCell];omega) o) (Nat.le_succ _) cs
theorem store_cells {W : World} {b : Nat} {old cs : Array Value} {t : TypeId} (h : W.heap[b]? = some (.cells old t (0,0))) (hs : old.size = cs.size) (h1 : cs.all (·.oneCell') = true) : (storeCells ⟨b,0,none⟩ cs.toList).run Tryz.prog W = .ok () (W.setRow b cs):=by
 have := run_storeCells_from (P:=Tryz.prog) b t cs.toList 0 old W h (by simp;omega) (fun v hv => (Array.all_eq_true_iff_forall_mem.1 h1) v (by simpa using hv))
 simpa using this
theorem all_set {cs : Array Value} (h1 : cs.all (·.oneCell') = true) (x : Option Addr) (n c : Nat) : (cs.setIfInBounds 22 (.slice x n c)).all (·.oneCell') = true:=by
 rw [Array.all_eq_true_iff_forall_mem] at h1 ⊢
 intro v hv
 rw [Array.mem_iff_getElem?] at hv
 obtain ⟨j,hj⟩:=hv
 rw [Array.getElem?_setIfInBounds] at hj
 split at hj
 ·split at hj
  ·obtain rfl:=Option.some.inj hj;rfl
  ·cases hj
 ·exact h1 v (Array.mem_of_getElem? hj)
theorem stmt_hidden2 : ∃ (T N : Nat) (zc : Array Value),40 = T ∧ N = 24 ∧ zc.size = N ∧ (∀ w : World,(isAgg T).run Tryz.prog w = .ok true w) ∧ (∀ w : World,(sizeOf T).run Tryz.prog w = .ok N w) ∧ (∀ w : World,(zeroValue T).run Tryz.prog w = .ok (.agg zc) w) :=
 ⟨_,24,#[.int .i64 0,.int .i64 0,.int .i64 0,.string ⟨#[]⟩,.string ⟨#[]⟩,.string ⟨#[]⟩,.int .i64 0,.int .i64 0,.string ⟨#[]⟩,.slice none 0 0,.int .i64 0,.int .i64 0,.int .i64 0,.string ⟨#[]⟩,.slice none 0 0,.int .i64 0,.int .i64 0,.string ⟨#[]⟩,.slice none 0 0,.slice none 0 0,.slice none 0 0,.slice none 0 0,.slice none 0 0,.slice none 0 0],rfl,rfl,rfl,stmt_runs'.1,stmt_runs'.2,fun w => by kernel_rfl⟩
theorem copyStmt_any (PB : Nat → Value → World → Prop) (hPB : ∀ B v W W',PB B v W → Part (fun b => b < B) W W' → PB B v W') (hPM : ∀ B B' v W,PB B v W → B' ≤ B → PB B' v W) (cs : Array Value) (ek en ck ak bk : Int) (bd : Value) (hS : NilSt cs ek en ck ak bk bd) (lv : Int) (w : World) (h : 1 ≤ lv) (h2 : lv ≤ 9223372036854775807)
 (hB : ∀ W,Below w.heap.size w W → Calls Tryz.prog 45 #[bd,.int .i64 lv] W fun e w' => ∃ x n c,e = .returned (.slice x n c) ∧ PB W.heap.size (.slice x n c) w' ∧ Below W.heap.size W w') :
 Calls Tryz.prog 30 #[.agg cs,.int .i64 lv] w fun e w' => ∃ x n c,e = .returned (.agg (cs.setIfInBounds 22 (.slice x n c))) ∧ PB w.heap.size (.slice x n c) w' ∧ Below w.heap.size w w':=by
 have HB:=Lib.hid hB
 have HP:=Lib.hid (And.intro hPB hPM)
 have HN : Hid (∀ w,Calls Tryz.prog 45 #[.slice none 0 0,.int .i64 lv] w fun e w' => e = .returned (.slice none 0 0) ∧ w' = w.alloc (.cells #[.int .i64 lv] 3)):=Lib.hid (fun w => cs_nil lv w h h2)
 have HE : Hid (∀ k n s w,Calls Tryz.prog 48 #[exprV k n s (.slice none 0 0)] w fun e w' => e = .returned (exprV k n s (.slice none 0 0)) ∧ w' = (w.alloc (.cells #[.int .i64 k,.int .i64 n,.string s,.slice none 0 0] 33)).alloc (.cells #[.int .i64 k,.int .i64 n,.string s,.slice none 0 0] 33)):=Lib.hid copyExpr_nil
 have HC : Hid (∀ ck ak bk w,Calls Tryz.prog 49 #[condV ck ak bk] w fun e w' => e = .returned (condV ck ak bk) ∧ ∃ q,w' = (condW ck ak bk w).drewN q):=Lib.hid copyCond_nil
 have hsd : ∀ (w : World) (q : Nat) (a : Addr) (v : Value),(w.drewN q).setCell a v = (w.setCell a v).drewN q:=fun _ _ _ _ => rfl
 have had : ∀ (w : World) (q : Nat) (o : Obj),(w.drewN q).alloc o = (w.alloc o).drewN q:=fun _ _ _ => rfl
 have HS:=Lib.hid hS
 obtain ⟨h24,h1c,k6,k7,k8,k9,k10,k11,k12,k13,k14,k15,k16,k17,k18,k19,k20,k21,k22,k23⟩:=hS
 have s6:=set_same k6
 have s7:=set_same k7
 have s8:=set_same k8
 have s9:=set_same k9
 have s10:=set_same k10
 have s11:=set_same k11
 have s12:=set_same k12
 have s13:=set_same k13
 have s14:=set_same k14
 have s15:=set_same k15
 have s16:=set_same k16
 have s17:=set_same k17
 have s18:=set_same k18
 have s19:=set_same k19
 have s20:=set_same k20
 have s21:=set_same k21
 have g6 : cs[6]'(by rw [h24];decide) = _:=(Array.getElem?_eq_some_iff.1 k6).2
 have g7 : cs[7]'(by rw [h24];decide) = _:=(Array.getElem?_eq_some_iff.1 k7).2
 have g8 : cs[8]'(by rw [h24];decide) = _:=(Array.getElem?_eq_some_iff.1 k8).2
 have g9 : cs[9]'(by rw [h24];decide) = _:=(Array.getElem?_eq_some_iff.1 k9).2
 have g10 : cs[10]'(by rw [h24];decide) = _:=(Array.getElem?_eq_some_iff.1 k10).2
 have g11 : cs[11]'(by rw [h24];decide) = _:=(Array.getElem?_eq_some_iff.1 k11).2
 have g12 : cs[12]'(by rw [h24];decide) = _:=(Array.getElem?_eq_some_iff.1 k12).2
 have g13 : cs[13]'(by rw [h24];decide) = _:=(Array.getElem?_eq_some_iff.1 k13).2
 have g14 : cs[14]'(by rw [h24];decide) = _:=(Array.getElem?_eq_some_iff.1 k14).2
 have g15 : cs[15]'(by rw [h24];decide) = _:=(Array.getElem?_eq_some_iff.1 k15).2
 have g16 : cs[16]'(by rw [h24];decide) = _:=(Array.getElem?_eq_some_iff.1 k16).2
 have g17 : cs[17]'(by rw [h24];decide) = _:=(Array.getElem?_eq_some_iff.1 k17).2
 have g18 : cs[18]'(by rw [h24];decide) = _:=(Array.getElem?_eq_some_iff.1 k18).2
 have g19 : cs[19]'(by rw [h24];decide) = _:=(Array.getElem?_eq_some_iff.1 k19).2
 have g20 : cs[20]'(by rw [h24];decide) = _:=(Array.getElem?_eq_some_iff.1 k20).2
 have g21 : cs[21]'(by rw [h24];decide) = _:=(Array.getElem?_eq_some_iff.1 k21).2
 have g22 : cs[22]'(by rw [h24];decide) = _:=(Array.getElem?_eq_some_iff.1 k22).2
 have g23 : cs[23]'(by rw [h24];decide) = _:=(Array.getElem?_eq_some_iff.1 k23).2
 clear k6 k7 k8 k9 k10 k11 k12 k13 k14 k15 k16 k17 k18 k19 k20 k21 k22 k23
 obtain ⟨T,N,zc,hT,hN,hzc,hag,hsz,hzv⟩:=stmt_hidden2
 have e1 : ∀ y : Operand,Op.load 40 y = Op.load T y:=fun y => by rw [hT]
 have e2 : ∀ y z : Operand,Op.store 40 y z = Op.store T y z:=fun y z => by rw [hT]
 have e3 : Op.alloc 40 = Op.alloc T:=by rw [hT]
 have e4 : ∀ y : Operand,Op.box 40 y = Op.box T y:=fun y => by rw [hT]
 have HT:=Lib.hid (And.intro hT hN)
 clear hB hPB hPM h1c hN
 go_enter Tryz.func30,Tryz.ntmps30
 simp only [e1,e2,e3,e4]
 clear e1 e2 e3 e4 hT
 go_wp2_with (first
  | (go_at_call 48;refine (HE.out _ _ _ _).mono ?_;rintro e w2 ⟨rfl,rfl⟩)
  | (go_at_call 49;refine (HC.out _ _ _ _).mono ?_;rintro e w2 ⟨rfl,q,rfl⟩;simp only [condW])
  | (go_at_call 50;refine (cl_call _ _).mono ?_;rintro e w1 ⟨rfl,rfl⟩)
  | (go_at_call 52;refine (cl_formula _ _).mono ?_;rintro e w1 ⟨rfl,rfl⟩)
  | (go_at_call 45;(with_reducible refine (HN.out _).mono ?_);rintro e w5 ⟨rfl,rfl⟩)
  | (go_at_call 45;refine (HB.out _ (below_dn (blw (blw (blw (blw (blw (blw (blw (blw (blw (blw (Below.refl w.heap.size w))))))))))) q)).mono ?_;rintro e w3 ⟨x,n,c,rfl,hp,hb⟩;replace hp:=HP.out.2 _ (w.heap.size + 2) _ _ hp (Array.getElem?_eq_some_iff.1 (heap_drewN (heap_keep (heap_keep (heap_keep (heap_keep (heap_keep (heap_keep (heap_keep (heap_keep (heap_alloc2_new w _ _))))))))) (v:=.cells zc T (0,0)))).1;have hbox:=kept_box (b:=w.heap.size) (o:=.cells cs T (0,0)) hb (heap_drewN (heap_keep (heap_keep (heap_keep (heap_keep (heap_keep (heap_keep (heap_keep (heap_keep (heap_keep (heap_of_alloc w _)))))))))));have hres:=kept_box (b:=w.heap.size + 1) (o:=.cells zc T (0,0)) hb (heap_drewN (heap_keep (heap_keep (heap_keep (heap_keep (heap_keep (heap_keep (heap_keep (heap_keep (heap_alloc2_new w _ _))))))))));have hbw : Below w.heap.size w w3:=(below_dn (blw (blw (blw (blw (blw (blw (blw (blw (blw (blw (Below.refl w.heap.size w))))))))))) q).chain hb;have c22:=cell_of_block hbox 22 HS.out.c22;have c23:=cell_of_block hbox 23 HS.out.c23;have f22:=frozen_at hbox 22;have f23:=frozen_at hbox 23;have hz2:=(Array.getElem?_eq_some_iff.1 hres).1;have hz1 : w.heap.size < w3.heap.size:=(Nat.lt_of_succ_lt hz2);obtain ⟨cs2,hcs2⟩ : ∃ cs2,cs2 = cs.setIfInBounds 22 (.slice x n c):=⟨_,rfl⟩;have hsz2 : cs2.size = N:=(by rw [hcs2,Array.size_setIfInBounds,h24,HT.out.2]);have hld:=load_list (W:=((w3.setCell ⟨w.heap.size,22,none⟩ (.slice x n c)).setCell ⟨w.heap.size,23,none⟩ (.slice none 0 0)).alloc (.cells #[.int .i64 lv] 3)) (a:=⟨w.heap.size,0,none⟩) (N:=N) (cs:=cs2) (fun j v hv => by rw [add_block0];exact cell_of_block (box_after hbox HS.out.c23 (.slice x n c) _) j (by rw [← hcs2];exact hv)) hsz2;have hst:=store_cells (cs:=cs2) (res_after hres (.slice x n c) (.slice none 0 0) (.cells #[.int .i64 lv] 3)) (hzc.trans hsz2.symm) (by rw [hcs2];exact all_set HS.out.h1 x n c);have HBR:=Lib.hid (And.intro hbox (And.intro hres (And.intro hp (And.intro hbw (And.intro hcs2 hb)))));clear hbox hres hp hb hbw hcs2))
 refine bodyPost_ret (results_cell_row rfl _ _ (w.heap.size + 1) T cs2 (0,0) _ rfl (setRow_heap _ _ zc _ _ _ (res_after HBR.out.2.1 (.slice x n c) (.slice none 0 0) (.cells #[.int .i64 lv] 3))) Tryz.underlying40 rfl (by rw [hsz2,HT.out.2];kernel_rfl)) rfl ?_
 refine ⟨x,n,c,by rw [HBR.out.2.2.2.2.1],?_,below_after HBR.out.2.2.2.1 _ _ _ _ hz2⟩
 exact HP.out.2 _ _ _ _ (HP.out.1 _ _ _ _ HBR.out.2.2.1 (part_after _ _ _ _ hz2)) (Nat.le_add_right _ _)
end Go.Proofs.YtnkpgpmaiicdeaaGreatDoor
namespace Go.Proofs.YtnkpgpmaiicdeaaGreatDoor
set_option maxRecDepth 100000
set_option maxHeartbeats 4000000
open Go.RowKit
inductive Ex where
 | mk (k n : Int) (s : List UInt8) (l : List Ex) : Ex
inductive ExRow (w : World) (B : Nat) : List Ex → Option Addr → Prop
 | nil (A : Option Addr) : ExRow w B [] A
 | row (a : Addr) (es : List Ex) (Ad : Nat → Option Addr) (C : Nat → Nat) (hb : a.block < B)
    (cells : ∀ i k n s l,es[i]? = some (.mk k n s l) → w.cell? (a.add (i * 4)) = some (.int .i64 k) ∧ w.cell? ((a.add (i * 4)).add 1) = some (.int .i64 n) ∧ w.cell? ((a.add (i * 4)).add 2) = some (.string ⟨s.toArray⟩) ∧
      w.cell? ((a.add (i * 4)).add 3) = some (.slice (Ad i) l.length (C i)) ∧ s.length ≤ maxLen ∧ l.length ≤ maxLen)
    (sub : ∀ i k n s l,es[i]? = some (.mk k n s l) → ExRow w B l (Ad i)) : ExRow w B es (some a)
theorem ExRow.at_ {w : World} {B : Nat} {es : List Ex} {A : Option Addr} (h : ExRow w B es A) {i : Nat} {k n : Int} {s : List UInt8} {l : List Ex} (hi : es[i]? = some (.mk k n s l)) :
 ∃ a A' c',A = some a ∧ a.block < B ∧ w.cell? (a.add (i * 4)) = some (.int .i64 k) ∧ w.cell? ((a.add (i * 4)).add 1) = some (.int .i64 n) ∧ w.cell? ((a.add (i * 4)).add 2) = some (.string ⟨s.toArray⟩) ∧
  w.cell? ((a.add (i * 4)).add 3) = some (.slice A' l.length c') ∧ s.length ≤ maxLen ∧ l.length ≤ maxLen ∧ ExRow w B l A':=by
 cases h with
 | nil => simp at hi
 | row a es Ad C hb cells sub =>
   obtain ⟨h0,h1,h2,h3,h4,h5⟩:=cells i k n s l hi
   exact ⟨a,Ad i,C i,rfl,hb,h0,h1,h2,h3,h4,h5,sub i k n s l hi⟩
theorem block_adds (a : Addr) (n : Nat) : (a.add n).block = a.block:=by unfold Addr.add;split <;> rfl
theorem ExRow.keep {w w' : World} {B B' : Nat} (hk : ∀ p : Addr,p.block < B → w'.cell? p = w.cell? p) (hB : B ≤ B') {es : List Ex} {A : Option Addr} (h : ExRow w B es A) : ExRow w' B' es A:=by
 induction h with
 | nil A => exact .nil A
 | row a es Ad C hb cells sub ih =>
   refine .row a es Ad C (Nat.lt_of_lt_of_le hb hB) (fun i k n s l hi => ?_) ih
   obtain ⟨h0,h1,h2,h3,h4,h5⟩:=cells i k n s l hi
   have e : ∀ j,((a.add (i * 4)).add j).block < B:=fun j => by rw [block_adds,block_adds];exact hb
   exact ⟨(hk _ (by rw [block_adds];exact hb)).trans h0,(hk _ (e 1)).trans h1,(hk _ (e 2)).trans h2,(hk _ (e 3)).trans h3,h4,h5⟩
theorem ExRow.stay {w w' : World} {B C : Nat} (hb : Below C w w') (hC : B ≤ C) {es : List Ex} {A : Option Addr} (h : ExRow w B es A) : ExRow w' B es A :=
 h.keep (fun _ hp => hb.cell (Nat.lt_of_lt_of_le hp hC)) (Nat.le_refl _)
theorem ExRow.more {w : World} {B B' : Nat} (hB : B ≤ B') {es : List Ex} {A : Option Addr} (h : ExRow w B es A) : ExRow w B' es A:=h.keep (fun _ _ => rfl) hB
theorem all_take_succ {α : Type} (ok : α → Bool) (l : List α) (i : Nat) (x : α) (hi : l[i]? = some x) : (l.take (i + 1)).all ok = ((l.take i).all ok && ok x):=by
 rw [List.take_add_one,hi]
 simp
theorem all_of_false {α : Type} (ok : α → Bool) (l : List α) (i : Nat) (x : α) (hi : l[i]? = some x) (h : ok x = false) : l.all ok = false:=by
 rw [Bool.eq_false_iff]
 intro h1
 rw [List.all_eq_true.1 h1 x (List.mem_of_getElem? hi)] at h
 cases h
theorem vl_expr (ok : Ex → Bool) (G : Nat) (Fi Ca : Array Value) (hG : ∀ args w,(callFunc G args).run Tryz.prog w = .ok (.enter G args) w) (es : List Ex) (A : Option Addr) (c : Nat) (least most : Int) (w : World) (hn : es.length ≤ maxLen) (hr : ExRow w w.heap.size es A)
 (hC : ∀ k n s l A' c' W,Ex.mk k n s l ∈ es → Below w.heap.size w W → ExRow W w.heap.size l A' → s.length ≤ maxLen → l.length ≤ maxLen →
   Calls Tryz.prog G (Fi.push (exprV k n ⟨s.toArray⟩ (.slice A' l.length c')) ++ Ca) W fun e w' => e = .returned (.bool (ok (.mk k n s l))) ∧ Below W.heap.size W w') :
 Calls Tryz.prog 113 #[.slice A es.length c,.int .i64 least,.int .i64 most,.func (.func G) Fi Ca] w fun e w' =>
  e = .returned (.bool (decide (least ≤ es.length) && decide ((es.length : Int) ≤ most) && es.all ok)) ∧ Below w.heap.size w w':=by
 obtain ⟨n,hnn⟩ : ∃ n,n = es.length:=⟨_,rfl⟩
 have HH:=Lib.hid (And.intro hr (And.intro hC hnn))
 have HB0:=Lib.hid (Below.refl w.heap.size w)
 rw [← hnn] at hn ⊢
 clear hr hC hnn
 unfold maxLen at hn
 go_enter Tryz.func113,Tryz.ntmps113
 by_cases hl : (n : Int) < least
 ·go_wp2
  go_ret
  exact ⟨by rw [show decide (least ≤ (n : Int)) = false by simp;omega];rfl,HB0.out⟩
 by_cases hm : (n : Int) > most
 ·go_wp2
  go_ret
  exact ⟨by rw [show decide ((n : Int) ≤ most) = false by simp;omega];simp,HB0.out⟩
 go_wp2
 go_loopg [23] n (fun m j wr => ∃ k : Nat,m = n - k ∧ k ≤ n ∧ j = .int .i64 k ∧ Hid (Below w.heap.size w wr ∧ (es.take k).all ok = true))
 case atStart => exact ⟨0,rfl,Nat.zero_le _,rfl,Lib.hid ⟨HB0.out,rfl⟩⟩
 case round =>
  obtain ⟨k,rfl,hk,rfl,HI⟩:=hrel
  by_cases hlt : k < n
  ·have hki : (k : Int) < n:=by omega
   obtain ⟨⟨k0,n0,s,l⟩,hi⟩ : ∃ x,es[k]? = some x:=⟨es[k]'(by rw [← HH.out.2.2];exact hlt),List.getElem?_eq_getElem _⟩
   obtain ⟨a,A',c',rfl,hab,d0,d1,d2,d3,hs,hll,hrow⟩:=(HH.out.1.stay HI.out.1 (Nat.le_refl _)).at_ hi
   have c0:=d0
   have c1 : wr.cell? ⟨(a.add (k * 4)).block,(a.add (k * 4)).off + 1,none⟩ = some (.int .i64 n0):=d1
   have c2 : wr.cell? ⟨(a.add (k * 4)).block,(a.add (k * 4)).off + 2,none⟩ = some (.string ⟨s.toArray⟩):=d2
   have c3 : wr.cell? ⟨(a.add (k * 4)).block,(a.add (k * 4)).off + 3,none⟩ = some (.slice A' l.length c'):=d3
   have HJ:=Lib.hid (HI.out.1.alloc HI.out.1.size (.cells #[.int .i64 k0,.int .i64 n0,.string ⟨s.toArray⟩,.slice A' l.length c'] 33))
   have HC2:=Lib.hid (HH.out.2.1 k0 n0 s l A' c' (wr.alloc (.cells #[.int .i64 k0,.int .i64 n0,.string ⟨s.toArray⟩,.slice A' l.length c'] 33)) (List.mem_of_getElem? hi) HJ.out (hrow.stay (below_alloc wr _) HI.out.1.size) hs hll)
   have HX:=Lib.hid (And.intro hi (all_take_succ ok es k _ hi))
   clear d0 d1 d2 d3 hrow hs hll hi
   obtain ⟨okx,hokx⟩ : ∃ b,b = ok (.mk k0 n0 s l):=⟨_,rfl⟩
   rw [← hokx] at HC2 HX
   have HO:=Lib.hid hokx
   clear hokx
   go_wp2_with (refine HC2.out.mono ?_;rintro e w3 ⟨rfl,hb⟩;have HB3:=Lib.hid (HJ.out.trans (hb.mono HJ.out.size));clear hb)
   ·rename_i hf
    have hf' : ok (.mk k0 n0 s l) = false:=by rw [← HO.out];simpa using hf
    go_ret
    exact ⟨by rw [all_of_false ok es k _ HX.out.1 hf',Bool.and_false];rfl,HB3.out⟩
   ·rename_i hf
    have hf' : okx = true:=by simpa using hf
    go_roundg (n - (k + 1))
    case measure => omega
    case rel => exact ⟨k + 1,rfl,by omega,by go_num,Lib.hid ⟨HB3.out,by rw [HX.out.2,HI.out.2,hf'];rfl⟩⟩
  ·obtain rfl : k = n:=by omega
   go_wp2
   go_ret
   refine ⟨?_,HI.out.1⟩
   have := HI.out.2
   rw [List.take_of_length_le (by rw [HH.out.2.2];exact Nat.le_refl _)] at this
   rw [this,Bool.and_true,show decide (least ≤ (k : Int)) = true by simp;omega,show decide ((k : Int) ≤ most) = true by simp;omega]
   rfl
end Go.Proofs.YtnkpgpmaiicdeaaGreatDoor
