/-
  TreeWalks' body, at any list of statements and any byte.
-/
import Derived.Test.YtnkpgpmaiicdeaaGreatDoorSTreeWs
import Derived.Test.YtnkpgpmaiicdeaaGreatDoorSTreeAx
set_option linter.unusedVariables false
set_option linter.unusedSimpArgs false
namespace Go.Proofs.YtnkpgpmaiicdeaaGreatDoor
set_option maxRecDepth 100000
set_option maxHeartbeats 40000000
open Go.RowKit
attribute [local go_sem] Oper.semAt_some
section
variable {F : Fence} {n : Nat} {P : Program} {ops : Array Oper} {Q : Exit → Act → World → Prop} {md : Region.Mode} {S : World → Prop}
theorem tI (i d : Nat) (v : Value) {oi : Oper} {k : Nat} {l : Array Bool} {a : Act} {w : World} (hS : S w) (hv : ∀ w,S w → (execOp a.eval oi).run P w = .ok (.value v) w)
 (h : AnyS F n P md ops Q S k (l.setIfInBounds i true) (a.put (some d) v) w) (hi : ops[i]? = some oi:=by rfl) (hd : oi.dst = some d:=by rfl) (hnd : noDefers ops = true:=by kernel_rfl)
 (hs : Region.noSelect ops = true:=by kernel_rfl) (hf : Region.free md ops l i = true:=by kernel_rfl) (hr : (Region.ready md ops l).contains i = true:=by kernel_rfl)
 (hQ : ∀ c a w,Q (.panic c) (a.put (some d) v) w → Q (.panic c) a w:=by exact fun _ _ _ h => h) (hw : Region.wanted oi (yielded ops a.tmps) = true:=by kernel_rfl) (ha : ∀ w,oi.about P w a.eval = none:=by exact fun _ => rfl) : AnyS F n P md ops Q S (k + 1) l a w :=
 AnyS.take i hS hi hnd hs hf hr (by rw [hd];exact hQ) hw ha hv (by rw [hd];exact h)
end
theorem operIn_rows {F : Fence} {m : Nat} {o : Oper} {a : Act} {w : World} {K : Act → World → Prop} {Q : Exit → Act → World → Prop} (len : Nat) (parts : Array (Nat × Operand)) (ho : o.op = .buildSlice 22 len parts) (vs : List (Array Value)) (hlen : vs.length = len) (h0 : 0 < len) (h1 : len ≤ 1000)
 (h24 : ∀ c ∈ vs,c.size = 24) (hparts : parts.toList.map (fun x => (x.1,a.eval x.2)) = ((vs.map Value.agg).zipIdx 0).map fun x => (x.2,x.1))
 (h : K (a.put o.dst (.slice (some ⟨w.heap.size,0,none⟩) len len)) (w.alloc (.cells (flatC vs).toArray 40))) : Oper.wpIn F m Tryz.prog o a w K Q:=by
 obtain ⟨i0,hi,hiz,his,hib⟩:=info_parts infoStmt
 unfold Oper.wpIn
 refine ⟨fun f hf => (by simp [Oper.about,ho] at hf),?_⟩
 rw [Oper.semAt_plain F _ _ (by rw [ho];intro c hc;cases hc)]
 have e : (parts.map fun (i,x) => (i,a.eval x)).toList = ((vs.map Value.agg).zipIdx 0).map fun x => (x.2,x.1):=by
  rw [← hparts,Array.toList_map]
 unfold execOp
 simp only [ho,Sem.run_bind]
 rw [run_buildSlice w 22 40 len _ _ i0 _ Tryz.underlying22 hi hiz (by rw [his];omega) (by rw [his];omega) (by rw [e];exact fill_rows i0.size his _ vs h24 (by simp [his,hlen]))]
 exact h
theorem wz_five {w w3 w4 W5 : World} {f : List St} {A4 : Option Addr} {c4 : Nat} {y : Int} (h3 : Below w.heap.size w w3) (h4 : Flatted w.heap.size w3 f (.slice A4 f.length c4) w4)
 (p0 : w3.heap[w.heap.size]? = some (.cells #[.int .u8 y] 5 (0,0))) (p1 : w3.heap[w.heap.size + 1]? = some (.cells #[.bool false] 4 (0,0)))
 (hW5 : W5 = (w4.alloc (.cells #[.slice A4 f.length c4] 22)).alloc (.cells #[.int .i64 0] 3)) :
 Below w.heap.size w W5 ∧ W5.heap.size = w4.heap.size + 2 ∧ W5.heap[w4.heap.size]? = some (.cells #[.slice A4 f.length c4] 22 (0,0)) ∧ W5.heap[w4.heap.size + 1]? = some (.cells #[.int .i64 0] 3 (0,0)) ∧
  StRow W5 w4.heap.size f A4 ∧ W5.heap[w.heap.size]? = some (.cells #[.int .u8 y] 5 (0,0)) ∧ W5.heap[w.heap.size + 1]? = some (.cells #[.bool false] 4 (0,0)) ∧ w.heap.size + 2 ≤ w4.heap.size:=by
 have hrow:=flatted_row h4
 obtain ⟨_,_,_,_,_,hb4⟩:=h4
 have b45 : Below w4.heap.size w4 W5:=by rw [hW5];exact (below_alloc w4 _).chain (below_alloc _ _)
 have b35:=hb4.chain b45
 have hlt:=(Array.getElem?_eq_some_iff.1 p1).1
 have hs4:=hb4.size
 refine ⟨h3.chain b35,by rw [hW5];simp only [size_of_alloc],by rw [hW5];exact heap_keep (heap_of_alloc w4 _),?_,hrow.keep (fun q hq => b45.cell hq) (Nat.le_refl _),kept_box b35 p0,kept_box b35 p1,by omega⟩
 rw [hW5]
 have h:=heap_of_alloc (w4.alloc (.cells #[.slice A4 f.length c4] 22)) (.cells #[.int .i64 0] 3)
 simp only [size_of_alloc] at h
 exact h
theorem wz_round {N m : Nat} {W8 W1 Wb : World} {Pv : Nat → Prop} {pre : List (Nat × Array Value)} {cs : Array Value} {T : TypeId} {x : St} {r r2 : Loop} (hN : N < W8.heap.size) (hI : WlSt N m W8 Pv pre W1) (hlt : ∀ b,Pv b → b < W1.heap.size) (hL : Pv (W8.heap.size + 1)) (hrl : W1.heap[W8.heap.size + 1]? = some (.loop r))
 (hv : VSt W1 W1.heap.size cs x) (hWb : Wb = (W1.alloc (.cells cs T)).putObj (W8.heap.size + 1) (.loop r2)) :
 Part Pv W1 Wb ∧ Wb.heap.size = W1.heap.size + 1 ∧ WlSt N m W8 Pv pre Wb ∧ Wb.heap[W1.heap.size]? = some (.cells cs T (0,0)) ∧ VSt Wb Wb.heap.size cs x:=by
 have hne : W1.heap.size ≠ W8.heap.size + 1:=fun e => by have := hlt _ hL;omega
 have hzb : Wb.heap.size = W1.heap.size + 1:=by rw [hWb];simp
 have hpb : Part Pv W1 Wb:=by rw [hWb];exact (Part.alloc _ _).trans (Part.putObj _ _ hL)
 refine ⟨hpb,hzb,WlSt.abid hN Pv Pv pre W1 Wb hI hpb (fun b hb => Or.inl hb) (fun b hb => by have := hlt b hb;omega),by rw [hWb];exact (World.putObj_heap_other hne).trans (heap_of_alloc W1 _),?_⟩
 refine vst_subs W1 Wb _ cs x (fun q v hq => ?_) hv
 by_cases hb : q.block = W8.heap.size + 1
 ·unfold World.cell? at hq
  rw [hb,hrl] at hq
  simp at hq
 ·rw [hWb,← hq]
  exact World.cell?_of_block ((World.putObj_heap_other hb).trans (Below.heap_alloc W1 _ q.block (lt_of_cell hq)))
theorem wz_end {N m : Nat} {W8 Wb W3 : World} {Pv : Nat → Prop} {pre : List (Nat × Array Value)} {p : Nat × Array Value} (_hN : N < W8.heap.size) (hI : WlSt N m W8 Pv pre Wb) (hb : Below Wb.heap.size Wb W3) (hm : pre.length + 1 ≤ m) {i : Int} (hi : i = pre.length + 1) :
 (∀ b,b < Wb.heap.size → b ≠ N → (W3.setCell ⟨N,0,none⟩ (.int .i64 i)).heap[b]? = Wb.heap[b]?) ∧ Wb.heap.size ≤ (W3.setCell ⟨N,0,none⟩ (.int .i64 i)).heap.size ∧ WlSt N m W8 Pv (pre ++ [p]) (W3.setCell ⟨N,0,none⟩ (.int .i64 i)):=by
 have hs : (W3.setCell ⟨N,0,none⟩ (.int .i64 i)).heap.size = W3.heap.size:=by simp [World.setCell]
 have hl : (pre ++ [p]).length = pre.length + 1:=by simp
 have h8:=hI.size
 have h3:=hb.size
 refine ⟨fun b hb' hne => (Below.heap_setCell W3 ⟨N,0,none⟩ _ b hne).trans (hb.block b hb'),by omega,?_,by omega,hI.off,by omega,fun b hb' hne => (Below.heap_setCell W3 ⟨N,0,none⟩ _ b hne).trans ((hb.block b (by omega)).trans (hI.keep b hb' hne)),hb.os.trans hI.os,hb.tape.trans hI.tape,hb.output.trans hI.output⟩
 rw [hl,show ((pre.length + 1 : Nat) : Int) = i from by omega]
 exact heap_setCell_at (kept_box hb hI.row) 0 _
theorem wl_below {B N m : Nat} {w W8 W9 : World} {Pv : Nat → Prop} {pre : List (Nat × Array Value)} (hb : Below B w W8) (hB : B ≤ w.heap.size) (hN : B ≤ N) (hI : WlSt N m W8 Pv pre W9) : Below B w W9 :=
 ⟨hI.os.trans hb.os,hI.tape.trans hb.tape,hI.output.trans hb.output,Nat.le_trans hb.size hI.size,fun k hk => (hI.keep k (Nat.lt_of_lt_of_le (Nat.lt_of_lt_of_le hk hB) hb.size) (by omega)).trans (hb.block k hk)⟩
structure TwT (w : World) (s4 s8 s9 s10 : Nat) (v5 : Value) (n K : Nat) (y : Int) (W : World) : Prop where
 t5 : W.heap[s4]? = some (.cells #[v5] 22 (0,0))
 t6 : W.heap[s4 + 1]? = some (.cells #[.int .i64 n] 3 (0,0))
 t9 : W.heap[s9]? = some (.cells #[.int .i64 K] 3 (0,0))
 t3 : W.heap[w.heap.size]? = some (.cells #[.int .u8 y] 5 (0,0))
 t4 : W.heap[w.heap.size + 1]? = some (.cells #[.bool false] 4 (0,0))
 d8 : W.heap[s8]? = some (.deferred (some []))
 d10 : W.heap[s10]? = some (.deferred (some []))
 below : Below w.heap.size w W
 z4 : w.heap.size + 2 ≤ s4
 z8 : s4 + 2 ≤ s8
 z9 : s8 < s9
 z10 : s9 < s10
 z12 : s10 < W.heap.size
theorem TwT.on {w W W' : World} {s4 s8 s9 s10 n K : Nat} {v5 : Value} {y : Int} (h : TwT w s4 s8 s9 s10 v5 n K y W) (hb : Below W.heap.size W W') : TwT w s4 s8 s9 s10 v5 n K y W' :=
 ⟨kept_box hb h.t5,kept_box hb h.t6,kept_box hb h.t9,kept_box hb h.t3,kept_box hb h.t4,(hb.block _ (Array.getElem?_eq_some_iff.1 h.d8).1).trans h.d8,(hb.block _ (Array.getElem?_eq_some_iff.1 h.d10).1).trans h.d10,h.below.chain hb,h.z4,h.z8,h.z9,h.z10,Nat.lt_of_lt_of_le h.z12 hb.size⟩
theorem tw_make {w w4 W5 W8 W9 W9' W10 W12 : World} {n m K : Nat} {v5 : Value} {y : Int} {Pv : Nat → Prop} {xs : List (Nat × Array Value)} (h5 : W5.heap[w4.heap.size]? = some (.cells #[v5] 22 (0,0))) (hs5 : W5.heap.size = w4.heap.size + 2)
 (p0 : W5.heap[w.heap.size]? = some (.cells #[.int .u8 y] 5 (0,0))) (p1 : W5.heap[w.heap.size + 1]? = some (.cells #[.bool false] 4 (0,0))) (z4 : w.heap.size + 2 ≤ w4.heap.size)
 (h8 : Below W5.heap.size W5 W8) (h9 : WlSt (w4.heap.size + 1) m W8 Pv xs W9) (hd9 : W9.heap[W8.heap.size]? = some (.deferred (some []))) (hx : xs.length = n) (hb9 : Below w.heap.size w W9) (hW9 : W9'.heap.size = W9.heap.size + 1) (hb9' : Below W9.heap.size W9 W9') (h10 : Below W9'.heap.size W9' W10)
 (hkeep : ∀ b,b < W10.heap.size → b ≠ W9.heap.size → W12.heap[b]? = W10.heap[b]?) (hsz : W10.heap.size < W12.heap.size) (hos : W12.os = W10.os) (hta : W12.tape = W10.tape) (hou : W12.output = W10.output) (ht9 : W12.heap[W9.heap.size]? = some (.cells #[.int .i64 K] 3 (0,0))) (hd10 : W12.heap[W10.heap.size]? = some (.deferred (some []))) :
 TwT w w4.heap.size W8.heap.size W9.heap.size W10.heap.size v5 n K y W12:=by
 have hs8:=h8.size
 have hs9:=h9.size
 have hs10:=h10.size
 have hlt8:=(Array.getElem?_eq_some_iff.1 hd9).1
 have hk : ∀ b,b < W9.heap.size → W12.heap[b]? = W9.heap[b]?:=fun b hb => (hkeep b (by omega) (by omega)).trans ((h10.block b (by omega)).trans (hb9'.block b hb))
 have hk5 : ∀ b,b < W5.heap.size → b ≠ w4.heap.size + 1 → W12.heap[b]? = W5.heap[b]?:=fun b hb hne => (hk b (by omega)).trans ((h9.keep b (by omega) hne).trans (h8.block b hb))
 have hb12 : Below W9.heap.size W9 W12:=⟨hos.trans (h10.os.trans hb9'.os),hta.trans (h10.tape.trans hb9'.tape),hou.trans (h10.output.trans hb9'.output),by omega,hk⟩
 refine ⟨(hk5 _ (by omega) (by omega)).trans h5,(hk _ (by omega)).trans (by rw [← hx];exact h9.row),ht9,(hk5 _ (by omega) (by omega)).trans p0,(hk5 _ (by omega) (by omega)).trans p1,(hk _ hlt8).trans hd9,hd10,hb9.chain hb12,z4,by omega,hlt8,by omega,hsz⟩
theorem three_row (l : List St) (A : Option Addr) (c : Nat) : (#[.string ⟨#[]⟩,.int .i64 0,.int .i64 0,.slice none 0 0,.slice none 0 0,.string ⟨#[]⟩,.string ⟨#[]⟩,.bool false,.slice none 0 0,.slice none 0 0,.slice none 0 0,.slice A l.length c,.string ⟨#[]⟩,.int .i64 0,.int .i64 0,.slice none 0 0,.slice none 0 0,.string ⟨#[]⟩,.string ⟨#[]⟩,.bool false,.slice none 0 0,.slice none 0 0,.slice none 0 0,.slice none 0 0,.string ⟨#[]⟩,.int .i64 0,.int .i64 0,.slice none 0 0,.slice none 0 0,.string ⟨#[]⟩,.string ⟨#[]⟩,.bool false,.slice none 0 0,.slice none 0 0,.slice none 0 0,.slice A l.length c] : Array Value) = prCs (pdB A c) (prB l) ++ (prCs (pdB none 0) (prB []) ++ prCs (pdB A c) (prB l)):=by
 simp [prCs,pdB,prB]
theorem three_own {l : List St} {A : Option Addr} {c R : Nat} {W : World} (hr : StRow W W.heap.size l A) (hl : l.length ≤ maxLen) (hR : W.heap[R]? = some (.cells #[.string ⟨#[]⟩,.int .i64 0,.int .i64 0,.slice none 0 0,.slice none 0 0,.string ⟨#[]⟩,.string ⟨#[]⟩,.bool false,.slice none 0 0,.slice none 0 0,.slice none 0 0,.slice A l.length c,.string ⟨#[]⟩,.int .i64 0,.int .i64 0,.slice none 0 0,.slice none 0 0,.string ⟨#[]⟩,.string ⟨#[]⟩,.bool false,.slice none 0 0,.slice none 0 0,.slice none 0 0,.slice none 0 0,.string ⟨#[]⟩,.int .i64 0,.int .i64 0,.slice none 0 0,.slice none 0 0,.string ⟨#[]⟩,.string ⟨#[]⟩,.bool false,.slice none 0 0,.slice none 0 0,.slice none 0 0,.slice A l.length c] 46 (0,0))) : PgOwn W W.heap.size (gdB R) (pgB l):=by
 have z : ∀ a b,(prCs a (prB b)).size = 12:=fun a b => rfl
 have hlt:=(Array.getElem?_eq_some_iff.1 hR).1
 rw [three_row l A c] at hR
 refine pgB_own (A:=A) (c:=c) hr hl hlt (fun j v hv => ?_) (fun j v hv => ?_) (fun j v hv => ?_)
 ·have hj : j < 12:=by have h:=(Array.getElem?_eq_some_iff.1 hv).1;rw [z] at h;exact h
  refine cell_of_block hR j ?_
  rw [Array.getElem?_append_left (by rw [z];exact hj)]
  exact hv
 ·have hj : j < 12:=by have h:=(Array.getElem?_eq_some_iff.1 hv).1;rw [z] at h;exact h
  refine cell_of_block hR (12 + j) ?_
  rw [Array.getElem?_append_right (by rw [z];omega),Array.getElem?_append_left (by rw [z,z];omega),z,Nat.add_sub_cancel_left]
  exact hv
 ·refine cell_of_block hR (24 + j) ?_
  rw [Array.getElem?_append_right (by rw [z];omega),Array.getElem?_append_right (by rw [z,z];omega),z,z,show 24 + j - 12 - 12 = j by omega]
  exact hv
theorem three_size {l f : List St} {A : Option Addr} {c R : Nat} {W : World} (hf : FlL l f) (hb : f.length ≤ 200000) (hr : StRow W W.heap.size l A) (hl : l.length ≤ maxLen) (hR : W.heap[R]? = some (.cells #[.string ⟨#[]⟩,.int .i64 0,.int .i64 0,.slice none 0 0,.slice none 0 0,.string ⟨#[]⟩,.string ⟨#[]⟩,.bool false,.slice none 0 0,.slice none 0 0,.slice none 0 0,.slice A l.length c,.string ⟨#[]⟩,.int .i64 0,.int .i64 0,.slice none 0 0,.slice none 0 0,.string ⟨#[]⟩,.string ⟨#[]⟩,.bool false,.slice none 0 0,.slice none 0 0,.slice none 0 0,.slice none 0 0,.string ⟨#[]⟩,.int .i64 0,.int .i64 0,.slice none 0 0,.slice none 0 0,.string ⟨#[]⟩,.string ⟨#[]⟩,.bool false,.slice none 0 0,.slice none 0 0,.slice none 0 0,.slice A l.length c] 46 (0,0))) :
 Calls Tryz.prog 10 #[.agg #[.slice none 0 0,.slice none 0 0,.slice none 0 0,.slice none 0 0,.slice none 0 0,.slice (some ⟨R,0,none⟩) 3 3]] W fun e w' => e = .returned (.int .i64 (2 * f.length : Nat)) ∧ Below W.heap.size W w' :=
 size_B hf hb (three_own hr hl hR)
theorem walks_law (l : List St) (A : Option Addr) (c : Nat) (y : Int) (hy0 : 0 ≤ y) (hy1 : y ≤ 255) (w : World) (hr : StRow w w.heap.size l A) (hl : l.length ≤ maxLen) (hw : WS l) :
 Calls Tryz.prog 3 #[.slice A l.length c,.int .u8 y] w fun e w' => e = .returned (.bool true) ∧ Below w.heap.size w w':=by
 obtain ⟨f,hf⟩:=fl_any _ l (Nat.lt_succ_self _)
 obtain ⟨T,M,zc,hT,hM,hzc,hag,hsz,hzv⟩:=stmt_hidden2
 have e1 : ∀ y : Operand,Op.load 40 y = Op.load T y:=fun y => by rw [hT]
 have e2 : ∀ y z : Operand,Op.store 40 y z = Op.store T y z:=fun y z => by rw [hT]
 have e3 : Op.alloc 40 = Op.alloc T:=by rw [hT]
 obtain ⟨n,hn⟩ : ∃ n,n = l.length:=⟨_,rfl⟩
 obtain ⟨W1,hW1⟩ : ∃ W1,W1 = (w.alloc (.cells #[.int .u8 y] 5)).alloc (.cells #[.bool false] 4):=⟨_,rfl⟩
 have b1 : Below w.heap.size w W1:=by rw [hW1];exact (below_alloc w _).chain (below_alloc _ _)
 have z1 : W1.heap.size = w.heap.size + 2:=by rw [hW1];simp only [size_of_alloc]
 have p0 : W1.heap[w.heap.size]? = some (.cells #[.int .u8 y] 5 (0,0)):=by rw [hW1];exact heap_keep (heap_of_alloc w _)
 have p1 : W1.heap[w.heap.size + 1]? = some (.cells #[.bool false] 4 (0,0)):=by
  rw [hW1]
  have h:=heap_of_alloc (w.alloc (.cells #[.int .u8 y] 5)) (.cells #[.bool false] 4)
  simp only [size_of_alloc] at h
  exact h
 have hro : ∀ {W : World},Below w.heap.size w W → StRow W w.heap.size l A:=fun hb => hr.keep (fun q hq => hb.cell hq) (Nat.le_refl _)
 have HL : Hid (∀ W,Below w.heap.size w W → Calls Tryz.prog 6 #[.int .i64 200000,.slice A n c] W fun e w' => ∃ r : Int,e = .returned (.int .i64 r) ∧ -1 ≤ r ∧ r ≤ 200000 ∧ (0 ≤ r → f.length ≤ 200000) ∧ Below W.heap.size W w'):=Lib.hid (fun W hb => by
  rw [hn]
  refine (left_stmts2 _ l (Nat.lt_succ_self _) 200000 A c W (by omega) (by omega) ((hro hb).keep (fun _ _ => rfl) hb.size) hl).mono ?_
  rintro e w' ⟨r,h1,h2,h3,h4,h5⟩
  exact ⟨r,h1,h2,h3,fun h => by have := h4 f hf h;omega,h5⟩)
 have HF : Hid (f.length ≤ 200000 → ∀ W,Below w.heap.size w W → Calls Tryz.prog 7 #[.slice A n c] W (FlatPost w.heap.size f W)):=Lib.hid (fun hfl W hb => by rw [hn];exact flat_any _ l (Nat.lt_succ_self _) A c w.heap.size f W (hro hb) hb.size hl hf hfl)
 have HW : Hid (∀ W,Below w.heap.size w W → Calls Tryz.prog 8 #[.slice A n c] W (Walked w.heap.size l f W)):=Lib.hid (fun W hb => by rw [hn];exact walk_any hw hf w.heap.size A c W hb.size (hro hb))
 have HH:=Lib.hid (And.intro hn (And.intro hf (And.intro hr (And.intro hl (And.intro hw (And.intro hM (And.intro hzc (And.intro b1 (And.intro z1 (And.intro p0 p1))))))))))
 clear hn hf hr hl hw hM hzc b1 z1 p0 p1 hro
 rw [show l.length = n from HH.out.1.symm]
 have q1 : Fence.wide.fn 5:=trivial
 have q2 : Fence.wide.fn 6:=trivial
 have q3 : Fence.wide.fn 7:=trivial
 have q4 : Fence.wide.fn 8:=trivial
 have q5 : Fence.wide.fn 9:=trivial
 have q6 : Fence.wide.fn 10:=trivial
 refine (callsIn_wide (n:=20)).1 ?_
 refine callsIn_of_wp_marks Tryz.func3 rfl trivial ?_ rfl
 simp only [Tryz.ntmps3,List.size_toArray,List.length_cons,List.length_nil,Nat.reduceAdd,Nat.reduceSub,Array.replicate_succ,Array.replicate_zero,List.push_toArray,List.append_toArray,List.nil_append,List.cons_append,e1,e2,e3]
 clear e1 e2 e3 hT
 gi_wp2_with (first
  | (gi_at_call 5;rw [← hW1];refine (callsIn_wide.2 (awake_any _)).mono ?_;rintro e w2 ⟨rfl,hb2⟩;have HB2:=Lib.hid (HH.out.2.2.2.2.2.2.2.1.chain hb2);have HP0:=Lib.hid (And.intro (kept_box hb2 HH.out.2.2.2.2.2.2.2.2.2.1) (kept_box hb2 HH.out.2.2.2.2.2.2.2.2.2.2));clear hb2)
  | (gi_at_call 6;refine (callsIn_wide.2 (HL.out _ HB2.out)).mono ?_;rintro e w3 ⟨r,rfl,hr1,hr2,hr3,hb3⟩;have HB3:=Lib.hid (And.intro (HB2.out.chain hb3) (And.intro hr3 (And.intro (kept_box hb3 HP0.out.1) (kept_box hb3 HP0.out.2))));clear hb3 hr3;have pc:=cell_of_block HB3.out.2.2.2 0 (v:=.bool false) rfl;have pf:=frozen_at HB3.out.2.2.2 0)
  | (gi_at_call 7;refine (callsIn_wide.2 (HF.out (HB3.out.2.1 (by omega)) _ HB3.out.1)).mono ?_;rintro e w4 ⟨A4,c4,rfl,hfl4⟩;have HB4:=Lib.hid hfl4;clear hfl4)
  | (gi_at_call 8;obtain ⟨W5,hW5⟩ : ∃ W5,W5 = ((w4.alloc (.cells #[.slice A4 f.length c4] 22)).alloc (.cells #[.int .i64 0] 3)):=⟨_,rfl⟩;rw [← hW5];have HB5:=Lib.hid (wz_five HB3.out.1 HB4.out HB3.out.2.2.1 HB3.out.2.2.2 hW5);clear hW5;refine (callsIn_wide.2 (HW.out W5 HB5.out.1)).mono ?_;rintro e W8 ⟨b,A2,c2,w0,ps,rfl,k1,k2,k3,k4,k5,k6,k7,k8⟩;have HK:=Lib.hid (And.intro k1 (And.intro k2 (And.intro k3 (And.intro k4 (And.intro k5 (And.intro k6 (And.intro k7 k8)))))));clear k1 k2 k3 k4 k5 k6 k7 k8))
 ·exact ⟨_,results_bool rfl _ _ ⟨w.heap.size + 1,0,none⟩ true rfl (cell_of_block (heap_setCell_at HB3.out.2.2.2 0 (.bool true)) 0 rfl),rfl,HB3.out.1.setCell (p:=⟨w.heap.size + 1,0,none⟩) (Nat.le_succ _) _⟩
 have hfl : f.length ≤ 200000:=HB3.out.2.1 (by omega)
 have hlen : (ps.map (·.1)).length = f.length:=by have h:=congrArg List.length HK.out.2.2.2.2.2.1;simpa using h
 have hN8 : w4.heap.size + 1 < W8.heap.size:=by have := HB5.out.2.1;have := HK.out.2.2.2.2.2.2.2.size;omega
 have hI0 : WlSt (w4.heap.size + 1) f.length W8 (fun _ => False) [] W8:=⟨kept_box HK.out.2.2.2.2.2.2.2 HB5.out.2.2.2.1,Nat.zero_le _,fun _ h => h.elim,Nat.le_refl _,fun _ _ _ => rfl,rfl,rfl,rfl⟩
 refine wpIn_rangeFunc_pv (F:=Fence.wide) rfl (by omega) (gf:=28) (lb:=#[.pointer (some ⟨b,0,none⟩)]) rfl trivial (enters_of Tryz.func28 (by kernel_rfl) rfl)
  (walk_seq Fence.wide (20 - 1) (by omega) rfl trivial trivial trivial trivial trivial rfl b l.length c2 A2 (ps.map (·.1)) _ (Yielded f) W8 HK.out.1 HK.out.2.2.1 HK.out.2.2.2.2.1 (fun b hb => hb.2) HH.out.2.2.2.1 (by rw [hlen];omega)
    (fun m k cs W hk hQ => callsIn_wide.2 (walk_copy (ws_fl HH.out.2.1 HH.out.2.2.2.2.1) HK.out.2.2.2.1 HK.out.2.2.2.2.2.1 HK.out.2.2.2.2.2.2.1 k cs W hk hQ)))
  (Below.refl _ _) (fun _ => rfl) (WlSt (w4.heap.size + 1) f.length W8) (fun _ _ _ _ => False) (WlSt.abid hN8) (fun _ _ _ _ _ _ h => h.elim) hI0 ?round (fun b hb => hb.2) (fun _ _ _ h _ => h) (fun _ _ _ h _ => h) ?done (fun _ _ _ _ _ h => h.elim)
 case round =>
  rintro Pv pre ⟨k,cs⟩ W1' r' hlt hge hD hLp hrl hI ⟨hk,hkl,x,hx,hz24,hone,hv⟩
  dsimp only at hk hx hz24 hone hv
  subst hk
  rw [hlen] at hkl
  have hszc : cs.size = M:=hz24.trans HH.out.2.2.2.2.2.1.symm
  have hst:=store_fresh (w:=W1') (t:=T) (zc:=zc) (cs:=cs) (HH.out.2.2.2.2.2.2.1.trans hszc.symm) hone
  have HR:=Lib.hid (And.intro hI (And.intro hlt (And.intro hge (And.intro hD (And.intro hLp (And.intro hrl (And.intro hkl (And.intro hx (And.intro hone (And.intro hv hz24))))))))))
  clear hlt hge hD hLp hrl hkl hx hone hv hI hz24
  gi_wp2
  refine ⟨Part.alloc _ _,fun r2 => ?_⟩
  obtain ⟨Wb,hWb⟩ : ∃ Wb,Wb = (W1'.alloc (.cells cs T)).putObj (W8.heap.size + 1) (.loop r2):=⟨_,rfl⟩
  have HWB:=Lib.hid (wz_round hN8 HR.out.1 HR.out.2.1 HR.out.2.2.2.2.1 HR.out.2.2.2.2.2.1 HR.out.2.2.2.2.2.2.2.2.2.1 hWb)
  rw [← hWb]
  clear hWb hst hI0
  have hkl:=HR.out.2.2.2.2.2.2.1
  have hki : (pre.length : Int) < f.length:=by omega
  obtain ⟨a4,d4,hA4,hab4,hc4,hrow4⟩:=HB5.out.2.2.2.2.1.one HR.out.2.2.2.2.2.2.2.1
  subst hA4
  obtain ⟨ln,co,hpos⟩:=stCs_pos x
  obtain ⟨g,rfl,hcap⟩ : ∃ g,a4 = ⟨g,0,none⟩ ∧ f.length ≤ c4:=by
   obtain ⟨_,_,hown,_⟩:=HB4.out
   rcases hown.2 with ⟨h0,_⟩ | ⟨g,cap,cur,e1,_,_,e4,_⟩
   ·cases h0
   ·injection e1 with e0 _ e1;exact ⟨g,Option.some.inj e0,by omega⟩
  rw [add_block0] at hc4 hrow4
  have hc4' : ∀ (j : Nat) v,(stCs d4 x)[j]? = some v → W5.cell? ⟨g,pre.length * 24 + j,none⟩ = some v:=fun j v hv => by have h:=hc4 j v hv;rw [show ((⟨g,pre.length * 24,none⟩ : Addr).add j) = ⟨g,pre.length * 24 + j,none⟩ from by unfold Addr.add;split <;> simp_all] at h;exact h
  have hmx : Tryz.prog.follows .mixedOrders = true:=by kernel_rfl
  obtain ⟨S,hSd⟩ : ∃ S : World → Prop,S = fun Wx => Wx.cell? ⟨w4.heap.size + 1,0,none⟩ = some (.int .i64 pre.length) ∧ Wx.cell? ⟨w4.heap.size,0,none⟩ = some (.slice (some ⟨g,0,none⟩) f.length c4) ∧ (loadCellsFrom ⟨W1'.heap.size,0,none⟩ 0 M #[]).run Tryz.prog Wx = .ok cs Wx ∧
   Wx.cell? ⟨W1'.heap.size,1,none⟩ = some (.int .i64 ln) ∧ Wx.cell? ⟨W1'.heap.size,2,none⟩ = some (.int .i64 co) ∧ Wx.cell? ⟨g,pre.length * 24 + 1,none⟩ = some (.int .i64 ln) ∧ Wx.cell? ⟨g,pre.length * 24 + 2,none⟩ = some (.int .i64 co) ∧ Wx.cell? ⟨g,pre.length * 24 + 1 + 1,none⟩ = some (.int .i64 co):=⟨_,rfl⟩
  have s1 : ∀ Wx,S Wx → Wx.cell? ⟨w4.heap.size + 1,0,none⟩ = some (.int .i64 pre.length) ∧ Wx.cell? ⟨w4.heap.size,0,none⟩ = some (.slice (some ⟨g,0,none⟩) f.length c4) ∧ (loadCellsFrom ⟨W1'.heap.size,0,none⟩ 0 M #[]).run Tryz.prog Wx = .ok cs Wx ∧
   Wx.cell? ⟨W1'.heap.size,1,none⟩ = some (.int .i64 ln) ∧ Wx.cell? ⟨W1'.heap.size,2,none⟩ = some (.int .i64 co) ∧ Wx.cell? ⟨g,pre.length * 24 + 1,none⟩ = some (.int .i64 ln) ∧ Wx.cell? ⟨g,pre.length * 24 + 2,none⟩ = some (.int .i64 co) ∧ Wx.cell? ⟨g,pre.length * 24 + 1 + 1,none⟩ = some (.int .i64 co):=fun Wx h => by rw [hSd] at h;exact h
  have hS3 : Hid (∀ W3,Below Wb.heap.size Wb W3 → S W3):=Lib.hid (fun W3 hb3 => by
   obtain ⟨hpb,hzb,hIb,hbb,d,hcs,_⟩:=HWB.out
   have hw5:=HB5.out
   have hw8:=HK.out.2.2.2.2.2.2.2
   have k5 : Wb.heap[w4.heap.size]? = some (.cells #[.slice (some ⟨g,0,none⟩) f.length c4] 22 (0,0)):=(hIb.keep _ (by omega) (by omega)).trans (kept_box hw8 hw5.2.2.1)
   have kc : ∀ q : Addr,q.block < w4.heap.size → Wb.cell? q = W5.cell? q:=fun q hq => (World.cell?_of_block (hIb.keep _ (by have := hw8.size;omega) (by omega))).trans (hw8.cell (by omega))
   have hgl : g < w4.heap.size:=hab4
   have hsz3:=hb3.size
   have hlt4 : w4.heap.size < Wb.heap.size:=(Array.getElem?_eq_some_iff.1 k5).1
   have c1 : W3.cell? ⟨g,pre.length * 24 + 1,none⟩ = some (.int .i64 ln):=((hb3.cell (show g < _ by omega)).trans (kc _ hgl)).trans (hc4' 1 _ (hpos d4).1)
   have c2 : W3.cell? ⟨g,pre.length * 24 + 2,none⟩ = some (.int .i64 co):=((hb3.cell (show g < _ by omega)).trans (kc _ hgl)).trans (hc4' 2 _ (hpos d4).2)
   have hbb3:=kept_box hb3 hbb
   rw [hSd]
   exact ⟨cell_of_block (kept_box hb3 hIb.row) 0 rfl,cell_of_block (kept_box hb3 k5) 0 rfl,load_new hbb3 hszc,cell_of_block hbb3 1 (by rw [hcs];exact (hpos d).1),cell_of_block hbb3 2 (by rw [hcs];exact (hpos d).2),c1,c2,c2⟩)
  have hS0 : S Wb.drew:=hS3.out _ (Below.refl _ _).drew
  have HX:=Lib.hid (And.intro hrow4 (And.intro hab4 hcap))
  clear hSd hc4 hc4' hpos hrow4
  gi_wp2
  refine wpIn_region_S S hmx ?_
  refine tI 0 22 (.int .i64 pre.length) hS0 ?v0 ?_
  case v0 => intro Wx hSx;obtain ⟨g1,g2,g3,g4,g5,g6,g7,g8⟩:=s1 Wx hSx;clear s1 hS0;go_simp
  refine tI 1 23 (.int .i64 pre.length) hS0 ?v1 ?_
  case v1 => intro Wx hSx;obtain ⟨g1,g2,g3,g4,g5,g6,g7,g8⟩:=s1 Wx hSx;clear s1 hS0;go_simp
  refine tI 2 24 (.bool false) hS0 ?v2 ?_
  case v2 => intro Wx hSx;obtain ⟨g1,g2,g3,g4,g5,g6,g7,g8⟩:=s1 Wx hSx;clear s1 hS0;go_simp
  refine tI 3 25 (.bool false) hS0 ?v3 ?_
  case v3 => intro Wx hSx;obtain ⟨g1,g2,g3,g4,g5,g6,g7,g8⟩:=s1 Wx hSx;clear s1 hS0;go_simp
  refine tI 4 26 (.int .i64 pre.length) hS0 ?v4 ?_
  case v4 => intro Wx hSx;obtain ⟨g1,g2,g3,g4,g5,g6,g7,g8⟩:=s1 Wx hSx;clear s1 hS0;go_simp
  refine tI 5 27 (.slice (some ⟨g,0,none⟩) f.length c4) hS0 ?v5 ?_
  case v5 => intro Wx hSx;obtain ⟨g1,g2,g3,g4,g5,g6,g7,g8⟩:=s1 Wx hSx;clear s1 hS0;go_simp
  refine tI 6 28 (.int .i64 f.length) hS0 ?v6 ?_
  case v6 => intro Wx hSx;obtain ⟨g1,g2,g3,g4,g5,g6,g7,g8⟩:=s1 Wx hSx;clear s1 hS0;go_simp
  refine tI 7 29 (.bool false) hS0 ?v7 ?_
  case v7 => intro Wx hSx;obtain ⟨g1,g2,g3,g4,g5,g6,g7,g8⟩:=s1 Wx hSx;clear s1 hS0;go_simp
  refine tI 8 30 (.bool false) hS0 ?v8 ?_
  case v8 => intro Wx hSx;obtain ⟨g1,g2,g3,g4,g5,g6,g7,g8⟩:=s1 Wx hSx;clear s1 hS0;go_simp
  refine tI 9 31 (.bool false) hS0 ?v9 ?_
  case v9 => intro Wx hSx;obtain ⟨g1,g2,g3,g4,g5,g6,g7,g8⟩:=s1 Wx hSx;clear s1 hS0;go_simp
  refine tI 10 32 (.pointer (some ⟨W1'.heap.size,1,none⟩)) hS0 ?v10 ?_
  case v10 => intro Wx hSx;obtain ⟨g1,g2,g3,g4,g5,g6,g7,g8⟩:=s1 Wx hSx;clear s1 hS0;go_simp
  refine tI 11 33 (.agg #[.int .i64 ln,.int .i64 co]) hS0 ?v11 ?_
  case v11 => intro Wx hSx;obtain ⟨g1,g2,g3,g4,g5,g6,g7,g8⟩:=s1 Wx hSx;clear s1 hS0;go_simp
  refine tI 12 34 (.slice (some ⟨g,0,none⟩) f.length c4) hS0 ?v12 ?_
  case v12 => intro Wx hSx;obtain ⟨g1,g2,g3,g4,g5,g6,g7,g8⟩:=s1 Wx hSx;clear s1 hS0;go_simp
  refine tI 13 35 (.int .i64 pre.length) hS0 ?v13 ?_
  case v13 => intro Wx hSx;obtain ⟨g1,g2,g3,g4,g5,g6,g7,g8⟩:=s1 Wx hSx;clear s1 hS0;go_simp
  refine tI 14 36 (.pointer (some ⟨g,pre.length * 24,none⟩)) hS0 ?v14 ?_
  case v14 => intro Wx hSx;obtain ⟨g1,g2,g3,g4,g5,g6,g7,g8⟩:=s1 Wx hSx;clear s1 hS0;go_simp
  refine tI 15 37 (.pointer (some ⟨g,pre.length * 24 + 1,none⟩)) hS0 ?v15 ?_
  case v15 => intro Wx hSx;obtain ⟨g1,g2,g3,g4,g5,g6,g7,g8⟩:=s1 Wx hSx;clear s1 hS0;go_simp
  refine tI 16 38 (.agg #[.int .i64 ln,.int .i64 co]) hS0 ?v16 ?_
  case v16 => intro Wx hSx;obtain ⟨g1,g2,g3,g4,g5,g6,g7,g8⟩:=s1 Wx hSx;clear s1 hS0;go_simp
  refine tI 17 39 (.bool false) hS0 ?v17 ?_
  case v17 => intro Wx hSx;obtain ⟨g1,g2,g3,g4,g5,g6,g7,g8⟩:=s1 Wx hSx;clear s1 hS0;go_simp
  refine tI 18 40 (.bool false) hS0 ?v18 ?_
  case v18 => intro Wx hSx;obtain ⟨g1,g2,g3,g4,g5,g6,g7,g8⟩:=s1 Wx hSx;clear s1 hS0;go_simp
  refine tI 19 41 (.bool false) hS0 ?v19 ?_
  case v19 => intro Wx hSx;obtain ⟨g1,g2,g3,g4,g5,g6,g7,g8⟩:=s1 Wx hSx;clear s1 hS0;go_simp
  refine tI 20 42 (.agg cs) hS0 ?v20 ?_
  case v20 => intro Wx hSx;obtain ⟨g1,g2,g3,g4,g5,g6,g7,g8⟩:=s1 Wx hSx;clear s1 hS0;go_simp
  refine tI 22 44 (.slice (some ⟨g,0,none⟩) f.length c4) hS0 ?v22 ?_
  case v22 => intro Wx hSx;obtain ⟨g1,g2,g3,g4,g5,g6,g7,g8⟩:=s1 Wx hSx;clear s1 hS0;go_simp
  refine tI 23 45 (.int .i64 pre.length) hS0 ?v23 ?_
  case v23 => intro Wx hSx;obtain ⟨g1,g2,g3,g4,g5,g6,g7,g8⟩:=s1 Wx hSx;clear s1 hS0;go_simp
  refine tI 24 46 (.int .i64 pre.length) hS0 ?v24 ?_
  case v24 => intro Wx hSx;obtain ⟨g1,g2,g3,g4,g5,g6,g7,g8⟩:=s1 Wx hSx;clear s1 hS0;go_simp
  refine tI 25 47 (.int .i64 (pre.length + 1)) hS0 ?v25 ?_
  case v25 => intro Wx hSx;obtain ⟨g1,g2,g3,g4,g5,g6,g7,g8⟩:=s1 Wx hSx;clear s1 hS0;go_simp;rw [IntKind.wrap_i64];omega
  refine tI 26 48 (.slice (some ⟨g,pre.length * 24,none⟩) 1 (c4 - pre.length)) hS0 ?v26 ?_
  case v26 => intro Wx hSx;obtain ⟨g1,g2,g3,g4,g5,g6,g7,g8⟩:=s1 Wx hSx;clear s1 hS0;go_simp;rw [if_pos (by omega),if_neg (by omega)]
  have hR0 : Wb.drew.heap.size = Wb.heap.size:=rfl
  obtain ⟨WE,hWE⟩ : ∃ WE,WE = Wb.drew.alloc (.cells (flatC [cs]).toArray 40):=⟨_,rfl⟩
  have hbE : Below Wb.heap.size Wb WE:=by rw [hWE];exact (Below.refl _ _).drew.chain (below_alloc _ _)
  have hEq : Hid (Calls Tryz.prog 9 #[.slice (some ⟨Wb.heap.size,0,none⟩) 1 1,.slice (some ⟨g,pre.length * 24,none⟩) 1 (c4 - pre.length)] WE fun e w' => e = .returned (.bool true) ∧ Below WE.heap.size WE w'):=Lib.hid (by
   have hnew:=heap_of_alloc Wb.drew (.cells (flatC [cs]).toArray 40)
   rw [← hWE] at hnew
   refine eq_one x ⟨Wb.heap.size,0,none⟩ _ 1 _ WE (st_fresh HWB.out.2.2.2.2 hbE (Array.getElem?_eq_some_iff.1 hnew).1 (fun j v hv => cell_of_block hnew j (by unfold flatC;simpa using hv))) (HX.out.1.keep (fun q hq => ?_) ?_)
   ·have hw8:=HK.out.2.2.2.2.2.2.2
    have h5:=HB5.out.2.1
    have h8:=hw8.size
    have hIb:=HWB.out.2.2.1
    have h9:=hIb.size
    exact (hbE.cell (by omega)).trans ((World.cell?_of_block (hIb.keep _ (by omega) (by omega))).trans (hw8.cell (by omega)))
   ·have hw8:=HK.out.2.2.2.2.2.2.2.size
    have h5:=HB5.out.2.1
    have h9:=HWB.out.2.2.1.size
    have := hbE.size
    omega)
  clear hS0 s1
  refine AnyS.one 21 (by kernel_rfl) rfl (by kernel_rfl) (fun K hK => ?_)
  refine operIn_rows 1 _ rfl [cs] rfl (by decide) (by decide) (fun c hc => by rw [List.mem_singleton.1 hc];exact HR.out.2.2.2.2.2.2.2.2.2.2) (by kernel_rfl) ?_
  rw [← hWE]
  refine hK _ _ (hS3.out _ hbE) ?_
  have HBE:=Lib.hid hbE
  clear hK K hWE hbE hR0
  refine AnyS.one 27 (by kernel_rfl) rfl (by kernel_rfl) (fun K hK => ?_)
  go_simp
  refine (CallsIn.inRound (W8.heap.size + 1) (callsIn_wide.2 hEq.out)).mono ?_
  rintro e W3 ⟨rfl,hb3⟩
  have HB3f:=Lib.hid (HBE.out.chain hb3)
  have hS4:=hS3.out W3 HB3f.out
  refine hK _ _ hS4 ?_
  clear hK K hb3
  refine tI 28 50 (.bool false) hS4 ?v28 ?_
  case v28 => intro Wx hSx;go_simp
  refine tI 29 51 (.bool false) hS4 ?v29 ?_
  case v29 => intro Wx hSx;go_simp
  refine AnyS.done (by kernel_rfl) ?_ _
  have hrow3:=kept_box HB3f.out HWB.out.2.2.1.row
  have cN:=cell_of_block hrow3 0 (v:=.int .i64 pre.length) rfl
  have fN:=frozen_at hrow3 0
  have hlt3:=(Array.getElem?_eq_some_iff.1 hrow3).1
  clear hrow3 hS3 hS4
  gi_wp2
  have hend:=wz_end (p:=(pre.length,cs)) hN8 HWB.out.2.2.1 HB3f.out HR.out.2.2.2.2.2.2.1 (i:=(pre.length : Int) + 1) rfl
  refine ⟨fun b hb hk => hend.1 b hb ?_,hend.2.1,hend.2.2⟩
  have h5:=HB5.out.2.1
  have h58:=HK.out.2.2.2.2.2.2.2.size
  rcases hk with hk | ⟨hk,_⟩
  ·have := HWB.out.2.2.1.off b hk;omega
  ·have := HB5.out.2.2.2.2.2.2.2;omega
 case done =>
  intro Pv xs W9 hS hI hD hLp hlt hdef
  have hxl : xs.length = f.length:=(show xs.length = (ps.map (·.1)).length from hS).trans hlen
  have h58:=HK.out.2.2.2.2.2.2.2.size
  have h5:=HB5.out.2.1
  have h24:=HB5.out.2.2.2.2.2.2.2
  have hb9 : Below w.heap.size w W9:=wl_below (HB5.out.1.chain HK.out.2.2.2.2.2.2.2) (Nat.le_refl _) (by omega) hI
  have HN:=Lib.hid (And.intro hI (And.intro hlt (And.intro hdef (And.intro hb9 hxl))))
  clear hS hI hD hLp hlt hdef hI0 hb9 hxl
  obtain ⟨W9',hW9⟩ : ∃ W9',W9' = W9.alloc (.cells #[.int .i64 0] 3):=⟨_,rfl⟩
  have HB9 : Hid (Below w.heap.size w W9'):=Lib.hid (by rw [hW9];exact HN.out.2.2.2.1.chain (below_alloc W9 _))
  gi_wp2_with (first
   | (gi_at_call 8;rw [← hW9];refine (callsIn_wide.2 (HW.out W9' HB9.out)).mono ?_;rintro e W10 ⟨b',A3,c3,w0',ps',rfl,k1,k2,k3,k4,k5,k6,k7,k8⟩;have HK2:=Lib.hid (And.intro k1 (And.intro k2 (And.intro k3 (And.intro k4 (And.intro k5 (And.intro k6 (And.intro k7 k8)))))));clear k1 k2 k3 k4 k5 k6 k7 k8))
  have z9 : W9'.heap.size = W9.heap.size + 1:=by rw [hW9,size_of_alloc]
  have hp9 : W9'.heap[W9.heap.size]? = some (.cells #[.int .i64 0] 3 (0,0)):=by rw [hW9];exact heap_of_alloc W9 _
  have hlen2 : (ps'.map (·.1)).length = f.length:=by have h:=congrArg List.length HK2.out.2.2.2.2.2.1;simpa using h
  have hN2 : W9.heap.size < W10.heap.size:=by have := HK2.out.2.2.2.2.2.2.2.size;omega
  have hI2 : WlSt W9.heap.size y.toNat W10 (fun _ => False) [] W10:=⟨kept_box HK2.out.2.2.2.2.2.2.2 hp9,Nat.zero_le _,fun _ h => h.elim,Nat.le_refl _,fun _ _ _ => rfl,rfl,rfl,rfl⟩
  have hst10 : W10.heap[w.heap.size]? = some (.cells #[.int .u8 y] 5 (0,0)):=by
   refine kept_box HK2.out.2.2.2.2.2.2.2 ?_
   rw [hW9]
   exact heap_keep ((HN.out.1.keep _ (by omega) (by omega)).trans (kept_box HK.out.2.2.2.2.2.2.2 HB5.out.2.2.2.2.2.1))
  have HS10:=Lib.hid (And.intro z9 (And.intro hst10 (And.intro hlen2 hN2)))
  have HB99 : Hid (Below W9.heap.size W9 W9'):=Lib.hid (by rw [hW9];exact below_alloc W9 _)
  clear hW9 hp9 z9 hst10
  refine wpIn_rangeFunc_pv (F:=Fence.wide) rfl (by omega) (gf:=28) (lb:=#[.pointer (some ⟨b',0,none⟩)]) rfl trivial (enters_of Tryz.func28 (by kernel_rfl) rfl)
   (walk_seq Fence.wide (20 - 1) (by omega) rfl trivial trivial trivial trivial trivial rfl b' l.length c3 A3 (ps'.map (·.1)) _ (Yielded f) W10 HK2.out.1 HK2.out.2.2.1 HK2.out.2.2.2.2.1 (fun b hb => hb.2) HH.out.2.2.2.1 (by rw [HS10.out.2.2.1];omega)
     (fun m k cs W hk hQ => callsIn_wide.2 (walk_copy (ws_fl HH.out.2.1 HH.out.2.2.2.2.1) HK2.out.2.2.2.1 HK2.out.2.2.2.2.2.1 HK2.out.2.2.2.2.2.2.1 k cs W hk hQ)))
   (Below.refl _ _) (fun _ => rfl) (WlSt W9.heap.size y.toNat W10) (WlEnd W9.heap.size y.toNat W10 (.exit 2)) (WlSt.abid hN2) (fun c => WlEnd.abid hN2 c) hI2 ?round2 (fun b hb => hb.2) (fun _ _ _ h _ => h) (fun _ _ _ h _ => h) ?done2 ?stop2
  case round2 =>
   rintro Pv2 pre2 ⟨k2,cs2⟩ W11 r11 hlt hge hD hLp hrl hI ⟨hk,hkl,hyl⟩
   dsimp only at hk hyl
   clear hyl
   rw [HS10.out.2.2.1] at hkl
   have HR2:=Lib.hid (And.intro hI (And.intro hlt (And.intro hge (And.intro hD (And.intro hLp (And.intro hrl hkl))))))
   clear hlt hge hD hLp hrl hkl hI hk
   gi_wp2
   refine ⟨Part.refl _ _,fun r2 => ?_⟩
   obtain ⟨Wb,hWb⟩ : ∃ Wb,Wb = W11.putObj (W10.heap.size + 1) (.loop r2):=⟨_,rfl⟩
   have hpb : Part Pv2 W11 Wb:=by rw [hWb];exact Part.putObj _ _ HR2.out.2.2.2.2.1
   have hIb : WlSt W9.heap.size y.toNat W10 Pv2 pre2 Wb:=WlSt.abid HS10.out.2.2.2 Pv2 Pv2 pre2 W11 Wb HR2.out.1 hpb (fun b hb => Or.inl hb) (fun b hb => Nat.lt_of_lt_of_le (HR2.out.2.1 b hb) hpb.size)
   have hb9s:=HN.out.2.2.2.1.size
   have hs9 : w.heap.size < W9.heap.size:=by have := HN.out.1.size;omega
   have cK:=cell_of_block hIb.row 0 (v:=.int .i64 pre2.length) rfl
   have fK:=frozen_at hIb.row 0
   have cS:=cell_of_block ((hIb.keep w.heap.size (by have := HS10.out.2.2.2;omega) (by omega)).trans HS10.out.2.1) 0 (v:=.int .u8 y) rfl
   have hltK:=(Array.getElem?_eq_some_iff.1 hIb.row).1
   have HIB:=Lib.hid (And.intro hIb hpb)
   rw [← hWb]
   clear hWb hpb hIb hb9s
   gi_wp2
   ·rename_i hyk
    have hy : (pre2.length : Int) = y:=by simpa using hyk
    have hyn : y.toNat = pre2.length:=by omega
    have hIb:=HIB.out.1
    exact ⟨fun _ _ _ => rfl,Nat.le_refl _,rfl,by rw [hyn];exact hIb.row,by rw [hyn];simp,hIb.off,hIb.size,hIb.keep,hIb.os,hIb.tape,hIb.output⟩
   ·rename_i hyk
    have hy : ¬ (pre2.length : Int) = y:=by simpa using hyk
    have hle:=HIB.out.1.le
    have hp2:=HR2.out.2.2.2.2.2.2
    have hend:=wz_end (p:=(k2,cs2)) HS10.out.2.2.2 HIB.out.1 (Below.refl _ _) (by omega) (i:=wrap64 ((pre2.length : Int) + 1)) (by unfold wrap64;omega)
    refine ⟨fun b hb hk => hend.1 b hb ?_,hend.2.1,hend.2.2⟩
    have h9:=HS10.out.1
    have h10:=HS10.out.2.2.2
    rcases hk with hk | ⟨hk,_⟩
    ·have := HIB.out.1.off b hk;omega
    ·omega
  case done2 =>
   intro Pv2 xs2 W12 hS hI hD2 hLp2 hlt2 hdef2
   have hx2 : xs2.length = f.length:=(show xs2.length = (ps'.map (·.1)).length from hS).trans HS10.out.2.2.1
   obtain ⟨K,hK⟩ : ∃ K : Nat,K = xs2.length:=⟨_,rfl⟩
   have hKm : min (f.length : Int) y = (K : Int):=by have := hI.le;omega
   have HT:=Lib.hid (tw_make (K:=K) HB5.out.2.2.1 HB5.out.2.1 HB5.out.2.2.2.2.2.1 HB5.out.2.2.2.2.2.2.1 HB5.out.2.2.2.2.2.2.2 HK.out.2.2.2.2.2.2.2 HN.out.1 HN.out.2.2.1 HN.out.2.2.2.2 HN.out.2.2.2.1 HS10.out.1 HB99.out HK2.out.2.2.2.2.2.2.2 hI.keep (Array.getElem?_eq_some_iff.1 hdef2).1 hI.os hI.tape hI.output (by rw [hK];exact hI.row) hdef2)
   clear hS hI hD2 hLp2 hlt2 hdef2 hx2 hK hI2 hN2 hlen2
   have hmx : Tryz.prog.follows .mixedOrders = true:=by kernel_rfl
   gi_wp2
   obtain ⟨W13,hW13⟩ : ∃ W13,W13 = (W12.alloc (.cells #[.string ⟨#[]⟩,.int .i64 0,.int .i64 0,.slice none 0 0,.slice none 0 0,.string ⟨#[]⟩,.string ⟨#[]⟩,.bool false,.slice none 0 0,.slice none 0 0,.slice none 0 0,.slice A n c,.string ⟨#[]⟩,.int .i64 0,.int .i64 0,.slice none 0 0,.slice none 0 0,.string ⟨#[]⟩,.string ⟨#[]⟩,.bool false,.slice none 0 0,.slice none 0 0,.slice none 0 0,.slice none 0 0,.string ⟨#[]⟩,.int .i64 0,.int .i64 0,.slice none 0 0,.slice none 0 0,.string ⟨#[]⟩,.string ⟨#[]⟩,.bool false,.slice none 0 0,.slice none 0 0,.slice none 0 0,.slice A n c] 46)).alloc (.cells #[.slice none 0 0,.slice none 0 0,.slice none 0 0,.slice none 0 0,.slice none 0 0,.slice (some ⟨W12.heap.size,0,none⟩) 3 3] 53):=⟨_,rfl⟩
   rw [← hW13]
   have hb13 : Below W12.heap.size W12 W13:=by rw [hW13];exact (below_alloc W12 _).chain (below_alloc _ _)
   have hr13 : W13.heap[W12.heap.size]? = some (.cells #[.string ⟨#[]⟩,.int .i64 0,.int .i64 0,.slice none 0 0,.slice none 0 0,.string ⟨#[]⟩,.string ⟨#[]⟩,.bool false,.slice none 0 0,.slice none 0 0,.slice none 0 0,.slice A n c,.string ⟨#[]⟩,.int .i64 0,.int .i64 0,.slice none 0 0,.slice none 0 0,.string ⟨#[]⟩,.string ⟨#[]⟩,.bool false,.slice none 0 0,.slice none 0 0,.slice none 0 0,.slice none 0 0,.string ⟨#[]⟩,.int .i64 0,.int .i64 0,.slice none 0 0,.slice none 0 0,.string ⟨#[]⟩,.string ⟨#[]⟩,.bool false,.slice none 0 0,.slice none 0 0,.slice none 0 0,.slice A n c] 46 (0,0)):=by rw [hW13];exact heap_keep (heap_of_alloc W12 _)
   have hp13 : W13.heap[W12.heap.size + 1]? = some (.cells #[.slice none 0 0,.slice none 0 0,.slice none 0 0,.slice none 0 0,.slice none 0 0,.slice (some ⟨W12.heap.size,0,none⟩) 3 3] 53 (0,0)):=by
    rw [hW13]
    have h:=heap_of_alloc (W12.alloc (.cells #[.string ⟨#[]⟩,.int .i64 0,.int .i64 0,.slice none 0 0,.slice none 0 0,.string ⟨#[]⟩,.string ⟨#[]⟩,.bool false,.slice none 0 0,.slice none 0 0,.slice none 0 0,.slice A n c,.string ⟨#[]⟩,.int .i64 0,.int .i64 0,.slice none 0 0,.slice none 0 0,.string ⟨#[]⟩,.string ⟨#[]⟩,.bool false,.slice none 0 0,.slice none 0 0,.slice none 0 0,.slice none 0 0,.string ⟨#[]⟩,.int .i64 0,.int .i64 0,.slice none 0 0,.slice none 0 0,.string ⟨#[]⟩,.string ⟨#[]⟩,.bool false,.slice none 0 0,.slice none 0 0,.slice none 0 0,.slice A n c] 46)) (.cells #[.slice none 0 0,.slice none 0 0,.slice none 0 0,.slice none 0 0,.slice none 0 0,.slice (some ⟨W12.heap.size,0,none⟩) 3 3] 53)
    simp only [size_of_alloc] at h
    exact h
   have HSz : Hid (∀ W,Below W13.heap.size W13 W → Calls Tryz.prog 10 #[.agg #[.slice none 0 0,.slice none 0 0,.slice none 0 0,.slice none 0 0,.slice none 0 0,.slice (some ⟨W12.heap.size,0,none⟩) 3 3]] W fun e w' => e = .returned (.int .i64 (2 * f.length : Nat)) ∧ Below W.heap.size W w'):=Lib.hid (fun W hb => by
    have hrow:=kept_box hb hr13
    have hsr : StRow W W.heap.size l A:=HH.out.2.2.1.keep (fun q hq => ((HT.out.below.chain hb13).chain hb).cell hq) ((HT.out.below.chain hb13).chain hb).size
    rw [HH.out.1] at hrow
    exact three_size HH.out.2.1 hfl hsr HH.out.2.2.2.1 hrow)
   have HT13:=Lib.hid (HT.out.on hb13)
   obtain ⟨S,hSd⟩ : ∃ S : World → Prop,S = fun Wx => Wx.cell? ⟨w4.heap.size + 1,0,none⟩ = some (.int .i64 f.length) ∧ Wx.cell? ⟨w4.heap.size,0,none⟩ = some (.slice A4 f.length c4) ∧ Wx.cell? ⟨W9.heap.size,0,none⟩ = some (.int .i64 K) ∧ Wx.cell? ⟨w.heap.size,0,none⟩ = some (.int .u8 y) ∧ Wx.cell? ⟨W12.heap.size + 1,0,none⟩ = some (.slice none 0 0) ∧ Wx.cell? ⟨W12.heap.size + 1,1,none⟩ = some (.slice none 0 0) ∧ Wx.cell? ⟨W12.heap.size + 1,2,none⟩ = some (.slice none 0 0) ∧ Wx.cell? ⟨W12.heap.size + 1,3,none⟩ = some (.slice none 0 0) ∧ Wx.cell? ⟨W12.heap.size + 1,4,none⟩ = some (.slice none 0 0) ∧ Wx.cell? ⟨W12.heap.size + 1,5,none⟩ = some (.slice (some ⟨W12.heap.size,0,none⟩) 3 3):=⟨_,rfl⟩
   have s1 : ∀ Wx,S Wx → Wx.cell? ⟨w4.heap.size + 1,0,none⟩ = some (.int .i64 f.length) ∧ Wx.cell? ⟨w4.heap.size,0,none⟩ = some (.slice A4 f.length c4) ∧ Wx.cell? ⟨W9.heap.size,0,none⟩ = some (.int .i64 K) ∧ Wx.cell? ⟨w.heap.size,0,none⟩ = some (.int .u8 y) ∧ Wx.cell? ⟨W12.heap.size + 1,0,none⟩ = some (.slice none 0 0) ∧ Wx.cell? ⟨W12.heap.size + 1,1,none⟩ = some (.slice none 0 0) ∧ Wx.cell? ⟨W12.heap.size + 1,2,none⟩ = some (.slice none 0 0) ∧ Wx.cell? ⟨W12.heap.size + 1,3,none⟩ = some (.slice none 0 0) ∧ Wx.cell? ⟨W12.heap.size + 1,4,none⟩ = some (.slice none 0 0) ∧ Wx.cell? ⟨W12.heap.size + 1,5,none⟩ = some (.slice (some ⟨W12.heap.size,0,none⟩) 3 3):=fun Wx h => by rw [hSd] at h;exact h
   have hSk : ∀ W3,(∀ b,b < W13.heap.size → b ≠ w.heap.size + 1 → W3.heap[b]? = W13.heap[b]?) → S W3:=fun W3 hk => by
    have h13:=HT13.out
    have hz:=(Array.getElem?_eq_some_iff.1 hp13).1
    have k5:=(hk _ (Array.getElem?_eq_some_iff.1 h13.t5).1 (by have := h13.z4;omega)).trans h13.t5
    have k6:=(hk _ (Array.getElem?_eq_some_iff.1 h13.t6).1 (by have := h13.z4;omega)).trans h13.t6
    have k9:=(hk _ (Array.getElem?_eq_some_iff.1 h13.t9).1 (by have := h13.z4;have := h13.z8;have := h13.z9;omega)).trans h13.t9
    have k3:=(hk _ (Array.getElem?_eq_some_iff.1 h13.t3).1 (by omega)).trans h13.t3
    have kp:=(hk _ hz (by have := HT.out.z4;have := HT.out.z8;have := HT.out.z9;have := HT.out.z10;have := HT.out.z12;omega)).trans hp13
    rw [hSd]
    exact ⟨cell_of_block k6 0 rfl,cell_of_block k5 0 rfl,cell_of_block k9 0 rfl,cell_of_block k3 0 rfl,cell_of_block kp 0 rfl,cell_of_block kp 1 rfl,cell_of_block kp 2 rfl,cell_of_block kp 3 rfl,cell_of_block kp 4 rfl,cell_of_block kp 5 rfl⟩
   have HSb : Hid (∀ W3,Below W13.heap.size W13 W3 → S W3):=Lib.hid (fun W3 hb => hSk W3 (fun b hb' _ => hb.block b hb'))
   have HSs : Hid (∀ W3 v,Below W13.heap.size W13 W3 → S (W3.setCell ⟨w.heap.size + 1,0,none⟩ v)):=Lib.hid (fun W3 v hb => hSk _ (fun b hb' hne => (Below.heap_setCell W3 ⟨w.heap.size + 1,0,none⟩ v b hne).trans (hb.block b hb')))
   have hS0 : S W13.drew:=HSb.out _ (Below.refl _ _).drew
   clear hSd hSk hW13 hr13 hp13
   refine wpIn_mono (Q:=Exit.then ?K (fun _ _ _ => False)) ?g ?hm
   case hm => intro e a w h;cases e with
    | normal => exact h
    | _ => exact h.elim
   refine wpIn_region_S S hmx ?_
   refine tI 0 71 (.int .i64 f.length) hS0 ?a0 ?_
   case a0 => intro Wx hSx;obtain ⟨g1,g2,g3,g4,g5,g6,g7,g8,g9,g10⟩:=s1 Wx hSx;clear s1 hS0;go_simp
   refine tI 1 72 (.slice A4 f.length c4) hS0 ?a1 ?_
   case a1 => intro Wx hSx;obtain ⟨g1,g2,g3,g4,g5,g6,g7,g8,g9,g10⟩:=s1 Wx hSx;clear s1 hS0;go_simp
   refine tI 2 73 (.int .i64 f.length) hS0 ?a2 ?_
   case a2 => intro Wx hSx;obtain ⟨g1,g2,g3,g4,g5,g6,g7,g8,g9,g10⟩:=s1 Wx hSx;clear s1 hS0;go_simp
   refine tI 3 74 (.bool true) hS0 ?a3 ?_
   case a3 => intro Wx hSx;obtain ⟨g1,g2,g3,g4,g5,g6,g7,g8,g9,g10⟩:=s1 Wx hSx;clear s1 hS0;go_simp
   refine tI 4 75 (.bool true) hS0 ?a4 ?_
   case a4 => intro Wx hSx;obtain ⟨g1,g2,g3,g4,g5,g6,g7,g8,g9,g10⟩:=s1 Wx hSx;clear s1 hS0;go_simp
   refine tI 5 76 (.int .i64 K) hS0 ?a5 ?_
   case a5 => intro Wx hSx;obtain ⟨g1,g2,g3,g4,g5,g6,g7,g8,g9,g10⟩:=s1 Wx hSx;clear s1 hS0;go_simp
   refine tI 6 77 (.int .i64 f.length) hS0 ?a6 ?_
   case a6 => intro Wx hSx;obtain ⟨g1,g2,g3,g4,g5,g6,g7,g8,g9,g10⟩:=s1 Wx hSx;clear s1 hS0;go_simp
   refine tI 7 78 (.int .u8 y) hS0 ?a7 ?_
   case a7 => intro Wx hSx;obtain ⟨g1,g2,g3,g4,g5,g6,g7,g8,g9,g10⟩:=s1 Wx hSx;clear s1 hS0;go_simp
   refine tI 8 79 (.int .i64 y) hS0 ?a8 ?_
   case a8 => intro Wx hSx;obtain ⟨g1,g2,g3,g4,g5,g6,g7,g8,g9,g10⟩:=s1 Wx hSx;clear s1 hS0;go_simp;first | done | rfl | (rw [IntKind.wrap_i64];omega)
   refine tI 9 80 (.int .i64 K) hS0 ?a9 ?_
   case a9 => intro Wx hSx;obtain ⟨g1,g2,g3,g4,g5,g6,g7,g8,g9,g10⟩:=s1 Wx hSx;clear s1 hS0;go_simp;first | done | (rw [hKm]) | (simp [hKm])
   refine tI 10 81 (.bool true) hS0 ?a10 ?_
   case a10 => intro Wx hSx;obtain ⟨g1,g2,g3,g4,g5,g6,g7,g8,g9,g10⟩:=s1 Wx hSx;clear s1 hS0;go_simp
   refine tI 11 82 (.bool true) hS0 ?a11 ?_
   case a11 => intro Wx hSx;obtain ⟨g1,g2,g3,g4,g5,g6,g7,g8,g9,g10⟩:=s1 Wx hSx;clear s1 hS0;go_simp
   refine tI 12 83 (.bool true) hS0 ?a12 ?_
   case a12 => intro Wx hSx;obtain ⟨g1,g2,g3,g4,g5,g6,g7,g8,g9,g10⟩:=s1 Wx hSx;clear s1 hS0;go_simp
   refine tI 13 84 (.agg #[.slice none 0 0,.slice none 0 0,.slice none 0 0,.slice none 0 0,.slice none 0 0,.slice (some ⟨W12.heap.size,0,none⟩) 3 3]) hS0 ?a13 ?_
   case a13 => intro Wx hSx;obtain ⟨g1,g2,g3,g4,g5,g6,g7,g8,g9,g10⟩:=s1 Wx hSx;clear s1 hS0;go_simp
   refine tI 15 86 (.int .i64 f.length) hS0 ?a15 ?_
   case a15 => intro Wx hSx;obtain ⟨g1,g2,g3,g4,g5,g6,g7,g8,g9,g10⟩:=s1 Wx hSx;clear s1 hS0;go_simp
   refine tI 16 87 (.int .i64 (2 * f.length : Nat)) hS0 ?a16 ?_
   case a16 => intro Wx hSx;obtain ⟨g1,g2,g3,g4,g5,g6,g7,g8,g9,g10⟩:=s1 Wx hSx;clear s1 hS0;go_simp;first | done | (rw [IntKind.wrap_i64];omega) | (simp;omega)
   refine AnyS.one 14 (by kernel_rfl) rfl (by kernel_rfl) (fun Kk hKk => ?_)
   go_simp
   refine (callsIn_wide.2 (HSz.out W13.drew (Below.refl _ _).drew)).mono ?_
   rintro e W14 ⟨rfl,hb14⟩
   have HB14:=Lib.hid ((Below.refl W13.heap.size W13).drew.chain hb14)
   have hS4:=HSb.out W14 HB14.out
   refine hKk _ _ hS4 ?_
   clear hKk Kk hb14 hS0
   refine tI 17 88 (.bool true) hS4 ?a17 ?_
   case a17 => intro Wx hSx;obtain ⟨g1,g2,g3,g4,g5,g6,g7,g8,g9,g10⟩:=s1 Wx hSx;clear s1 hS4;go_simp
   refine tI 18 89 (.bool true) hS4 ?a18 ?_
   case a18 => intro Wx hSx;obtain ⟨g1,g2,g3,g4,g5,g6,g7,g8,g9,g10⟩:=s1 Wx hSx;clear s1 hS4;go_simp
   have HT14:=Lib.hid (HT13.out.on HB14.out)
   have c4':=cell_of_block HT14.out.t4 0 (v:=.bool false) rfl
   have f4':=frozen_at HT14.out.t4 0
   refine AnyS.one 19 (by kernel_rfl) rfl (by kernel_rfl) (fun Kk hKk => ?_)
   go_simp
   refine hKk _ _ (HSs.out W14 _ HB14.out) ?_
   clear hKk Kk
   refine AnyS.done (by kernel_rfl) ?_ _
   clear s1 hS4
   gi_wp2
   refine leaves_marks (fun W => W.heap[w.heap.size + 1]? = some (.cells #[.bool true] 4 (0,0)) ∧ Below w.heap.size w W) (w.heap.size + 2) (fun W D hD hK => ?_) (fun W hK => ?_) [W10.heap.size,W8.heap.size] _ ?_ ?_ ?_
   ·exact ⟨(World.putObj_heap_other (by omega)).trans hK.1,hK.2.os,hK.2.tape,hK.2.output,by simpa using hK.2.size,fun b hb => (World.putObj_heap_other (by omega)).trans (hK.2.block b hb)⟩
   ·exact ⟨_,results_bool rfl _ _ ⟨w.heap.size + 1,0,none⟩ true rfl (cell_of_block hK.1 0 rfl),rfl,hK.2⟩
   ·have h1:=HT.out.z9
    have h2:=HT.out.z10
    simp;omega
   ·intro D hD
    have h14:=HT14.out
    rcases List.mem_cons.1 hD with rfl | hD
    ·exact ⟨by have := h14.z4;have := h14.z8;have := h14.z9;have := h14.z10;omega,(Below.heap_setCell W14 ⟨w.heap.size + 1,0,none⟩ _ _ (by have := h14.z4;have := h14.z8;have := h14.z9;have := h14.z10;show _ ≠ w.heap.size + 1;omega)).trans h14.d10⟩
    ·obtain rfl:=List.mem_singleton.1 hD
     exact ⟨by have := h14.z4;have := h14.z8;omega,(Below.heap_setCell W14 ⟨w.heap.size + 1,0,none⟩ _ _ (by have := h14.z4;have := h14.z8;show _ ≠ w.heap.size + 1;omega)).trans h14.d8⟩
   ·exact ⟨heap_setCell_at HT14.out.t4 0 (.bool true),HT14.out.below.setCell (p:=⟨w.heap.size + 1,0,none⟩) (Nat.le_succ _) _⟩
  case stop2 =>
   rintro c2' Pv2 xs2 W12 hS hI hD2 hLp2 hlt2 hdef2
   have hx2 : xs2.length ≤ f.length:=by have h : xs2.length ≤ (ps'.map (·.1)).length:=hS;rw [HS10.out.2.2.1] at h;exact h
   obtain ⟨K,hK⟩ : ∃ K : Nat,K = y.toNat:=⟨_,rfl⟩
   have hKm : min (f.length : Int) y = (K : Int):=by have := hI.le;omega
   have hcode:=hI.code
   have HT:=Lib.hid (tw_make (K:=K) HB5.out.2.2.1 HB5.out.2.1 HB5.out.2.2.2.2.2.1 HB5.out.2.2.2.2.2.2.1 HB5.out.2.2.2.2.2.2.2 HK.out.2.2.2.2.2.2.2 HN.out.1 HN.out.2.2.1 HN.out.2.2.2.2 HN.out.2.2.2.1 HS10.out.1 HB99.out HK2.out.2.2.2.2.2.2.2 hI.keep (Array.getElem?_eq_some_iff.1 hdef2).1 hI.os hI.tape hI.output (by rw [hK];exact hI.row) hdef2)
   clear hS hI hD2 hLp2 hlt2 hdef2 hx2 hK hI2 hN2 hlen2
   subst hcode
   have hmx : Tryz.prog.follows .mixedOrders = true:=by kernel_rfl
   gi_wp2
   obtain ⟨W13,hW13⟩ : ∃ W13,W13 = (W12.alloc (.cells #[.string ⟨#[]⟩,.int .i64 0,.int .i64 0,.slice none 0 0,.slice none 0 0,.string ⟨#[]⟩,.string ⟨#[]⟩,.bool false,.slice none 0 0,.slice none 0 0,.slice none 0 0,.slice A n c,.string ⟨#[]⟩,.int .i64 0,.int .i64 0,.slice none 0 0,.slice none 0 0,.string ⟨#[]⟩,.string ⟨#[]⟩,.bool false,.slice none 0 0,.slice none 0 0,.slice none 0 0,.slice none 0 0,.string ⟨#[]⟩,.int .i64 0,.int .i64 0,.slice none 0 0,.slice none 0 0,.string ⟨#[]⟩,.string ⟨#[]⟩,.bool false,.slice none 0 0,.slice none 0 0,.slice none 0 0,.slice A n c] 46)).alloc (.cells #[.slice none 0 0,.slice none 0 0,.slice none 0 0,.slice none 0 0,.slice none 0 0,.slice (some ⟨W12.heap.size,0,none⟩) 3 3] 53):=⟨_,rfl⟩
   rw [← hW13]
   have hb13 : Below W12.heap.size W12 W13:=by rw [hW13];exact (below_alloc W12 _).chain (below_alloc _ _)
   have hr13 : W13.heap[W12.heap.size]? = some (.cells #[.string ⟨#[]⟩,.int .i64 0,.int .i64 0,.slice none 0 0,.slice none 0 0,.string ⟨#[]⟩,.string ⟨#[]⟩,.bool false,.slice none 0 0,.slice none 0 0,.slice none 0 0,.slice A n c,.string ⟨#[]⟩,.int .i64 0,.int .i64 0,.slice none 0 0,.slice none 0 0,.string ⟨#[]⟩,.string ⟨#[]⟩,.bool false,.slice none 0 0,.slice none 0 0,.slice none 0 0,.slice none 0 0,.string ⟨#[]⟩,.int .i64 0,.int .i64 0,.slice none 0 0,.slice none 0 0,.string ⟨#[]⟩,.string ⟨#[]⟩,.bool false,.slice none 0 0,.slice none 0 0,.slice none 0 0,.slice A n c] 46 (0,0)):=by rw [hW13];exact heap_keep (heap_of_alloc W12 _)
   have hp13 : W13.heap[W12.heap.size + 1]? = some (.cells #[.slice none 0 0,.slice none 0 0,.slice none 0 0,.slice none 0 0,.slice none 0 0,.slice (some ⟨W12.heap.size,0,none⟩) 3 3] 53 (0,0)):=by
    rw [hW13]
    have h:=heap_of_alloc (W12.alloc (.cells #[.string ⟨#[]⟩,.int .i64 0,.int .i64 0,.slice none 0 0,.slice none 0 0,.string ⟨#[]⟩,.string ⟨#[]⟩,.bool false,.slice none 0 0,.slice none 0 0,.slice none 0 0,.slice A n c,.string ⟨#[]⟩,.int .i64 0,.int .i64 0,.slice none 0 0,.slice none 0 0,.string ⟨#[]⟩,.string ⟨#[]⟩,.bool false,.slice none 0 0,.slice none 0 0,.slice none 0 0,.slice none 0 0,.string ⟨#[]⟩,.int .i64 0,.int .i64 0,.slice none 0 0,.slice none 0 0,.string ⟨#[]⟩,.string ⟨#[]⟩,.bool false,.slice none 0 0,.slice none 0 0,.slice none 0 0,.slice A n c] 46)) (.cells #[.slice none 0 0,.slice none 0 0,.slice none 0 0,.slice none 0 0,.slice none 0 0,.slice (some ⟨W12.heap.size,0,none⟩) 3 3] 53)
    simp only [size_of_alloc] at h
    exact h
   have HSz : Hid (∀ W,Below W13.heap.size W13 W → Calls Tryz.prog 10 #[.agg #[.slice none 0 0,.slice none 0 0,.slice none 0 0,.slice none 0 0,.slice none 0 0,.slice (some ⟨W12.heap.size,0,none⟩) 3 3]] W fun e w' => e = .returned (.int .i64 (2 * f.length : Nat)) ∧ Below W.heap.size W w'):=Lib.hid (fun W hb => by
    have hrow:=kept_box hb hr13
    have hsr : StRow W W.heap.size l A:=HH.out.2.2.1.keep (fun q hq => ((HT.out.below.chain hb13).chain hb).cell hq) ((HT.out.below.chain hb13).chain hb).size
    rw [HH.out.1] at hrow
    exact three_size HH.out.2.1 hfl hsr HH.out.2.2.2.1 hrow)
   have HT13:=Lib.hid (HT.out.on hb13)
   obtain ⟨S,hSd⟩ : ∃ S : World → Prop,S = fun Wx => Wx.cell? ⟨w4.heap.size + 1,0,none⟩ = some (.int .i64 f.length) ∧ Wx.cell? ⟨w4.heap.size,0,none⟩ = some (.slice A4 f.length c4) ∧ Wx.cell? ⟨W9.heap.size,0,none⟩ = some (.int .i64 K) ∧ Wx.cell? ⟨w.heap.size,0,none⟩ = some (.int .u8 y) ∧ Wx.cell? ⟨W12.heap.size + 1,0,none⟩ = some (.slice none 0 0) ∧ Wx.cell? ⟨W12.heap.size + 1,1,none⟩ = some (.slice none 0 0) ∧ Wx.cell? ⟨W12.heap.size + 1,2,none⟩ = some (.slice none 0 0) ∧ Wx.cell? ⟨W12.heap.size + 1,3,none⟩ = some (.slice none 0 0) ∧ Wx.cell? ⟨W12.heap.size + 1,4,none⟩ = some (.slice none 0 0) ∧ Wx.cell? ⟨W12.heap.size + 1,5,none⟩ = some (.slice (some ⟨W12.heap.size,0,none⟩) 3 3):=⟨_,rfl⟩
   have s1 : ∀ Wx,S Wx → Wx.cell? ⟨w4.heap.size + 1,0,none⟩ = some (.int .i64 f.length) ∧ Wx.cell? ⟨w4.heap.size,0,none⟩ = some (.slice A4 f.length c4) ∧ Wx.cell? ⟨W9.heap.size,0,none⟩ = some (.int .i64 K) ∧ Wx.cell? ⟨w.heap.size,0,none⟩ = some (.int .u8 y) ∧ Wx.cell? ⟨W12.heap.size + 1,0,none⟩ = some (.slice none 0 0) ∧ Wx.cell? ⟨W12.heap.size + 1,1,none⟩ = some (.slice none 0 0) ∧ Wx.cell? ⟨W12.heap.size + 1,2,none⟩ = some (.slice none 0 0) ∧ Wx.cell? ⟨W12.heap.size + 1,3,none⟩ = some (.slice none 0 0) ∧ Wx.cell? ⟨W12.heap.size + 1,4,none⟩ = some (.slice none 0 0) ∧ Wx.cell? ⟨W12.heap.size + 1,5,none⟩ = some (.slice (some ⟨W12.heap.size,0,none⟩) 3 3):=fun Wx h => by rw [hSd] at h;exact h
   have hSk : ∀ W3,(∀ b,b < W13.heap.size → b ≠ w.heap.size + 1 → W3.heap[b]? = W13.heap[b]?) → S W3:=fun W3 hk => by
    have h13:=HT13.out
    have hz:=(Array.getElem?_eq_some_iff.1 hp13).1
    have k5:=(hk _ (Array.getElem?_eq_some_iff.1 h13.t5).1 (by have := h13.z4;omega)).trans h13.t5
    have k6:=(hk _ (Array.getElem?_eq_some_iff.1 h13.t6).1 (by have := h13.z4;omega)).trans h13.t6
    have k9:=(hk _ (Array.getElem?_eq_some_iff.1 h13.t9).1 (by have := h13.z4;have := h13.z8;have := h13.z9;omega)).trans h13.t9
    have k3:=(hk _ (Array.getElem?_eq_some_iff.1 h13.t3).1 (by omega)).trans h13.t3
    have kp:=(hk _ hz (by have := HT.out.z4;have := HT.out.z8;have := HT.out.z9;have := HT.out.z10;have := HT.out.z12;omega)).trans hp13
    rw [hSd]
    exact ⟨cell_of_block k6 0 rfl,cell_of_block k5 0 rfl,cell_of_block k9 0 rfl,cell_of_block k3 0 rfl,cell_of_block kp 0 rfl,cell_of_block kp 1 rfl,cell_of_block kp 2 rfl,cell_of_block kp 3 rfl,cell_of_block kp 4 rfl,cell_of_block kp 5 rfl⟩
   have HSb : Hid (∀ W3,Below W13.heap.size W13 W3 → S W3):=Lib.hid (fun W3 hb => hSk W3 (fun b hb' _ => hb.block b hb'))
   have HSs : Hid (∀ W3 v,Below W13.heap.size W13 W3 → S (W3.setCell ⟨w.heap.size + 1,0,none⟩ v)):=Lib.hid (fun W3 v hb => hSk _ (fun b hb' hne => (Below.heap_setCell W3 ⟨w.heap.size + 1,0,none⟩ v b hne).trans (hb.block b hb')))
   have hS0 : S W13.drew:=HSb.out _ (Below.refl _ _).drew
   clear hSd hSk hW13 hr13 hp13
   refine wpIn_mono (Q:=Exit.then ?K2 (fun _ _ _ => False)) ?g2 ?hm2
   case hm2 => intro e a w h;cases e with
    | normal => exact h
    | _ => exact h.elim
   refine wpIn_region_S S hmx ?_
   refine tI 0 71 (.int .i64 f.length) hS0 ?b0 ?_
   case b0 => intro Wx hSx;obtain ⟨g1,g2,g3,g4,g5,g6,g7,g8,g9,g10⟩:=s1 Wx hSx;clear s1 hS0;go_simp
   refine tI 1 72 (.slice A4 f.length c4) hS0 ?b1 ?_
   case b1 => intro Wx hSx;obtain ⟨g1,g2,g3,g4,g5,g6,g7,g8,g9,g10⟩:=s1 Wx hSx;clear s1 hS0;go_simp
   refine tI 2 73 (.int .i64 f.length) hS0 ?b2 ?_
   case b2 => intro Wx hSx;obtain ⟨g1,g2,g3,g4,g5,g6,g7,g8,g9,g10⟩:=s1 Wx hSx;clear s1 hS0;go_simp
   refine tI 3 74 (.bool true) hS0 ?b3 ?_
   case b3 => intro Wx hSx;obtain ⟨g1,g2,g3,g4,g5,g6,g7,g8,g9,g10⟩:=s1 Wx hSx;clear s1 hS0;go_simp
   refine tI 4 75 (.bool true) hS0 ?b4 ?_
   case b4 => intro Wx hSx;obtain ⟨g1,g2,g3,g4,g5,g6,g7,g8,g9,g10⟩:=s1 Wx hSx;clear s1 hS0;go_simp
   refine tI 5 76 (.int .i64 K) hS0 ?b5 ?_
   case b5 => intro Wx hSx;obtain ⟨g1,g2,g3,g4,g5,g6,g7,g8,g9,g10⟩:=s1 Wx hSx;clear s1 hS0;go_simp
   refine tI 6 77 (.int .i64 f.length) hS0 ?b6 ?_
   case b6 => intro Wx hSx;obtain ⟨g1,g2,g3,g4,g5,g6,g7,g8,g9,g10⟩:=s1 Wx hSx;clear s1 hS0;go_simp
   refine tI 7 78 (.int .u8 y) hS0 ?b7 ?_
   case b7 => intro Wx hSx;obtain ⟨g1,g2,g3,g4,g5,g6,g7,g8,g9,g10⟩:=s1 Wx hSx;clear s1 hS0;go_simp
   refine tI 8 79 (.int .i64 y) hS0 ?b8 ?_
   case b8 => intro Wx hSx;obtain ⟨g1,g2,g3,g4,g5,g6,g7,g8,g9,g10⟩:=s1 Wx hSx;clear s1 hS0;go_simp;first | done | rfl | (rw [IntKind.wrap_i64];omega)
   refine tI 9 80 (.int .i64 K) hS0 ?b9 ?_
   case b9 => intro Wx hSx;obtain ⟨g1,g2,g3,g4,g5,g6,g7,g8,g9,g10⟩:=s1 Wx hSx;clear s1 hS0;go_simp;first | done | (rw [hKm]) | (simp [hKm])
   refine tI 10 81 (.bool true) hS0 ?b10 ?_
   case b10 => intro Wx hSx;obtain ⟨g1,g2,g3,g4,g5,g6,g7,g8,g9,g10⟩:=s1 Wx hSx;clear s1 hS0;go_simp
   refine tI 11 82 (.bool true) hS0 ?b11 ?_
   case b11 => intro Wx hSx;obtain ⟨g1,g2,g3,g4,g5,g6,g7,g8,g9,g10⟩:=s1 Wx hSx;clear s1 hS0;go_simp
   refine tI 12 83 (.bool true) hS0 ?b12 ?_
   case b12 => intro Wx hSx;obtain ⟨g1,g2,g3,g4,g5,g6,g7,g8,g9,g10⟩:=s1 Wx hSx;clear s1 hS0;go_simp
   refine tI 13 84 (.agg #[.slice none 0 0,.slice none 0 0,.slice none 0 0,.slice none 0 0,.slice none 0 0,.slice (some ⟨W12.heap.size,0,none⟩) 3 3]) hS0 ?b13 ?_
   case b13 => intro Wx hSx;obtain ⟨g1,g2,g3,g4,g5,g6,g7,g8,g9,g10⟩:=s1 Wx hSx;clear s1 hS0;go_simp
   refine tI 15 86 (.int .i64 f.length) hS0 ?b15 ?_
   case b15 => intro Wx hSx;obtain ⟨g1,g2,g3,g4,g5,g6,g7,g8,g9,g10⟩:=s1 Wx hSx;clear s1 hS0;go_simp
   refine tI 16 87 (.int .i64 (2 * f.length : Nat)) hS0 ?b16 ?_
   case b16 => intro Wx hSx;obtain ⟨g1,g2,g3,g4,g5,g6,g7,g8,g9,g10⟩:=s1 Wx hSx;clear s1 hS0;go_simp;first | done | (rw [IntKind.wrap_i64];omega) | (simp;omega)
   refine AnyS.one 14 (by kernel_rfl) rfl (by kernel_rfl) (fun Kk hKk => ?_)
   go_simp
   refine (callsIn_wide.2 (HSz.out W13.drew (Below.refl _ _).drew)).mono ?_
   rintro e W14 ⟨rfl,hb14⟩
   have HB14:=Lib.hid ((Below.refl W13.heap.size W13).drew.chain hb14)
   have hS4:=HSb.out W14 HB14.out
   refine hKk _ _ hS4 ?_
   clear hKk Kk hb14 hS0
   refine tI 17 88 (.bool true) hS4 ?b17 ?_
   case b17 => intro Wx hSx;obtain ⟨g1,g2,g3,g4,g5,g6,g7,g8,g9,g10⟩:=s1 Wx hSx;clear s1 hS4;go_simp
   refine tI 18 89 (.bool true) hS4 ?b18 ?_
   case b18 => intro Wx hSx;obtain ⟨g1,g2,g3,g4,g5,g6,g7,g8,g9,g10⟩:=s1 Wx hSx;clear s1 hS4;go_simp
   have HT14:=Lib.hid (HT13.out.on HB14.out)
   have c4':=cell_of_block HT14.out.t4 0 (v:=.bool false) rfl
   have f4':=frozen_at HT14.out.t4 0
   refine AnyS.one 19 (by kernel_rfl) rfl (by kernel_rfl) (fun Kk hKk => ?_)
   go_simp
   refine hKk _ _ (HSs.out W14 _ HB14.out) ?_
   clear hKk Kk
   refine AnyS.done (by kernel_rfl) ?_ _
   clear s1 hS4
   gi_wp2
   refine leaves_marks (fun W => W.heap[w.heap.size + 1]? = some (.cells #[.bool true] 4 (0,0)) ∧ Below w.heap.size w W) (w.heap.size + 2) (fun W D hD hK => ?_) (fun W hK => ?_) [W10.heap.size,W8.heap.size] _ ?_ ?_ ?_
   ·exact ⟨(World.putObj_heap_other (by omega)).trans hK.1,hK.2.os,hK.2.tape,hK.2.output,by simpa using hK.2.size,fun b hb => (World.putObj_heap_other (by omega)).trans (hK.2.block b hb)⟩
   ·exact ⟨_,results_bool rfl _ _ ⟨w.heap.size + 1,0,none⟩ true rfl (cell_of_block hK.1 0 rfl),rfl,hK.2⟩
   ·have h1:=HT.out.z9
    have h2:=HT.out.z10
    simp;omega
   ·intro D hD
    have h14:=HT14.out
    rcases List.mem_cons.1 hD with rfl | hD
    ·exact ⟨by have := h14.z4;have := h14.z8;have := h14.z9;have := h14.z10;omega,(Below.heap_setCell W14 ⟨w.heap.size + 1,0,none⟩ _ _ (by have := h14.z4;have := h14.z8;have := h14.z9;have := h14.z10;show _ ≠ w.heap.size + 1;omega)).trans h14.d10⟩
    ·obtain rfl:=List.mem_singleton.1 hD
     exact ⟨by have := h14.z4;have := h14.z8;omega,(Below.heap_setCell W14 ⟨w.heap.size + 1,0,none⟩ _ _ (by have := h14.z4;have := h14.z8;show _ ≠ w.heap.size + 1;omega)).trans h14.d8⟩
   ·exact ⟨heap_setCell_at HT14.out.t4 0 (.bool true),HT14.out.below.setCell (p:=⟨w.heap.size + 1,0,none⟩) (Nat.le_succ _) _⟩
end Go.Proofs.YtnkpgpmaiicdeaaGreatDoor
