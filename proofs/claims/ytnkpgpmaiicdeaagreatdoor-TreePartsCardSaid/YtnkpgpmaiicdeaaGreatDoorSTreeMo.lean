/-
  General words for memory: a slice that reads as a list, nil let in; append of such a slice onto a row of the call's own. Beside them: rows of one's own under stores.
  slices.Clone at []api.Proc.
  tree.Size: rows of statements in the order of their text; the sum of their numbers.
-/
import Derived.Test.YtnkpgpmaiicdeaaGreatDoorSTreeMa
import Derived.Test.YtnkpgpmaiicdeaaGreatDoorSTreeAx
import Derived.Below
import Derived.Laws.OwnMore
import Derived.Deep.AppendLies
import Derived.Deep.Draws
import Derived.Maps.AppendAt
import Derived.RegionTactic
import Derived.OwnWalk
import Derived.WalkSpells
import Derived.Outline
set_option linter.unusedVariables false
set_option linter.unusedSimpArgs false
namespace Go.Proofs.YtnkpgpmaiicdeaaGreatDoor
open Go.RowKit
theorem block_of_add (a : Addr) (n : Nat) : (a.add n).block = a.block:=by unfold Addr.add;split <;> rfl
theorem add_of_add (a : Addr) (i j : Nat) : (a.add i).add j = a.add (i + j):=by
 unfold Addr.add
 by_cases hi : i = 0 <;> by_cases hj : j = 0 <;> simp [hi,hj,Nat.add_assoc]
def Reads (w : World) (B size : Nat) (A : Option Addr) (n : Nat) (xs : List Value) : Prop :=
 xs.length = n * size ∧ (0 < n → ∃ ad,A = some ad ∧ ad.block < B ∧ ∀ j u,xs[j]? = some u → w.cell? (ad.add j) = some u)
section
variable {w w' : World} {B B' size n : Nat} {A : Option Addr} {xs : List Value}
theorem Reads.none_ : Reads w B size A 0 []:=⟨by simp,fun h => absurd h (by omega)⟩
theorem Reads.at_ {k : Nat} (h : Reads w B 1 A n xs) (hk : k < n) : ∃ ad u,A = some ad ∧ ad.block < B ∧ xs[k]? = some u ∧ w.cell? (ad.add k) = some u:=by
 obtain ⟨ad,e,hb,hc⟩:=h.2 (by omega)
 have hl : k < xs.length:=by have := h.1;omega
 exact ⟨ad,xs[k],e,hb,List.getElem?_eq_getElem hl,hc k _ (List.getElem?_eq_getElem hl)⟩
theorem Reads.keep (h : Reads w B size A n xs) (hk : ∀ p : Addr,p.block < B → w'.cell? p = w.cell? p) : Reads w' B size A n xs :=
 ⟨h.1,fun hn => by
   obtain ⟨ad,e,hb,hc⟩:=h.2 hn
   exact ⟨ad,e,hb,fun j u hu => (hk _ (by rw [block_of_add];exact hb)).trans (hc j u hu)⟩⟩
theorem Reads.more (h : Reads w B size A n xs) (hB : B ≤ B') : Reads w B' size A n xs :=
 ⟨h.1,fun hn => by
   obtain ⟨ad,e,hb,hc⟩:=h.2 hn
   exact ⟨ad,e,by omega,hc⟩⟩
theorem Reads.below (h : Reads w B size A n xs) (hb : Below B w w') : Reads w' B size A n xs:=h.keep fun _ hp => hb.cell hp
theorem Reads.drew (h : Reads w B size A n xs) : Reads w.drew B size A n xs:=h
theorem Reads.drewN (h : Reads w B size A n xs) (k : Nat) : Reads (w.drewN k) B size A n xs:=h
theorem Reads.alloc (h : Reads w B size A n xs) (hB : B ≤ w.heap.size) (o : Obj) : Reads (w.alloc o) B size A n xs:=h.keep fun p hp => World.cell?_alloc_lt w o p (by omega)
theorem Reads.setCell (h : Reads w B size A n xs) {p : Addr} (hB : B ≤ p.block) (u : Value) : Reads (w.setCell p u) B size A n xs :=
 h.keep fun q hq => World.cell?_setCell_other w p q u (fun e => by subst e;omega)
theorem Reads.grown (h : Reads w B size A n xs) {row : Option Nat} (hg : w.grownBy w' row) (hB : B ≤ w.heap.size) (hr : ∀ g,row = some g → B ≤ g) : Reads w' B size A n xs :=
 h.keep fun p hp => World.cell?_of_block (hg.block p.block (by omega) (fun e => by have := hr _ e.symm;omega))
theorem Reads.of_own {base : Nat} {e : TypeId} {c : Nat} (h : w.ownsRow base e size (.slice A n c) n xs) : Reads w w.heap.size size A n xs:=by
 refine ⟨h.1,fun hn => ?_⟩
 obtain ⟨g,cap,hv,_,hlt⟩:=h.form hn
 have hA : A = some ⟨g,0,none⟩:=by injection hv
 subst hA
 exact ⟨_,rfl,hlt,h.cells (g:=g) rfl⟩
end
section
variable {P : Program} (w : World)
theorem run_append_of_nil (base : Nat) (t ty e : TypeId) (i : TypeInfo) (size : Nat) (ht : P.underlying t = some (.slice e)) (hi : P.info? e = some i)
 (v : Value) (n : Nat) (xs : List Value) (hown : w.ownsRow base e size v n xs) (c : Nat) : (Builtin.append_ #[t,t] ty #[v,.slice none 0 c]).run P w = .ok v w:=by
 rcases hown.2 with ⟨rfl,rfl⟩ | ⟨g,cap,cur,rfl,_,_,hnc,_⟩
 ·simp [Builtin.append_,run_underlying ht,sizeOf,typeInfo,hi,Builtin.lenOf,Builtin.firstCells]
 ·simp [Builtin.append_,run_underlying ht,sizeOf,typeInfo,hi,Builtin.lenOf,Builtin.firstCells,hnc,storeCells]
theorem run_append_any (base : Nat) (t ty e : TypeId) (i : TypeInfo) (z : Value) (size bytes : Nat) (ht : P.underlying t = some (.slice e)) (hi : P.info? e = some i) (hz : i.zero = some z)
 (hsize : i.size = size) (hby : i.bytes = bytes) (hzs : z.cells.size = size) (hsz : 0 < size)
 (v : Value) (n : Nat) (xs : List Value) (hown : w.ownsRow base e size v n xs)
 (B : Nat) (A : Option Addr) (m c : Nat) (news : List Value) (hr : Reads w B size A m news) (h1 : ∀ u ∈ news,u.oneCell' = true)
 (h63 : n + m ≤ maxLen) (hbytes : (n + m) * bytes ≤ 140737488355328) (hbase : base ≤ w.heap.size) :
 ∃ v' w',(Builtin.append_ #[t,t] ty #[v,.slice A m c]).run P w = .ok v' w' ∧ w'.ownsRow base e size v' (n + m) (xs ++ news) ∧ w.grownBy w' v.ownBlock ∧
  (v'.ownBlock = v.ownBlock ∨ v'.ownBlock = some w.heap.size):=by
 rcases A with _ | ad
 ·have hm : m = 0:=by
   rcases Nat.eq_zero_or_pos m with h0 | h0
   ·exact h0
   ·obtain ⟨ad,h,_⟩:=hr.2 h0
    cases h
  subst hm
  have hn : news = []:=List.eq_nil_of_length_eq_zero (by simpa using hr.1)
  subst hn
  exact ⟨v,w,run_append_of_nil w base t ty e i size ht hi v n xs hown c,by simpa using hown,World.grownBy.refl w _,.inl rfl⟩
 ·have hcells : ∀ j u,news[j]? = some u → w.cell? (ad.add j) = some u:=by
   intro j u hu
   rcases Nat.eq_zero_or_pos m with h0 | h0
   ·subst h0
    have hn : news = []:=List.eq_nil_of_length_eq_zero (by simpa using hr.1)
    subst hn
    simp at hu
   ·obtain ⟨ad',h,_,hc⟩:=hr.2 h0
    injection h with h
    subst h
    exact hc j u hu
  obtain ⟨v',w',hrun,h2,h3,_,h5⟩:=run_append_own_at (P:=P) w base t ty e i z size bytes ht hi hz hsize hby hzs hsz v n xs hown ad m c news hr.1 hcells h1 h63 hbytes hbase
  exact ⟨v',w',hrun,h2,h3,h5⟩
theorem wp_append_any {o : Oper} {a : Act} {K : Act → World → Prop} {Q : Exit → Act → World → Prop} (s x : Operand) (t : TypeId)
 (ho : o.op = .call { callee:=.builtin .append,args:=#[s,x],argTypes:=#[t,t] })
 (base : Nat) (e : TypeId) (i : TypeInfo) (z : Value) (size bytes : Nat) (ht : P.underlying t = some (.slice e)) (hi : P.info? e = some i) (hz : i.zero = some z)
 (hsize : i.size = size) (hby : i.bytes = bytes) (hzs : z.cells.size = size) (hsz : 0 < size)
 (v : Value) (n : Nat) (xs : List Value) (hs : a.eval s = v) (hown : w.ownsRow base e size v n xs)
 (B : Nat) (A : Option Addr) (m c : Nat) (news : List Value) (hx : a.eval x = .slice A m c) (hr : Reads w B size A m news) (h1 : ∀ u ∈ news,u.oneCell' = true)
 (h63 : n + m ≤ maxLen) (hbytes : (n + m) * bytes ≤ 140737488355328) (hbase : base ≤ w.heap.size)
 (h : ∀ v' w',w'.ownsRow base e size v' (n + m) (xs ++ news) → w.grownBy w' v.ownBlock → (v'.ownBlock = v.ownBlock ∨ v'.ownBlock = some w.heap.size) → K (a.put o.dst v') w') : o.wp P a w K Q:=by
 obtain ⟨v',w',hrun,h2,h3,h4⟩:=run_append_any (P:=P) w base t o.type e i z size bytes ht hi hz hsize hby hzs hsz v n xs hown B A m c news hr h1 h63 hbytes hbase
 unfold Oper.wp execOp
 simp only [ho,resolve,invoke,builtin,Sem.run_bind,Sem.run_pure,Result.andThen_ok,List.map_toArray,List.map_cons,List.map_nil,hs,hx,hrun]
 exact h v' w' h2 h3 h4
theorem wpList_append_any {ops : Array Oper} {rest : List Oper} {o : Oper} {a : Act} {Q : Exit → Act → World → Prop} (hgd : o.guard = none) (s x : Operand) (t : TypeId)
 (ho : o.op = .call { callee:=.builtin .append,args:=#[s,x],argTypes:=#[t,t] })
 (base : Nat) (e : TypeId) (i : TypeInfo) (z : Value) (size bytes : Nat) (ht : P.underlying t = some (.slice e)) (hi : P.info? e = some i) (hz : i.zero = some z)
 (hsize : i.size = size) (hby : i.bytes = bytes) (hzs : z.cells.size = size) (hsz : 0 < size)
 (v : Value) (n : Nat) (xs : List Value) (hs : a.eval s = v) (hown : w.ownsRow base e size v n xs)
 (B : Nat) (A : Option Addr) (m c : Nat) (news : List Value) (hx : a.eval x = .slice A m c) (hr : Reads w B size A m news) (h1 : ∀ u ∈ news,u.oneCell' = true)
 (h63 : n + m ≤ maxLen) (hbytes : (n + m) * bytes ≤ 140737488355328) (hbase : base ≤ w.heap.size)
 (h : ∀ v' w',w'.ownsRow base e size v' (n + m) (xs ++ news) → w.grownBy w' v.ownBlock → (v'.ownBlock = v.ownBlock ∨ v'.ownBlock = some w.heap.size) → wpList P ops Q rest (a.put o.dst v') w') : wpList P ops Q (o :: rest) a w :=
 wpList_plain hgd fun _ hK => wp_append_any w s x t ho base e i z size bytes ht hi hz hsize hby hzs hsz v n xs hs hown B A m c news hx hr h1 h63 hbytes hbase fun v' w' h2 h3 h4 => hK _ _ (h v' w' h2 h3 h4)
end
theorem own_below {W W' : World} {B C : Nat} {e : TypeId} {size n : Nat} {v : Value} {xs : List Value} (h : W.ownsRow B e size v n xs) (hb : Below C W W') (hlt : ∀ g,v.ownBlock = some g → g < C) : W'.ownsRow B e size v n xs:=by
 refine ⟨h.1,?_⟩
 rcases h.2 with h2 | ⟨g,cap,cur,hv,hg,hh,r⟩
 ·exact Or.inl h2
 ·refine Or.inr ⟨g,cap,cur,hv,hg,?_,r⟩
  rw [hb.block g (hlt g (by rw [hv];rfl))]
  exact hh
theorem own_lt {W : World} {B : Nat} {e : TypeId} {size n : Nat} {v : Value} {xs : List Value} (h : W.ownsRow B e size v n xs) : ∀ g,v.ownBlock = some g → B ≤ g ∧ g < W.heap.size:=by
 intro g hg
 rcases h.2 with ⟨hv,_⟩ | ⟨g',cap,cur,hv,hB,hh,_⟩
 ·rw [hv] at hg;cases hg
 ·rw [hv] at hg
  obtain rfl : g' = g:=Option.some.inj hg
  exact ⟨hB,(Array.getElem?_eq_some_iff.1 hh).1⟩
theorem own_set {W : World} {B g c : Nat} {e : TypeId} {size n : Nat} {xs : List Value} (h : W.ownsRow B e size (.slice (some ⟨g,0,none⟩) n c) n xs) (i : Nat) (_hi : i < n * size) (v : Value) :
 (W.setCell ⟨g,i,none⟩ v).ownsRow B e size (.slice (some ⟨g,0,none⟩) n c) n (xs.set i v):=by
 refine ⟨by rw [List.length_set];exact h.1,?_⟩
 rcases h.2 with ⟨hv,_⟩ | ⟨g',cap,cur,hv,hB,hh,hnc,hcm,hsz,ht⟩
 ·cases hv
 ·injection hv with h1 h2 h3
  have h4 : g = g':=by injection h1 with h1;injection h1
  subst h4
  subst h3
  refine Or.inr ⟨g,_,cur.setIfInBounds i v,rfl,hB,?_,hnc,hcm,by rw [Array.size_setIfInBounds];exact hsz,?_⟩
  ·simp [World.setCell,Array.getElem?_modify,hh]
  ·rw [Array.toList_setIfInBounds,List.take_set,ht]
theorem below_grown {B : Nat} {W W' : World} {e : TypeId} {size n : Nat} {v : Value} {xs : List Value} (hown : W.ownsRow B e size v n xs) (hg : W.grownBy W' v.ownBlock) (hB : B ≤ W.heap.size) : Below B W W' :=
 ⟨hg.os,hg.tape,hg.output,hg.size,fun k hk => hg.block k (by omega) (fun e => by have := (hown.lt k e.symm).1;omega)⟩
theorem stCs_oneM (d : SAd) (s : St) : ∀ u ∈ (stCs d s).toList,u.oneCell' = true:=by
 obtain ⟨k0,ln,co,nm,fd,fr,⟨ek,en,es,el⟩,⟨ck,⟨ak,an,sa,al⟩,⟨bk,bn,sb,bl⟩,l⟩,cl,iv,b,t⟩:=s
 have h : (stCs d (St.mk k0 ln co nm fd fr (.mk ek en es el) (.mk ck (.mk ak an sa al) (.mk bk bn sb bl) l) cl iv b t)).all (·.oneCell') = true:=by
  unfold stCs
  rw [List.all_toArray]
  rfl
 intro u hu
 exact (Array.all_eq_true_iff_forall_mem.1 h) u (by simpa using hu)
theorem wpList_srowM {ops : Array Oper} {rest : List Oper} {o : Oper} {a : Act} {w : World} {Q : Exit → Act → World → Prop} (d : Nat) (hd : o.dst = some d) (hg : o.guard = none) (x : Operand) (ho : o.op = .buildSlice 22 1 #[(0,x)]) (sv : Array Value) (h24 : sv.size = 24) (hx : a.eval x = .agg sv)
 (h : wpList Tryz.prog ops Q rest (a.put (some d) (.slice (some ⟨w.heap.size,0,none⟩) 1 1)) (w.alloc (.cells sv 40))) : wpList Tryz.prog ops Q (o :: rest) a w:=by
 obtain ⟨i0,hi,hiz,his,hib⟩:=info_parts infoStmt
 rw [← hd] at h
 refine wpList_buildSlice hg 22 40 1 _ ho sv i0 _ Tryz.underlying22 hi hiz (by rw [his];omega) (by rw [his];omega) ?_ h
 have e : (#[(0,x)].map fun (i,x) => (i,a.eval x)).toList = (([sv].map Value.agg).zipIdx 0).map fun x => (x.2,x.1):=by simp [hx]
 rw [e,fill_rows i0.size his _ [sv] (fun c hc => by rw [List.mem_singleton.1 hc];exact h24) (by simp [his])]
 simp [flatC]
theorem reads_one {w : World} {cs : Array Value} {t : TypeId} (h24 : cs.size = 24) : Reads (w.alloc (.cells cs t)) (w.heap.size + 1) 24 (some ⟨w.heap.size,0,none⟩) 1 cs.toList:=by
 refine ⟨by simpa using h24,fun _ => ⟨_,rfl,Nat.lt_succ_self _,fun j u hu => ?_⟩⟩
 rw [add_block0]
 exact cell_of_block (heap_of_alloc w (.cells cs t)) j (by simpa using hu)
theorem own_sliceM {w : World} {base : Nat} {e : TypeId} {size n : Nat} {v : Value} {xs : List Value} (h : w.ownsRow base e size v n xs) : ∃ A c,v = .slice A n c:=by
 rcases h.2 with ⟨rfl,h0⟩ | ⟨g,cap,cur,rfl,_⟩
 ·subst h0;exact ⟨none,0,rfl⟩
 ·exact ⟨_,_,rfl⟩
def Flatted (B : Nat) (w : World) (g : List St) (v : Value) (wr : World) : Prop :=
 ∃ (D : Nat → SAd) (xs : List Value),wr.ownsRow w.heap.size 40 24 v g.length xs ∧ CellsOf D g xs ∧ (∀ i s,g[i]? = some s → ElIn (fun b => b < B) wr (D i) s) ∧ Below w.heap.size w wr
theorem fl_len {l f : List St} (h : FlL l f) : l.length ≤ f.length:=by
 induction h with
 | nil => exact Nat.le_refl _
 | cons s l fb fo fl h1 h2 h3 i1 i2 i3 =>
   simp only [List.length_cons,List.length_append]
   omega
theorem fl_eq {l f : List St} (h : FlL l f) : ∀ {g : List St},FlL l g → f = g:=by
 induction h with
 | nil => intro g hg;cases hg;rfl
 | cons s l fb fo fl h1 h2 h3 i1 i2 i3 =>
   intro g hg
   cases hg with
   | cons _ _ gb go gl g1 g2 g3 => rw [i1 g1,i2 g2,i3 g3]
theorem fl_room : ∀ {k : Nat} {ss : List St} {s : St},ss[k]? = some s → ∀ {f g fb fo : List St},FlL ss f → FlL (ss.take k) g → FlL s.body fb → FlL s.els fo → g.length + 1 + fb.length + fo.length ≤ f.length
 | 0,x :: l,s,hi,f,g,fb,fo,h0,h1,h2,h3 => by
   obtain rfl : x = s:=Option.some.inj hi
   rw [List.take_zero] at h1
   cases h1
   cases h0 with
   | cons _ _ gb go gl g1 g2 g3 =>
     rw [fl_eq h2 g1,fl_eq h3 g2]
     simp only [List.length_cons,List.length_append,List.length_nil]
     omega
 | k + 1,x :: l,s,hi,f,g,fb,fo,h0,h1,h2,h3 => by
   rw [List.take_succ_cons] at h1
   cases h1 with
   | cons _ _ hb ho hl e1 e2 e3 =>
     cases h0 with
     | cons _ _ gb go gl g1 g2 g3 =>
       have h4:=fl_room (k:=k) (ss:=l) hi g3 e3 h2 h3
       rw [fl_eq e1 g1,fl_eq e2 g2]
       simp only [List.length_cons,List.length_append]
       omega
 | _,[],_,hi,_,_,_,_,_,_,_,_ => by simp at hi
theorem els_cat {B : Nat} {w1 w2 w : World} {D1 D2 : Nat → SAd} {g1 g2 : List St} {xs1 xs2 : List Value} (hx : xs1.length = g1.length * 24) (c1 : CellsOf D1 g1 xs1) (c2 : CellsOf D2 g2 xs2) (k1 : ∀ q : Addr,q.block < B → w.cell? q = w1.cell? q) (k2 : ∀ q : Addr,q.block < B → w.cell? q = w2.cell? q)
 (e1 : ∀ i s,g1[i]? = some s → ElIn (fun b => b < B) w1 (D1 i) s) (e2 : ∀ i s,g2[i]? = some s → ElIn (fun b => b < B) w2 (D2 i) s) :
 ∃ D,CellsOf D (g1 ++ g2) (xs1 ++ xs2) ∧ ∀ i s,(g1 ++ g2)[i]? = some s → ElIn (fun b => b < B) w (D i) s :=
 ⟨_,c1.append hx c2,els_append (fun i s hi => (e1 i s hi).stay k1 fun _ h => h) (fun i s hi => (e2 i s hi).stay k2 fun _ h => h)⟩
theorem stCs_22 (d : SAd) (s : St) : (stCs d s)[22]? = some (.slice d.s s.body.length d.ns):=by
 obtain ⟨k0,ln,co,nm,fd,fr,⟨ek,en,es,el⟩,⟨ck,⟨ak,an,sa,al⟩,⟨bk,bn,sb,bl⟩,l⟩,cl,iv,b,t⟩:=s
 rfl
theorem stCs_23 (d : SAd) (s : St) : (stCs d s)[23]? = some (.slice d.t s.els.length d.nt):=by
 obtain ⟨k0,ln,co,nm,fd,fr,⟨ek,en,es,el⟩,⟨ck,⟨ak,an,sa,al⟩,⟨bk,bn,sb,bl⟩,l⟩,cl,iv,b,t⟩:=s
 rfl
theorem cells_one {D : Nat → SAd} {g : List St} {xs : List Value} (h : CellsOf D g xs) (hx : xs.length = g.length * 24) : ∀ u ∈ xs,u.oneCell' = true:=by
 intro u hu
 obtain ⟨p,hp,rfl⟩:=List.getElem_of_mem hu
 have h1 : p / 24 < g.length:=by omega
 have h2 : p % 24 < (stCs (D (p / 24)) g[p / 24]).size:=by rw [stCs_size];omega
 have h3:=h (p / 24) _ (List.getElem?_eq_getElem h1) (p % 24) _ (Array.getElem?_eq_getElem h2)
 rw [show p / 24 * 24 + p % 24 = p from by omega,List.getElem?_eq_getElem hp] at h3
 rw [Option.some.inj h3]
 exact stCs_oneM (D (p / 24)) g[p / 24] _ (Array.mem_toList_iff.2 (Array.getElem_mem h2))
theorem cell_free {w : World} {b : Nat} {cs : Array Value} {t : TypeId} (h : w.heap[b]? = some (.cells cs t (0,0))) (j : Nat) (v : Value) (hv : cs[j]? = some v) : w.cell? ⟨b,j,none⟩ = some v ∧ w.frozen? ⟨b,j,none⟩ = false:=by
 refine ⟨?_,by simp [World.frozen?,h]⟩
 unfold World.cell?
 rw [show w.heap[(⟨b,j,none⟩ : Addr).block]? = some (.cells cs t (0,0)) from h]
 exact hv
theorem below_al {w w' : World} (h : Below w.heap.size w w') (o : Obj) : Below w.heap.size w (w'.alloc o):=h.alloc h.size o
def sAd0 : SAd:=⟨none,none,none,none,none,none,none,none,0,0,0,0,0,0,0,0⟩
theorem set_otherM (W : World) (p : Addr) (v : Value) {q : Addr} (h : q.block ≠ p.block) : (W.setCell p v).cell? q = W.cell? q :=
 World.cell?_setCell_other W p q v (fun e => h (by rw [e]))
end Go.Proofs.YtnkpgpmaiicdeaaGreatDoor
namespace Go.Proofs.YtnkpgpmaiicdeaaGreatDoor
open Go.RowKit
theorem infoPr : (Tryz.prog.info? 46).map (fun i => (i.zero,i.size,i.bytes)) = some (some (.agg #[.string ⟨#[]⟩,.int .i64 0,.int .i64 0,.slice none 0 0,.slice none 0 0,.string ⟨#[]⟩,.string ⟨#[]⟩,.bool false,.slice none 0 0,.slice none 0 0,.slice none 0 0,.slice none 0 0]),12,216):=by kernel_rfl
theorem hid_ProcM : ∃ (T N : Nat) (zc : Array Value),46 = T ∧ N = 12 ∧ zc.size = N ∧ (∀ w : World,(isAgg T).run Tryz.prog w = .ok true w) ∧ (∀ w : World,(sizeOf T).run Tryz.prog w = .ok N w) ∧ (∀ w : World,(zeroValue T).run Tryz.prog w = .ok (.agg zc) w) :=
 ⟨_,12,#[.string ⟨#[]⟩,.int .i64 0,.int .i64 0,.slice none 0 0,.slice none 0 0,.string ⟨#[]⟩,.string ⟨#[]⟩,.bool false,.slice none 0 0,.slice none 0 0,.slice none 0 0,.slice none 0 0],rfl,rfl,rfl,fun w => by kernel_rfl,fun w => by kernel_rfl,fun w => by kernel_rfl⟩
def flat12 (vs : List (Array Value)) : List Value:=vs.flatMap Array.toList
theorem flat12_len : ∀ {vs : List (Array Value)},(∀ c ∈ vs,c.size = 12) → (flat12 vs).length = vs.length * 12
 | [],_ => rfl
 | c :: vs,h => by
   have h1 : c.toList.length = 12:=by rw [Array.length_toList];exact h c (List.mem_cons_self ..)
   have h2:=flat12_len (vs:=vs) (fun c hc => h c (List.mem_cons_of_mem _ hc))
   unfold flat12 at h2 ⊢
   rw [List.flatMap_cons,List.length_append,h1,h2,List.length_cons]
   omega
theorem flat12_get : ∀ {vs : List (Array Value)},(∀ c ∈ vs,c.size = 12) → ∀ (i j : Nat),j < 12 → (flat12 vs)[i * 12 + j]? = (vs[i]?).bind fun c => c[j]?
 | [],_,i,j,_ => by simp [flat12]
 | c :: vs,h,i,j,hj => by
   have h1 : c.toList.length = 12:=by rw [Array.length_toList];exact h c (List.mem_cons_self ..)
   have h2:=fun i => flat12_get (vs:=vs) (fun c hc => h c (List.mem_cons_of_mem _ hc)) i j hj
   unfold flat12 at h2 ⊢
   rw [List.flatMap_cons]
   match i with
   | 0 =>
     rw [List.getElem?_append_left (by omega),Nat.zero_mul,Nat.zero_add]
     simp
   | i + 1 =>
     rw [List.getElem?_append_right (by omega),h1,show (i + 1) * 12 + j - 12 = i * 12 + j from by omega,h2 i]
     rfl
def prL (D : Nat → PAd) (l : List Pr) : List (Array Value):=l.mapIdx fun i x => prCs (D i) x
theorem prL_get (D : Nat → PAd) (l : List Pr) (i : Nat) : (prL D l)[i]? = (l[i]?).map (prCs (D i)):=by
 unfold prL
 rw [List.getElem?_mapIdx]
theorem prL_size (D : Nat → PAd) (l : List Pr) : ∀ c ∈ prL D l,c.size = 12:=by
 intro c hc
 obtain ⟨i,hi,rfl⟩:=List.getElem_of_mem hc
 have h:=prL_get D l i
 rw [List.getElem?_eq_getElem hi] at h
 cases e : l[i]? with
 | none => rw [e] at h;cases h
 | some x => rw [e] at h;rw [Option.some.inj h];rfl
theorem pr_len (D : Nat → PAd) (l : List Pr) : (flat12 (prL D l)).length = l.length * 12:=by
 rw [flat12_len (prL_size D l)]
 unfold prL
 rw [List.length_mapIdx]
theorem pr_get (D : Nat → PAd) (l : List Pr) (i j : Nat) (hj : j < 12) : (flat12 (prL D l))[i * 12 + j]? = (l[i]?).bind fun x => (prCs (D i) x)[j]?:=by
 rw [flat12_get (prL_size D l) i j hj,prL_get]
 cases l[i]? <;> rfl
theorem pr_one (D : Nat → PAd) (l : List Pr) : ∀ u ∈ flat12 (prL D l),u.oneCell' = true:=by
 intro u hu
 obtain ⟨p,hp,rfl⟩:=List.getElem_of_mem hu
 have h:=pr_get D l (p / 12) (p % 12) (by omega)
 rw [show p / 12 * 12 + p % 12 = p from by omega,List.getElem?_eq_getElem hp] at h
 cases e : l[p / 12]? with
 | none => rw [e] at h;cases h
 | some x =>
   rw [e] at h
   have h1 : (prCs (D (p / 12)) x).all (·.oneCell') = true:=by unfold prCs;rw [List.all_toArray];rfl
   have h2:=(Array.getElem?_eq_some_iff.1 h.symm)
   obtain ⟨h3,h4⟩:=h2
   rw [← h4]
   exact (Array.all_eq_true_iff_forall_mem.1 h1) _ (Array.getElem_mem h3)
theorem pr_reads {w : World} {B : Nat} {l : List Pr} {A : Option Addr} (h : PrRow w B l A) : ∃ D : Nat → PAd,Reads w B 12 A l.length (flat12 (prL D l)) ∧ ∀ i x,l[i]? = some x → PrOwn w B (D i) x:=by
 cases h with
 | nil => exact ⟨fun _ => ⟨none,none,none,none,none,none,0,0,0,0,0,0⟩,⟨pr_len _ _,fun h => absurd h (by simp)⟩,fun i x hi => by simp at hi⟩
 | row a l hb cells =>
   have h1 : ∀ i,∃ d : PAd,∀ x,l[i]? = some x → (∀ j v,(prCs d x)[j]? = some v → w.cell? ((a.add (i * 12)).add j) = some v) ∧ PrOwn w B d x:=by
    intro i
    cases e : l[i]? with
    | none => exact ⟨⟨none,none,none,none,none,none,0,0,0,0,0,0⟩,fun x hx => by cases hx⟩
    | some x =>
      obtain ⟨d,hd⟩:=cells i x e
      exact ⟨d,fun y hy => by obtain rfl:=Option.some.inj hy;exact hd⟩
   obtain ⟨D,hD⟩:=Classical.axiomOfChoice h1
   refine ⟨D,⟨pr_len _ _,fun _ => ⟨a,rfl,hb,fun p u hu => ?_⟩⟩,fun i x hi => (hD i x hi).2⟩
   have h2:=pr_get D l (p / 12) (p % 12) (by omega)
   rw [show p / 12 * 12 + p % 12 = p from by omega,hu] at h2
   cases e : l[p / 12]? with
   | none => rw [e] at h2;cases h2
   | some x =>
     rw [e] at h2
     have h3:=(hD (p / 12) x e).1 (p % 12) u h2.symm
     rw [add_of_add,show p / 12 * 12 + p % 12 = p from by omega] at h3
     exact h3
def CloneP (B : Nat) (l : List Pr) (n : Nat) (w : World) (e : Ending) (w' : World) : Prop:=∃ A c D,e = .returned (.slice A n c) ∧ w'.ownsRow w.heap.size 46 12 (.slice A n c) n (flat12 (prL D l)) ∧ (∀ i x,l[i]? = some x → PrOwn w B (D i) x) ∧ Below w.heap.size w w'
end Go.Proofs.YtnkpgpmaiicdeaaGreatDoor
namespace Go.Proofs.YtnkpgpmaiicdeaaGreatDoor
set_option maxRecDepth 100000
set_option maxHeartbeats 8000000
open Go.RowKit
theorem StRow.tail {w : World} {B : Nat} {s : St} {l : List St} {a : Addr} (h : StRow w B (s :: l) (some a)) : StRow w B l (some (a.add 24)):=by
 cases h with
 | row a ss D hb cells s1 s2 =>
   refine .row _ _ (fun i => D (i + 1)) (by rw [block_adds];exact hb) (fun i x hi => ⟨fun j v hv => ?_,(cells (i + 1) x hi).2⟩) (fun i x hi => s1 (i + 1) x hi) (fun i x hi => s2 (i + 1) x hi)
   have h1:=(cells (i + 1) x hi).1 j v hv
   rw [add_of_add,add_of_add,show 24 + (i * 24 + j) = (i + 1) * 24 + j from by omega,← add_of_add]
   exact h1
theorem ord_of {w : World} {B : Nat} (hB : B ≤ w.heap.size) : ∀ (M : Nat) (l : List St),SizeOf.sizeOf l < M → ∀ (f : List St) (A : Option Addr),StRow w B l A → FlL l f → l.length ≤ maxLen →
 ∃ ls : List (Array Value),Ord w (fun b => b < B) A l.length ls ∧ ls.length = f.length:=by
 intro M
 induction M with
 | zero => intro l h;omega
 | succ M ih =>
   intro l hM f A hr hf hl
   match l with
   | [] => cases hf;exact ⟨[],.nil A,rfl⟩
   | s :: l =>
     obtain ⟨a,d,rfl,hab,hc,hown,hb1,hb2⟩:=hr.at_ (i:=0) rfl
     cases hf with
     | cons _ _ fb fo fl h1 h2 h3 =>
       have hsz : SizeOf.sizeOf s.body < M ∧ SizeOf.sizeOf s.els < M ∧ SizeOf.sizeOf l < M:=by
        obtain ⟨k0,ln,co,nm,fd,fr,e,cn,cl,iv,b,t⟩:=s
        simp only [St.body,St.els]
        simp at hM
        omega
       have hlen : s.body.length ≤ maxLen ∧ s.els.length ≤ maxLen:=by
        obtain ⟨k0,ln,co,nm,fd,fr,⟨ek,en,es,el⟩,⟨ck,⟨ak,an,sa,al⟩,⟨bk,bn,sb,bl⟩,ll⟩,cl,iv,b,t⟩:=s
        exact ⟨hown.1.2.2.2.2.2.2.2.2.2.2.2.2.1,hown.1.2.2.2.2.2.2.2.2.2.2.2.2.2⟩
       obtain ⟨l1,o1,e1⟩:=ih s.body hsz.1 fb d.s hb1 h1 hlen.1
       obtain ⟨l2,o2,e2⟩:=ih s.els hsz.2.1 fo d.t hb2 h2 hlen.2
       obtain ⟨l3,o3,e3⟩:=ih l hsz.2.2 fl _ hr.tail h3 (by simp at hl;omega)
       refine ⟨_,.cons a l.length (stCs d s) d.s d.t s.body.length s.els.length d.ns d.nt l1 l2 l3 hab (Nat.lt_of_lt_of_le hab hB) (stCs_size d s) ?_ hlen.1 hlen.2 (fun j v hv => ?_) (stCs_22 d s) (stCs_23 d s) o1 o2 o3,?_⟩
       ·rw [Array.all_eq_true_iff_forall_mem]
        exact fun u hu => stCs_oneM d s u (by simpa using hu)
       ·have h4:=hc j v hv
        rw [Nat.zero_mul,show a.add 0 = a by simp [Addr.add]] at h4
        exact h4
       ·simp only [List.length_cons,List.length_append]
        omega
def mark (D : Nat) : Deferred:={ target:=.collected D,args:=#[] }
theorem leaves_marks {F : Fence} {n : Nat} {P : Program} {fn : Func} {tmps : Array Value} {R : Ending → World → Prop} (K : World → Prop) (L : Nat) (hK : ∀ w D,L ≤ D → K w → K (w.putObj D (.deferred none))) (hend : ∀ w,K w → LeavesInM F n P fn tmps R [] .returning w) :
 ∀ (ds : List Nat) (w : World),ds.Nodup → (∀ D ∈ ds,L ≤ D ∧ w.heap[D]? = some (.deferred (some []))) → K w → LeavesInM F n P fn tmps R (ds.map mark) .returning w
 | [],w,_,_,hk => hend w hk
 | D :: ds,w,hnd,hd,hk => by
   obtain ⟨h1,h2⟩:=hd D (List.mem_cons_self ..)
   refine ⟨by simp,.inl ⟨D,_,rfl,run_takeDeferred h2,?_⟩⟩
   refine leaves_marks K L hK hend ds _ (List.nodup_cons.1 hnd).2 (fun D' hD' => ?_) (hK _ _ h1 hk)
   obtain ⟨h3,h4⟩:=hd D' (List.mem_cons_of_mem _ hD')
   exact ⟨h3,(World.putObj_heap_other (fun e => (List.nodup_cons.1 hnd).1 (by first | exact e ▸ hD' | (rw [← e];exact hD') | (rw [e];exact hD')))).trans h4⟩
attribute [local go_sem] Oper.semAt_some
structure SzSt (bn : Nat) (s0 : Nat) (W0 : World) (Pv : Nat → Prop) (pre : List (Array Value)) (W : World) : Prop where
 cell : W.heap[bn]? = some (.cells #[.int .i64 ((s0 + pre.length : Nat) : Int)] 3 (0,0))
 off : ∀ b,Pv b → W0.heap.size ≤ b
 size : W0.heap.size ≤ W.heap.size
 keep : ∀ b,b < W0.heap.size → b ≠ bn → W.heap[b]? = W0.heap[b]?
 os : W.os = W0.os
 tape : W.tape = W0.tape
 output : W.output = W0.output
theorem SzSt.abid {bn s0 : Nat} {W0 : World} (hN : bn < W0.heap.size) : Abid (SzSt bn s0 W0):=by
 intro Pv Pv' s W W' h hp hn hl
 have hno : ∀ b,b < W0.heap.size → ¬ Pv b:=fun b hb hp => by have := h.off b hp;omega
 refine ⟨(hp.block bn (Nat.lt_of_lt_of_le hN h.size) (hno bn hN)).trans h.cell,fun b hb => ?_,Nat.le_trans h.size hp.size,fun b hb hne => (hp.block b (Nat.lt_of_lt_of_le hb h.size) (hno b hb)).trans (h.keep b hb hne),hp.os.trans h.os,hp.tape.trans h.tape,hp.output.trans h.output⟩
 rcases hn b hb with hb | hb
 ·exact h.off b hb
 ·exact Nat.le_trans h.size hb
def SzInv (w : World) (bn : Nat) (s : Nat) (ds : List Nat) (W : World) : Prop :=
 W.heap[bn]? = some (.cells #[.int .i64 (s : Int)] 3 (0,0)) ∧ (∀ b,b < w.heap.size → W.heap[b]? = w.heap[b]?) ∧ w.heap.size ≤ W.heap.size ∧ W.os = w.os ∧ W.tape = w.tape ∧ W.output = w.output ∧ ds.Nodup ∧ (∀ D ∈ ds,bn < D ∧ D < W.heap.size ∧ W.heap[D]? = some (.deferred (some [])))
theorem sum_take_succ {α : Type} : ∀ (l : List α) (g : α → Nat) (k : Nat) (x : α),l[k]? = some x → ((l.take (k + 1)).map g).sum = ((l.take k).map g).sum + g x
 | a :: l,g,0,x,h => by
   obtain rfl : a = x:=Option.some.inj h
   simp
 | a :: l,g,k + 1,x,h => by
   have ih:=sum_take_succ l g k x h
   rw [List.take_succ_cons,List.take_succ_cons,List.map_cons,List.map_cons,List.sum_cons,List.sum_cons,ih]
   omega
 | [],_,_,_,h => by simp at h
theorem sum_take_le {α : Type} : ∀ (l : List α) (g : α → Nat) (k : Nat) (x : α),l[k]? = some x → ((l.take k).map g).sum + g x ≤ (l.map g).sum
 | a :: l,g,0,x,h => by
   obtain rfl : a = x:=Option.some.inj h
   simp
 | a :: l,g,k + 1,x,h => by
   have ih:=sum_take_le l g k x h
   rw [List.take_succ_cons,List.map_cons,List.map_cons,List.sum_cons,List.sum_cons]
   omega
 | [],_,_,_,h => by simp at h
theorem size_any (p : Pg) (d : GAd) (F : Pr → List St) (hF : ∀ x ∈ p.xs,FlL x.bd (F x)) (N : Nat) (hN : N = (p.xs.map fun x => (F x).length).sum) (hb : N ≤ 1000000) (w : World) (hp : PgOwn w w.heap.size d p) :
 Calls Tryz.prog 10 #[progV d p] w fun e w' => e = .returned (.int .i64 N) ∧ Below w.heap.size w w':=by
 obtain ⟨T2,N2,zc,hT2,hN2,hzc,hag2,hsz2,hzv2⟩:=hid_ProcM
 have f1 : ∀ y : Operand,Op.load 46 y = Op.load T2 y:=fun y => by rw [hT2]
 have f2 : ∀ y z : Operand,Op.store 46 y z = Op.store T2 y z:=fun y z => by rw [hT2]
 have f3 : Op.alloc 46 = Op.alloc T2:=by rw [hT2]
 have HN2:=Lib.hid (And.intro hN2 hzc)
 obtain ⟨dr,dg,dk,dd,dm,dx,er,eg,ek,ed,em,ex⟩:=d
 obtain ⟨⟨m1,m2,m3,m4,m5,m6⟩,r1,r2,r3,r4,r5,r6⟩:=hp
 simp only at r6
 obtain ⟨np,hnp⟩ : ∃ n,n = p.xs.length:=⟨_,rfl⟩
 have HP:=Lib.hid (And.intro r6 (And.intro hnp (And.intro hF (And.intro hN hb))))
 rw [← hnp] at m6
 show Calls Tryz.prog 10 #[.agg #[.slice dr p.rs.length er,.slice dg p.gs.length eg,.slice dk p.ks.length ek,.slice dd p.ds.length ed,.slice dm p.ms.length em,.slice dx p.xs.length ex]] w _
 rw [← hnp]
 clear r1 r2 r3 r4 r5 r6 hnp hF hN hb hN2 hzc m1 m2 m3 m4 m5
 generalize p.rs.length = n0
 generalize p.gs.length = n1
 generalize p.ks.length = n2
 generalize p.ds.length = n3
 generalize p.ms.length = n4
 unfold maxLen at m6
 refine (callsIn_wide (n:=20)).1 ?_
 refine callsIn_of_wp_marks Tryz.func10 rfl trivial ?_ rfl
 simp only [Tryz.ntmps10,List.size_toArray,List.length_cons,List.length_nil,Nat.reduceAdd,Nat.reduceSub,Array.replicate_succ,Array.replicate_zero,List.push_toArray,List.append_toArray,List.nil_append,List.cons_append,f1,f2,f3]
 clear f1 f2 f3 hT2
 gi_wp2
 obtain ⟨cp,hcp⟩ : ∃ cp : Array Value,cp = #[.slice dr n0 er,.slice dg n1 eg,.slice dk n2 ek,.slice dd n3 ed,.slice dm n4 em,.slice dx np ex]:=⟨_,rfl⟩
 obtain ⟨W0,hW0⟩ : ∃ W0,W0 = (w.alloc (.cells cp 53)).alloc (.cells #[.int .i64 0] 3):=⟨_,rfl⟩
 have h00:=heap_of_alloc (w.alloc (.cells cp 53)) (.cells #[.int .i64 0] 3)
 rw [size_of_alloc,← hW0] at h00
 have hb00 : Below w.heap.size w W0:=by rw [hW0];exact (below_alloc w _).chain (below_alloc _ _)
 have hz00 : W0.heap.size = w.heap.size + 2:=by rw [hW0];simp only [size_of_alloc]
 have H0 : Hid (SzInv w (w.heap.size + 1) 0 [] W0):=Lib.hid ⟨h00,fun b hb => hb00.block b hb,hb00.size,hb00.os,hb00.tape,hb00.output,List.nodup_nil,fun D hD => by cases hD⟩
 rw [← hcp,← hW0]
 have HCP:=Lib.hid hcp
 obtain ⟨B,hB⟩ : ∃ B,B = w.heap.size:=⟨_,rfl⟩
 have HBW:=Lib.hid hB
 rw [← hB] at H0 ⊢
 clear h00 hb00 hz00 hW0 hcp hB
 refine wpIn_loop (fun a W => ∃ (k : Nat) (ds : List Nat) (x5 x10 x11 x12 x13 x14 x15 x16 x17 x18 x19 : Value),k ≤ np ∧ a = { tmps:=#[.agg cp,.pointer (some ⟨B,0,none⟩),.int .i64 0,.pointer (some ⟨B + 1,0,none⟩),undef,x5,.pointer (some ⟨B,5,none⟩),.slice dx np ex,.int .i64 np,.int .i64 k,x10,x11,x12,x13,x14,x15,x16,x17,x18,x19,undef],defers:=ds.map mark } ∧ Hid (SzInv w (B + 1) ((p.xs.take k).map fun x => (F x).length).sum ds W)) (fun a _ => np - (intOf (a.tmps.getD 9 undef)).toNat) ⟨0,[],_,_,_,_,_,_,_,_,_,_,_,Nat.zero_le _,rfl,by rw [List.take_zero];exact H0⟩ ?_
 clear H0
 have g32 : Fence.wide.fn 29:=trivial
 rintro a W ⟨k,ds,x5,x10,x11,x12,x13,x14,x15,x16,x17,x18,x19,hk,rfl,HI⟩
 by_cases hlt : k < np
 ·have hki : (k : Int) < np:=by omega
  obtain ⟨x,hx⟩ : ∃ x,p.xs[k]? = some x:=⟨p.xs[k]'(by rw [← HP.out.2.1];exact hlt),List.getElem?_eq_getElem _⟩
  have hbl : ∀ b,b < w.heap.size → W.heap[b]? = w.heap[b]?:=HI.out.2.1
  obtain ⟨a,rfl,hab,d1,hca,own1⟩:=HP.out.1.at_ hx
  obtain ⟨cs,hcs⟩ : ∃ cs,cs = prCs d1 x:=⟨_,rfl⟩
  rw [← hcs] at hca
  have h12 : cs.size = 12:=by rw [hcs];rfl
  have h1c : cs.all (·.oneCell') = true:=by rw [hcs];unfold prCs;rw [List.all_toArray];rfl
  obtain ⟨nb,hnb⟩ : ∃ nb,nb = x.bd.length:=⟨_,rfl⟩
  have k11 : cs[11]? = some (.slice d1.b nb d1.nb):=by rw [hcs,hnb];rfl
  have hl1 : (loadCellsFrom (a.add (k * 12)) 0 N2 #[]).run Tryz.prog W = .ok cs W:=load_list (fun j v hv => (World.cell?_of_block (w:=w) (hbl _ (by rw [block_adds,block_adds];exact hab))).trans (hca j v hv)) (h12.trans HN2.out.1.symm)
  have hst : (storeCells ⟨W.heap.size,0,none⟩ cs.toList).run Tryz.prog (W.alloc (.cells zc T2)) = .ok () (W.alloc (.cells cs T2)):=by
   have h:=store_row (heap_of_alloc W (.cells zc T2)) (HN2.out.2.trans (HN2.out.1.trans h12.symm)) h1c
   rw [World.setRow_alloc_new] at h
   exact h
  have hszc : cs.size = N2:=h12.trans HN2.out.1.symm
  have c11:=cell_of_block (heap_of_alloc W (.cells cs T2)) 11 k11
  obtain ⟨ls,ho,hlen⟩:=ord_of (w:=w) (Nat.le_refl _) _ x.bd (Nat.lt_succ_self _) (F x) d1.b own1.2.2.2.2.2.2 (HP.out.2.2.1 x (List.mem_of_getElem? hx)) own1.1.2.2.2.2.2.2.2.2
  rw [← hnb] at ho
  have hnm : nb ≤ maxLen:=by rw [hnb];exact own1.1.2.2.2.2.2.2.2.2
  have HO:=Lib.hid (And.intro ho (And.intro hlen (And.intro hnm (And.intro hx hlt))))
  clear hca own1 hx hcs h12 h1c k11 ho hlen hnm hbl hnb hab
  gi_wp2_with (first
   | (gi_at_call 29;refine (inOrder_in Fence.wide _ trivial rfl _ _ _ _).mono ?_;rintro e W3 ⟨rfl,rfl⟩))
  obtain ⟨bi,hbi⟩ : ∃ bi,bi = W.heap.size + 1:=⟨_,rfl⟩
  obtain ⟨W3,hW3⟩ : ∃ W3,W3 = (W.alloc (.cells cs T2)).alloc (.cells #[.slice d1.b nb d1.nb] 22):=⟨_,rfl⟩
  have hb3 : Below W.heap.size W W3:=by rw [hW3];exact (below_alloc W _).chain (below_alloc _ _)
  have hz3 : W3.heap.size = W.heap.size + 2:=by rw [hW3];simp only [size_of_alloc]
  have hi3 : W3.heap[bi]? = some (.cells #[.slice d1.b nb d1.nb] 22 (0,0)):=by
   rw [hW3,hbi]
   have h:=heap_of_alloc (W.alloc (.cells cs T2)) (.cells #[.slice d1.b nb d1.nb] 22)
   rw [size_of_alloc] at h
   exact h
  rw [← hW3,← hbi]
  have hbn : B + 1 < W.heap.size:=(Array.getElem?_eq_some_iff.1 HI.out.1).1
  obtain ⟨s0,hs0⟩ : ∃ s0,s0 = ((p.xs.take k).map fun x => (F x).length).sum:=⟨_,rfl⟩
  have hcell : W3.heap[B + 1]? = some (.cells #[.int .i64 (s0 : Int)] 3 (0,0)):=(hb3.block _ hbn).trans (by rw [hs0];exact HI.out.1)
  have hord : Ord W3 (fun b => b < w.heap.size) d1.b nb ls:=HO.out.1.keep (fun b hb => (hb3.block b (Nat.lt_of_lt_of_le hb HI.out.2.2.1)).trans (HI.out.2.1 b hb)) (fun b hb => Nat.lt_of_lt_of_le hb (Nat.le_trans HI.out.2.2.1 hb3.size))
  have hws : w.heap.size ≤ W3.heap.size:=Nat.le_trans HI.out.2.2.1 hb3.size
  have hsum : s0 + ls.length ≤ 1000000:=by
   rw [hs0,HO.out.2.1]
   exact Nat.le_trans (sum_take_le p.xs (fun x => (F x).length) k x HO.out.2.2.2.1) (by rw [← HP.out.2.2.2.1];exact HP.out.2.2.2.2)
  have HW3:=Lib.hid (And.intro hb3 (And.intro hz3 (And.intro hbn (And.intro hs0 (And.intro hsum hbi)))))
  clear hl1 hst hszc c11 hW3
  refine wpIn_rangeFunc_pv (F:=Fence.wide) rfl (by omega) (gf:=46) (lb:=#[.pointer (some ⟨bi,0,none⟩)]) rfl trivial (enters_of Tryz.func46 (by kernel_rfl) rfl)
   (inOrder_seq Fence.wide (20 - 1) rfl trivial trivial rfl bi nb d1.nb d1.b ls (fun b => b < w.heap.size) W3 (cell_of_block hi3 0 rfl) (by omega) hord (fun b hb => Nat.lt_of_lt_of_le hb hws) HO.out.2.2.1)
   (Below.refl _ _) (fun _ => rfl) (SzSt (B + 1) s0 W3) (fun _ _ _ _ => False) (SzSt.abid (by omega)) (fun _ _ _ _ _ _ h => h.elim) ⟨by simpa using hcell,fun _ h => h.elim,Nat.le_refl _,fun _ _ _ => rfl,rfl,rfl,rfl⟩ ?round (fun b hb => Nat.lt_of_lt_of_le hb hws) (fun _ _ _ h _ => h) (fun _ _ _ h _ => h) ?done (fun _ _ _ _ _ h => h.elim)
  case round =>
   intro Pv pre x1 W1 r hlt1 hge hD hL hr hJ hy
   clear hz3 hb3 hi3 hbn hcell hord hws hsum
   have hpl : pre.length < ls.length:=by
    obtain ⟨t,ht⟩:=hy
    rw [← ht]
    simp
   gi_wp2
   refine ⟨Part.refl _ _,fun r' => ?_⟩
   obtain ⟨Wb,hWb⟩ : ∃ Wb,Wb = W1.putObj (W3.heap.size + 1) (.loop r'):=⟨_,rfl⟩
   have hpb : Part Pv W1 Wb:=by rw [hWb];exact Part.putObj _ _ hL
   have hJb : SzSt (B + 1) s0 W3 Pv pre Wb:=SzSt.abid (by have := HW3.out;omega) Pv Pv pre W1 Wb hJ hpb (fun b hb => Or.inl hb) (fun b hb => by rw [hWb];simpa using hlt1 b hb)
   rw [← hWb]
   have cN:=cell_of_block hJb.cell 0 (v:=.int .i64 ((s0 + pre.length : Nat) : Int)) rfl
   have fN:=frozen_at hJb.cell 0
   have HX:=Lib.hid (And.intro hJb (And.intro hlt1 (And.intro hge hpl)))
   have hsm : ((s0 + pre.length : Nat) : Int) ≤ 1000000:=by have := HW3.out.2.2.2.2.1;omega
   generalize hq : ((s0 + pre.length : Nat) : Int) = sq at cN hsm
   have hsq : 0 ≤ sq:=by omega
   have HQ:=Lib.hid hq
   clear hJb hlt1 hge hpl hpb hJ hy hr hWb hL hD hq
   gi_wp2
   refine ⟨fun b hb hk => ?_,?_,?_⟩
   ·refine Below.heap_setCell Wb ⟨B + 1,0,none⟩ _ b ?_
    show b ≠ B + 1
    have := HW3.out
    have hB:=HBW.out
    rcases hk with hk | hk
    ·have := HX.out.2.2.1 b hk;omega
    ·omega
   ·simp [World.setCell]
   ·have hJb:=HX.out.1
    refine ⟨?_,hJb.off,by simpa [World.setCell] using hJb.size,fun b hb hne => (Below.heap_setCell Wb ⟨B + 1,0,none⟩ _ b hne).trans (hJb.keep b hb hne),hJb.os,hJb.tape,hJb.output⟩
    have h:=heap_setCell_at hJb.cell 0 (.int .i64 (sq + 1))
    rw [List.length_append,show ((s0 + (pre.length + [x1].length) : Nat) : Int) = sq + 1 from by rw [← HQ.out];simp;omega]
    exact h
  case done =>
   intro Pv xs W1 hS hJ hD hL hlt1 hdef
   clear hz3 hb3 hi3 hbn hcell hord hws hsum
   have hS' : xs = ls:=hS
   subst hS'
   have HX:=Lib.hid (And.intro hJ (And.intro hlt1 hdef))
   clear hS hJ hD hL hlt1 hdef
   gi_wp2
   obtain ⟨hJ,hlt1,hdef⟩:=HX.out
   have hw3:=HW3.out
   have hi:=HI.out
   have hB:=HBW.out
   refine ⟨⟨k + 1,W3.heap.size :: ds,_,_,_,_,_,_,_,_,_,_,_,hlt,(by first | rfl | (simp;first | done | omega)),Lib.hid ⟨?_,fun b hb => ?_,?_,hJ.os.trans (hw3.1.os.trans hi.2.2.2.1),hJ.tape.trans (hw3.1.tape.trans hi.2.2.2.2.1),hJ.output.trans (hw3.1.output.trans hi.2.2.2.2.2.1),?_,fun D hDD => ?_⟩⟩,?_⟩
   ·rw [sum_take_succ p.xs (fun x => (F x).length) k x HO.out.2.2.2.1,← hw3.2.2.2.1,← HO.out.2.1]
    exact hJ.cell
   ·exact (hJ.keep b (by omega) (by omega)).trans ((hw3.1.block b (by omega)).trans (hi.2.1 b hb))
   ·have := hJ.size;omega
   ·refine List.nodup_cons.2 ⟨fun hmem => ?_,hi.2.2.2.2.2.2.1⟩
    have := (hi.2.2.2.2.2.2.2 _ hmem).2.1
    omega
   ·rcases List.mem_cons.1 hDD with rfl | hDD
    ·exact ⟨by omega,(Array.getElem?_eq_some_iff.1 hdef).1,hdef⟩
    ·obtain ⟨q1,q2,q3⟩:=hi.2.2.2.2.2.2.2 D hDD
     exact ⟨q1,by have := hJ.size;omega,(hJ.keep D (by omega) (by omega)).trans ((hw3.1.block D q2).trans q3)⟩
   ·simp [intOf];omega
 ·obtain rfl : k = np:=by omega
  have cN:=cell_of_block HI.out.1 0 (v:=.int .i64 _) rfl
  gi_wp2
  have hN : ((p.xs.take k).map fun x => (F x).length).sum = N:=by rw [HP.out.2.2.2.1,HP.out.2.1,List.take_length]
  rw [← List.map_take,hN]
  refine leaves_marks (fun W => (∀ b,b < w.heap.size → W.heap[b]? = w.heap[b]?) ∧ w.heap.size ≤ W.heap.size ∧ W.os = w.os ∧ W.tape = w.tape ∧ W.output = w.output) (w.heap.size + 1) (fun W D hD hK => ?_) (fun W hK => ?_) ds W HI.out.2.2.2.2.2.2.1 (fun D hDD => ?_) ?_
  ·obtain ⟨q1,q2,q3,q4,q5⟩:=hK
   exact ⟨fun b hb => (World.putObj_heap_other (by omega)).trans (q1 b hb),by simpa using q2,q3,q4,q5⟩
  ·exact ⟨.int .i64 N,by kernel_rfl,rfl,⟨hK.2.2.1,hK.2.2.2.1,hK.2.2.2.2,hK.2.1,hK.1⟩⟩
  ·obtain ⟨q1,q2,q3⟩:=HI.out.2.2.2.2.2.2.2 D hDD
   exact ⟨by have := HBW.out;omega,q3⟩
  ·obtain ⟨_,q1,q2,q3,q4,q5,_⟩:=HI.out
   exact ⟨q1,q2,q3,q4,q5⟩
end Go.Proofs.YtnkpgpmaiicdeaaGreatDoor
