/-
  General words for memory: a slice that reads as a list, nil let in; append of such a slice onto a row of the call's own. Beside them: rows of one's own under stores.
  The reference's Flat, at any row of statements.
  slices.Clone at []api.Proc.
-/
import Derived.Test.YtnkpgpmaiicdeaaGreatDoorSTreeMa
import Derived.Test.YtnkpgpmaiicdeaaGreatDoorSTreeAx
import Derived.Below
import Derived.Laws.OwnMore
import Derived.Deep.AppendLies
import Derived.Deep.Draws
import Derived.Maps.AppendAt
import Derived.RegionTactic
import Derived.OwnWalk
import Derived.WalkSpells
import Derived.Outline
set_option linter.unusedVariables false
set_option linter.unusedSimpArgs false
namespace Go.Proofs.YtnkpgpmaiicdeaaGreatDoor
open Go.RowKit
theorem block_of_add (a : Addr) (n : Nat) : (a.add n).block = a.block:=by unfold Addr.add;split <;> rfl
theorem add_of_add (a : Addr) (i j : Nat) : (a.add i).add j = a.add (i + j):=by
 unfold Addr.add
 by_cases hi : i = 0 <;> by_cases hj : j = 0 <;> simp [hi,hj,Nat.add_assoc]
def Reads (w : World) (B size : Nat) (A : Option Addr) (n : Nat) (xs : List Value) : Prop :=
 xs.length = n * size ∧ (0 < n → ∃ ad,A = some ad ∧ ad.block < B ∧ ∀ j u,xs[j]? = some u → w.cell? (ad.add j) = some u)
section
variable {w w' : World} {B B' size n : Nat} {A : Option Addr} {xs : List Value}
theorem Reads.none_ : Reads w B size A 0 []:=⟨by simp,fun h => absurd h (by omega)⟩
theorem Reads.at_ {k : Nat} (h : Reads w B 1 A n xs) (hk : k < n) : ∃ ad u,A = some ad ∧ ad.block < B ∧ xs[k]? = some u ∧ w.cell? (ad.add k) = some u:=by
 obtain ⟨ad,e,hb,hc⟩:=h.2 (by omega)
 have hl : k < xs.length:=by have := h.1;omega
 exact ⟨ad,xs[k],e,hb,List.getElem?_eq_getElem hl,hc k _ (List.getElem?_eq_getElem hl)⟩
theorem Reads.keep (h : Reads w B size A n xs) (hk : ∀ p : Addr,p.block < B → w'.cell? p = w.cell? p) : Reads w' B size A n xs :=
 ⟨h.1,fun hn => by
   obtain ⟨ad,e,hb,hc⟩:=h.2 hn
   exact ⟨ad,e,hb,fun j u hu => (hk _ (by rw [block_of_add];exact hb)).trans (hc j u hu)⟩⟩
theorem Reads.more (h : Reads w B size A n xs) (hB : B ≤ B') : Reads w B' size A n xs :=
 ⟨h.1,fun hn => by
   obtain ⟨ad,e,hb,hc⟩:=h.2 hn
   exact ⟨ad,e,by omega,hc⟩⟩
theorem Reads.below (h : Reads w B size A n xs) (hb : Below B w w') : Reads w' B size A n xs:=h.keep fun _ hp => hb.cell hp
theorem Reads.drew (h : Reads w B size A n xs) : Reads w.drew B size A n xs:=h
theorem Reads.drewN (h : Reads w B size A n xs) (k : Nat) : Reads (w.drewN k) B size A n xs:=h
theorem Reads.alloc (h : Reads w B size A n xs) (hB : B ≤ w.heap.size) (o : Obj) : Reads (w.alloc o) B size A n xs:=h.keep fun p hp => World.cell?_alloc_lt w o p (by omega)
theorem Reads.setCell (h : Reads w B size A n xs) {p : Addr} (hB : B ≤ p.block) (u : Value) : Reads (w.setCell p u) B size A n xs :=
 h.keep fun q hq => World.cell?_setCell_other w p q u (fun e => by subst e;omega)
theorem Reads.grown (h : Reads w B size A n xs) {row : Option Nat} (hg : w.grownBy w' row) (hB : B ≤ w.heap.size) (hr : ∀ g,row = some g → B ≤ g) : Reads w' B size A n xs :=
 h.keep fun p hp => World.cell?_of_block (hg.block p.block (by omega) (fun e => by have := hr _ e.symm;omega))
theorem Reads.of_own {base : Nat} {e : TypeId} {c : Nat} (h : w.ownsRow base e size (.slice A n c) n xs) : Reads w w.heap.size size A n xs:=by
 refine ⟨h.1,fun hn => ?_⟩
 obtain ⟨g,cap,hv,_,hlt⟩:=h.form hn
 have hA : A = some ⟨g,0,none⟩:=by injection hv
 subst hA
 exact ⟨_,rfl,hlt,h.cells (g:=g) rfl⟩
end
section
variable {P : Program} (w : World)
theorem run_append_of_nil (base : Nat) (t ty e : TypeId) (i : TypeInfo) (size : Nat) (ht : P.underlying t = some (.slice e)) (hi : P.info? e = some i)
 (v : Value) (n : Nat) (xs : List Value) (hown : w.ownsRow base e size v n xs) (c : Nat) : (Builtin.append_ #[t,t] ty #[v,.slice none 0 c]).run P w = .ok v w:=by
 rcases hown.2 with ⟨rfl,rfl⟩ | ⟨g,cap,cur,rfl,_,_,hnc,_⟩
 ·simp [Builtin.append_,run_underlying ht,sizeOf,typeInfo,hi,Builtin.lenOf,Builtin.firstCells]
 ·simp [Builtin.append_,run_underlying ht,sizeOf,typeInfo,hi,Builtin.lenOf,Builtin.firstCells,hnc,storeCells]
theorem run_append_any (base : Nat) (t ty e : TypeId) (i : TypeInfo) (z : Value) (size bytes : Nat) (ht : P.underlying t = some (.slice e)) (hi : P.info? e = some i) (hz : i.zero = some z)
 (hsize : i.size = size) (hby : i.bytes = bytes) (hzs : z.cells.size = size) (hsz : 0 < size)
 (v : Value) (n : Nat) (xs : List Value) (hown : w.ownsRow base e size v n xs)
 (B : Nat) (A : Option Addr) (m c : Nat) (news : List Value) (hr : Reads w B size A m news) (h1 : ∀ u ∈ news,u.oneCell' = true)
 (h63 : n + m ≤ maxLen) (hbytes : (n + m) * bytes ≤ 140737488355328) (hbase : base ≤ w.heap.size) :
 ∃ v' w',(Builtin.append_ #[t,t] ty #[v,.slice A m c]).run P w = .ok v' w' ∧ w'.ownsRow base e size v' (n + m) (xs ++ news) ∧ w.grownBy w' v.ownBlock ∧
  (v'.ownBlock = v.ownBlock ∨ v'.ownBlock = some w.heap.size):=by
 rcases A with _ | ad
 ·have hm : m = 0:=by
   rcases Nat.eq_zero_or_pos m with h0 | h0
   ·exact h0
   ·obtain ⟨ad,h,_⟩:=hr.2 h0
    cases h
  subst hm
  have hn : news = []:=List.eq_nil_of_length_eq_zero (by simpa using hr.1)
  subst hn
  exact ⟨v,w,run_append_of_nil w base t ty e i size ht hi v n xs hown c,by simpa using hown,World.grownBy.refl w _,.inl rfl⟩
 ·have hcells : ∀ j u,news[j]? = some u → w.cell? (ad.add j) = some u:=by
   intro j u hu
   rcases Nat.eq_zero_or_pos m with h0 | h0
   ·subst h0
    have hn : news = []:=List.eq_nil_of_length_eq_zero (by simpa using hr.1)
    subst hn
    simp at hu
   ·obtain ⟨ad',h,_,hc⟩:=hr.2 h0
    injection h with h
    subst h
    exact hc j u hu
  obtain ⟨v',w',hrun,h2,h3,_,h5⟩:=run_append_own_at (P:=P) w base t ty e i z size bytes ht hi hz hsize hby hzs hsz v n xs hown ad m c news hr.1 hcells h1 h63 hbytes hbase
  exact ⟨v',w',hrun,h2,h3,h5⟩
theorem wp_append_any {o : Oper} {a : Act} {K : Act → World → Prop} {Q : Exit → Act → World → Prop} (s x : Operand) (t : TypeId)
 (ho : o.op = .call { callee:=.builtin .append,args:=#[s,x],argTypes:=#[t,t] })
 (base : Nat) (e : TypeId) (i : TypeInfo) (z : Value) (size bytes : Nat) (ht : P.underlying t = some (.slice e)) (hi : P.info? e = some i) (hz : i.zero = some z)
 (hsize : i.size = size) (hby : i.bytes = bytes) (hzs : z.cells.size = size) (hsz : 0 < size)
 (v : Value) (n : Nat) (xs : List Value) (hs : a.eval s = v) (hown : w.ownsRow base e size v n xs)
 (B : Nat) (A : Option Addr) (m c : Nat) (news : List Value) (hx : a.eval x = .slice A m c) (hr : Reads w B size A m news) (h1 : ∀ u ∈ news,u.oneCell' = true)
 (h63 : n + m ≤ maxLen) (hbytes : (n + m) * bytes ≤ 140737488355328) (hbase : base ≤ w.heap.size)
 (h : ∀ v' w',w'.ownsRow base e size v' (n + m) (xs ++ news) → w.grownBy w' v.ownBlock → (v'.ownBlock = v.ownBlock ∨ v'.ownBlock = some w.heap.size) → K (a.put o.dst v') w') : o.wp P a w K Q:=by
 obtain ⟨v',w',hrun,h2,h3,h4⟩:=run_append_any (P:=P) w base t o.type e i z size bytes ht hi hz hsize hby hzs hsz v n xs hown B A m c news hr h1 h63 hbytes hbase
 unfold Oper.wp execOp
 simp only [ho,resolve,invoke,builtin,Sem.run_bind,Sem.run_pure,Result.andThen_ok,List.map_toArray,List.map_cons,List.map_nil,hs,hx,hrun]
 exact h v' w' h2 h3 h4
theorem wpList_append_any {ops : Array Oper} {rest : List Oper} {o : Oper} {a : Act} {Q : Exit → Act → World → Prop} (hgd : o.guard = none) (s x : Operand) (t : TypeId)
 (ho : o.op = .call { callee:=.builtin .append,args:=#[s,x],argTypes:=#[t,t] })
 (base : Nat) (e : TypeId) (i : TypeInfo) (z : Value) (size bytes : Nat) (ht : P.underlying t = some (.slice e)) (hi : P.info? e = some i) (hz : i.zero = some z)
 (hsize : i.size = size) (hby : i.bytes = bytes) (hzs : z.cells.size = size) (hsz : 0 < size)
 (v : Value) (n : Nat) (xs : List Value) (hs : a.eval s = v) (hown : w.ownsRow base e size v n xs)
 (B : Nat) (A : Option Addr) (m c : Nat) (news : List Value) (hx : a.eval x = .slice A m c) (hr : Reads w B size A m news) (h1 : ∀ u ∈ news,u.oneCell' = true)
 (h63 : n + m ≤ maxLen) (hbytes : (n + m) * bytes ≤ 140737488355328) (hbase : base ≤ w.heap.size)
 (h : ∀ v' w',w'.ownsRow base e size v' (n + m) (xs ++ news) → w.grownBy w' v.ownBlock → (v'.ownBlock = v.ownBlock ∨ v'.ownBlock = some w.heap.size) → wpList P ops Q rest (a.put o.dst v') w') : wpList P ops Q (o :: rest) a w :=
 wpList_plain hgd fun _ hK => wp_append_any w s x t ho base e i z size bytes ht hi hz hsize hby hzs hsz v n xs hs hown B A m c news hx hr h1 h63 hbytes hbase fun v' w' h2 h3 h4 => hK _ _ (h v' w' h2 h3 h4)
end
theorem own_below {W W' : World} {B C : Nat} {e : TypeId} {size n : Nat} {v : Value} {xs : List Value} (h : W.ownsRow B e size v n xs) (hb : Below C W W') (hlt : ∀ g,v.ownBlock = some g → g < C) : W'.ownsRow B e size v n xs:=by
 refine ⟨h.1,?_⟩
 rcases h.2 with h2 | ⟨g,cap,cur,hv,hg,hh,r⟩
 ·exact Or.inl h2
 ·refine Or.inr ⟨g,cap,cur,hv,hg,?_,r⟩
  rw [hb.block g (hlt g (by rw [hv];rfl))]
  exact hh
theorem own_lt {W : World} {B : Nat} {e : TypeId} {size n : Nat} {v : Value} {xs : List Value} (h : W.ownsRow B e size v n xs) : ∀ g,v.ownBlock = some g → B ≤ g ∧ g < W.heap.size:=by
 intro g hg
 rcases h.2 with ⟨hv,_⟩ | ⟨g',cap,cur,hv,hB,hh,_⟩
 ·rw [hv] at hg;cases hg
 ·rw [hv] at hg
  obtain rfl : g' = g:=Option.some.inj hg
  exact ⟨hB,(Array.getElem?_eq_some_iff.1 hh).1⟩
theorem own_set {W : World} {B g c : Nat} {e : TypeId} {size n : Nat} {xs : List Value} (h : W.ownsRow B e size (.slice (some ⟨g,0,none⟩) n c) n xs) (i : Nat) (_hi : i < n * size) (v : Value) :
 (W.setCell ⟨g,i,none⟩ v).ownsRow B e size (.slice (some ⟨g,0,none⟩) n c) n (xs.set i v):=by
 refine ⟨by rw [List.length_set];exact h.1,?_⟩
 rcases h.2 with ⟨hv,_⟩ | ⟨g',cap,cur,hv,hB,hh,hnc,hcm,hsz,ht⟩
 ·cases hv
 ·injection hv with h1 h2 h3
  have h4 : g = g':=by injection h1 with h1;injection h1
  subst h4
  subst h3
  refine Or.inr ⟨g,_,cur.setIfInBounds i v,rfl,hB,?_,hnc,hcm,by rw [Array.size_setIfInBounds];exact hsz,?_⟩
  ·simp [World.setCell,Array.getElem?_modify,hh]
  ·rw [Array.toList_setIfInBounds,List.take_set,ht]
theorem below_grown {B : Nat} {W W' : World} {e : TypeId} {size n : Nat} {v : Value} {xs : List Value} (hown : W.ownsRow B e size v n xs) (hg : W.grownBy W' v.ownBlock) (hB : B ≤ W.heap.size) : Below B W W' :=
 ⟨hg.os,hg.tape,hg.output,hg.size,fun k hk => hg.block k (by omega) (fun e => by have := (hown.lt k e.symm).1;omega)⟩
theorem stCs_oneM (d : SAd) (s : St) : ∀ u ∈ (stCs d s).toList,u.oneCell' = true:=by
 obtain ⟨k0,ln,co,nm,fd,fr,⟨ek,en,es,el⟩,⟨ck,⟨ak,an,sa,al⟩,⟨bk,bn,sb,bl⟩,l⟩,cl,iv,b,t⟩:=s
 have h : (stCs d (St.mk k0 ln co nm fd fr (.mk ek en es el) (.mk ck (.mk ak an sa al) (.mk bk bn sb bl) l) cl iv b t)).all (·.oneCell') = true:=by
  unfold stCs
  rw [List.all_toArray]
  rfl
 intro u hu
 exact (Array.all_eq_true_iff_forall_mem.1 h) u (by simpa using hu)
theorem wpList_srowM {ops : Array Oper} {rest : List Oper} {o : Oper} {a : Act} {w : World} {Q : Exit → Act → World → Prop} (d : Nat) (hd : o.dst = some d) (hg : o.guard = none) (x : Operand) (ho : o.op = .buildSlice 22 1 #[(0,x)]) (sv : Array Value) (h24 : sv.size = 24) (hx : a.eval x = .agg sv)
 (h : wpList Tryz.prog ops Q rest (a.put (some d) (.slice (some ⟨w.heap.size,0,none⟩) 1 1)) (w.alloc (.cells sv 40))) : wpList Tryz.prog ops Q (o :: rest) a w:=by
 obtain ⟨i0,hi,hiz,his,hib⟩:=info_parts infoStmt
 rw [← hd] at h
 refine wpList_buildSlice hg 22 40 1 _ ho sv i0 _ Tryz.underlying22 hi hiz (by rw [his];omega) (by rw [his];omega) ?_ h
 have e : (#[(0,x)].map fun (i,x) => (i,a.eval x)).toList = (([sv].map Value.agg).zipIdx 0).map fun x => (x.2,x.1):=by simp [hx]
 rw [e,fill_rows i0.size his _ [sv] (fun c hc => by rw [List.mem_singleton.1 hc];exact h24) (by simp [his])]
 simp [flatC]
theorem reads_one {w : World} {cs : Array Value} {t : TypeId} (h24 : cs.size = 24) : Reads (w.alloc (.cells cs t)) (w.heap.size + 1) 24 (some ⟨w.heap.size,0,none⟩) 1 cs.toList:=by
 refine ⟨by simpa using h24,fun _ => ⟨_,rfl,Nat.lt_succ_self _,fun j u hu => ?_⟩⟩
 rw [add_block0]
 exact cell_of_block (heap_of_alloc w (.cells cs t)) j (by simpa using hu)
theorem own_sliceM {w : World} {base : Nat} {e : TypeId} {size n : Nat} {v : Value} {xs : List Value} (h : w.ownsRow base e size v n xs) : ∃ A c,v = .slice A n c:=by
 rcases h.2 with ⟨rfl,h0⟩ | ⟨g,cap,cur,rfl,_⟩
 ·subst h0;exact ⟨none,0,rfl⟩
 ·exact ⟨_,_,rfl⟩
def Flatted (B : Nat) (w : World) (g : List St) (v : Value) (wr : World) : Prop :=
 ∃ (D : Nat → SAd) (xs : List Value),wr.ownsRow w.heap.size 40 24 v g.length xs ∧ CellsOf D g xs ∧ (∀ i s,g[i]? = some s → ElIn (fun b => b < B) wr (D i) s) ∧ Below w.heap.size w wr
theorem fl_len {l f : List St} (h : FlL l f) : l.length ≤ f.length:=by
 induction h with
 | nil => exact Nat.le_refl _
 | cons s l fb fo fl h1 h2 h3 i1 i2 i3 =>
   simp only [List.length_cons,List.length_append]
   omega
theorem fl_eq {l f : List St} (h : FlL l f) : ∀ {g : List St},FlL l g → f = g:=by
 induction h with
 | nil => intro g hg;cases hg;rfl
 | cons s l fb fo fl h1 h2 h3 i1 i2 i3 =>
   intro g hg
   cases hg with
   | cons _ _ gb go gl g1 g2 g3 => rw [i1 g1,i2 g2,i3 g3]
theorem fl_room : ∀ {k : Nat} {ss : List St} {s : St},ss[k]? = some s → ∀ {f g fb fo : List St},FlL ss f → FlL (ss.take k) g → FlL s.body fb → FlL s.els fo → g.length + 1 + fb.length + fo.length ≤ f.length
 | 0,x :: l,s,hi,f,g,fb,fo,h0,h1,h2,h3 => by
   obtain rfl : x = s:=Option.some.inj hi
   rw [List.take_zero] at h1
   cases h1
   cases h0 with
   | cons _ _ gb go gl g1 g2 g3 =>
     rw [fl_eq h2 g1,fl_eq h3 g2]
     simp only [List.length_cons,List.length_append,List.length_nil]
     omega
 | k + 1,x :: l,s,hi,f,g,fb,fo,h0,h1,h2,h3 => by
   rw [List.take_succ_cons] at h1
   cases h1 with
   | cons _ _ hb ho hl e1 e2 e3 =>
     cases h0 with
     | cons _ _ gb go gl g1 g2 g3 =>
       have h4:=fl_room (k:=k) (ss:=l) hi g3 e3 h2 h3
       rw [fl_eq e1 g1,fl_eq e2 g2]
       simp only [List.length_cons,List.length_append]
       omega
 | _,[],_,hi,_,_,_,_,_,_,_,_ => by simp at hi
theorem els_cat {B : Nat} {w1 w2 w : World} {D1 D2 : Nat → SAd} {g1 g2 : List St} {xs1 xs2 : List Value} (hx : xs1.length = g1.length * 24) (c1 : CellsOf D1 g1 xs1) (c2 : CellsOf D2 g2 xs2) (k1 : ∀ q : Addr,q.block < B → w.cell? q = w1.cell? q) (k2 : ∀ q : Addr,q.block < B → w.cell? q = w2.cell? q)
 (e1 : ∀ i s,g1[i]? = some s → ElIn (fun b => b < B) w1 (D1 i) s) (e2 : ∀ i s,g2[i]? = some s → ElIn (fun b => b < B) w2 (D2 i) s) :
 ∃ D,CellsOf D (g1 ++ g2) (xs1 ++ xs2) ∧ ∀ i s,(g1 ++ g2)[i]? = some s → ElIn (fun b => b < B) w (D i) s :=
 ⟨_,c1.append hx c2,els_append (fun i s hi => (e1 i s hi).stay k1 fun _ h => h) (fun i s hi => (e2 i s hi).stay k2 fun _ h => h)⟩
theorem stCs_22 (d : SAd) (s : St) : (stCs d s)[22]? = some (.slice d.s s.body.length d.ns):=by
 obtain ⟨k0,ln,co,nm,fd,fr,⟨ek,en,es,el⟩,⟨ck,⟨ak,an,sa,al⟩,⟨bk,bn,sb,bl⟩,l⟩,cl,iv,b,t⟩:=s
 rfl
theorem stCs_23 (d : SAd) (s : St) : (stCs d s)[23]? = some (.slice d.t s.els.length d.nt):=by
 obtain ⟨k0,ln,co,nm,fd,fr,⟨ek,en,es,el⟩,⟨ck,⟨ak,an,sa,al⟩,⟨bk,bn,sb,bl⟩,l⟩,cl,iv,b,t⟩:=s
 rfl
theorem cells_one {D : Nat → SAd} {g : List St} {xs : List Value} (h : CellsOf D g xs) (hx : xs.length = g.length * 24) : ∀ u ∈ xs,u.oneCell' = true:=by
 intro u hu
 obtain ⟨p,hp,rfl⟩:=List.getElem_of_mem hu
 have h1 : p / 24 < g.length:=by omega
 have h2 : p % 24 < (stCs (D (p / 24)) g[p / 24]).size:=by rw [stCs_size];omega
 have h3:=h (p / 24) _ (List.getElem?_eq_getElem h1) (p % 24) _ (Array.getElem?_eq_getElem h2)
 rw [show p / 24 * 24 + p % 24 = p from by omega,List.getElem?_eq_getElem hp] at h3
 rw [Option.some.inj h3]
 exact stCs_oneM (D (p / 24)) g[p / 24] _ (Array.mem_toList_iff.2 (Array.getElem_mem h2))
theorem cell_free {w : World} {b : Nat} {cs : Array Value} {t : TypeId} (h : w.heap[b]? = some (.cells cs t (0,0))) (j : Nat) (v : Value) (hv : cs[j]? = some v) : w.cell? ⟨b,j,none⟩ = some v ∧ w.frozen? ⟨b,j,none⟩ = false:=by
 refine ⟨?_,by simp [World.frozen?,h]⟩
 unfold World.cell?
 rw [show w.heap[(⟨b,j,none⟩ : Addr).block]? = some (.cells cs t (0,0)) from h]
 exact hv
theorem below_al {w w' : World} (h : Below w.heap.size w w') (o : Obj) : Below w.heap.size w (w'.alloc o):=h.alloc h.size o
def sAd0 : SAd:=⟨none,none,none,none,none,none,none,none,0,0,0,0,0,0,0,0⟩
theorem set_otherM (W : World) (p : Addr) (v : Value) {q : Addr} (h : q.block ≠ p.block) : (W.setCell p v).cell? q = W.cell? q :=
 World.cell?_setCell_other W p q v (fun e => h (by rw [e]))
end Go.Proofs.YtnkpgpmaiicdeaaGreatDoor
namespace Go.Proofs.YtnkpgpmaiicdeaaGreatDoor
set_option maxRecDepth 100000
set_option maxHeartbeats 8000000
open Go.RowKit
def FlatPost (B : Nat) (f : List St) (w : World) (e : Ending) (w' : World) : Prop:=∃ (A : Option Addr) (c : Nat),e = .returned (.slice A f.length c) ∧ Flatted B w f (.slice A f.length c) w'
theorem flat_any : ∀ (M : Nat) (ss : List St),SizeOf.sizeOf ss < M → ∀ (A : Option Addr) (c B : Nat) (f : List St) (w : World),StRow w B ss A → B ≤ w.heap.size → ss.length ≤ maxLen → FlL ss f → f.length ≤ 200000 →
 Calls Tryz.prog 7 #[.slice A ss.length c] w (FlatPost B f w):=by
 intro M
 induction M with
 | zero => intro ss h;omega
 | succ M ih =>
   intro ss hM A c B f w hr hB hn hf hfl
   obtain ⟨T,N,zc,hT,hN,hzc,hag,hsz,hzv⟩:=stmt_hidden2
   have e1 : ∀ y : Operand,Op.load 40 y = Op.load T y:=fun y => by rw [hT]
   obtain ⟨i0,hi0,hiz,his,hib⟩:=info_parts infoStmt
   have HI0:=Lib.hid (And.intro hi0 (And.intro hiz (And.intro his hib)))
   clear hi0 hiz his hib
   obtain ⟨n,hnn⟩ : ∃ n,n = ss.length:=⟨_,rfl⟩
   have HH:=Lib.hid (And.intro hr (And.intro ih (And.intro hM (And.intro hnn (And.intro hf hfl)))))
   have HB:=Lib.hid hB
   have HN:=Lib.hid (And.intro hN hzc)
   rw [← hnn] at hn ⊢
   clear hr ih hM hnn hN hzc hf hfl hB
   unfold maxLen at hn
   go_enter Tryz.func7,Tryz.ntmps7
   simp only [e1]
   clear e1 hT
   go_wp2
   go_loopg [3,4] n (fun m v j wr => ∃ (k : Nat) (g : List St),m = n - k ∧ k ≤ n ∧ j = .int .i64 k ∧ Hid (FlL (ss.take k) g ∧ Flatted B w g v wr))
   case atStart => exact ⟨0,[],rfl,Nat.zero_le _,rfl,Lib.hid ⟨by rw [List.take_zero];exact .nil,fun _ => sAd0,[],World.ownsRow_nil w _ _ _,fun i s hi => by simp at hi,fun i s hi => by simp at hi,Below.refl _ _⟩⟩
   case round =>
    obtain ⟨k,g,rfl,hk,rfl,HI⟩:=hrel
    by_cases hlt : k < n
    ·have hki : (k : Int) < n:=by omega
     obtain ⟨s,hi⟩ : ∃ x,ss[k]? = some x:=⟨ss[k]'(by rw [← HH.out.2.2.2.1];exact hlt),List.getElem?_eq_getElem _⟩
     have hone:=fun d => stCs_oneM d s
     obtain ⟨a,d,rfl,hab,hc,hown,hb1,hb2⟩:=HH.out.1.at_ hi
     obtain ⟨D,xs,ho,hcl,hel,hbw⟩:=HI.out.2
     have HEl : Hid (ElIn (fun b => b < B) w d s):=Lib.hid (el_in HB.out hown hb1 hb2)
     obtain ⟨fb,hfb⟩:=fl_any _ s.body (Nat.lt_succ_self _)
     obtain ⟨fo,hfo⟩:=fl_any _ s.els (Nat.lt_succ_self _)
     have HF:=Lib.hid (And.intro hfb (And.intro hfo (And.intro (fl_add hi HI.out.1 hfb hfo) (fl_room hi HH.out.2.2.2.2.1 HI.out.1 hfb hfo))))
     have hroom : g.length + 1 + fb.length + fo.length ≤ 200000:=by have := HF.out.2.2.2;have := HH.out.2.2.2.2.2;omega
     have hm12 : s.body.length ≤ maxLen ∧ s.els.length ≤ maxLen:=⟨by have := fl_len hfb;unfold maxLen;omega,by have := fl_len hfo;unfold maxLen;omega⟩
     have hszz : SizeOf.sizeOf s.body < M ∧ SizeOf.sizeOf s.els < M:=by
      have h1:=HH.out.2.2.1
      have h2:=List.sizeOf_lt_of_mem (List.mem_of_getElem? hi)
      obtain ⟨k0,ln,co,nm,fd,fr,e,cn,cl,iv,b,t⟩:=s
      have h3 : SizeOf.sizeOf b < SizeOf.sizeOf (St.mk k0 ln co nm fd fr e cn cl iv b t):=by simp;omega
      have h4 : SizeOf.sizeOf t < SizeOf.sizeOf (St.mk k0 ln co nm fd fr e cn cl iv b t):=by simp;omega
      simp only [St.body,St.els]
      omega
     obtain ⟨nb,hnb⟩ : ∃ nb,nb = s.body.length:=⟨_,rfl⟩
     obtain ⟨nt,hnt⟩ : ∃ nt,nt = s.els.length:=⟨_,rfl⟩
     have hcz : (stCs d s).size = 24:=stCs_size d s
     have hc22 : (stCs d s)[22]? = some (.slice d.s nb d.ns):=by rw [hnb];exact stCs_22 d s
     have hc23 : (stCs d s)[23]? = some (.slice d.t nt d.nt):=by rw [hnt];exact stCs_23 d s
     obtain ⟨cs,hcs⟩ : ∃ cs,cs = stCs d s:=⟨_,rfl⟩
     rw [← hcs] at hc hcz hc22 hc23
     have hone1 : ∀ u ∈ cs.toList,u.oneCell' = true:=by rw [hcs];exact hone d
     have HC1 : Hid (∀ W,Below w.heap.size w W → Calls Tryz.prog 7 #[.slice d.s nb d.ns] W (FlatPost B fb W)):=Lib.hid (fun W hb => by
      rw [hnb]
      exact HH.out.2.1 s.body hszz.1 d.s d.ns B fb W (hb1.keep (fun q hq => hb.cell (Nat.lt_of_lt_of_le hq HB.out)) (Nat.le_refl _)) (Nat.le_trans HB.out hb.size) hm12.1 hfb (by omega))
     have HC2 : Hid (∀ W,Below w.heap.size w W → Calls Tryz.prog 7 #[.slice d.t nt d.nt] W (FlatPost B fo W)):=Lib.hid (fun W hb => by
      rw [hnt]
      exact HH.out.2.1 s.els hszz.2 d.t d.nt B fo W (hb2.keep (fun q hq => hb.cell (Nat.lt_of_lt_of_le hq HB.out)) (Nat.le_refl _)) (Nat.le_trans HB.out hb.size) hm12.2 hfo (by omega))
     have hblk : (a.add (k * 24)).block < w.heap.size:=by rw [block_adds];exact Nat.lt_of_lt_of_le hab HB.out
     have HY : Hid (∀ W,Below w.heap.size w W → W.cell? ⟨(a.add (k * 24)).block,(a.add (k * 24)).off + 22,none⟩ = some (.slice d.s nb d.ns) ∧ W.cell? ⟨(a.add (k * 24)).block,(a.add (k * 24)).off + 23,none⟩ = some (.slice d.t nt d.nt)):=Lib.hid (fun W hb =>
      ⟨(hb.cell (p:=(a.add (k * 24)).add 22) (by rw [block_adds];exact hblk)).trans (hc 22 _ hc22),(hb.cell (p:=(a.add (k * 24)).add 23) (by rw [block_adds];exact hblk)).trans (hc 23 _ hc23)⟩)
     have hl1 : (loadCellsFrom (a.add (k * 24)) 0 N #[]).run Tryz.prog wr = .ok cs wr:=load_list (fun j v hv => (hbw.cell (by rw [block_adds];exact hblk)).trans (hc j v hv)) (hcz.trans HN.out.1.symm)
     obtain ⟨ng,hng⟩ : ∃ ng,ng = g.length:=⟨_,rfl⟩
     obtain ⟨mb,hmb⟩ : ∃ mb,mb = fb.length:=⟨_,rfl⟩
     obtain ⟨mo,hmo⟩ : ∃ mo,mo = fo.length:=⟨_,rfl⟩
     rw [← hng] at ho
     have HO:=Lib.hid (And.intro ho (And.intro hcl (And.intro hel (And.intro hbw hone1))))
     have HG:=Lib.hid (And.intro hng (And.intro hmb (And.intro hmo (And.intro hcs hlt))))
     rw [← hng,← hmb,← hmo] at hroom
     clear hc hown hb1 hb2 hi hfb hfo hszz hm12 hnb hnt hng hmb hmo ho hcl hel hbw hone hone1 hcs hc22 hc23 hab hblk
     have HB1 : Hid (Below w.heap.size w (wr.alloc (.cells cs 40))):=Lib.hid (below_al HO.out.2.2.2.1 _)
     go_wp2_with (first
      | (refine wpList_srowM 16 rfl rfl (.tmp 15) rfl cs hcz rfl ?_)
      | (at_builtin;refine wpList_append_any (o:=⟨some 17,_,_,_,_,_⟩) _ rfl _ _ 22 rfl w.heap.size 40 i0 _ 24 368 Tryz.underlying22 HI0.out.1 HI0.out.2.1 HI0.out.2.2.1 HI0.out.2.2.2 rfl (by decide) _ ng xs rfl (HO.out.1.alloc _) (wr.heap.size + 1) (some ⟨wr.heap.size,0,none⟩) 1 1 cs.toList rfl (reads_one hcz) HO.out.2.2.2.2 (by unfold maxLen;omega) (by omega) HB1.out.size ?_
         intro v1 w1 o1 g1 _
         have HB2 : Hid (Below w.heap.size w w1):=Lib.hid (HB1.out.trans (below_grown (HO.out.1.alloc _) g1 HB1.out.size))
         have H1:=Lib.hid o1
         obtain ⟨y22,_⟩:=HY.out _ HB2.out
         clear o1 g1)
      | (go_at_call 7;(with_reducible refine (HC1.out _ HB2.out).mono ?_);rintro e w2 ⟨A2,c2,rfl,D2,xs2,o2,cl2,el2,b2⟩
         have HB3 : Hid (Below w.heap.size w w2):=Lib.hid (HB2.out.trans (b2.mono HB2.out.size))
         have H2 : Hid (w2.ownsRow w.heap.size 40 24 v1 (ng + 1) (xs ++ cs.toList)):=Lib.hid (own_below H1.out b2 (fun q hq => (own_lt H1.out q hq).2))
         rw [← HG.out.2.1] at o2 ⊢
         have H2b:=Lib.hid (And.intro o2 (And.intro cl2 el2))
         clear o2 cl2 el2 b2 y22)
      | (at_builtin;refine wpList_append_any (o:=⟨some 25,_,_,_,_,_⟩) _ rfl _ _ 22 rfl w.heap.size 40 i0 _ 24 368 Tryz.underlying22 HI0.out.1 HI0.out.2.1 HI0.out.2.2.1 HI0.out.2.2.2 rfl (by decide) _ (ng + 1) (xs ++ cs.toList) rfl H2.out w2.heap.size A2 mb c2 xs2 rfl (Reads.of_own H2b.out.1) (cells_one H2b.out.2.1 (by rw [← HG.out.2.1];exact H2b.out.1.1)) (by unfold maxLen;omega) (by omega) HB3.out.size ?_
         intro v3 w3 o3 g3 _
         have HB4 : Hid (Below w.heap.size w w3):=Lib.hid (HB3.out.trans (below_grown H2.out g3 HB3.out.size))
         have H3:=Lib.hid o3
         obtain ⟨_,y23⟩:=HY.out _ HB4.out
         clear o3 g3)
      | (go_at_call 7;(with_reducible refine (HC2.out _ HB4.out).mono ?_);rintro e w4 ⟨A4,c4,rfl,D4,xs4,o4,cl4,el4,b4⟩
         have HB5 : Hid (Below w.heap.size w w4):=Lib.hid (HB4.out.trans (b4.mono HB4.out.size))
         have H4 : Hid (w4.ownsRow w.heap.size 40 24 v3 (ng + 1 + mb) (xs ++ cs.toList ++ xs2)):=Lib.hid (own_below H3.out b4 (fun q hq => (own_lt H3.out q hq).2))
         rw [← HG.out.2.2.1] at o4 ⊢
         have H4b:=Lib.hid (And.intro o4 (And.intro cl4 el4))
         clear o4 cl4 el4 b4 y23)
      | (at_builtin;refine wpList_append_any (o:=⟨some 33,_,_,_,_,_⟩) _ rfl _ _ 22 rfl w.heap.size 40 i0 _ 24 368 Tryz.underlying22 HI0.out.1 HI0.out.2.1 HI0.out.2.2.1 HI0.out.2.2.2 rfl (by decide) _ (ng + 1 + mb) (xs ++ cs.toList ++ xs2) rfl H4.out w4.heap.size A4 mo c4 xs4 rfl (Reads.of_own H4b.out.1) (cells_one H4b.out.2.1 (by rw [← HG.out.2.2.1];exact H4b.out.1.1)) (by unfold maxLen;omega) (by omega) HB5.out.size ?_
         intro v5 w5 o5 g5 _
         have HB6 : Hid (Below w.heap.size w w5):=Lib.hid (HB5.out.trans (below_grown H4.out g5 HB5.out.size))
         have H5:=Lib.hid o5
         clear o5 g5))
     go_roundg (n - (k + 1))
     case measure => have := HG.out.2.2.2.2;omega
     case rel =>
      refine ⟨k + 1,g ++ [s] ++ fb ++ fo,rfl,(by have := HG.out.2.2.2.2;omega),by go_num,Lib.hid ⟨HF.out.2.2.1,?_⟩⟩
      obtain ⟨hng,hmb,hmo,hcs,_⟩:=HG.out
      have hB:=HB.out
      have hx : xs.length = g.length * 24:=by rw [← hng];exact HO.out.1.1
      obtain ⟨D1,c1,e1⟩:=els_cat (w:=w5) hx HO.out.2.1 (cellsOf_one d s) (fun q hq => (HB6.out.cell (by omega)).trans (HO.out.2.2.2.1.cell (by omega)).symm) (fun q hq => HB6.out.cell (by omega)) HO.out.2.2.1 (fun i t hi => by
       match i,hi with
       | 0,hi => obtain rfl:=Option.some.inj hi;exact HEl.out
       | i + 1,hi => simp at hi)
      have hx1 : (xs ++ (stCs d s).toList).length = (g ++ [s]).length * 24:=by
       have h1 : (stCs d s).toList.length = 24:=by rw [Array.length_toList];exact stCs_size d s
       have h2 : (g ++ [s]).length = g.length + 1:=by simp
       rw [List.length_append,hx,h1,h2];omega
      obtain ⟨D3,c3,e3⟩:=els_cat (w:=w5) hx1 c1 H2b.out.2.1 (fun q hq => rfl) (fun q hq => (HB6.out.cell (by omega)).trans (HB3.out.cell (by omega)).symm) e1 H2b.out.2.2
      have hx3 : (xs ++ (stCs d s).toList ++ xs2).length = (g ++ [s] ++ fb).length * 24:=by
       have := H2b.out.1.1
       have h4 : (g ++ [s] ++ fb).length = (g ++ [s]).length + fb.length:=List.length_append
       rw [List.length_append,hx1,this,hmb,h4];omega
      obtain ⟨D5,c5,e5⟩:=els_cat (w:=w5) hx3 c3 H4b.out.2.1 (fun q hq => rfl) (fun q hq => (HB6.out.cell (by omega)).trans (HB5.out.cell (by omega)).symm) e3 H4b.out.2.2
      refine ⟨D5,_,?_,c5,e5,HB6.out⟩
      have h5:=H5.out
      rw [hng,hmb,hmo,hcs] at h5
      rw [show (g ++ [s] ++ fb ++ fo).length = g.length + 1 + fb.length + fo.length by simp only [List.length_append,List.length_cons,List.length_nil]]
      exact h5
    ·obtain rfl : k = n:=by omega
     go_wp2
     go_ret
     obtain ⟨h1,h2⟩:=HI.out
     rw [List.take_of_length_le (by rw [← HH.out.2.2.2.1];exact Nat.le_refl _)] at h1
     obtain rfl:=fl_eq HH.out.2.2.2.2.1 h1
     obtain ⟨D,xs,ho,_⟩:=id h2
     obtain ⟨A',c',rfl⟩:=own_sliceM ho
     exact ⟨A',c',rfl,h2⟩
end Go.Proofs.YtnkpgpmaiicdeaaGreatDoor
namespace Go.Proofs.YtnkpgpmaiicdeaaGreatDoor
open Go.RowKit
theorem infoPr : (Tryz.prog.info? 46).map (fun i => (i.zero,i.size,i.bytes)) = some (some (.agg #[.string ⟨#[]⟩,.int .i64 0,.int .i64 0,.slice none 0 0,.slice none 0 0,.string ⟨#[]⟩,.string ⟨#[]⟩,.bool false,.slice none 0 0,.slice none 0 0,.slice none 0 0,.slice none 0 0]),12,216):=by kernel_rfl
theorem hid_ProcM : ∃ (T N : Nat) (zc : Array Value),46 = T ∧ N = 12 ∧ zc.size = N ∧ (∀ w : World,(isAgg T).run Tryz.prog w = .ok true w) ∧ (∀ w : World,(sizeOf T).run Tryz.prog w = .ok N w) ∧ (∀ w : World,(zeroValue T).run Tryz.prog w = .ok (.agg zc) w) :=
 ⟨_,12,#[.string ⟨#[]⟩,.int .i64 0,.int .i64 0,.slice none 0 0,.slice none 0 0,.string ⟨#[]⟩,.string ⟨#[]⟩,.bool false,.slice none 0 0,.slice none 0 0,.slice none 0 0,.slice none 0 0],rfl,rfl,rfl,fun w => by kernel_rfl,fun w => by kernel_rfl,fun w => by kernel_rfl⟩
def flat12 (vs : List (Array Value)) : List Value:=vs.flatMap Array.toList
theorem flat12_len : ∀ {vs : List (Array Value)},(∀ c ∈ vs,c.size = 12) → (flat12 vs).length = vs.length * 12
 | [],_ => rfl
 | c :: vs,h => by
   have h1 : c.toList.length = 12:=by rw [Array.length_toList];exact h c (List.mem_cons_self ..)
   have h2:=flat12_len (vs:=vs) (fun c hc => h c (List.mem_cons_of_mem _ hc))
   unfold flat12 at h2 ⊢
   rw [List.flatMap_cons,List.length_append,h1,h2,List.length_cons]
   omega
theorem flat12_get : ∀ {vs : List (Array Value)},(∀ c ∈ vs,c.size = 12) → ∀ (i j : Nat),j < 12 → (flat12 vs)[i * 12 + j]? = (vs[i]?).bind fun c => c[j]?
 | [],_,i,j,_ => by simp [flat12]
 | c :: vs,h,i,j,hj => by
   have h1 : c.toList.length = 12:=by rw [Array.length_toList];exact h c (List.mem_cons_self ..)
   have h2:=fun i => flat12_get (vs:=vs) (fun c hc => h c (List.mem_cons_of_mem _ hc)) i j hj
   unfold flat12 at h2 ⊢
   rw [List.flatMap_cons]
   match i with
   | 0 =>
     rw [List.getElem?_append_left (by omega),Nat.zero_mul,Nat.zero_add]
     simp
   | i + 1 =>
     rw [List.getElem?_append_right (by omega),h1,show (i + 1) * 12 + j - 12 = i * 12 + j from by omega,h2 i]
     rfl
def prL (D : Nat → PAd) (l : List Pr) : List (Array Value):=l.mapIdx fun i x => prCs (D i) x
theorem prL_get (D : Nat → PAd) (l : List Pr) (i : Nat) : (prL D l)[i]? = (l[i]?).map (prCs (D i)):=by
 unfold prL
 rw [List.getElem?_mapIdx]
theorem prL_size (D : Nat → PAd) (l : List Pr) : ∀ c ∈ prL D l,c.size = 12:=by
 intro c hc
 obtain ⟨i,hi,rfl⟩:=List.getElem_of_mem hc
 have h:=prL_get D l i
 rw [List.getElem?_eq_getElem hi] at h
 cases e : l[i]? with
 | none => rw [e] at h;cases h
 | some x => rw [e] at h;rw [Option.some.inj h];rfl
theorem pr_len (D : Nat → PAd) (l : List Pr) : (flat12 (prL D l)).length = l.length * 12:=by
 rw [flat12_len (prL_size D l)]
 unfold prL
 rw [List.length_mapIdx]
theorem pr_get (D : Nat → PAd) (l : List Pr) (i j : Nat) (hj : j < 12) : (flat12 (prL D l))[i * 12 + j]? = (l[i]?).bind fun x => (prCs (D i) x)[j]?:=by
 rw [flat12_get (prL_size D l) i j hj,prL_get]
 cases l[i]? <;> rfl
theorem pr_one (D : Nat → PAd) (l : List Pr) : ∀ u ∈ flat12 (prL D l),u.oneCell' = true:=by
 intro u hu
 obtain ⟨p,hp,rfl⟩:=List.getElem_of_mem hu
 have h:=pr_get D l (p / 12) (p % 12) (by omega)
 rw [show p / 12 * 12 + p % 12 = p from by omega,List.getElem?_eq_getElem hp] at h
 cases e : l[p / 12]? with
 | none => rw [e] at h;cases h
 | some x =>
   rw [e] at h
   have h1 : (prCs (D (p / 12)) x).all (·.oneCell') = true:=by unfold prCs;rw [List.all_toArray];rfl
   have h2:=(Array.getElem?_eq_some_iff.1 h.symm)
   obtain ⟨h3,h4⟩:=h2
   rw [← h4]
   exact (Array.all_eq_true_iff_forall_mem.1 h1) _ (Array.getElem_mem h3)
theorem pr_reads {w : World} {B : Nat} {l : List Pr} {A : Option Addr} (h : PrRow w B l A) : ∃ D : Nat → PAd,Reads w B 12 A l.length (flat12 (prL D l)) ∧ ∀ i x,l[i]? = some x → PrOwn w B (D i) x:=by
 cases h with
 | nil => exact ⟨fun _ => ⟨none,none,none,none,none,none,0,0,0,0,0,0⟩,⟨pr_len _ _,fun h => absurd h (by simp)⟩,fun i x hi => by simp at hi⟩
 | row a l hb cells =>
   have h1 : ∀ i,∃ d : PAd,∀ x,l[i]? = some x → (∀ j v,(prCs d x)[j]? = some v → w.cell? ((a.add (i * 12)).add j) = some v) ∧ PrOwn w B d x:=by
    intro i
    cases e : l[i]? with
    | none => exact ⟨⟨none,none,none,none,none,none,0,0,0,0,0,0⟩,fun x hx => by cases hx⟩
    | some x =>
      obtain ⟨d,hd⟩:=cells i x e
      exact ⟨d,fun y hy => by obtain rfl:=Option.some.inj hy;exact hd⟩
   obtain ⟨D,hD⟩:=Classical.axiomOfChoice h1
   refine ⟨D,⟨pr_len _ _,fun _ => ⟨a,rfl,hb,fun p u hu => ?_⟩⟩,fun i x hi => (hD i x hi).2⟩
   have h2:=pr_get D l (p / 12) (p % 12) (by omega)
   rw [show p / 12 * 12 + p % 12 = p from by omega,hu] at h2
   cases e : l[p / 12]? with
   | none => rw [e] at h2;cases h2
   | some x =>
     rw [e] at h2
     have h3:=(hD (p / 12) x e).1 (p % 12) u h2.symm
     rw [add_of_add,show p / 12 * 12 + p % 12 = p from by omega] at h3
     exact h3
def CloneP (B : Nat) (l : List Pr) (n : Nat) (w : World) (e : Ending) (w' : World) : Prop:=∃ A c D,e = .returned (.slice A n c) ∧ w'.ownsRow w.heap.size 46 12 (.slice A n c) n (flat12 (prL D l)) ∧ (∀ i x,l[i]? = some x → PrOwn w B (D i) x) ∧ Below w.heap.size w w'
end Go.Proofs.YtnkpgpmaiicdeaaGreatDoor
