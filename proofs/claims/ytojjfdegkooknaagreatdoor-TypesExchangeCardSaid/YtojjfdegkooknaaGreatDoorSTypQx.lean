import Derived.Test.YtojjfdegkooknaaGreatDoorSTypQf
import Derived.Test.YtojjfdegkooknaaGreatDoorSTypAx
import Derived.Test.YtojjfdegkooknaaGreatDoorSTypFw
set_option linter.unusedVariables false
set_option linter.unusedSimpArgs false
namespace Go.Proofs.YtojjfdegkooknaaGreatDoor
set_option maxRecDepth 100000
set_option maxHeartbeats 40000000
open Go.RowKit Go.Lib
theorem OwnR.clone {α : Type} {T : TypeId} {K : Nat} {V : World -> Nat -> Array Value -> α -> Prop} (hV : ju V) {w W W' : World} {l : List α} {A : Option Addr} {n c : Nat} {vs : List (Array Value)} (hn : n = l.length) (yA : Below w.heap.size w W) (ho : W'.ownsRow W.heap.size T K (.slice A n c) n (zx vs)) (hv : VRow V K W w.heap.size l vs) :
 OwnR T K V w l A c W.heap.size W'.heap.size W':=by
 subst hn
 exact ⟨⟨vs,hv.keep hV (fun q hq => (yA.cell hq).symm) (Nat.le_refl _),ho⟩,fun g hg => (qs ho g hg).2⟩
def jB {α : Type} (f : Nat -> α) (k : Nat) (a : α) : Nat -> α:=fun i => if i = k then a else f i
structure QMid (w W1 : World) (p : Pg) (T : TypeId) (zc : Array Value) (k : Nat) (al : Option Nat) (B : Nat -> Option Addr) (b lo hi : Nat -> Nat) (X : World) : Prop where
 low : Below w.heap.size w W1
 blw : Below W1.heap.size W1 X
 box : ∀ bq,al = some bq -> X.heap[bq]? = some (.cells zc T) /\ W1.heap.size <= bq /\ ∀ i,i < k -> bq < lo i \/ hi i <= bq
 base : ∀ i,i < k -> W1.heap.size <= lo i
 sep : ∀ i j,i < j -> j < k -> hi i <= lo j
 top : ∀ i,i < k -> hi i <= X.heap.size
 o0 : 0 < k -> OwnR 36 2 yW w p.rs (B 0) (b 0) (lo 0) (hi 0) X
 o1 : 1 < k -> OwnR 42 2 zp w p.gs (B 1) (b 1) (lo 1) (hi 1) X
 o2 : 2 < k -> OwnR 61 2 vA w p.ks (B 2) (b 2) (lo 2) (hi 2) X
 o3 : 3 < k -> OwnR 64 3 vg w p.ds (B 3) (b 3) (lo 3) (hi 3) X
 o4 : 4 < k -> OwnR 71 8 VLm w p.ms (B 4) (b 4) (lo 4) (hi 4) X
 o5 : 5 < k -> OwnR 46 12 xP w p.xs (B 5) (b 5) (lo 5) (hi 5) X
section
variable {w W1 X X' : World} {p : Pg} {T : TypeId} {zc : Array Value} {k : Nat} {al : Option Nat} {B : Nat -> Option Addr} {b lo hi : Nat -> Nat}
theorem QMid.start (hl : Below w.heap.size w W1) (hb : Below W1.heap.size W1 X) : QMid w W1 p T zc 0 none (fun _ => none) (fun _ => 0) (fun _ => 0) (fun _ => 0) X :=
 ⟨hl,hb,(fun _ h => by cases h),(fun i h => by omega),(fun i j _ h => by omega),(fun i h => by omega),(fun h => by omega),(fun h => by omega),(fun h => by omega),(fun h => by omega),(fun h => by omega),(fun h => by omega)⟩
theorem QMid.alloc (h : QMid w W1 p T zc k none B b lo hi X) (hX : X' = X.alloc (.cells zc T)) : QMid w W1 p T zc k (some X.heap.size) B b lo hi X':=by
 have hb : Below X.heap.size X X':=by rw [hX];exact qd _ _
 refine ⟨h.low,h.blw.chain hb,fun bq e => ?_,h.base,h.sep,fun i hi => Nat.le_trans (h.top i hi) hb.size,fun hk => (h.o0 hk).next hb,fun hk => (h.o1 hk).next hb,fun hk => (h.o2 hk).next hb,fun hk => (h.o3 hk).next hb,fun hk => (h.o4 hk).next hb,fun hk => (h.o5 hk).next hb⟩
 obtain rfl:=Option.some.inj e
 exact ⟨by rw [hX];exact qe _ _,h.blw.size,fun i hi => .inr (h.top i hi)⟩
theorem zP {α : Type} (f : Nat -> α) (k : Nat) (a : α) : jB f k a k = a:=if_pos rfl
theorem qJ {α : Type} (f : Nat -> α) {k i : Nat} (a : α) (h : i ≠ k) : jB f k a i = f i:=if_neg h
theorem QMid.frame (h : QMid w W1 p T zc k al B b lo hi X) (hb : Below X.heap.size X X') (A : Option Addr) (c : Nat) :
 (∀ bq,al = some bq -> X'.heap[bq]? = some (.cells zc T) /\ W1.heap.size <= bq /\ ∀ i,i < k + 1 -> bq < jB lo k X.heap.size i \/ jB hi k X'.heap.size i <= bq) /\ (∀ i,i < k + 1 -> W1.heap.size <= jB lo k X.heap.size i) /\ (∀ i j,i < j -> j < k + 1 -> jB hi k X'.heap.size i <= jB lo k X.heap.size j) /\ ∀ i,i < k + 1 -> jB hi k X'.heap.size i <= X'.heap.size:=by
 refine ⟨fun bq e => ?_,fun i hi => ?_,fun i j hij hj => ?_,fun i hi => ?_⟩
 ·obtain ⟨h1,h2,h3⟩:=h.box bq e
  refine ⟨qg hb h1,h2,fun i hi => ?_⟩
  by_cases hk : i = k
  ·subst hk
   rw [zP]
   exact .inl (Array.getElem?_eq_some_iff.1 h1).1
  ·rw [qJ _ _ hk,qJ _ _ hk]
   exact h3 i (by omega)
 ·by_cases hk : i = k
  ·subst hk
   rw [zP]
   exact h.blw.size
  ·rw [qJ _ _ hk]
   exact h.base i (by omega)
 ·rw [qJ _ _ (show i ≠ k by omega)]
  by_cases hk : j = k
  ·subst hk
   rw [zP]
   exact h.top i (by omega)
  ·rw [qJ _ _ hk]
   exact h.sep i j hij (by omega)
 ·by_cases hk : i = k
  ·subst hk
   rw [zP]
   exact Nat.le_refl _
  ·rw [qJ _ _ hk]
   exact Nat.le_trans (h.top i (by omega)) hb.size
theorem QMid.call0 (h : QMid w W1 p T zc 0 al B b lo hi X) {A : Option Addr} {n c : Nat} {vs : List (Array Value)} (hn : n = p.rs.length) (ho : X'.ownsRow X.heap.size 36 2 (.slice A n c) n (zx vs)) (hv : VRow yW 2 X w.heap.size p.rs vs) (hb : Below X.heap.size X X') :
 QMid w W1 p T zc 1 al (jB B 0 A) (jB b 0 c) (jB lo 0 X.heap.size) (jB hi 0 X'.heap.size) X':=by
 obtain ⟨q1,q2,q3,q4⟩:=h.frame hb A c
 exact ⟨h.low,h.blw.chain hb,q1,q2,q3,q4,fun _ => by rw [zP,zP,zP,zP];exact OwnR.clone yC hn (h.low.chain h.blw) ho hv,fun hk => absurd hk (by decide),fun hk => absurd hk (by decide),fun hk => absurd hk (by decide),fun hk => absurd hk (by decide),fun hk => absurd hk (by decide)⟩
theorem QMid.call1 (h : QMid w W1 p T zc 1 al B b lo hi X) {A : Option Addr} {n c : Nat} {vs : List (Array Value)} (hn : n = p.gs.length) (ho : X'.ownsRow X.heap.size 42 2 (.slice A n c) n (zx vs)) (hv : VRow zp 2 X w.heap.size p.gs vs) (hb : Below X.heap.size X X') :
 QMid w W1 p T zc 2 al (jB B 1 A) (jB b 1 c) (jB lo 1 X.heap.size) (jB hi 1 X'.heap.size) X':=by
 obtain ⟨q1,q2,q3,q4⟩:=h.frame hb A c
 exact ⟨h.low,h.blw.chain hb,q1,q2,q3,q4,fun _ => by rw [qJ _ _ (by decide),qJ _ _ (by decide),qJ _ _ (by decide),qJ _ _ (by decide)];exact (h.o0 (by decide)).next hb,fun _ => by rw [zP,zP,zP,zP];exact OwnR.clone qT hn (h.low.chain h.blw) ho hv,fun hk => absurd hk (by decide),fun hk => absurd hk (by decide),fun hk => absurd hk (by decide),fun hk => absurd hk (by decide)⟩
theorem QMid.call2 (h : QMid w W1 p T zc 2 al B b lo hi X) {A : Option Addr} {n c : Nat} {vs : List (Array Value)} (hn : n = p.ks.length) (ho : X'.ownsRow X.heap.size 61 2 (.slice A n c) n (zx vs)) (hv : VRow vA 2 X w.heap.size p.ks vs) (hb : Below X.heap.size X X') :
 QMid w W1 p T zc 3 al (jB B 2 A) (jB b 2 c) (jB lo 2 X.heap.size) (jB hi 2 X'.heap.size) X':=by
 obtain ⟨q1,q2,q3,q4⟩:=h.frame hb A c
 exact ⟨h.low,h.blw.chain hb,q1,q2,q3,q4,fun _ => by rw [qJ _ _ (by decide),qJ _ _ (by decide),qJ _ _ (by decide),qJ _ _ (by decide)];exact (h.o0 (by decide)).next hb,fun _ => by rw [qJ _ _ (by decide),qJ _ _ (by decide),qJ _ _ (by decide),qJ _ _ (by decide)];exact (h.o1 (by decide)).next hb,fun _ => by rw [zP,zP,zP,zP];exact OwnR.clone jA hn (h.low.chain h.blw) ho hv,fun hk => absurd hk (by decide),fun hk => absurd hk (by decide),fun hk => absurd hk (by decide)⟩
theorem QMid.call3 (h : QMid w W1 p T zc 3 al B b lo hi X) {A : Option Addr} {n c : Nat} {vs : List (Array Value)} (hn : n = p.ds.length) (ho : X'.ownsRow X.heap.size 64 3 (.slice A n c) n (zx vs)) (hv : VRow vg 3 X w.heap.size p.ds vs) (hb : Below X.heap.size X X') :
 QMid w W1 p T zc 4 al (jB B 3 A) (jB b 3 c) (jB lo 3 X.heap.size) (jB hi 3 X'.heap.size) X':=by
 obtain ⟨q1,q2,q3,q4⟩:=h.frame hb A c
 exact ⟨h.low,h.blw.chain hb,q1,q2,q3,q4,fun _ => by rw [qJ _ _ (by decide),qJ _ _ (by decide),qJ _ _ (by decide),qJ _ _ (by decide)];exact (h.o0 (by decide)).next hb,fun _ => by rw [qJ _ _ (by decide),qJ _ _ (by decide),qJ _ _ (by decide),qJ _ _ (by decide)];exact (h.o1 (by decide)).next hb,fun _ => by rw [qJ _ _ (by decide),qJ _ _ (by decide),qJ _ _ (by decide),qJ _ _ (by decide)];exact (h.o2 (by decide)).next hb,fun _ => by rw [zP,zP,zP,zP];exact OwnR.clone ji hn (h.low.chain h.blw) ho hv,fun hk => absurd hk (by decide),fun hk => absurd hk (by decide)⟩
theorem QMid.call4 (h : QMid w W1 p T zc 4 al B b lo hi X) {A : Option Addr} {n c : Nat} {vs : List (Array Value)} (hn : n = p.ms.length) (ho : X'.ownsRow X.heap.size 71 8 (.slice A n c) n (zx vs)) (hv : VRow VLm 8 X w.heap.size p.ms vs) (hb : Below X.heap.size X X') :
 QMid w W1 p T zc 5 al (jB B 4 A) (jB b 4 c) (jB lo 4 X.heap.size) (jB hi 4 X'.heap.size) X':=by
 obtain ⟨q1,q2,q3,q4⟩:=h.frame hb A c
 exact ⟨h.low,h.blw.chain hb,q1,q2,q3,q4,fun _ => by rw [qJ _ _ (by decide),qJ _ _ (by decide),qJ _ _ (by decide),qJ _ _ (by decide)];exact (h.o0 (by decide)).next hb,fun _ => by rw [qJ _ _ (by decide),qJ _ _ (by decide),qJ _ _ (by decide),qJ _ _ (by decide)];exact (h.o1 (by decide)).next hb,fun _ => by rw [qJ _ _ (by decide),qJ _ _ (by decide),qJ _ _ (by decide),qJ _ _ (by decide)];exact (h.o2 (by decide)).next hb,fun _ => by rw [qJ _ _ (by decide),qJ _ _ (by decide),qJ _ _ (by decide),qJ _ _ (by decide)];exact (h.o3 (by decide)).next hb,fun _ => by rw [zP,zP,zP,zP];exact OwnR.clone qcx hn (h.low.chain h.blw) ho hv,fun hk => absurd hk (by decide)⟩
theorem QMid.call5 (h : QMid w W1 p T zc 5 al B b lo hi X) {A : Option Addr} {n c : Nat} {vs : List (Array Value)} (hn : n = p.xs.length) (ho : X'.ownsRow X.heap.size 46 12 (.slice A n c) n (zx vs)) (hv : VRow xP 12 X w.heap.size p.xs vs) (hb : Below X.heap.size X X') :
 QMid w W1 p T zc 6 al (jB B 5 A) (jB b 5 c) (jB lo 5 X.heap.size) (jB hi 5 X'.heap.size) X':=by
 obtain ⟨q1,q2,q3,q4⟩:=h.frame hb A c
 exact ⟨h.low,h.blw.chain hb,q1,q2,q3,q4,fun _ => by rw [qJ _ _ (by decide),qJ _ _ (by decide),qJ _ _ (by decide),qJ _ _ (by decide)];exact (h.o0 (by decide)).next hb,fun _ => by rw [qJ _ _ (by decide),qJ _ _ (by decide),qJ _ _ (by decide),qJ _ _ (by decide)];exact (h.o1 (by decide)).next hb,fun _ => by rw [qJ _ _ (by decide),qJ _ _ (by decide),qJ _ _ (by decide),qJ _ _ (by decide)];exact (h.o2 (by decide)).next hb,fun _ => by rw [qJ _ _ (by decide),qJ _ _ (by decide),qJ _ _ (by decide),qJ _ _ (by decide)];exact (h.o3 (by decide)).next hb,fun _ => by rw [qJ _ _ (by decide),qJ _ _ (by decide),qJ _ _ (by decide),qJ _ _ (by decide)];exact (h.o4 (by decide)).next hb,fun _ => by rw [zP,zP,zP,zP];exact OwnR.clone xf hn (h.low.chain h.blw) ho hv⟩
theorem QMid.finish {bq : Nat} {cs : Array Value} (h : QMid w W1 p T zc 6 (some bq) B b lo hi X) (hX : X' = X.setRow bq cs) (hc : cs = xY ⟨B 0,B 1,B 2,B 3,B 4,B 5,b 0,b 1,b 2,b 3,b 4,b 5⟩ p) :
 Below W1.heap.size W1 X' /\ ∃ (d : GAd) (lo hi : Nat -> Nat),QAt w p d bq T lo hi X':=by
 obtain ⟨h1,h2,h3⟩:=h.box bq rfl
 have hw:=h.low.size
 have hb : Below W1.heap.size W1 X':=by rw [hX];exact Below.setRow h.blw h2 _
 have zv : ∀ i,i < 6 -> ∀ b,lo i <= b -> b < hi i -> b < X.heap.size -> X'.heap[b]? = X.heap[b]?:=fun i hi b b1 b2 _ => by
  rw [hX]
  exact setRow_other _ _ _ _ (by have := h3 i hi;omega)
 have e : ∀ i,i < 6 -> (fun i => if i < 6 then lo i else lo 0) i = lo i:=fun i hi => if_pos hi
 refine ⟨hb,⟨B 0,B 1,B 2,B 3,B 4,B 5,b 0,b 1,b 2,b 3,b 4,b 5⟩,fun i => if i < 6 then lo i else lo 0,hi,{ blw:=h.low.chain hb,box:=?_,bw:=by omega,base:=fun i => ?_,sep:=fun i j hij hj => ?_,out:=fun i hi => ?_,or:=(h.o0 (by decide)).stay (zv 0 (by decide)),og:=(h.o1 (by decide)).stay (zv 1 (by decide)),ok:=(h.o2 (by decide)).stay (zv 2 (by decide)),od:=(h.o3 (by decide)).stay (zv 3 (by decide)),om:=(h.o4 (by decide)).stay (zv 4 (by decide)),ox:=(h.o5 (by decide)).stay (zv 5 (by decide)) }⟩
 ·rw [hX,<- hc]
  exact setRow_heap _ _ _ _ _ _ h1
 ·split
  ·rename_i hi
   exact Nat.le_trans hw (h.base i hi)
  ·exact Nat.le_trans hw (h.base 0 (by decide))
 ·show hi i <= if j < 6 then lo j else lo 0
  rw [if_pos hj]
  exact h.sep i j hij hj
 ·show bq < (if i < 6 then lo i else lo 0) \/ _
  rw [if_pos hi]
  exact h3 i hi
end
theorem qqK {i0 : TypeInfo} {z : Value} (hs : i0.size = 12) {c : Array Value} (hc : c.size = 12) : Instr.fill (fun i => some (i * i0.size,i0.size)) ((Array.range (1 * i0.size)).map (z.cells[· % z.cells.size]!)) [(0,Value.agg c)] = some c:=by
 have e : [(0,Value.agg c)] = (([c].map Value.agg).zipIdx 0).map fun x => (x.2,x.1):=by simp
 rw [e,hs]
 have := Go.Great.fill_whole (s:=12) (by decide) ([c].map Value.agg) ((Array.range (1 * 12)).map (z.cells[· % z.cells.size]!)) (fun v hv => by
  obtain ⟨d,hd,rfl⟩:=List.mem_map.1 hv
  rw [List.mem_singleton.1 hd]
  exact hc) (by simp)
 rw [this]
 simp [Value.cells]
theorem qmM {w : World} {cs : Array Value} {t : TypeId} (h : cs.size = 12) : qI (w.alloc (.cells cs t)) (w.alloc (.cells cs t)).heap.size 12 (some ⟨w.heap.size,0,none⟩) 1 cs.toList:=by
 refine ⟨by simpa using h,fun _ => ⟨_,rfl,by rw [qj];exact Nat.lt_succ_self _,fun j u hu => ?_⟩⟩
 rw [zD]
 exact qc (qe w (.cells cs t)) j (by simpa using hu)
def qvk (w : World) (p : Pg) (x : Pr) (bq : Nat) (d : GAd) (T : TypeId) (wx : World) : Prop:=∃ (W : World) (A' : Option Addr) (c' : Nat) (lo' hi' : Nat -> Nat),W = wx /\ QAt w { p with xs:=p.xs ++ [x] } { d with x:=A',nx:=c' } bq T lo' hi' W
theorem qkT {w W W2 W3 : World} {p : Pg} {d : GAd} {bq : Nat} {T : TypeId} {lo hi : Nat -> Nat} {xs : List Value} (h : QAt w p d bq T lo hi W) (h2 : W.ownsRow (lo 5) 46 12 (.slice d.x p.xs.length d.nx) p.xs.length xs) (hb : Below W.heap.size W W2) (hg : W2.grownBy W3 (Value.slice d.x p.xs.length d.nx).ownBlock) : W3.heap[bq]? = some (.cells (xY d p) T (0,0)):=by
 refine (hg.block bq (Nat.lt_of_lt_of_le h.lt hb.size) fun e => ?_).trans (qg hb h.box)
 have := (qs h2 bq e.symm).1
 have := h.ox.lt bq e.symm
 have := h.out 5 (by decide)
 omega
def qvj (w : World) (p : Pg) (T : TypeId) (v3 : Value) (wx : World) : Prop:=∃ (W : World) (bq : Nat) (d : GAd) (lo hi : Nat -> Nat),W = wx /\ v3 = .pointer (some ⟨bq,0,none⟩) /\ QAt w p d bq T lo hi W
theorem qkG (p : Pg) (d : GAd) (w : World) (hP : yY w) (qA : xK w w.heap.size d p) :
 Calls Tryz.prog 4 #[qc7 d p] w fun e w' => e = .returned (.bool true) /\ Below w.heap.size w w':=by
 obtain ⟨T,N,zc,hT,hN,zd,hag,qK,yR⟩:=qje
 have e1 : ∀ y : Operand,Op.load 29 y = Op.load T y:=fun y => by rw [hT]
 have e2 : ∀ y z : Operand,Op.store 29 y z = Op.store T y z:=fun y z => by rw [hT]
 have e3 : Op.alloc 29 = Op.alloc T:=by rw [hT]
 have e4 : ∀ y : Operand,Op.box 29 y = Op.box T y:=fun y => by rw [hT]
 obtain ⟨TP,NP,hTP,hNP,hagP,hszP⟩:=qoA
 have e5 : ∀ y : Operand,Op.load 46 y = Op.load TP y:=fun y => by rw [hTP]
 have HNP:=hZ hNP
 clear hNP
 obtain ⟨cp,hcp⟩ : ∃ cp,cp = xY d p:=⟨_,rfl⟩
 obtain ⟨n0,hn0⟩ : ∃ n,n = p.rs.length:=⟨_,rfl⟩
 obtain ⟨A0,hA0⟩ : ∃ A,A = d.r:=⟨_,rfl⟩
 obtain ⟨c0,hc0⟩ : ∃ c,c = d.nr:=⟨_,rfl⟩
 obtain ⟨n1,jZ⟩ : ∃ n,n = p.gs.length:=⟨_,rfl⟩
 obtain ⟨A1,hA1⟩ : ∃ A,A = d.g:=⟨_,rfl⟩
 obtain ⟨c1,hc1⟩ : ∃ c,c = d.ng:=⟨_,rfl⟩
 obtain ⟨n2,hn2⟩ : ∃ n,n = p.ks.length:=⟨_,rfl⟩
 obtain ⟨A2,hA2⟩ : ∃ A,A = d.k:=⟨_,rfl⟩
 obtain ⟨c2,hc2⟩ : ∃ c,c = d.nk:=⟨_,rfl⟩
 obtain ⟨n3,hn3⟩ : ∃ n,n = p.ds.length:=⟨_,rfl⟩
 obtain ⟨A3,hA3⟩ : ∃ A,A = d.d:=⟨_,rfl⟩
 obtain ⟨c3,hc3⟩ : ∃ c,c = d.nd:=⟨_,rfl⟩
 obtain ⟨n4,hn4⟩ : ∃ n,n = p.ms.length:=⟨_,rfl⟩
 obtain ⟨A4,hA4⟩ : ∃ A,A = d.m:=⟨_,rfl⟩
 obtain ⟨c4,hc4⟩ : ∃ c,c = d.nm:=⟨_,rfl⟩
 obtain ⟨n5,hn5⟩ : ∃ n,n = p.xs.length:=⟨_,rfl⟩
 obtain ⟨A5,hA5⟩ : ∃ A,A = d.x:=⟨_,rfl⟩
 obtain ⟨c5,hc5⟩ : ∃ c,c = d.nx:=⟨_,rfl⟩
 have hpv : qc7 d p = .agg cp:=by rw [hcp];rfl
 have kp : ∀ (j : Nat) (v : Value),(#[.slice A0 n0 c0,.slice A1 n1 c1,.slice A2 n2 c2,.slice A3 n3 c3,.slice A4 n4 c4,.slice A5 n5 c5] : Array Value)[j]? = some v -> cp[j]? = some v:=fun j v hv => by rw [hcp];rw [hn0,jZ,hn2,hn3,hn4,hn5,hA0,hA1,hA2,hA3,hA4,hA5,hc0,hc1,hc2,hc3,hc4,hc5] at hv;exact hv
 have szp : cp.size = N:=by rw [hcp,hN];exact (vV d p).1
 have onp : cp.all (·.oneCell') = true:=by rw [hcp];exact (vV d p).2
 obtain ⟨W1,qh⟩ : ∃ W1,W1 = w.alloc (.cells cp T):=⟨_,rfl⟩
 have qk : Below w.heap.size w W1:=by rw [qh];exact qd w _
 have p0 : W1.heap[w.heap.size]? = some (.cells cp T (0,0)):=by rw [qh];exact qe w _
 have HAw : Hid (Calls Tryz.prog 7 #[] W1 fun e w' => e = .returned (.bool true) /\ Below W1.heap.size W1 w'):=hZ (qlz W1 (hP.on qk))
 have qk6 : Hid (∀ W,Below W1.heap.size W1 W -> Calls Tryz.prog 8 #[.agg cp] W fun e w' => ((∃ v : Int,e = .returned (.int .i64 v) /\ (v = 0 \/ v = 1))) /\ Below W.heap.size W w'):=hZ (fun W hb => by rw [<- hpv];exact qmf p d W (qA.on (qk.chain hb)))
 obtain ⟨vb,hvb⟩ : ∃ b,b = qaj p:=⟨_,rfl⟩
 have qk0 : Hid (BC W1 18 #[.agg cp] vb):=hZ (fun W hb => by rw [<- hpv,hvb];exact qbx p d W (hP.on (qk.chain hb)) (qA.on (qk.chain hb)))
 have HC0 : Hid (∀ W,Below W1.heap.size W1 W -> (loadCellsFrom ⟨w.heap.size,0,none⟩ 0 N #[]).run Tryz.prog W = .ok cp W):=hZ (fun W hb => qZ (fun j v hv => by rw [zD];exact qc (qg hb p0) j hv) szp)
 obtain ⟨S,hS⟩ : ∃ S : World -> Prop,S = fun W => Below W1.heap.size W1 W:=⟨_,rfl⟩
 have qo : Hid (∀ W,Below W1.heap.size W1 W -> S W):=hZ (fun W hb => by rw [hS];exact hb)
 have qX : Hid (∀ W,S W -> W.cell? ⟨w.heap.size,0,none⟩ = some (.slice A0 n0 c0) /\ W.cell? ⟨w.heap.size,1,none⟩ = some (.slice A1 n1 c1) /\ W.cell? ⟨w.heap.size,2,none⟩ = some (.slice A2 n2 c2) /\ W.cell? ⟨w.heap.size,3,none⟩ = some (.slice A3 n3 c3) /\ W.cell? ⟨w.heap.size,4,none⟩ = some (.slice A4 n4 c4) /\ W.cell? ⟨w.heap.size,5,none⟩ = some (.slice A5 n5 c5)):=hZ (fun W hs => by
  rw [hS] at hs
  have h:=qg hs p0
  exact ⟨qc h 0 (kp 0 _ rfl),qc h 1 (kp 1 _ rfl),qc h 2 (kp 2 _ rfl),qc h 3 (kp 3 _ rfl),qc h 4 (kp 4 _ rfl),qc h 5 (kp 5 _ rfl)⟩)
 have zL : vb = true -> xT p = true:=fun h => qiP (hvb.symm.trans h)
 have HCl0 : Hid (vb = true -> ∀ W,Below W1.heap.size W1 W -> Calls Tryz.prog 19 #[.slice A0 n0 c0] W (vj 36 2 yW w.heap.size p.rs n0 W)):=hZ (fun hv W hb => qoU A0 c0 n0 p.rs hn0 (by have := vT (zL hv);omega) W w.heap.size (qk.chain hb).size (by rw [hA0];exact qbf yC (qbp qA.2.1) (qk.chain hb)))
 have HCl1 : Hid (vb = true -> ∀ W,Below W1.heap.size W1 W -> Calls Tryz.prog 20 #[.slice A1 n1 c1] W (vj 42 2 zp w.heap.size p.gs n1 W)):=hZ (fun hv W hb => qoW A1 c1 n1 p.gs jZ (by have := vT (zL hv);omega) W w.heap.size (qk.chain hb).size (by rw [hA1];exact qbf qT (zm qA.2.2.1) (qk.chain hb)))
 have HCl2 : Hid (vb = true -> ∀ W,Below W1.heap.size W1 W -> Calls Tryz.prog 21 #[.slice A2 n2 c2] W (vj 61 2 vA w.heap.size p.ks n2 W)):=hZ (fun hv W hb => qoY A2 c2 n2 p.ks hn2 (by have := vT (zL hv);omega) W w.heap.size (qk.chain hb).size (by rw [hA2];exact qbf jA (qeB qA.2.2.2.1) (qk.chain hb)))
 have HCl3 : Hid (vb = true -> ∀ W,Below W1.heap.size W1 W -> Calls Tryz.prog 22 #[.slice A3 n3 c3] W (vj 64 3 vg w.heap.size p.ds n3 W)):=hZ (fun hv W hb => qoZ A3 c3 n3 p.ds hn3 (by have := vT (zL hv);omega) W w.heap.size (qk.chain hb).size (by rw [hA3];exact qbf ji (qeN qA.2.2.2.2.1) (qk.chain hb)))
 have HCl4 : Hid (vb = true -> ∀ W,Below W1.heap.size W1 W -> Calls Tryz.prog 23 #[.slice A4 n4 c4] W (vj 71 8 VLm w.heap.size p.ms n4 W)):=hZ (fun hv W hb => qoX A4 c4 n4 p.ms hn4 (by have := vT (zL hv);omega) W w.heap.size (qk.chain hb).size (by rw [hA4];exact qbf qcx (qgt qA.2.2.2.2.2.1) (qk.chain hb)))
 have HCl5 : Hid (vb = true -> ∀ W,Below W1.heap.size W1 W -> Calls Tryz.prog 24 #[.slice A5 n5 c5] W (vj 46 12 xP w.heap.size p.xs n5 W)):=hZ (fun hv W hb => qoV A5 c5 n5 p.xs hn5 (by have := vT (zL hv);omega) W w.heap.size (qk.chain hb).size (by rw [hA5];exact qbf xf (qde qA.2.2.2.2.2.2) (qk.chain hb)))
 have qw:=hZ qk
 have HP:=hZ hP
 have HX:=hZ (aZ hN zd)
 have HNs:=hZ (aZ hn0 (aZ jZ (aZ hn2 (aZ hn3 (aZ hn4 hn5)))))
 have qjN : Hid (vb = true -> Good p /\ xT p = true):=hZ (fun h => ⟨vZ.1 (hvb.symm.trans h),zL h⟩)
 have zE : Tryz.prog.follows .mixedOrders = true:=by kernel_rfl
 clear hS qA hP qk p0 hcp kp onp zL hvb hN zd hn0 jZ hn2 hn3 hn4 hn5 hA0 hA1 hA2 hA3 hA4 hA5 hc0 hc1 hc2 hc3 hc4 hc5
 rw [hpv]
 clear hpv
 go_enter Tryz.func4,Tryz.ntmps4
 simp only [e1,e2,e3,e4,e5]
 clear e1 e2 e3 e4 e5 hT hTP
 go_wp2_with fail
 rw [<- qh]
 clear qh
 (with_reducible refine HAw.out.mono ?_)
 rintro e w2 ⟨rfl,hb⟩
 have H2:=hZ hb
 clear hb HAw
 have l2:=HC0.out _ H2.out
 go_wp2_with fail
 clear l2
 (with_reducible refine (qk6.out _ H2.out).mono ?_)
 rintro e w3 ⟨⟨q,rfl,hq⟩,hb⟩
 have H3:=hZ (H2.out.chain hb)
 clear hb qk6
 rcases hq with rfl | rfl
 ·go_wp2
  go_ret
  exact ⟨rfl,qw.out.chain H3.out⟩
 have l3:=HC0.out _ H3.out
 go_wp2_with fail
 clear l3
 (with_reducible refine (qk0.out _ H3.out).mono ?_)
 rintro e w4 ⟨rfl,hb⟩
 have H4:=hZ (H3.out.chain hb)
 clear hb qk0
 cases vb with
 | false =>
   go_wp2
   go_ret
   exact ⟨rfl,qw.out.chain H4.out⟩
 | true =>
   have HG:=hZ (qjN.out rfl)
   go_wp2_with fail
   go_cut [3] from 16 to 36 (fun v3 wx => qvj w p T v3 wx)
   case first =>
    refine wp_region_held (S:=S) zE ?_
    change wpAnyH _ _ _ _ _ 21 #[false,false,false,false,false,false,false,false,false,false,false,false,false,false,false,false,false,false,false,false,false] _ w4.drew
    have HV0 : Hid (Below W1.heap.size W1 w4.drew):=hZ H4.out.drew
    generalize w4.drew = V0 at HV0 ⊢
    have gn:=qo.out _ HV0.out
    refine tk 0 17 (.pointer (some ⟨w.heap.size,0,none⟩)) gn ?v ?_
    case v => intro Wx hSx;go_simp
    refine tk 1 18 (.slice A0 n0 c0) gn ?v ?_
    case v => intro Wx hSx;obtain ⟨f0,f1,f2,f3,f4,f5⟩:=qX.out Wx hSx;go_simp
    refine tk 3 20 (.pointer (some ⟨w.heap.size,1,none⟩)) gn ?v ?_
    case v => intro Wx hSx;go_simp
    refine tk 4 21 (.slice A1 n1 c1) gn ?v ?_
    case v => intro Wx hSx;obtain ⟨f0,f1,f2,f3,f4,f5⟩:=qX.out Wx hSx;go_simp
    try simp only [qf]
    refine tk 6 23 (.pointer (some ⟨w.heap.size,2,none⟩)) gn ?v ?_
    case v => intro Wx hSx;go_simp
    refine tk 7 24 (.slice A2 n2 c2) gn ?v ?_
    case v => intro Wx hSx;obtain ⟨f0,f1,f2,f3,f4,f5⟩:=qX.out Wx hSx;go_simp
    refine tk 9 26 (.pointer (some ⟨w.heap.size,3,none⟩)) gn ?v ?_
    case v => intro Wx hSx;go_simp
    refine tk 10 27 (.slice A3 n3 c3) gn ?v ?_
    case v => intro Wx hSx;obtain ⟨f0,f1,f2,f3,f4,f5⟩:=qX.out Wx hSx;go_simp
    try simp only [qf]
    refine tk 12 29 (.pointer (some ⟨w.heap.size,4,none⟩)) gn ?v ?_
    case v => intro Wx hSx;go_simp
    refine tk 13 30 (.slice A4 n4 c4) gn ?v ?_
    case v => intro Wx hSx;obtain ⟨f0,f1,f2,f3,f4,f5⟩:=qX.out Wx hSx;go_simp
    refine tk 15 32 (.pointer (some ⟨w.heap.size,5,none⟩)) gn ?v ?_
    case v => intro Wx hSx;go_simp
    refine tk 16 33 (.slice A5 n5 c5) gn ?v ?_
    case v => intro Wx hSx;obtain ⟨f0,f1,f2,f3,f4,f5⟩:=qX.out Wx hSx;go_simp
    try simp only [qf]
    have M0 : Hid (QMid w W1 p T zc 0 none (fun _ => none) (fun _ => 0) (fun _ => 0) (fun _ => 0) V0):=hZ (QMid.start qw.out HV0.out)
    all_goals
     first
     | have hq:=(M0.out.box _ rfl).1
       clear hq
       refine o1 2 (fun K hK => ?_)
     | refine zM 2 19 (by kernel_rfl) rfl rfl (by kernel_rfl) (by kernel_rfl) (fun K hK => ?_) (fun K hK => ?_)
    all_goals
     first
     | go_simp
       obtain ⟨bq,xA⟩ : ∃ b,b = V0.heap.size:=⟨_,rfl⟩
       obtain ⟨Y,hY⟩ : ∃ Y,Y = V0.alloc (.cells zc T):=⟨_,rfl⟩
       rw [<- hY,<- xA]
       have hM:=M0.out.alloc hY
       rw [<- xA] at hM
       clear M0 hY xA
       have M0:=hZ hM
       clear hM
       refine hK _ _ (qo.out _ M0.out.blw) ?_
       clear hK K
       try simp only [qf]
       refine o1 2 (fun K hK => ?_)
     | skip
    all_goals
     go_simp
     (with_reducible refine (HCl0.out (by trivial) _ M0.out.blw).mono ?_)
     rintro e X1 ⟨B0,b0,vs,rfl,ho,hv,hb⟩
     have M1:=hZ (M0.out.call0 HNs.out.1 ho hv hb)
     clear ho hv hb M0
     refine hK _ _ (qo.out _ M1.out.blw) ?_
     clear hK K
     try simp only [qf]
    all_goals
     first
     | have hq:=(M1.out.box _ rfl).1
       clear hq
       refine o1 5 (fun K hK => ?_)
     | refine zM 5 19 (by kernel_rfl) rfl rfl (by kernel_rfl) (by kernel_rfl) (fun K hK => ?_) (fun K hK => ?_)
    all_goals
     first
     | go_simp
       obtain ⟨bq,xA⟩ : ∃ b,b = X1.heap.size:=⟨_,rfl⟩
       obtain ⟨Y,hY⟩ : ∃ Y,Y = X1.alloc (.cells zc T):=⟨_,rfl⟩
       rw [<- hY,<- xA]
       have hM:=M1.out.alloc hY
       rw [<- xA] at hM
       clear M1 hY xA
       have M1:=hZ hM
       clear hM
       refine hK _ _ (qo.out _ M1.out.blw) ?_
       clear hK K
       try simp only [qf]
       refine o1 5 (fun K hK => ?_)
     | skip
    all_goals
     go_simp
     (with_reducible refine (HCl1.out (by trivial) _ M1.out.blw).mono ?_)
     rintro e X2 ⟨B1,b1,vs,rfl,ho,hv,hb⟩
     have M2:=hZ (M1.out.call1 HNs.out.2.1 ho hv hb)
     clear ho hv hb M1
     refine hK _ _ (qo.out _ M2.out.blw) ?_
     clear hK K
     try simp only [qf]
    all_goals
     first
     | have hq:=(M2.out.box _ rfl).1
       clear hq
       refine o1 8 (fun K hK => ?_)
     | refine zM 8 19 (by kernel_rfl) rfl rfl (by kernel_rfl) (by kernel_rfl) (fun K hK => ?_) (fun K hK => ?_)
    all_goals
     first
     | go_simp
       obtain ⟨bq,xA⟩ : ∃ b,b = X2.heap.size:=⟨_,rfl⟩
       obtain ⟨Y,hY⟩ : ∃ Y,Y = X2.alloc (.cells zc T):=⟨_,rfl⟩
       rw [<- hY,<- xA]
       have hM:=M2.out.alloc hY
       rw [<- xA] at hM
       clear M2 hY xA
       have M2:=hZ hM
       clear hM
       refine hK _ _ (qo.out _ M2.out.blw) ?_
       clear hK K
       try simp only [qf]
       refine o1 8 (fun K hK => ?_)
     | skip
    all_goals
     go_simp
     (with_reducible refine (HCl2.out (by trivial) _ M2.out.blw).mono ?_)
     rintro e X3 ⟨B2,b2,vs,rfl,ho,hv,hb⟩
     have M3:=hZ (M2.out.call2 HNs.out.2.2.1 ho hv hb)
     clear ho hv hb M2
     refine hK _ _ (qo.out _ M3.out.blw) ?_
     clear hK K
     try simp only [qf]
    all_goals
     first
     | have hq:=(M3.out.box _ rfl).1
       clear hq
       refine o1 11 (fun K hK => ?_)
     | refine zM 11 19 (by kernel_rfl) rfl rfl (by kernel_rfl) (by kernel_rfl) (fun K hK => ?_) (fun K hK => ?_)
    all_goals
     first
     | go_simp
       obtain ⟨bq,xA⟩ : ∃ b,b = X3.heap.size:=⟨_,rfl⟩
       obtain ⟨Y,hY⟩ : ∃ Y,Y = X3.alloc (.cells zc T):=⟨_,rfl⟩
       rw [<- hY,<- xA]
       have hM:=M3.out.alloc hY
       rw [<- xA] at hM
       clear M3 hY xA
       have M3:=hZ hM
       clear hM
       refine hK _ _ (qo.out _ M3.out.blw) ?_
       clear hK K
       try simp only [qf]
       refine o1 11 (fun K hK => ?_)
     | skip
    all_goals
     go_simp
     (with_reducible refine (HCl3.out (by trivial) _ M3.out.blw).mono ?_)
     rintro e X4 ⟨B3,b3,vs,rfl,ho,hv,hb⟩
     have M4:=hZ (M3.out.call3 HNs.out.2.2.2.1 ho hv hb)
     clear ho hv hb M3
     refine hK _ _ (qo.out _ M4.out.blw) ?_
     clear hK K
     try simp only [qf]
    all_goals
     first
     | have hq:=(M4.out.box _ rfl).1
       clear hq
       refine o1 14 (fun K hK => ?_)
     | refine zM 14 19 (by kernel_rfl) rfl rfl (by kernel_rfl) (by kernel_rfl) (fun K hK => ?_) (fun K hK => ?_)
    all_goals
     first
     | go_simp
       obtain ⟨bq,xA⟩ : ∃ b,b = X4.heap.size:=⟨_,rfl⟩
       obtain ⟨Y,hY⟩ : ∃ Y,Y = X4.alloc (.cells zc T):=⟨_,rfl⟩
       rw [<- hY,<- xA]
       have hM:=M4.out.alloc hY
       rw [<- xA] at hM
       clear M4 hY xA
       have M4:=hZ hM
       clear hM
       refine hK _ _ (qo.out _ M4.out.blw) ?_
       clear hK K
       try simp only [qf]
       refine o1 14 (fun K hK => ?_)
     | skip
    all_goals
     go_simp
     (with_reducible refine (HCl4.out (by trivial) _ M4.out.blw).mono ?_)
     rintro e X5 ⟨B4,b4,vs,rfl,ho,hv,hb⟩
     have M5:=hZ (M4.out.call4 HNs.out.2.2.2.2.1 ho hv hb)
     clear ho hv hb M4
     refine hK _ _ (qo.out _ M5.out.blw) ?_
     clear hK K
     try simp only [qf]
    all_goals
     first
     | have hq:=(M5.out.box _ rfl).1
       clear hq
       refine o1 17 (fun K hK => ?_)
     | refine zM 17 19 (by kernel_rfl) rfl rfl (by kernel_rfl) (by kernel_rfl) (fun K hK => ?_) (fun K hK => ?_)
    all_goals
     first
     | go_simp
       obtain ⟨bq,xA⟩ : ∃ b,b = X5.heap.size:=⟨_,rfl⟩
       obtain ⟨Y,hY⟩ : ∃ Y,Y = X5.alloc (.cells zc T):=⟨_,rfl⟩
       rw [<- hY,<- xA]
       have hM:=M5.out.alloc hY
       rw [<- xA] at hM
       clear M5 hY xA
       have M5:=hZ hM
       clear hM
       refine hK _ _ (qo.out _ M5.out.blw) ?_
       clear hK K
       try simp only [qf]
       refine o1 17 (fun K hK => ?_)
     | skip
    all_goals
     go_simp
     (with_reducible refine (HCl5.out (by trivial) _ M5.out.blw).mono ?_)
     rintro e X6 ⟨B5,b5,vs,rfl,ho,hv,hb⟩
     have M6:=hZ (M5.out.call5 HNs.out.2.2.2.2.2 ho hv hb)
     clear ho hv hb M5
     refine hK _ _ (qo.out _ M6.out.blw) ?_
     clear hK K
     try simp only [qf]
    all_goals
     obtain ⟨cs,qn⟩ : ∃ cs : Array Value,cs = #[.slice B0 n0 b0,.slice B1 n1 b1,.slice B2 n2 b2,.slice B3 n3 b3,.slice B4 n4 b4,.slice B5 n5 b5]:=⟨_,rfl⟩
     refine tk 18 35 (.agg cs) (qo.out _ M6.out.blw) ?v ?_
     case v => (intro Wx hSx;rw [qn];go_simp)
     try simp only [qf]
     have HCS:=hZ qn
     clear qn
    all_goals
     first
     | have hq:=(M6.out.box _ rfl).1
       clear hq
     | refine o1 19 (fun K hK => ?_)
       go_simp
       obtain ⟨bq,xA⟩ : ∃ b,b = X6.heap.size:=⟨_,rfl⟩
       obtain ⟨Y,hY⟩ : ∃ Y,Y = X6.alloc (.cells zc T):=⟨_,rfl⟩
       rw [<- hY,<- xA]
       have hM:=M6.out.alloc hY
       rw [<- xA] at hM
       clear M6 hY xA
       have M6:=hZ hM
       clear hM
       refine hK _ _ (qo.out _ M6.out.blw) ?_
       clear hK K
       try simp only [qf]
    all_goals
     have hszs : cs.size = N:=by rw [HCS.out,HX.out.1];rfl
     have zv:=zl (cs:=cs) (M6.out.box _ rfl).1 (HX.out.2.trans hszs.symm) (by rw [HCS.out,List.all_toArray];rfl)
     have hf:=M6.out.finish (cs:=cs) rfl (by rw [HCS.out,HNs.out.1,HNs.out.2.1,HNs.out.2.2.1,HNs.out.2.2.2.1,HNs.out.2.2.2.2.1,HNs.out.2.2.2.2.2];rfl)
     refine o1 20 (fun K hK => ?_)
     go_simp
     have HQ:=hZ hf
     clear zv hszs hf
     refine hK _ _ (qo.out _ HQ.out.1) ?_
     clear hK K
     try simp only [qf]
     refine wpAnyH_done (by kernel_rfl) ?_ _
     go_wp2
     go_meet
     obtain ⟨_,dz,lz,hz,hq⟩:=HQ.out
     exact ⟨_,_,dz,lz,hz,rfl,rfl,hq⟩
   case rest =>
    obtain ⟨W5,bq,dq,lo,hi,rfl,rfl,hq⟩:=hcut
    have HW5:=hZ hq
    clear hq HCl0 HCl1 HCl2 HCl3 HCl4 HCl5 qX qo HC0 H2 H3 H4 qjN szp zE
    have HL:=hZ (vT HG.out.2)
    have z:=qc HW5.out.box 0 (v:=.slice dq.r p.rs.length dq.nr) rfl
    have HR:=hZ (HW5.out.turn_r (show p.rs.length <= 1000000 by have := HL.out;omega))
    go_wp2_with fail
    clear z
    (with_reducible refine HR.out.mono ?_)
    rintro e w6 ⟨rfl,hq⟩
    have Hw6:=hZ hq
    clear hq HR
    have z:=qc Hw6.out.box 1 (v:=.slice dq.g p.gs.length dq.ng) rfl
    have HR:=hZ (Hw6.out.turn_g (show p.gs.length <= 1000000 by have := HL.out;omega))
    go_wp2_with fail
    clear z
    (with_reducible refine HR.out.mono ?_)
    rintro e w7 ⟨rfl,hq⟩
    have Hw7:=hZ hq
    clear hq HR
    have z:=qc Hw7.out.box 3 (v:=.slice dq.d p.ds.length dq.nd) rfl
    have HR:=hZ (Hw7.out.turn_d (show p.ds.length <= 1000000 by have := HL.out;omega))
    go_wp2_with fail
    clear z
    (with_reducible refine HR.out.mono ?_)
    rintro e w8 ⟨rfl,hq⟩
    have Hw8:=hZ hq
    clear hq HR
    have z:=qc Hw8.out.box 5 (v:=.slice dq.x p.xs.length dq.nx) rfl
    have HR:=hZ (Hw8.out.turn_x (show p.xs.length <= 1000000 by have := HL.out;omega))
    go_wp2_with fail
    clear z
    (with_reducible refine HR.out.mono ?_)
    rintro e w9 ⟨rfl,hq⟩
    have Hw9:=hZ hq
    clear hq HR
    have HQ9 : Hid (QAt w (qbd p) dq bq T lo hi w9):=hZ Hw9.out
    have HGT:=hZ (qh6 HG.out.1)
    obtain ⟨cq,hcq⟩ : ∃ c,c = xY dq (qbd p):=⟨_,rfl⟩
    have szq : cq.size = N:=by rw [hcq,HX.out.1];exact (vV _ _).1
    have l9 : (loadCellsFrom ⟨bq,0,none⟩ 0 N #[]).run Tryz.prog w9 = .ok cq w9:=qZ (fun j v hv => by rw [zD];exact qc HQ9.out.box j (by rw [<- hcq];exact hv)) szq
    have HV : Hid (Calls Tryz.prog 18 #[.agg cq] w9 fun e w' => e = .returned (.bool true) /\ Below w9.heap.size w9 w'):=hZ (by
     rw [hcq,<- vZ.2 HGT.out]
     exact qbx (qbd p) dq w9 (HP.out.on HQ9.out.blw) HQ9.out.own)
    clear hcq Hw6 Hw7 Hw8 Hw9 HW5
    go_wp2_with fail
    clear l9
    (with_reducible refine HV.out.mono ?_)
    rintro e w10 ⟨rfl,hb⟩
    have qrd:=hZ (HQ9.out.next hb)
    clear hb HV HQ9 szq
    obtain ⟨l0,jT⟩ : ∃ l,l = p.xs.reverse:=⟨_,rfl⟩
    obtain ⟨m,hm⟩ : ∃ n,n = l0.length:=⟨_,rfl⟩
    have HM : Hid (m = l0.length /\ m <= 100 /\ m = p.xs.length):=hZ (by
     have := HL.out
     have e : m = p.xs.length:=by rw [hm,jT];exact List.length_reverse
     exact ⟨hm,by omega,e⟩)
    have z:=qc qrd.out.box 5 (v:=.slice dq.x m dq.nx) (by rw [hm,jT];rfl)
    obtain ⟨Aq,hAq⟩ : ∃ A,A = dq.x:=⟨_,rfl⟩
    rw [<- hAq] at z
    have zt : Hid (QAt w { qbd p with xs:=jR 0 l0 } dq bq T lo hi w10):=hZ (by rw [qnv,jT];exact qrd.out)
    have HAQ:=hZ hAq
    have hm100 : m <= 100:=HM.out.2.1
    have HL0:=hZ jT
    clear jT hm hAq
    go_wp2_with fail
    clear z
    go_loopg [54] m (fun mm j wr => ∃ k : Nat,mm = m - k /\ k <= m /\ j = .int .i64 k /\ Hid (QAt w { qbd p with xs:=jR k l0 } dq bq T lo hi wr))
    case atStart => exact ⟨0,rfl,Nat.zero_le _,rfl,zt⟩
    case round =>
     obtain ⟨k,rfl,hk,rfl,HI⟩:=hrel
     clear qrd zt
     have hk0 : (0 : Int) <= k:=by omega
     have qE : ∀ k,({ qbd p with xs:=jR k l0 } : Pg).xs.length = m:=fun k => (qec k l0).trans HM.out.1.symm
     by_cases qB : k < m
     ·have jD : (k : Int) < m:=by omega
      obtain ⟨g,hg,⟨u,hu⟩,hf,hq⟩:=HI.out.bare_step (by rw [<- HM.out.1];exact qB)
      have hA : Aq = some ⟨g,0,none⟩:=HAQ.out.trans hg
      subst hA
      have z:=qc HI.out.box 5 (v:=.slice (some ⟨g,0,none⟩) m dq.nx) (by rw [<- hg,<- qE k];rfl)
      have HN:=hZ hq
      clear hg hq qE
      go_wp2
      go_roundg (m - (k + 1))
      case measure => omega
      case rel => exact ⟨k + 1,rfl,by omega,by go_num,HN⟩
     ·have hlt' : ¬ (k : Int) < m:=by omega
      obtain rfl : k = m:=by omega
      obtain ⟨P2,hP2⟩ : ∃ P : Pg,P = qid (qbd p):=⟨_,rfl⟩
      have hPe : ({ qbd p with xs:=jR k l0 } : Pg) = P2:=by
       rw [hP2,HM.out.1,qo5,HL0.out]
       rfl
      have qk4 : Hid (QAt w P2 dq bq T lo hi wr):=hZ (by rw [<- hPe];exact HI.out)
      have hPl : P2.xs.length = k:=by rw [<- hPe];exact qE k
      have HGB : Hid (Good P2):=hZ (by rw [hP2];exact qh8 HGT.out)
      obtain ⟨cq,hcq⟩ : ∃ c,c = xY dq P2:=⟨_,rfl⟩
      have szq : cq.size = N:=by rw [hcq,HX.out.1];exact (vV _ _).1
      have l11 : (loadCellsFrom ⟨bq,0,none⟩ 0 N #[]).run Tryz.prog wr = .ok cq wr:=qZ (fun j v hv => by rw [zD];exact qc qk4.out.box j (by rw [<- hcq];exact hv)) szq
      have HV : Hid (Calls Tryz.prog 18 #[.agg cq] wr fun e w' => e = .returned (.bool true) /\ Below wr.heap.size wr w'):=hZ (by
       rw [hcq,<- vZ.2 HGB.out]
       exact qbx P2 dq wr (HP.out.on qk4.out.blw) qk4.out.own)
      have HP2:=hZ (aZ hP2 hPl)
      clear hcq hPe hP2 hPl HI qE
      go_wp2_with fail
      clear l11
      (with_reducible refine HV.out.mono ?_)
      rintro e w12 ⟨rfl,hb⟩
      have qhq:=hZ (qk4.out.next hb)
      clear hb HV qk4 szq
      have z:=qc qhq.out.box 5 (v:=.slice Aq k dq.nx) (by rw [HAQ.out,<- HP2.out.2];rfl)
      by_cases hk1 : (k : Int) > 0
      case neg =>
       go_wp2
       go_ret
       exact ⟨rfl,qhq.out.blw⟩
      case pos =>
       by_cases hk2 : (k : Int) < 10
       case neg =>
        go_wp2
        go_ret
        exact ⟨rfl,qhq.out.blw⟩
       case pos =>
        obtain ⟨⟨vs,h1,h2⟩,_⟩:=qhq.out.ox
        obtain ⟨x,l1,hx⟩ : ∃ x l1,P2.xs = x :: l1:=by
         cases e : P2.xs with
         | nil => have := HP2.out.2;rw [e] at this;simp at this;omega
         | cons x l1 => exact ⟨x,l1,rfl⟩
        obtain ⟨c,hc,qn,hco,hcv⟩:=h1.at_ (i:=0) (x:=x) (by rw [hx];rfl)
        obtain ⟨g,hg⟩:=qdt h2 (by rw [HP2.out.2];omega)
        have hA : Aq = some ⟨g,0,none⟩:=HAQ.out.trans hg
        subst hA
        have qng : ∀ j v,c[j]? = some v -> ∀ W,Below w12.heap.size w12 W -> W.cell? ((⟨g,0,none⟩ : Addr).add j) = some v:=fun j v hj W hb => by
         have h4:=qaU h1.sz 0 j (by have := (Array.getElem?_eq_some_iff.1 hj).1;omega)
         rw [hc,Nat.zero_mul,Nat.zero_add] at h4
         rw [zD]
         rw [hg] at h2
         refine (hb.cell (p:=⟨g,j,none⟩) (qs h2 g rfl).2).trans ?_
         rw [h2.cellAt j (by have := (Array.getElem?_eq_some_iff.1 hj).1;have := HP2.out.2;omega)]
         exact h4.trans hj
        have HLP : Hid (∀ W,Below w12.heap.size w12 W -> (loadCellsFrom ⟨g,0,none⟩ 0 NP #[]).run Tryz.prog W = .ok c W):=hZ (fun W hb => qZ (fun j v hj => qng j v hj W hb) (qn.trans HNP.out.symm))
        have HZ : Hid (∀ W,Below w12.heap.size w12 W -> W.cell? ⟨bq,5,none⟩ = some (.slice (some ⟨g,0,none⟩) k dq.nx)):=hZ (fun W hb => qc (qg hb qhq.out.box) 5 (by rw [<- hg,<- HP2.out.2];rfl))
        have HD : Hid (∃ vs : List (Array Value),VRow xP 12 w w.heap.size P2.xs vs /\ w12.ownsRow (lo 5) 46 12 (.slice dq.x P2.xs.length dq.nx) P2.xs.length (zx vs)):=hZ ⟨vs,h1,h2⟩
        have HC:=hZ (aZ qn (aZ hco (aZ hcv (aZ hx hg))))
        obtain ⟨i0,xj,hiz,his,yM⟩:=info_parts qhb
        have zt:=hZ (aZ xj (aZ hiz (aZ his yM)))
        have HO:=hZ (aZ h1 h2)
        clear qng h1 h2 hc qn hco hcv hx hg xj hiz his yM
        go_wp2_with fail
        clear z
        go_cut [83] from 75 to 83 (fun v83 wx => qvk w P2 x bq dq T wx)
        case first =>
         refine wp_region_held (S:=fun _ => True) (by kernel_rfl) ?_
         change wpAnyH _ _ _ _ _ 10 #[false,false,false,false,false,false,false,false,false,false] _ w12.drew
         have HV0 : Hid (Below w12.heap.size w12 w12.drew):=hZ (Below.refl _ _).drew
         generalize w12.drew = V0 at HV0 ⊢
         refine tk 0 75 (.pointer (some ⟨bq,5,none⟩)) trivial ?v ?_
         case v => intro Wx hSx;go_simp
         refine tk 2 77 (.pointer (some ⟨bq,5,none⟩)) trivial ?v ?_
         case v => intro Wx hSx;go_simp
         try simp only [qf]
         have s0:=HZ.out _ HV0.out
         have s1:=HLP.out _ HV0.out
         all_goals
          first
          | have hq:=h76
            clear hq
            refine o1 3 (fun K hK => ?_)
            go_simp
            refine hK _ _ trivial ?_
            clear hK K
            try simp only [qf]
          | refine zM 1 3 (by kernel_rfl) rfl rfl (by kernel_rfl) (by kernel_rfl) (fun K hK => ?_) (fun K hK => ?_)
            rotate_left
            go_simp
            refine hK _ _ trivial ?_
            clear hK K
            try simp only [qf]
            rotate_left
            go_simp
            refine hK _ _ trivial ?_
            clear hK K
            try simp only [qf]
            have h76 : True:=trivial
            refine o1 3 (fun K hK => ?_)
            go_simp
            refine hK _ _ trivial ?_
            clear hK K
            try simp only [qf]
         all_goals
          first
          | have hq:=h76
            clear hq
            refine o1 4 (fun K hK => ?_)
            go_simp
            refine hK _ _ trivial ?_
            clear hK K
            try simp only [qf]
          | refine zM 1 4 (by kernel_rfl) rfl rfl (by kernel_rfl) (by kernel_rfl) (fun K hK => ?_) (fun K hK => ?_)
            rotate_left
            go_simp
            refine hK _ _ trivial ?_
            clear hK K
            try simp only [qf]
            rotate_left
            go_simp
            refine hK _ _ trivial ?_
            clear hK K
            try simp only [qf]
            have h76 : True:=trivial
            refine o1 4 (fun K hK => ?_)
            go_simp
            refine hK _ _ trivial ?_
            clear hK K
            try simp only [qf]
         all_goals
          first
          | have hq:=h76
            clear hq
            refine o1 5 (fun K hK => ?_)
            go_simp
            refine hK _ _ trivial ?_
            clear hK K
            try simp only [qf]
          | refine zM 1 5 (by kernel_rfl) rfl rfl (by kernel_rfl) (by kernel_rfl) (fun K hK => ?_) (fun K hK => ?_)
            rotate_left
            go_simp
            refine hK _ _ trivial ?_
            clear hK K
            try simp only [qf]
            rotate_left
            go_simp
            refine hK _ _ trivial ?_
            clear hK K
            try simp only [qf]
            have h76 : True:=trivial
            refine o1 5 (fun K hK => ?_)
            go_simp
            refine hK _ _ trivial ?_
            clear hK K
            try simp only [qf]
         all_goals
          first
          | have hq:=h76
            clear hq
            refine o1 6 (fun K hK => ?_)
          | refine zM 1 6 (by kernel_rfl) rfl rfl (by kernel_rfl) (by kernel_rfl) (fun K hK => ?_) (fun K hK => ?_)
            rotate_left
            rotate_left
            go_simp
            refine hK _ _ trivial ?_
            clear hK K
            try simp only [qf]
            have h76 : True:=trivial
            refine o1 6 (fun K hK => ?_)
         all_goals
          refine wp_buildSlice 27 46 1 _ rfl c i0 _ Tryz.underlying27 zt.out.1 zt.out.2.1 (by rw [zt.out.2.2.1];decide) (by rw [zt.out.2.2.1];decide) ?hf ?_
          case hf => (simp only [List.map_toArray,List.map_cons,List.map_nil];exact qqK zt.out.2.2.1 HC.out.1)
          obtain ⟨V1,hV1⟩ : ∃ V,V = V0.alloc (.cells c 46):=⟨_,rfl⟩
          have r1 : qI V1 V1.heap.size 12 (some ⟨V0.heap.size,0,none⟩) 1 c.toList:=by rw [hV1];exact qmM HC.out.1
          have HV1 : Hid (Below w12.heap.size w12 V1 /\ qI V1 V1.heap.size 12 (some ⟨V0.heap.size,0,none⟩) 1 c.toList):=hZ ⟨by rw [hV1];exact HV0.out.chain (qd _ _),r1⟩
          rw [<- hV1]
          clear hV1 r1
          refine hK _ _ trivial ?_
          clear hK K s0 s1
          have s0:=HZ.out _ HV1.out.1
          try simp only [qf]
         all_goals
          first
          | have hq:=h76
            clear hq
          | refine o1 1 (fun K hK => ?_)
            go_simp
            refine hK _ _ trivial ?_
            clear hK K
            try simp only [qf]
         all_goals
          refine o1 7 (fun K hK => ?_)
          have jY:=qy HO.out.2 HV1.out.1 (fun g hg => (qs HO.out.2 g hg).2)
          rw [HP2.out.2,HC.out.2.2.2.2] at jY
          refine qbc V1 _ _ 27 rfl (lo 5) 46 i0 _ 12 216 Tryz.underlying27 zt.out.1 zt.out.2.1 zt.out.2.2.1 zt.out.2.2.2 rfl (by decide) (.slice (some ⟨g,0,none⟩) k dq.nx) k (zx vs) rfl jY V1.heap.size (some ⟨V0.heap.size,0,none⟩) 1 1 c.toList rfl HV1.out.2 HC.out.2.1 (by unfold maxLen;omega) (by omega) (by have := qs jY g rfl;omega) (fun v' V2 o1' g1 t1 => ?_)
          have HA:=qhq.out.appended HO.out.1 HO.out.2 HC.out.1 HC.out.2.2.1 HV1.out.1 (v':=v') (by rw [HP2.out.2];exact o1') (by rw [HP2.out.2,HC.out.2.2.2.2];exact g1) (by rw [HP2.out.2,HC.out.2.2.2.2];exact t1)
          obtain ⟨A',c',lo',hi',rfl,hqa⟩:=HA
          rw [HP2.out.2] at hqa o1' ⊢
          have zA : V2.heap[bq]? = some (.cells (xY dq P2) T (0,0)):=qkT qhq.out HO.out.2 HV1.out.1 (by rw [HP2.out.2,HC.out.2.2.2.2];exact g1)
          refine hK _ _ trivial ?_
          clear hK K
          try simp only [qf]
          have y0:=qc zA 5 (v:=.slice (some ⟨g,0,none⟩) k dq.nx) (by rw [<- HC.out.2.2.2.2,<- HP2.out.2];rfl)
          have y1:=zh zA 5
          refine tk 8 83 (.pointer (some ⟨bq,5,none⟩)) trivial ?v ?_
          case v => (intro Wx hSx;go_simp)
          refine o1 9 (fun K hK => ?_)
          go_simp
          refine hK _ _ trivial ?_
          clear hK K s0 y0 y1
          try simp only [qf]
          refine wpAnyH_done (by kernel_rfl) ?_ _
          go_wp2
          go_meet
          exact ⟨_,_,_,_,_,rfl,hqa⟩
        case rest =>
         obtain ⟨W13,A',c',lo',hi',rfl,hqa⟩:=hcut
         have qhp:=hZ hqa
         have jv:=hZ HC.out.2.2.2.1
         clear hqa
         have HF : Hid (qaf { P2 with xs:=P2.xs ++ [x] } = (some (x.nm,8),(0,0))):=hZ (by
          have h:=qjX HG.out.1 (x:=x) (l:=l1) (by rw [<- HP2.out.1];exact jv.out) (by have := HM.out.2.2;omega)
          rw [<- HP2.out.1] at h
          exact h)
         obtain ⟨g6,hg6,yS⟩:=qhp.out.first_name (x:=x) (l:=l1 ++ [x]) (by show P2.xs ++ [x] = _;rw [jv.out];rfl)
         have hA' : A' = some ⟨g6,0,none⟩:=hg6
         subst hA'
         obtain ⟨d2,hd2⟩ : ∃ d : GAd,d = { dq with x:=some ⟨g6,0,none⟩,nx:=c' }:=⟨_,rfl⟩
         rw [<- hd2] at qhp
         obtain ⟨cq,hcq⟩ : ∃ c,c = xY d2 { P2 with xs:=P2.xs ++ [x] }:=⟨_,rfl⟩
         have szq : cq.size = N:=by rw [hcq,HX.out.1];exact (vV _ _).1
         have l13 : (loadCellsFrom ⟨bq,0,none⟩ 0 N #[]).run Tryz.prog W13 = .ok cq W13:=qZ (fun j v hv => by rw [zD];exact qc qhp.out.box j (by rw [<- hcq];exact hv)) szq
         have HCk : Hid (Calls Tryz.prog 29 #[.agg cq] W13 (qaS (some (x.nm,8),(0,0)) W13)):=hZ (by
          rw [hcq,<- HF.out]
          exact qps _ d2 W13 (HP.out.on qhp.out.blw) qhp.out.own)
         have HZ6 : Hid (∀ W,Below W13.heap.size W13 W -> W.cell? ⟨bq,5,none⟩ = some (.slice (some ⟨g6,0,none⟩) (k + 1) c') /\ W.cell? ⟨g6,0,none⟩ = some (.string ⟨x.nm.toArray⟩)):=hZ (fun W hb => by
          refine ⟨qc (qg hb qhp.out.box) 5 ?_,?_⟩
          ·have e : ({ P2 with xs:=P2.xs ++ [x] } : Pg).xs.length = k + 1:=by show (P2.xs ++ [x]).length = _;rw [List.length_append,HP2.out.2];rfl
           rw [<- e,hd2]
           rfl
          ·exact (hb.cell (World.block_lt_of_cell? _ _ yS)).trans yS)
         clear hcq hd2 hg6 yS
         go_wp2_with fail
         clear l13
         (with_reducible refine HCk.out.mono ?_)
         rintro e w14 ⟨hr,hb⟩
         rcases hr with ⟨h0,-⟩ | ⟨-,gf,rfl,hgf,hfb⟩
         ·exact absurd h0 (by show ¬ (8 : Int) = 0;decide)
         have q0:=qc hfb 0 (v:=.int .i64 0) rfl
         have q1:=qc hfb 1 (v:=.int .i64 0) rfl
         have q2:=qc hfb 2 (v:=.string ⟨x.nm.toArray⟩) rfl
         have q3:=qc hfb 3 (v:=.int .i64 8) rfl
         obtain ⟨z5,z6⟩:=HZ6.out _ hb
         have H14:=hZ (qhp.out.blw.chain hb)
         have hk4 : (0 : Int) < k + 1:=by omega
         clear hb hfb hgf
         go_wp2_with fail
         go_quiet (fail)
         go_wp2
         go_ret
         exact ⟨rfl,below_drewN H14.out _⟩
end Go.Proofs.YtojjfdegkooknaaGreatDoor
