import Derived.Test.YtojjfdegkooknaaGreatDoorSTypH
import Derived.Shelf.SlicesQ.Reverse
import Derived.Shelf.SlGeneric
import Derived.Shelf.SlLaysE0
import Derived.Ground.SlgnProg
import Derived.Test.YtojjfdegkooknaaGreatDoorProg
import Derived.WalkSpells
import Derived.Outline
import Derived.Test.YtojjfdegkooknaaGreatDoorSTypAo
set_option linter.unusedVariables false
set_option linter.unusedSimpArgs false
namespace Go.Proofs.YtojjfdegkooknaaGreatDoor
open Go.RowKit Go.Lib
def zx (vs : List (Array Value)) : List Value:=vs.flatMap Array.toList
theorem qcj (c : Array Value) (vs : List (Array Value)) : zx (c :: vs) = c.toList ++ zx vs:=by
 unfold zx
 rw [List.flatMap_cons]
theorem qbO (vs us : List (Array Value)) : zx (vs ++ us) = zx vs ++ zx us:=by
 unfold zx
 rw [List.flatMap_append]
theorem qdk {K : Nat} : ∀ {vs : List (Array Value)},(∀ c ∈ vs,c.size = K) -> (zx vs).length = vs.length * K
 | [],_ => by simp [zx]
 | c :: vs,h => by
   rw [qcj,List.length_append,Array.length_toList,h c (List.mem_cons_self ..),qdk (vs:=vs) (fun c hc => h c (List.mem_cons_of_mem _ hc)),List.length_cons,Nat.succ_mul]
   omega
theorem qaU {K : Nat} : ∀ {vs : List (Array Value)},(∀ c ∈ vs,c.size = K) -> ∀ (i j : Nat),j < K -> (zx vs)[i * K + j]? = (vs[i]?).bind fun c => c[j]?
 | [],_,i,j,_ => by simp [zx]
 | c :: vs,h,i,j,hj => by
   have h1 : c.toList.length = K:=by rw [Array.length_toList];exact h c (List.mem_cons_self ..)
   rw [qcj]
   match i with
   | 0 =>
     rw [List.getElem?_append_left (by omega),Nat.zero_mul,Nat.zero_add]
     simp
   | i + 1 =>
     have h2:=qaU (vs:=vs) (fun c hc => h c (List.mem_cons_of_mem _ hc)) i j hj
     rw [Nat.succ_mul,List.getElem?_append_right (by omega),h1,show i * K + K + j - K = i * K + j by omega,h2]
     rfl
theorem qsR {vs : List (Array Value)} {P : Value -> Prop} (h : ∀ c ∈ vs,∀ v ∈ c.toList,P v) : ∀ v ∈ zx vs,P v:=fun v hv => by
 obtain ⟨c,hc,hv⟩:=List.mem_flatMap.1 hv
 exact h c hc v hv
structure VRow {α : Type} (V : World -> Nat -> Array Value -> α -> Prop) (K : Nat) (w : World) (B : Nat) (l : List α) (vs : List (Array Value)) : Prop where
 len : vs.length = l.length
 sz : ∀ c ∈ vs,c.size = K
 one : ∀ c ∈ vs,∀ v ∈ c.toList,v.oneCell' = true
 el : ∀ (i : Nat) x c,l[i]? = some x -> vs[i]? = some c -> V w B c x
def qfi {α : Type} (V : World -> Nat -> Array Value -> α -> Prop) : Prop:=∀ w B cs x,V w B cs x -> ∀ v ∈ cs.toList,v.oneCell' = true
section
variable {α : Type} {V : World -> Nat -> Array Value -> α -> Prop} {K : Nat} {w w' : World} {B B' : Nat} {l : List α} {vs : List (Array Value)} {A : Option Addr}
theorem VRow.keep (hV : ju V) (hk : ∀ q : Addr,q.block < B -> w'.cell? q = w.cell? q) (hB : B <= B') (h : VRow V K w B l vs) : VRow V K w' B' l vs :=
 ⟨h.len,h.sz,h.one,fun i x c hx hc => hV _ _ _ _ _ _ hk hB (h.el i x c hx hc)⟩
theorem VRow.nil : VRow V K w B [] []:=⟨rfl,(fun c h => by cases h),(fun c h => by cases h),fun i x c h => by simp at h⟩
theorem VRow.reverse (h : VRow V K w B l vs) : VRow V K w B l.reverse vs.reverse:=by
 refine ⟨by rw [List.length_reverse,List.length_reverse];exact h.len,fun c hc => h.sz c (List.mem_reverse.1 hc),fun c hc => h.one c (List.mem_reverse.1 hc),fun i x c hx hc => ?_⟩
 have hi : i < l.length:=by
  have := (List.getElem?_eq_some_iff.1 hx).1
  rwa [List.length_reverse] at this
 rw [List.getElem?_reverse hi] at hx
 rw [List.getElem?_reverse (by rw [h.len];exact hi),h.len] at hc
 exact h.el _ x c hx hc
theorem VRow.set (h : VRow V K w B l vs) (i : Nat) (y : α) (d : Array Value) (hs : d.size = K) (h1 : ∀ v ∈ d.toList,v.oneCell' = true) (hy : V w B d y) : VRow V K w B (l.set i y) (vs.set i d):=by
 refine ⟨by rw [List.length_set,List.length_set];exact h.len,fun c hc => ?_,fun c hc => ?_,fun j x c hx hc => ?_⟩
 ·rcases List.mem_or_eq_of_mem_set hc with hc | rfl
  ·exact h.sz c hc
  ·exact hs
 ·rcases List.mem_or_eq_of_mem_set hc with hc | rfl
  ·exact h.one c hc
  ·exact h1
 ·by_cases hij : i = j
  ·subst hij
   have hi:=(List.getElem?_eq_some_iff.1 hx).1
   rw [List.length_set] at hi
   rw [List.getElem?_set_self hi] at hx
   rw [List.getElem?_set_self (by rw [h.len];exact hi)] at hc
   obtain rfl:=Option.some.inj hx
   obtain rfl:=Option.some.inj hc
   exact hy
  ·rw [List.getElem?_set_ne hij] at hx hc
   exact h.el j x c hx hc
theorem VRow.append {m : List α} {us : List (Array Value)} (h : VRow V K w B l vs) (g : VRow V K w B m us) : VRow V K w B (l ++ m) (vs ++ us):=by
 refine ⟨by rw [List.length_append,List.length_append,h.len,g.len],fun c hc => ?_,fun c hc => ?_,fun i x c hx hc => ?_⟩
 ·rcases List.mem_append.1 hc with hc | hc
  ·exact h.sz c hc
  ·exact g.sz c hc
 ·rcases List.mem_append.1 hc with hc | hc
  ·exact h.one c hc
  ·exact g.one c hc
 ·by_cases hi : i < l.length
  ·rw [List.getElem?_append_left hi] at hx
   rw [List.getElem?_append_left (by rw [h.len];exact hi)] at hc
   exact h.el i x c hx hc
  ·rw [List.getElem?_append_right (by omega)] at hx
   rw [List.getElem?_append_right (by rw [h.len];omega),h.len] at hc
   exact g.el _ x c hx hc
theorem VRow.at_ (h : VRow V K w B l vs) {i : Nat} {x : α} (hx : l[i]? = some x) : ∃ c,vs[i]? = some c /\ c.size = K /\ (∀ v ∈ c.toList,v.oneCell' = true) /\ V w B c x:=by
 have hi : i < vs.length:=by rw [h.len];exact (List.getElem?_eq_some_iff.1 hx).1
 have he : vs[i]? = some vs[i]:=List.getElem?_eq_getElem hi
 exact ⟨vs[i],he,h.sz _ (List.getElem_mem hi),h.one _ (List.getElem_mem hi),h.el i x _ hx he⟩
theorem VRow.fl_len (h : VRow V K w B l vs) : (zx vs).length = l.length * K:=by rw [qdk h.sz,h.len]
theorem VRow.fl_one (h : VRow V K w B l vs) : ∀ v ∈ zx vs,v.oneCell' = true:=qsR h.one
theorem qbk (hK : 0 < K) (h1 : qfi V) (h : qD V K w B l A) : ∃ vs,VRow V K w B l vs /\ qI w B K A l.length (zx vs):=by
 have hc : ∀ i,∃ cs : Array Value,∀ x,l[i]? = some x -> ∃ a : Addr,A = some a /\ a.block < B /\ cs.size = K /\ (∀ (j : Nat) v,cs[j]? = some v -> w.cell? ((a.add (i * K)).add j) = some v) /\ V w B cs x:=fun i => by
  cases e : l[i]? with
  | none => exact ⟨#[],fun x hx => by cases hx⟩
  | some x =>
    obtain ⟨a,cs,h2⟩:=h i x e
    exact ⟨cs,fun y hy => by obtain rfl:=Option.some.inj hy;exact ⟨a,h2⟩⟩
 obtain ⟨f,hf⟩:=Classical.axiomOfChoice hc
 have hg : ∀ i,((List.range l.length).map f)[i]? = (l[i]?).map fun _ => f i:=fun i => by
  rw [List.getElem?_map]
  by_cases hi : i < l.length
  ·rw [List.getElem?_range hi,List.getElem?_eq_getElem hi]
   rfl
  ·rw [List.getElem?_eq_none (by rw [List.length_range];omega),List.getElem?_eq_none (by omega)]
   rfl
 have hm : ∀ c ∈ (List.range l.length).map f,∃ i x,l[i]? = some x /\ c = f i:=fun c hc => by
  obtain ⟨i,hi,rfl⟩:=List.mem_map.1 hc
  exact ⟨i,_,List.getElem?_eq_getElem (List.mem_range.1 hi),rfl⟩
 have hv : VRow V K w B l ((List.range l.length).map f):=by
  refine ⟨by rw [List.length_map,List.length_range],fun c hc => ?_,fun c hc => ?_,fun i x c hx hc => ?_⟩
  ·obtain ⟨i,x,hx,rfl⟩:=hm c hc
   obtain ⟨a,_,_,h3,_⟩:=hf i x hx
   exact h3
  ·obtain ⟨i,x,hx,rfl⟩:=hm c hc
   obtain ⟨a,_,_,_,_,h5⟩:=hf i x hx
   exact h1 _ _ _ _ h5
  ·rw [hg,hx] at hc
   obtain rfl:=Option.some.inj hc
   obtain ⟨a,_,_,_,_,h5⟩:=hf i x hx
   exact h5
 refine ⟨_,hv,hv.fl_len,fun h0 => ?_⟩
 obtain ⟨a,rfl,qx,_⟩:=hf 0 _ (List.getElem?_eq_getElem h0)
 refine ⟨a,rfl,qx,fun p u hu => ?_⟩
 have h2:=qaU hv.sz (p / K) (p % K) (Nat.mod_lt _ hK)
 have hp : p / K * K + p % K = p:=by rw [Nat.mul_comm];exact Nat.div_add_mod p K
 rw [hp,hu,hg] at h2
 cases e : l[p / K]? with
 | none => rw [e] at h2;cases h2
 | some x =>
   rw [e] at h2
   obtain ⟨a',ha,_,_,h4,_⟩:=hf (p / K) x e
   obtain rfl:=Option.some.inj ha
   have h5:=h4 (p % K) u h2.symm
   rw [jz,hp] at h5
   exact h5
theorem VRow.row (h : VRow V K w B l vs) {n : Nat} (hn : n = l.length) (hr : qI w B K A n (zx vs)) : qD V K w B l A:=by
 intro i x hx
 obtain ⟨c,hc,qn,_,hv⟩:=h.at_ hx
 have hi:=(List.getElem?_eq_some_iff.1 hx).1
 obtain ⟨a,hA,qx,hcl⟩:=hr.2 (by omega)
 refine ⟨a,c,hA,qx,qn,fun j v hj => ?_,hv⟩
 have hjK : j < K:=by
  have := (Array.getElem?_eq_some_iff.1 hj).1
  omega
 rw [jz]
 refine hcl _ _ ?_
 rw [qaU h.sz i j hjK,hc]
 exact hj
theorem VRow.own (h : VRow V K w B l vs) (hV : ju V) (hB : B <= w.heap.size) {base n c : Nat} {T : TypeId} (hn : n = l.length) (ho : w.ownsRow base T K (.slice A n c) n (zx vs)) : qD V K w w.heap.size l A :=
 (h.keep hV (fun _ _ => rfl) hB).row hn (qI.of_own ho)
end
theorem qcf {α : Type} {V : World -> Nat -> Array Value -> α -> Prop} {At : World -> Nat -> Addr -> α -> Prop} {K : Nat} (join : ∀ (w : World) (B : Nat) (p : Addr) cs x,(∀ (j : Nat) v,cs[j]? = some v -> w.cell? (p.add j) = some v) -> V w B cs x -> At w B p x) {w : World} {B : Nat} {l : List α} {A : Option Addr} (h : qD V K w B l A) : RowX At K w B l A:=by
 cases l with
 | nil => exact .nil A
 | cons y l =>
   obtain ⟨a,cs,rfl,qx,_⟩:=h 0 y rfl
   refine .row a _ qx fun i x hi => ?_
   obtain ⟨a',cs,ha,_,_,hc,hv⟩:=h i x hi
   obtain rfl:=Option.some.inj ha
   exact join _ _ _ _ _ hc hv
theorem qbw (p : Addr) : p.add 0 = p:=by simp [Addr.add]
theorem qsF : ∀ (w : World) (B : Nat) (p : Addr) cs x,(∀ (j : Nat) v,cs[j]? = some v -> w.cell? (p.add j) = some v) -> zp w B cs x -> qgg w B p x:=by
 rintro w B p cs x hc ⟨rfl,h1,h2⟩
 have c0:=hc 0 _ rfl
 rw [qbw] at c0
 exact ⟨c0,hc 1 _ rfl,h1,h2⟩
theorem qsy : ∀ (w : World) (B : Nat) (p : Addr) cs x,(∀ (j : Nat) v,cs[j]? = some v -> w.cell? (p.add j) = some v) -> yW w B cs x -> qhm w B p x:=by
 rintro w B p cs x hc ⟨A,c,rfl,h1,h2,h3⟩
 have c0:=hc 0 _ rfl
 rw [qbw] at c0
 exact ⟨A,c,c0,hc 1 _ rfl,h1,h2,h3⟩
theorem qsK : ∀ (w : World) (B : Nat) (p : Addr) cs x,(∀ (j : Nat) v,cs[j]? = some v -> w.cell? (p.add j) = some v) -> vA w B cs x -> qho w B p x:=by
 rintro w B p cs x hc ⟨A,c,rfl,h1,h2,h3⟩
 have c0:=hc 0 _ rfl
 rw [qbw] at c0
 exact ⟨A,c,c0,hc 1 _ rfl,h1,h2,h3⟩
theorem qsZ : ∀ (w : World) (B : Nat) (p : Addr) cs x,(∀ (j : Nat) v,cs[j]? = some v -> w.cell? (p.add j) = some v) -> vg w B cs x -> qhs w B p x:=by
 rintro w B p cs x hc ⟨A,c,A2,c2,rfl,h1,h2,h3,h4,h5⟩
 have c0:=hc 0 _ rfl
 rw [qbw] at c0
 exact ⟨A,c,A2,c2,c0,hc 1 _ rfl,hc 2 _ rfl,h1,h2,h3,h4,h5⟩
theorem qsI : ∀ (w : World) (B : Nat) (p : Addr) cs x,(∀ (j : Nat) v,cs[j]? = some v -> w.cell? (p.add j) = some v) -> VLm w B cs x -> qhn w B p x:=by
 rintro w B p cs x hc ⟨A,c,d,e,rfl,h1,h2,h3,h4,h5⟩
 exact ⟨A,c,d,e,hc,h1,h2,h3,h4,h5⟩
theorem qlG : ∀ (w : World) (B : Nat) (p : Addr) cs x,(∀ (j : Nat) v,cs[j]? = some v -> w.cell? (p.add j) = some v) -> xP w B cs x -> qiL w B p x:=by
 rintro w B p cs x hc ⟨d,rfl,h1⟩
 exact ⟨d,hc,h1⟩
theorem qco {cs : Array Value} (h : cs.all (·.oneCell') = true) : ∀ v ∈ cs.toList,v.oneCell' = true:=fun v hv => (Array.all_eq_true_iff_forall_mem.1 h) v (Array.mem_toList_iff.1 hv)
theorem qsE : qfi zp:=by
 rintro w B cs x ⟨rfl,_⟩
 exact qco (by rw [List.all_toArray];rfl)
theorem qsx : qfi yW:=by
 rintro w B cs x ⟨A,c,rfl,_⟩
 exact qco (by rw [List.all_toArray];rfl)
theorem qsJ : qfi vA:=by
 rintro w B cs x ⟨A,c,rfl,_⟩
 exact qco (by rw [List.all_toArray];rfl)
theorem qsY : qfi vg:=by
 rintro w B cs x ⟨A,c,A2,c2,rfl,_⟩
 exact qco (by rw [List.all_toArray];rfl)
theorem qsH : qfi VLm:=by
 rintro w B cs x ⟨A,c,d,e,rfl,_⟩
 exact qco (by unfold qg9;rw [List.all_toArray];rfl)
theorem qgp : qfi xP:=by
 rintro w B cs x ⟨d,rfl,_⟩
 exact qco (by unfold jJ;rw [List.all_toArray];rfl)
def vj {α : Type} (T : TypeId) (K : Nat) (V : World -> Nat -> Array Value -> α -> Prop) (B : Nat) (l : List α) (n : Nat) (w : World) (e : Ending) (w' : World) : Prop :=
 ∃ A c vs,e = .returned (.slice A n c) /\ w'.ownsRow w.heap.size T K (.slice A n c) n (zx vs) /\ VRow V K w B l vs /\ Below w.heap.size w w'
end Go.Proofs.YtojjfdegkooknaaGreatDoor
namespace Go.Proofs.YtojjfdegkooknaaGreatDoor
open Go.RowKit Go.Lib Go.Sort
abbrev qcT (K : Nat):={c : Array Value // c.size = K /\ ∀ v ∈ c.toList,v.oneCell' = true}
instance (K : Nat) : Inhabited (qcT K):=⟨⟨(List.replicate K (.bool false)).toArray,by simp,fun v hv => by
 have h : v ∈ List.replicate K (Value.bool false):=by simpa using hv
 rw [List.eq_of_mem_replicate h]
 rfl⟩⟩
def qcl {K : Nat} (c : qcT K) : List Value:=c.1.toList
theorem qdH {K : Nat} (c : qcT K) : (qcl c).length = K:=by
 unfold qcl
 rw [Array.length_toList]
 exact c.2.1
theorem qhO {K : Nat} : ∀ {vs : List (Array Value)},(∀ c ∈ vs,c.size = K) -> (∀ c ∈ vs,∀ v ∈ c.toList,v.oneCell' = true) -> ∃ d : List (qcT K),d.map (·.1) = vs
 | [],_,_ => ⟨[],rfl⟩
 | c :: vs,h1,h2 => by
   obtain ⟨d,hd⟩:=qhO (vs:=vs) (fun c hc => h1 c (List.mem_cons_of_mem _ hc)) (fun c hc => h2 c (List.mem_cons_of_mem _ hc))
   exact ⟨⟨c,h1 c (List.mem_cons_self ..),h2 c (List.mem_cons_self ..)⟩ :: d,by rw [List.map_cons,hd]⟩
theorem qfT {K : Nat} (d : List (qcT K)) : ∀ c ∈ d.map (·.1),c.size = K:=fun c hc => by
 obtain ⟨e,_,rfl⟩:=List.mem_map.1 hc
 exact e.2.1
theorem qmc {K : Nat} (hK : 0 < K) (d : List (qcT K)) : flatK qcl K d.toArray = (zx (d.map (·.1))).toArray:=by
 apply Array.toList_inj.1
 apply List.ext_getElem?
 intro j
 rw [Array.getElem?_toList]
 have hl : (zx (d.map (·.1))).length = d.length * K:=by rw [qdk (qfT d),List.length_map]
 by_cases hj : j < d.length * K
 ·have hk : j / K < d.length:=Nat.div_lt_of_lt_mul (by rw [Nat.mul_comm];exact hj)
  have hp : j / K * K + j % K = j:=by rw [Nat.mul_comm];exact Nat.div_add_mod j K
  have hg:=qaU (qfT d) (j / K) (j % K) (Nat.mod_lt _ hK)
  rw [hp] at hg
  show _ = (zx (d.map (·.1)))[j]?
  rw [hg,List.getElem?_map,List.getElem?_eq_getElem hk]
  have hs : j < (flatK qcl K d.toArray).size:=by rw [size_flatK];simpa using hj
  rw [Array.getElem?_eq_getElem hs,<- getElem!_pos _ j hs,get_flatK _ _ _ _ (by simpa using hj)]
  have h1 : d.toArray[j / K]! = d[j / K]:=by rw [getElem!_pos d.toArray (j / K) (by simpa using hk)];simp
  rw [h1]
  have h3 : j % K < (qcl d[j / K]).length:=by rw [qdH];exact Nat.mod_lt _ hK
  rw [getElem!_pos (qcl d[j / K]) (j % K) h3,<- List.getElem?_eq_getElem h3]
  show (d[j / K].1.toList)[j % K]? = (d[j / K].1)[j % K]?
  rw [Array.getElem?_toList]
 ·rw [Array.getElem?_eq_none (by rw [size_flatK];simp;omega)]
  show none = (zx (d.map (·.1)))[j]?
  rw [List.getElem?_eq_none (by omega)]
theorem qot {K : Nat} (hK : 0 < K) {w : World} {base g n c : Nat} {T : TypeId} {d : List (qcT K)} (hn : d.length = n) (h : w.ownsRow base T K (.slice (some ⟨g,0,none⟩) n c) n (zx (d.map (·.1)))) : HoldsK qcl K w g 0 d.toArray:=by
 subst hn
 intro j hj
 rw [size_flatK] at hj
 have hj' : j < d.length * K:=by simpa using hj
 have hjc : j < (zx (d.map (·.1))).length:=by rw [h.1];exact hj'
 refine ⟨?_,by rw [Nat.zero_add];exact h.frozenAt _⟩
 rw [Nat.zero_add,h.cellAt _ hj',qmc hK,List.getElem?_eq_getElem hjc]
 rw [getElem!_pos (zx (d.map (·.1))).toArray j (by simpa using hjc)]
 simp
theorem qj9 (cur F : Array Value) : (putCells id 0 F cur).size = cur.size:=by simp [putCells]
theorem qp1 (cur F : Array Value) (h : F.size <= cur.size) : (putCells id 0 F cur).toList.take F.size = F.toList:=by
 apply List.ext_getElem
 ·rw [List.length_take,Array.length_toList,qj9,Array.length_toList]
  omega
 ·intro j h1 h2
  have hj : j < F.size:=by simpa using h2
  rw [List.getElem_take,Array.getElem_toList,Array.getElem_toList]
  simp only [putCells,Array.getElem_mapIdx]
  rw [if_pos ⟨Nat.zero_le _,by omega⟩,Nat.sub_zero,getElem!_pos F j hj]
  rfl
theorem qeY (w : World) (g m : Nat) (F : Array Value) : (putRow id (Sort.ahead w m) g 0 F).heap = w.heap.modify g (onCells (putCells id 0 F)):=rfl
theorem qsz {w : World} {base K g n c m : Nat} {T : TypeId} {xs : List Value} (h : w.ownsRow base T K (.slice (some ⟨g,0,none⟩) n c) n xs) (F : List Value) (hF : F.length = n * K) :
 (putRow id (Sort.ahead w m) g 0 F.toArray).ownsRow base T K (.slice (some ⟨g,0,none⟩) n c) n F:=by
 rcases h.2 with ⟨hv,_⟩ | ⟨g',cap,cur,hv,hB,hg,jk,hcm,qn,_⟩
 ·cases hv
 ·injection hv with h1 h2 h3
  have h4 : g = g':=by injection h1 with h1;injection h1
  subst h4
  subst h3
  have zL : n * K <= c * K:=Nat.mul_le_mul_right _ jk
  have hS : F.toArray.size <= cur.size:=by rw [List.size_toArray,hF,qn];exact zL
  refine ⟨hF,.inr ⟨g,c,putCells id 0 F.toArray cur,rfl,hB,?_,jk,hcm,by rw [qj9];exact qn,?_⟩⟩
  ·rw [qeY,Array.getElem?_modify,if_pos rfl,hg]
   rfl
  ·have := qp1 cur F.toArray hS
   rw [List.size_toArray,hF] at this
   exact this
theorem qn0 {w : World} {base g m : Nat} (hg : base <= g) (F : Array Value) : Below base w (putRow id (Sort.ahead w m) g 0 F) :=
 ⟨rfl,rfl,rfl,by rw [qeY,Array.size_modify];exact Nat.le_refl _,fun b hb => by rw [qeY,Array.getElem?_modify,if_neg (by omega)]⟩
def qeQ (T : TypeId) (K base : Nat) (A : Option Addr) (n c : Nat) (vs : List (Array Value)) (w : World) (e : Ending) (w' : World) : Prop :=
 e = .returned (.tuple #[]) /\ w'.ownsRow base T K (.slice A n c) n (zx vs.reverse) /\ Below base w w' /\ ∀ b,(Value.slice A n c).ownBlock ≠ some b -> w'.heap[b]? = w.heap[b]?
theorem qgn {F : Nat} {K : Nat} (hK : 0 < K) {T : TypeId} (base : Nat) (A : Option Addr) (n c : Nat) (vs : List (Array Value)) (hn : n = vs.length) (hb : n <= 1000000) (qK : ∀ c ∈ vs,c.size = K) (zz : ∀ c ∈ vs,∀ v ∈ c.toList,v.oneCell' = true) (w : World) (ho : w.ownsRow base T K (.slice A n c) n (zx vs))
 (h0 : ∀ (a : Option Addr) (cap : Nat) (w : World),Calls Tryz.prog F #[.slice a 0 cap] w fun e w' => e = .returned (.tuple #[]) /\ w' = w)
 (h1 : ∀ (blk off cap : Nat) (d : Array (qcT K)) (w : World),HoldsK qcl K w blk off d -> d.size <= 9223372036854775807 -> Calls Tryz.prog F #[.slice (some ⟨blk,off,none⟩) d.size cap] w fun e w' => e = .returned (.tuple #[]) /\ ∃ n,w' = putRowK qcl K (Sort.ahead w n) blk off d.reverse) :
 Calls Tryz.prog F #[.slice A n c] w (qeQ T K base A n c vs w):=by
 obtain ⟨d,rfl⟩:=qhO qK zz
 rw [List.length_map] at hn
 rcases Nat.eq_zero_or_pos n with hz | hz
 ·subst hz
  have hd : d = []:=List.eq_nil_of_length_eq_zero hn.symm
  subst hd
  refine (h0 A c w).mono ?_
  rintro e w' ⟨rfl,rfl⟩
  exact ⟨rfl,ho,Below.refl _ _,fun _ _ => rfl⟩
 ·obtain ⟨g,cap,hv,hg,_⟩:=ho.form hz
  injection hv with hA _ _
  subst hA
  have h2:=h1 g 0 c d.toArray w (qot hK hn.symm ho) (by rw [List.size_toArray];omega)
  rw [List.size_toArray,<- hn] at h2
  refine h2.mono ?_
  rintro e w' ⟨rfl,m,rfl⟩
  have hr : d.toArray.reverse = d.reverse.toArray:=by simp
  have hL : (zx (d.map (·.1)).reverse).length = n * K:=by
   rw [<- List.map_reverse,qdk (qfT _),List.length_map,List.length_reverse,hn]
  unfold putRowK
  rw [hr,qmc hK,List.map_reverse]
  exact ⟨rfl,qsz ho _ hL,qn0 hg _,fun b hb => by rw [qeY,Array.getElem?_modify,if_neg (fun e => hb (by rw [<- e];rfl))]⟩
end Go.Proofs.YtojjfdegkooknaaGreatDoor
namespace Go.Proofs
open Go.Shelf
def Tryz.revRc_ren : Go.Shelf.Ren:=⟨fun | 35 => 25 | n => n,fun | 22 => 22 | 23 => 36 | 3 => 3 | 4 => 4 | 0 => 0 | n => n,fun | n => n⟩
theorem Tryz.revRc : Go.Proofs.SlLaysE0.n35 Tryz.prog Tryz.revRc_ren:={
 mixed:=by kernel_rfl
 f35:=⟨Tryz.f25.name,by decide,Tryz.func25.trans (congrArg some (by kernel_rfl))⟩
 t0:=Tryz.underlying0
 a0:=Tryz.isAgg0
 z0:=Tryz.sizeOf0
 v0:=Tryz.zeroValue0
 t3:=Tryz.underlying3
 a3:=Tryz.isAgg3
 z3:=Tryz.sizeOf3
 v3:=Tryz.zeroValue3
 t4:=Tryz.underlying4
 a4:=Tryz.isAgg4
 z4:=Tryz.sizeOf4
 v4:=Tryz.zeroValue4
 t22:=Tryz.underlying22
 a22:=Tryz.isAgg22
 z22:=Tryz.sizeOf22
 v22:=Tryz.zeroValue22 }
def Tryz.revPm_ren : Go.Shelf.Ren:=⟨fun | 35 => 26 | n => n,fun | 22 => 23 | 23 => 42 | 3 => 3 | 4 => 4 | 0 => 0 | n => n,fun | n => n⟩
theorem Tryz.revPm : Go.Proofs.SlLaysE0.n35 Tryz.prog Tryz.revPm_ren:={
 mixed:=by kernel_rfl
 f35:=⟨Tryz.f26.name,by decide,Tryz.func26.trans (congrArg some (by kernel_rfl))⟩
 t0:=Tryz.underlying0
 a0:=Tryz.isAgg0
 z0:=Tryz.sizeOf0
 v0:=Tryz.zeroValue0
 t3:=Tryz.underlying3
 a3:=Tryz.isAgg3
 z3:=Tryz.sizeOf3
 v3:=Tryz.zeroValue3
 t4:=Tryz.underlying4
 a4:=Tryz.isAgg4
 z4:=Tryz.sizeOf4
 v4:=Tryz.zeroValue4
 t22:=Tryz.underlying23
 a22:=Tryz.isAgg23
 z22:=Tryz.sizeOf23
 v22:=Tryz.zeroValue23 }
def Tryz.revDf_ren : Go.Shelf.Ren:=⟨fun | 35 => 27 | n => n,fun | 22 => 25 | 23 => 64 | 3 => 3 | 4 => 4 | 0 => 0 | n => n,fun | n => n⟩
theorem Tryz.revDf : Go.Proofs.SlLaysE0.n35 Tryz.prog Tryz.revDf_ren:={
 mixed:=by kernel_rfl
 f35:=⟨Tryz.f27.name,by decide,Tryz.func27.trans (congrArg some (by kernel_rfl))⟩
 t0:=Tryz.underlying0
 a0:=Tryz.isAgg0
 z0:=Tryz.sizeOf0
 v0:=Tryz.zeroValue0
 t3:=Tryz.underlying3
 a3:=Tryz.isAgg3
 z3:=Tryz.sizeOf3
 v3:=Tryz.zeroValue3
 t4:=Tryz.underlying4
 a4:=Tryz.isAgg4
 z4:=Tryz.sizeOf4
 v4:=Tryz.zeroValue4
 t22:=Tryz.underlying25
 a22:=Tryz.isAgg25
 z22:=Tryz.sizeOf25
 v22:=Tryz.zeroValue25 }
def Tryz.revPr_ren : Go.Shelf.Ren:=⟨fun | 35 => 28 | n => n,fun | 22 => 27 | 23 => 46 | 3 => 3 | 4 => 4 | 0 => 0 | n => n,fun | n => n⟩
theorem Tryz.revPr : Go.Proofs.SlLaysE0.n35 Tryz.prog Tryz.revPr_ren:={
 mixed:=by kernel_rfl
 f35:=⟨Tryz.f28.name,by decide,Tryz.func28.trans (congrArg some (by kernel_rfl))⟩
 t0:=Tryz.underlying0
 a0:=Tryz.isAgg0
 z0:=Tryz.sizeOf0
 v0:=Tryz.zeroValue0
 t3:=Tryz.underlying3
 a3:=Tryz.isAgg3
 z3:=Tryz.sizeOf3
 v3:=Tryz.zeroValue3
 t4:=Tryz.underlying4
 a4:=Tryz.isAgg4
 z4:=Tryz.sizeOf4
 v4:=Tryz.zeroValue4
 t22:=Tryz.underlying27
 a22:=Tryz.isAgg27
 z22:=Tryz.sizeOf27
 v22:=Tryz.zeroValue27 }
end Go.Proofs
namespace Go.Proofs.YtojjfdegkooknaaGreatDoor
open Go.RowKit Go.Lib Go.Sort
theorem qss (base : Nat) (A : Option Addr) (n c : Nat) (vs : List (Array Value)) (hn : n = vs.length) (hb : n <= 1000000) (qK : ∀ c ∈ vs,c.size = 2) (zz : ∀ c ∈ vs,∀ v ∈ c.toList,v.oneCell' = true) (w : World) (ho : w.ownsRow base 36 2 (.slice A n c) n (zx vs)) :
 Calls Tryz.prog 25 #[.slice A n c] w (qeQ 36 2 base A n c vs w) :=
 qgn (by decide) base A n c vs hn hb qK zz w ho (fun a cap w => Go.Proofs.AnyQ.slices_Reverse_empty Tryz.revRc a cap w)
  (fun blk off cap d w hH hd => Go.Proofs.AnyQ.slices_Reverse Tryz.revRc 2 Tryz.isAgg36 Tryz.sizeOf36 qcl qdH (fun x => x.2.2) blk off cap d w hH hd)
theorem qsu (base : Nat) (A : Option Addr) (n c : Nat) (vs : List (Array Value)) (hn : n = vs.length) (hb : n <= 1000000) (qK : ∀ c ∈ vs,c.size = 2) (zz : ∀ c ∈ vs,∀ v ∈ c.toList,v.oneCell' = true) (w : World) (ho : w.ownsRow base 42 2 (.slice A n c) n (zx vs)) :
 Calls Tryz.prog 26 #[.slice A n c] w (qeQ 42 2 base A n c vs w) :=
 qgn (by decide) base A n c vs hn hb qK zz w ho (fun a cap w => Go.Proofs.AnyQ.slices_Reverse_empty Tryz.revPm a cap w)
  (fun blk off cap d w hH hd => Go.Proofs.AnyQ.slices_Reverse Tryz.revPm 2 Tryz.isAgg42 Tryz.sizeOf42 qcl qdH (fun x => x.2.2) blk off cap d w hH hd)
theorem qsv (base : Nat) (A : Option Addr) (n c : Nat) (vs : List (Array Value)) (hn : n = vs.length) (hb : n <= 1000000) (qK : ∀ c ∈ vs,c.size = 3) (zz : ∀ c ∈ vs,∀ v ∈ c.toList,v.oneCell' = true) (w : World) (ho : w.ownsRow base 64 3 (.slice A n c) n (zx vs)) :
 Calls Tryz.prog 27 #[.slice A n c] w (qeQ 64 3 base A n c vs w) :=
 qgn (by decide) base A n c vs hn hb qK zz w ho (fun a cap w => Go.Proofs.AnyQ.slices_Reverse_empty Tryz.revDf a cap w)
  (fun blk off cap d w hH hd => Go.Proofs.AnyQ.slices_Reverse Tryz.revDf 3 Tryz.isAgg64 Tryz.sizeOf64 qcl qdH (fun x => x.2.2) blk off cap d w hH hd)
theorem qst (base : Nat) (A : Option Addr) (n c : Nat) (vs : List (Array Value)) (hn : n = vs.length) (hb : n <= 1000000) (qK : ∀ c ∈ vs,c.size = 12) (zz : ∀ c ∈ vs,∀ v ∈ c.toList,v.oneCell' = true) (w : World) (ho : w.ownsRow base 46 12 (.slice A n c) n (zx vs)) :
 Calls Tryz.prog 28 #[.slice A n c] w (qeQ 46 12 base A n c vs w) :=
 qgn (by decide) base A n c vs hn hb qK zz w ho (fun a cap w => Go.Proofs.AnyQ.slices_Reverse_empty Tryz.revPr a cap w)
  (fun blk off cap d w hH hd => Go.Proofs.AnyQ.slices_Reverse Tryz.revPr 12 Tryz.isAgg46 Tryz.sizeOf46 qcl qdH (fun x => x.2.2) blk off cap d w hH hd)
end Go.Proofs.YtojjfdegkooknaaGreatDoor
namespace Go.Proofs.YtojjfdegkooknaaGreatDoor
set_option maxRecDepth 100000
set_option maxHeartbeats 1000000
open Go.RowKit Go.Lib
theorem qqg : (Tryz.prog.info? 36).map (fun i => (i.zero,i.size,i.bytes)) = some (some (.agg #[.string ⟨#[]⟩,.slice none 0 0]),2,40):=by kernel_rfl
theorem qoU (A : Option Addr) (c n : Nat) (l : List Rc) (hn : n = l.length) (hb : n <= 1000000) (w : World) (B : Nat) (hBB : B <= w.heap.size) (hf : qD yW 2 w B l A) :
 Calls Tryz.prog 19 #[.slice A n c] w (vj 36 2 yW B l n w):=by
 obtain ⟨vs,hv,hr⟩:=qbk (by decide) qsx hf
 rw [<- hn] at hr
 have zz:=hv.fl_one
 have HF:=hZ (aZ hr (aZ hn (aZ hv zz)))
 clear hf hn hr hv zz
 cases A with
 | none =>
   have h0 : n = 0:=by
    rcases Nat.eq_zero_or_pos n with h | h
    ·exact h
    ·obtain ⟨a,ha,_⟩:=HF.out.1.2 h
     cases ha
   subst h0
   have hq:=Lib.run_eql_slice_nil (P:=Tryz.prog) w 22 36 none 0 c 0 0 Tryz.underlying22
   go_enter Tryz.func19,Tryz.ntmps19
   go_wp2
   go_ret
   have h1 : vs = []:=List.eq_nil_of_length_eq_zero (by rw [HF.out.2.2.1.len];exact HF.out.2.1.symm)
   refine ⟨none,0,vs,rfl,?_,HF.out.2.2.1,Below.refl _ _⟩
   rw [h1]
   exact World.ownsRow_nil _ _ _ _
 | some a =>
   obtain ⟨i0,hi,hiz,his,yM⟩:=info_parts qqg
   have HR:=hZ (aZ (World.ownsRow_made w #[] 0 (base:=w.heap.size) (e:=36) (size:=2) (Nat.le_refl _) (by unfold maxLen;omega) rfl) (HF.out.1.alloc hBB (.cells #[] 36)))
   have HI:=hZ (aZ hi (aZ hiz (aZ his yM)))
   clear hi hiz his yM
   have hq:=Lib.run_eql_slice_nil (P:=Tryz.prog) w 22 36 (some a) n c 0 0 Tryz.underlying22
   go_enter Tryz.func19,Tryz.ntmps19
   go_wp2_with (at_builtin;refine qQ _ rfl _ _ 22 rfl w.heap.size 36 i0 _ 2 40 Tryz.underlying22 HI.out.1 HI.out.2.1 HI.out.2.2.1 HI.out.2.2.2 rfl (by decide) _ 0 [] rfl HR.out.1 B (some a) n c (zx vs) rfl HR.out.2 HF.out.2.2.2 (by unfold maxLen;omega) (by omega) (by rw [qj];omega) ?_;intro v' w2 qA hgrow hat;have HO:=hZ (aZ qA (aZ hgrow hat));clear qA hgrow hat)
   go_ret
   have hb : Below w.heap.size w w2:=((qd w _).trans (zi HR.out.1 HO.out.2.1 (by rw [qj];omega)))
   have h1:=HO.out.1
   rw [Nat.zero_add,List.nil_append] at h1
   obtain ⟨A',c',hv⟩:=yq h1
   rw [hv] at h1
   exact ⟨A',c',vs,by rw [hv] <;> rfl,h1,HF.out.2.2.1,hb⟩
theorem qqj : (Tryz.prog.info? 61).map (fun i => (i.zero,i.size,i.bytes)) = some (some (.agg #[.string ⟨#[]⟩,.slice none 0 0]),2,40):=by kernel_rfl
theorem qoY (A : Option Addr) (c n : Nat) (l : List Lk) (hn : n = l.length) (hb : n <= 1000000) (w : World) (B : Nat) (hBB : B <= w.heap.size) (hf : qD vA 2 w B l A) :
 Calls Tryz.prog 21 #[.slice A n c] w (vj 61 2 vA B l n w):=by
 obtain ⟨vs,hv,hr⟩:=qbk (by decide) qsJ hf
 rw [<- hn] at hr
 have zz:=hv.fl_one
 have HF:=hZ (aZ hr (aZ hn (aZ hv zz)))
 clear hf hn hr hv zz
 cases A with
 | none =>
   have h0 : n = 0:=by
    rcases Nat.eq_zero_or_pos n with h | h
    ·exact h
    ·obtain ⟨a,ha,_⟩:=HF.out.1.2 h
     cases ha
   subst h0
   have hq:=Lib.run_eql_slice_nil (P:=Tryz.prog) w 24 61 none 0 c 0 0 Tryz.underlying24
   go_enter Tryz.func21,Tryz.ntmps21
   go_wp2
   go_ret
   have h1 : vs = []:=List.eq_nil_of_length_eq_zero (by rw [HF.out.2.2.1.len];exact HF.out.2.1.symm)
   refine ⟨none,0,vs,rfl,?_,HF.out.2.2.1,Below.refl _ _⟩
   rw [h1]
   exact World.ownsRow_nil _ _ _ _
 | some a =>
   obtain ⟨i0,hi,hiz,his,yM⟩:=info_parts qqj
   have HR:=hZ (aZ (World.ownsRow_made w #[] 0 (base:=w.heap.size) (e:=61) (size:=2) (Nat.le_refl _) (by unfold maxLen;omega) rfl) (HF.out.1.alloc hBB (.cells #[] 61)))
   have HI:=hZ (aZ hi (aZ hiz (aZ his yM)))
   clear hi hiz his yM
   have hq:=Lib.run_eql_slice_nil (P:=Tryz.prog) w 24 61 (some a) n c 0 0 Tryz.underlying24
   go_enter Tryz.func21,Tryz.ntmps21
   go_wp2_with (at_builtin;refine qQ _ rfl _ _ 24 rfl w.heap.size 61 i0 _ 2 40 Tryz.underlying24 HI.out.1 HI.out.2.1 HI.out.2.2.1 HI.out.2.2.2 rfl (by decide) _ 0 [] rfl HR.out.1 B (some a) n c (zx vs) rfl HR.out.2 HF.out.2.2.2 (by unfold maxLen;omega) (by omega) (by rw [qj];omega) ?_;intro v' w2 qA hgrow hat;have HO:=hZ (aZ qA (aZ hgrow hat));clear qA hgrow hat)
   go_ret
   have hb : Below w.heap.size w w2:=((qd w _).trans (zi HR.out.1 HO.out.2.1 (by rw [qj];omega)))
   have h1:=HO.out.1
   rw [Nat.zero_add,List.nil_append] at h1
   obtain ⟨A',c',hv⟩:=yq h1
   rw [hv] at h1
   exact ⟨A',c',vs,by rw [hv] <;> rfl,h1,HF.out.2.2.1,hb⟩
theorem qqk : (Tryz.prog.info? 64).map (fun i => (i.zero,i.size,i.bytes)) = some (some (.agg #[.string ⟨#[]⟩,.slice none 0 0,.slice none 0 0]),3,64):=by kernel_rfl
theorem qoZ (A : Option Addr) (c n : Nat) (l : List Df) (hn : n = l.length) (hb : n <= 1000000) (w : World) (B : Nat) (hBB : B <= w.heap.size) (hf : qD vg 3 w B l A) :
 Calls Tryz.prog 22 #[.slice A n c] w (vj 64 3 vg B l n w):=by
 obtain ⟨vs,hv,hr⟩:=qbk (by decide) qsY hf
 rw [<- hn] at hr
 have zz:=hv.fl_one
 have HF:=hZ (aZ hr (aZ hn (aZ hv zz)))
 clear hf hn hr hv zz
 cases A with
 | none =>
   have h0 : n = 0:=by
    rcases Nat.eq_zero_or_pos n with h | h
    ·exact h
    ·obtain ⟨a,ha,_⟩:=HF.out.1.2 h
     cases ha
   subst h0
   have hq:=Lib.run_eql_slice_nil (P:=Tryz.prog) w 25 64 none 0 c 0 0 Tryz.underlying25
   go_enter Tryz.func22,Tryz.ntmps22
   go_wp2
   go_ret
   have h1 : vs = []:=List.eq_nil_of_length_eq_zero (by rw [HF.out.2.2.1.len];exact HF.out.2.1.symm)
   refine ⟨none,0,vs,rfl,?_,HF.out.2.2.1,Below.refl _ _⟩
   rw [h1]
   exact World.ownsRow_nil _ _ _ _
 | some a =>
   obtain ⟨i0,hi,hiz,his,yM⟩:=info_parts qqk
   have HR:=hZ (aZ (World.ownsRow_made w #[] 0 (base:=w.heap.size) (e:=64) (size:=3) (Nat.le_refl _) (by unfold maxLen;omega) rfl) (HF.out.1.alloc hBB (.cells #[] 64)))
   have HI:=hZ (aZ hi (aZ hiz (aZ his yM)))
   clear hi hiz his yM
   have hq:=Lib.run_eql_slice_nil (P:=Tryz.prog) w 25 64 (some a) n c 0 0 Tryz.underlying25
   go_enter Tryz.func22,Tryz.ntmps22
   go_wp2_with (at_builtin;refine qQ _ rfl _ _ 25 rfl w.heap.size 64 i0 _ 3 64 Tryz.underlying25 HI.out.1 HI.out.2.1 HI.out.2.2.1 HI.out.2.2.2 rfl (by decide) _ 0 [] rfl HR.out.1 B (some a) n c (zx vs) rfl HR.out.2 HF.out.2.2.2 (by unfold maxLen;omega) (by omega) (by rw [qj];omega) ?_;intro v' w2 qA hgrow hat;have HO:=hZ (aZ qA (aZ hgrow hat));clear qA hgrow hat)
   go_ret
   have hb : Below w.heap.size w w2:=((qd w _).trans (zi HR.out.1 HO.out.2.1 (by rw [qj];omega)))
   have h1:=HO.out.1
   rw [Nat.zero_add,List.nil_append] at h1
   obtain ⟨A',c',hv⟩:=yq h1
   rw [hv] at h1
   exact ⟨A',c',vs,by rw [hv] <;> rfl,h1,HF.out.2.2.1,hb⟩
theorem qqi : (Tryz.prog.info? 71).map (fun i => (i.zero,i.size,i.bytes)) = some (some (.agg #[.string ⟨#[]⟩,.slice none 0 0,.slice none 0 0,.slice none 0 0,.slice none 0 0,.slice none 0 0,.slice none 0 0,.slice none 0 0]),8,184):=by kernel_rfl
theorem qoX (A : Option Addr) (c n : Nat) (l : List Lm) (hn : n = l.length) (hb : n <= 1000000) (w : World) (B : Nat) (hBB : B <= w.heap.size) (hf : qD VLm 8 w B l A) :
 Calls Tryz.prog 23 #[.slice A n c] w (vj 71 8 VLm B l n w):=by
 obtain ⟨vs,hv,hr⟩:=qbk (by decide) qsH hf
 rw [<- hn] at hr
 have zz:=hv.fl_one
 have HF:=hZ (aZ hr (aZ hn (aZ hv zz)))
 clear hf hn hr hv zz
 cases A with
 | none =>
   have h0 : n = 0:=by
    rcases Nat.eq_zero_or_pos n with h | h
    ·exact h
    ·obtain ⟨a,ha,_⟩:=HF.out.1.2 h
     cases ha
   subst h0
   have hq:=Lib.run_eql_slice_nil (P:=Tryz.prog) w 26 71 none 0 c 0 0 Tryz.underlying26
   go_enter Tryz.func23,Tryz.ntmps23
   go_wp2
   go_ret
   have h1 : vs = []:=List.eq_nil_of_length_eq_zero (by rw [HF.out.2.2.1.len];exact HF.out.2.1.symm)
   refine ⟨none,0,vs,rfl,?_,HF.out.2.2.1,Below.refl _ _⟩
   rw [h1]
   exact World.ownsRow_nil _ _ _ _
 | some a =>
   obtain ⟨i0,hi,hiz,his,yM⟩:=info_parts qqi
   have HR:=hZ (aZ (World.ownsRow_made w #[] 0 (base:=w.heap.size) (e:=71) (size:=8) (Nat.le_refl _) (by unfold maxLen;omega) rfl) (HF.out.1.alloc hBB (.cells #[] 71)))
   have HI:=hZ (aZ hi (aZ hiz (aZ his yM)))
   clear hi hiz his yM
   have hq:=Lib.run_eql_slice_nil (P:=Tryz.prog) w 26 71 (some a) n c 0 0 Tryz.underlying26
   go_enter Tryz.func23,Tryz.ntmps23
   go_wp2_with (at_builtin;refine qQ _ rfl _ _ 26 rfl w.heap.size 71 i0 _ 8 184 Tryz.underlying26 HI.out.1 HI.out.2.1 HI.out.2.2.1 HI.out.2.2.2 rfl (by decide) _ 0 [] rfl HR.out.1 B (some a) n c (zx vs) rfl HR.out.2 HF.out.2.2.2 (by unfold maxLen;omega) (by omega) (by rw [qj];omega) ?_;intro v' w2 qA hgrow hat;have HO:=hZ (aZ qA (aZ hgrow hat));clear qA hgrow hat)
   go_ret
   have hb : Below w.heap.size w w2:=((qd w _).trans (zi HR.out.1 HO.out.2.1 (by rw [qj];omega)))
   have h1:=HO.out.1
   rw [Nat.zero_add,List.nil_append] at h1
   obtain ⟨A',c',hv⟩:=yq h1
   rw [hv] at h1
   exact ⟨A',c',vs,by rw [hv] <;> rfl,h1,HF.out.2.2.1,hb⟩
theorem qhb : (Tryz.prog.info? 46).map (fun i => (i.zero,i.size,i.bytes)) = some (some (.agg #[.string ⟨#[]⟩,.int .i64 0,.int .i64 0,.slice none 0 0,.slice none 0 0,.string ⟨#[]⟩,.string ⟨#[]⟩,.bool false,.slice none 0 0,.slice none 0 0,.slice none 0 0,.slice none 0 0]),12,216):=by kernel_rfl
theorem qoV (A : Option Addr) (c n : Nat) (l : List Pr) (hn : n = l.length) (hb : n <= 1000000) (w : World) (B : Nat) (hBB : B <= w.heap.size) (hf : qD xP 12 w B l A) :
 Calls Tryz.prog 24 #[.slice A n c] w (vj 46 12 xP B l n w):=by
 obtain ⟨vs,hv,hr⟩:=qbk (by decide) qgp hf
 rw [<- hn] at hr
 have zz:=hv.fl_one
 have HF:=hZ (aZ hr (aZ hn (aZ hv zz)))
 clear hf hn hr hv zz
 cases A with
 | none =>
   have h0 : n = 0:=by
    rcases Nat.eq_zero_or_pos n with h | h
    ·exact h
    ·obtain ⟨a,ha,_⟩:=HF.out.1.2 h
     cases ha
   subst h0
   have hq:=Lib.run_eql_slice_nil (P:=Tryz.prog) w 27 46 none 0 c 0 0 Tryz.underlying27
   go_enter Tryz.func24,Tryz.ntmps24
   go_wp2
   go_ret
   have h1 : vs = []:=List.eq_nil_of_length_eq_zero (by rw [HF.out.2.2.1.len];exact HF.out.2.1.symm)
   refine ⟨none,0,vs,rfl,?_,HF.out.2.2.1,Below.refl _ _⟩
   rw [h1]
   exact World.ownsRow_nil _ _ _ _
 | some a =>
   obtain ⟨i0,hi,hiz,his,yM⟩:=info_parts qhb
   have HR:=hZ (aZ (World.ownsRow_made w #[] 0 (base:=w.heap.size) (e:=46) (size:=12) (Nat.le_refl _) (by unfold maxLen;omega) rfl) (HF.out.1.alloc hBB (.cells #[] 46)))
   have HI:=hZ (aZ hi (aZ hiz (aZ his yM)))
   clear hi hiz his yM
   have hq:=Lib.run_eql_slice_nil (P:=Tryz.prog) w 27 46 (some a) n c 0 0 Tryz.underlying27
   go_enter Tryz.func24,Tryz.ntmps24
   go_wp2_with (at_builtin;refine qQ _ rfl _ _ 27 rfl w.heap.size 46 i0 _ 12 216 Tryz.underlying27 HI.out.1 HI.out.2.1 HI.out.2.2.1 HI.out.2.2.2 rfl (by decide) _ 0 [] rfl HR.out.1 B (some a) n c (zx vs) rfl HR.out.2 HF.out.2.2.2 (by unfold maxLen;omega) (by omega) (by rw [qj];omega) ?_;intro v' w2 qA hgrow hat;have HO:=hZ (aZ qA (aZ hgrow hat));clear qA hgrow hat)
   go_ret
   have hb : Below w.heap.size w w2:=((qd w _).trans (zi HR.out.1 HO.out.2.1 (by rw [qj];omega)))
   have h1:=HO.out.1
   rw [Nat.zero_add,List.nil_append] at h1
   obtain ⟨A',c',hv⟩:=yq h1
   rw [hv] at h1
   exact ⟨A',c',vs,by rw [hv] <;> rfl,h1,HF.out.2.2.1,hb⟩
theorem qqh : (Tryz.prog.info? 42).map (fun i => (i.zero,i.size,i.bytes)) = some (some (.agg #[.string ⟨#[]⟩,.string ⟨#[]⟩]),2,32):=by kernel_rfl
theorem qoW (A : Option Addr) (c n : Nat) (l : List Pm) (hn : n = l.length) (hb : n <= 1000000) (w : World) (B : Nat) (hBB : B <= w.heap.size) (hf : qD zp 2 w B l A) :
 Calls Tryz.prog 20 #[.slice A n c] w (vj 42 2 zp B l n w):=by
 obtain ⟨vs,hv,hr⟩:=qbk (by decide) qsE hf
 rw [<- hn] at hr
 have zz:=hv.fl_one
 have HF:=hZ (aZ hr (aZ hn (aZ hv zz)))
 clear hf hn hr hv zz
 cases A with
 | none =>
   have h0 : n = 0:=by
    rcases Nat.eq_zero_or_pos n with h | h
    ·exact h
    ·obtain ⟨a,ha,_⟩:=HF.out.1.2 h
     cases ha
   subst h0
   have hq:=Lib.run_eql_slice_nil (P:=Tryz.prog) w 23 42 none 0 c 0 0 Tryz.underlying23
   go_enter Tryz.func20,Tryz.ntmps20
   go_wp2
   go_ret
   have h1 : vs = []:=List.eq_nil_of_length_eq_zero (by rw [HF.out.2.2.1.len];exact HF.out.2.1.symm)
   refine ⟨none,0,vs,rfl,?_,HF.out.2.2.1,Below.refl _ _⟩
   rw [h1]
   exact World.ownsRow_nil _ _ _ _
 | some a =>
   obtain ⟨i0,hi,hiz,his,yM⟩:=info_parts qqh
   have HR:=hZ (aZ (World.ownsRow_made w #[] 0 (base:=w.heap.size) (e:=42) (size:=2) (Nat.le_refl _) (by unfold maxLen;omega) rfl) (HF.out.1.alloc hBB (.cells #[] 42)))
   have HI:=hZ (aZ hi (aZ hiz (aZ his yM)))
   clear hi hiz his yM
   have hq:=Lib.run_eql_slice_nil (P:=Tryz.prog) w 23 42 (some a) n c 0 0 Tryz.underlying23
   go_enter Tryz.func20,Tryz.ntmps20
   go_wp2_with (at_builtin;refine qQ _ rfl _ _ 23 rfl w.heap.size 42 i0 _ 2 32 Tryz.underlying23 HI.out.1 HI.out.2.1 HI.out.2.2.1 HI.out.2.2.2 rfl (by decide) _ 0 [] rfl HR.out.1 B (some a) n c (zx vs) rfl HR.out.2 HF.out.2.2.2 (by unfold maxLen;omega) (by omega) (by rw [qj];omega) ?_;intro v' w2 qA hgrow hat;have HO:=hZ (aZ qA (aZ hgrow hat));clear qA hgrow hat)
   go_ret
   have hb : Below w.heap.size w w2:=((qd w _).trans (zi HR.out.1 HO.out.2.1 (by rw [qj];omega)))
   have h1:=HO.out.1
   rw [Nat.zero_add,List.nil_append] at h1
   obtain ⟨A',c',hv⟩:=yq h1
   rw [hv] at h1
   exact ⟨A',c',vs,by rw [hv] <;> rfl,h1,HF.out.2.2.1,hb⟩
end Go.Proofs.YtojjfdegkooknaaGreatDoor
namespace Go.Proofs.YtojjfdegkooknaaGreatDoor
open Go.RowKit Go.Lib
structure OwnR {α : Type} (T : TypeId) (K : Nat) (V : World -> Nat -> Array Value -> α -> Prop) (w0 : World) (l : List α) (A : Option Addr) (c lo hi : Nat) (W : World) : Prop where
 ex : ∃ vs,VRow V K w0 w0.heap.size l vs /\ W.ownsRow lo T K (.slice A l.length c) l.length (zx vs)
 lt : ∀ g,(Value.slice A l.length c).ownBlock = some g -> g < hi
section
variable {α : Type} {T : TypeId} {K : Nat} {V : World -> Nat -> Array Value -> α -> Prop} {w0 W W' : World} {l : List α} {A : Option Addr} {c lo hi : Nat}
theorem qdr {B size n : Nat} {e : TypeId} {v : Value} {xs : List Value} (h : W.ownsRow B e size v n xs) (hk : ∀ g,v.ownBlock = some g -> W'.heap[g]? = W.heap[g]?) : W'.ownsRow B e size v n xs:=by
 refine ⟨h.1,?_⟩
 rcases h.2 with h2 | ⟨g,cap,cur,hv,hg,hh,r⟩
 ·exact .inl h2
 ·exact .inr ⟨g,cap,cur,hv,hg,(hk g (by rw [hv];rfl)).trans hh,r⟩
theorem OwnR.stay (h : OwnR T K V w0 l A c lo hi W) (hk : ∀ b,lo <= b -> b < hi -> b < W.heap.size -> W'.heap[b]? = W.heap[b]?) : OwnR T K V w0 l A c lo hi W':=by
 obtain ⟨⟨vs,h1,h2⟩,h3⟩:=h
 exact ⟨⟨vs,h1,qdr h2 fun g hg => hk g (qs h2 g hg).1 (h3 g hg) (qs h2 g hg).2⟩,h3⟩
theorem OwnR.next (h : OwnR T K V w0 l A c lo hi W) (hb : Below W.heap.size W W') : OwnR T K V w0 l A c lo hi W':=by
 obtain ⟨⟨vs,h1,h2⟩,h3⟩:=h
 exact ⟨⟨vs,h1,qy h2 hb fun g hg => (qs h2 g hg).2⟩,h3⟩
theorem OwnR.len (h : OwnR T K V w0 l A c lo hi W) : l.length <= maxLen:=by
 obtain ⟨⟨vs,_,h2⟩,_⟩:=h
 rcases h2.2 with ⟨_,h0⟩ | ⟨g,cap,cur,hv,hg,hh,h4,h5,_⟩
 ·rw [h0];exact Nat.zero_le _
 ·exact Nat.le_trans h4 h5
theorem OwnR.rowV (hV : ju V) (h : OwnR T K V w0 l A c lo hi W) (hb : Below w0.heap.size w0 W) : qD V K W W.heap.size l A:=by
 obtain ⟨⟨vs,h1,h2⟩,_⟩:=h
 exact (h1.keep hV (fun q hq => hb.cell hq) hb.size).row rfl (qI.of_own h2)
end
def six (a b c d e f : Nat) : Nat -> Nat
 | 0 => a
 | 1 => b
 | 2 => c
 | 3 => d
 | 4 => e
 | _ => f
theorem qje : ∃ (T N : Nat) (zc : Array Value),29 = T /\ N = 6 /\ zc.size = N /\ (∀ w : World,(isAgg T).run Tryz.prog w = .ok true w) /\ (∀ w : World,(sizeOf T).run Tryz.prog w = .ok N w) /\ (∀ w : World,(zeroValue T).run Tryz.prog w = .ok (.agg zc) w) :=
 ⟨_,6,#[.slice none 0 0,.slice none 0 0,.slice none 0 0,.slice none 0 0,.slice none 0 0,.slice none 0 0],rfl,rfl,rfl,fun w => by kernel_rfl,fun w => by kernel_rfl,fun w => by kernel_rfl⟩
theorem qoA : ∃ (T N : Nat),46 = T /\ N = 12 /\ (∀ w : World,(isAgg T).run Tryz.prog w = .ok true w) /\ (∀ w : World,(sizeOf T).run Tryz.prog w = .ok N w) :=
 ⟨_,12,rfl,rfl,fun w => by kernel_rfl,fun w => by kernel_rfl⟩
theorem vV (d : GAd) (p : Pg) : (xY d p).size = 6 /\ (xY d p).all (·.oneCell') = true:=by
 refine ⟨rfl,?_⟩
 unfold xY
 rw [List.all_toArray]
 rfl
structure QAt (w : World) (p : Pg) (d : GAd) (bq : Nat) (T : TypeId) (lo hi : Nat -> Nat) (W : World) : Prop where
 blw : Below w.heap.size w W
 box : W.heap[bq]? = some (.cells (xY d p) T (0,0))
 bw : w.heap.size <= bq
 base : ∀ i,w.heap.size <= lo i
 sep : ∀ i j,i < j -> j < 6 -> hi i <= lo j
 out : ∀ i,i < 6 -> bq < lo i \/ hi i <= bq
 or : OwnR 36 2 yW w p.rs d.r d.nr (lo 0) (hi 0) W
 og : OwnR 42 2 zp w p.gs d.g d.ng (lo 1) (hi 1) W
 ok : OwnR 61 2 vA w p.ks d.k d.nk (lo 2) (hi 2) W
 od : OwnR 64 3 vg w p.ds d.d d.nd (lo 3) (hi 3) W
 om : OwnR 71 8 VLm w p.ms d.m d.nm (lo 4) (hi 4) W
 ox : OwnR 46 12 xP w p.xs d.x d.nx (lo 5) (hi 5) W
section
variable {w W W' : World} {p : Pg} {d : GAd} {bq : Nat} {T : TypeId} {lo hi : Nat -> Nat}
theorem QAt.own (h : QAt w p d bq T lo hi W) : xK W W.heap.size d p :=
 ⟨⟨h.or.len,h.og.len,h.ok.len,h.od.len,h.om.len,h.ox.len⟩,qcf qsy (h.or.rowV yC h.blw),qcf qsF (h.og.rowV qT h.blw),qcf qsK (h.ok.rowV jA h.blw),qcf qsZ (h.od.rowV ji h.blw),qcf qsI (h.om.rowV qcx h.blw),qcf qlG (h.ox.rowV xf h.blw)⟩
theorem QAt.lt (h : QAt w p d bq T lo hi W) : bq < W.heap.size:=(Array.getElem?_eq_some_iff.1 h.box).1
theorem QAt.next (h : QAt w p d bq T lo hi W) (hb : Below W.heap.size W W') : QAt w p d bq T lo hi W' :=
 { blw:=h.blw.chain hb,box:=qg hb h.box,bw:=h.bw,base:=h.base,sep:=h.sep,out:=h.out,or:=h.or.next hb,og:=h.og.next hb,ok:=h.ok.next hb,od:=h.od.next hb,om:=h.om.next hb,ox:=h.ox.next hb }
theorem QAt.turn_r (h : QAt w p d bq T lo hi W) (hl : p.rs.length <= 1000000) :
 Calls Tryz.prog 25 #[.slice d.r p.rs.length d.nr] W fun e w' => e = .returned (.tuple #[]) /\ QAt w { p with rs:=p.rs.reverse } d bq T lo hi w':=by
 obtain ⟨⟨vs,h1,h2⟩,h3⟩:=h.or
 refine (qss (lo 0) d.r p.rs.length d.nr vs h1.len.symm hl h1.sz h1.one W h2).mono ?_
 rintro e w' ⟨rfl,r1,r2,r3⟩
 have qE : p.rs.reverse.length = p.rs.length:=List.length_reverse
 have hk : ∀ b,b < lo 0 \/ hi 0 <= b -> w'.heap[b]? = W.heap[b]?:=fun b hb => r3 b fun e => by
  have := (qs h2 b e).1
  have := h3 b e
  omega
 have xA:=h.out 0 (by decide)
 refine ⟨rfl,{ blw:=h.blw.trans (r2.mono (h.base 0)),box:=?_,bw:=h.bw,base:=h.base,sep:=h.sep,out:=h.out,og:=h.og.stay fun b b1 b2 _ => hk b (by have := h.sep 0 1 (by decide) (by decide);omega),ok:=h.ok.stay fun b b1 b2 _ => hk b (by have := h.sep 0 2 (by decide) (by decide);omega),od:=h.od.stay fun b b1 b2 _ => hk b (by have := h.sep 0 3 (by decide) (by decide);omega),om:=h.om.stay fun b b1 b2 _ => hk b (by have := h.sep 0 4 (by decide) (by decide);omega),ox:=h.ox.stay fun b b1 b2 _ => hk b (by have := h.sep 0 5 (by decide) (by decide);omega),or:=⟨⟨vs.reverse,h1.reverse,?_⟩,?_⟩ }⟩
 ·rw [hk bq xA,h.box]
  simp only [xY,List.length_reverse]
 ·simp only [List.length_reverse]
  exact r1
 ·simp only [List.length_reverse]
  exact h3
theorem QAt.turn_g (h : QAt w p d bq T lo hi W) (hl : p.gs.length <= 1000000) :
 Calls Tryz.prog 26 #[.slice d.g p.gs.length d.ng] W fun e w' => e = .returned (.tuple #[]) /\ QAt w { p with gs:=p.gs.reverse } d bq T lo hi w':=by
 obtain ⟨⟨vs,h1,h2⟩,h3⟩:=h.og
 refine (qsu (lo 1) d.g p.gs.length d.ng vs h1.len.symm hl h1.sz h1.one W h2).mono ?_
 rintro e w' ⟨rfl,r1,r2,r3⟩
 have qE : p.gs.reverse.length = p.gs.length:=List.length_reverse
 have hk : ∀ b,b < lo 1 \/ hi 1 <= b -> w'.heap[b]? = W.heap[b]?:=fun b hb => r3 b fun e => by
  have := (qs h2 b e).1
  have := h3 b e
  omega
 have xA:=h.out 1 (by decide)
 refine ⟨rfl,{ blw:=h.blw.trans (r2.mono (h.base 1)),box:=?_,bw:=h.bw,base:=h.base,sep:=h.sep,out:=h.out,or:=h.or.stay fun b b1 b2 _ => hk b (by have := h.sep 0 1 (by decide) (by decide);omega),ok:=h.ok.stay fun b b1 b2 _ => hk b (by have := h.sep 1 2 (by decide) (by decide);omega),od:=h.od.stay fun b b1 b2 _ => hk b (by have := h.sep 1 3 (by decide) (by decide);omega),om:=h.om.stay fun b b1 b2 _ => hk b (by have := h.sep 1 4 (by decide) (by decide);omega),ox:=h.ox.stay fun b b1 b2 _ => hk b (by have := h.sep 1 5 (by decide) (by decide);omega),og:=⟨⟨vs.reverse,h1.reverse,?_⟩,?_⟩ }⟩
 ·rw [hk bq xA,h.box]
  simp only [xY,List.length_reverse]
 ·simp only [List.length_reverse]
  exact r1
 ·simp only [List.length_reverse]
  exact h3
theorem QAt.turn_d (h : QAt w p d bq T lo hi W) (hl : p.ds.length <= 1000000) :
 Calls Tryz.prog 27 #[.slice d.d p.ds.length d.nd] W fun e w' => e = .returned (.tuple #[]) /\ QAt w { p with ds:=p.ds.reverse } d bq T lo hi w':=by
 obtain ⟨⟨vs,h1,h2⟩,h3⟩:=h.od
 refine (qsv (lo 3) d.d p.ds.length d.nd vs h1.len.symm hl h1.sz h1.one W h2).mono ?_
 rintro e w' ⟨rfl,r1,r2,r3⟩
 have qE : p.ds.reverse.length = p.ds.length:=List.length_reverse
 have hk : ∀ b,b < lo 3 \/ hi 3 <= b -> w'.heap[b]? = W.heap[b]?:=fun b hb => r3 b fun e => by
  have := (qs h2 b e).1
  have := h3 b e
  omega
 have xA:=h.out 3 (by decide)
 refine ⟨rfl,{ blw:=h.blw.trans (r2.mono (h.base 3)),box:=?_,bw:=h.bw,base:=h.base,sep:=h.sep,out:=h.out,or:=h.or.stay fun b b1 b2 _ => hk b (by have := h.sep 0 3 (by decide) (by decide);omega),og:=h.og.stay fun b b1 b2 _ => hk b (by have := h.sep 1 3 (by decide) (by decide);omega),ok:=h.ok.stay fun b b1 b2 _ => hk b (by have := h.sep 2 3 (by decide) (by decide);omega),om:=h.om.stay fun b b1 b2 _ => hk b (by have := h.sep 3 4 (by decide) (by decide);omega),ox:=h.ox.stay fun b b1 b2 _ => hk b (by have := h.sep 3 5 (by decide) (by decide);omega),od:=⟨⟨vs.reverse,h1.reverse,?_⟩,?_⟩ }⟩
 ·rw [hk bq xA,h.box]
  simp only [xY,List.length_reverse]
 ·simp only [List.length_reverse]
  exact r1
 ·simp only [List.length_reverse]
  exact h3
theorem QAt.turn_x (h : QAt w p d bq T lo hi W) (hl : p.xs.length <= 1000000) :
 Calls Tryz.prog 28 #[.slice d.x p.xs.length d.nx] W fun e w' => e = .returned (.tuple #[]) /\ QAt w { p with xs:=p.xs.reverse } d bq T lo hi w':=by
 obtain ⟨⟨vs,h1,h2⟩,h3⟩:=h.ox
 refine (qst (lo 5) d.x p.xs.length d.nx vs h1.len.symm hl h1.sz h1.one W h2).mono ?_
 rintro e w' ⟨rfl,r1,r2,r3⟩
 have qE : p.xs.reverse.length = p.xs.length:=List.length_reverse
 have hk : ∀ b,b < lo 5 \/ hi 5 <= b -> w'.heap[b]? = W.heap[b]?:=fun b hb => r3 b fun e => by
  have := (qs h2 b e).1
  have := h3 b e
  omega
 have xA:=h.out 5 (by decide)
 refine ⟨rfl,{ blw:=h.blw.trans (r2.mono (h.base 5)),box:=?_,bw:=h.bw,base:=h.base,sep:=h.sep,out:=h.out,or:=h.or.stay fun b b1 b2 _ => hk b (by have := h.sep 0 5 (by decide) (by decide);omega),og:=h.og.stay fun b b1 b2 _ => hk b (by have := h.sep 1 5 (by decide) (by decide);omega),ok:=h.ok.stay fun b b1 b2 _ => hk b (by have := h.sep 2 5 (by decide) (by decide);omega),od:=h.od.stay fun b b1 b2 _ => hk b (by have := h.sep 3 5 (by decide) (by decide);omega),om:=h.om.stay fun b b1 b2 _ => hk b (by have := h.sep 4 5 (by decide) (by decide);omega),ox:=⟨⟨vs.reverse,h1.reverse,?_⟩,?_⟩ }⟩
 ·rw [hk bq xA,h.box]
  simp only [xY,List.length_reverse]
 ·simp only [List.length_reverse]
  exact r1
 ·simp only [List.length_reverse]
  exact h3
end
end Go.Proofs.YtojjfdegkooknaaGreatDoor
namespace Go.Proofs.YtojjfdegkooknaaGreatDoor
open Go.RowKit Go.Lib
def jR (k : Nat) (l : List Pr) : List Pr:=l.mapIdx fun i x => if i < k then { x with bd:=[] } else x
theorem qec (k : Nat) (l : List Pr) : (jR k l).length = l.length:=by
 unfold jR
 rw [List.length_mapIdx]
theorem qcP (k : Nat) (l : List Pr) (i : Nat) : (jR k l)[i]? = (l[i]?).map fun x => if i < k then { x with bd:=[] } else x:=by
 unfold jR
 rw [List.getElem?_mapIdx]
theorem qnv (l : List Pr) : jR 0 l = l:=by
 apply List.ext_getElem?
 intro i
 rw [qcP]
 cases l[i]? <;> simp
theorem qo5 (l : List Pr) : jR l.length l = l.map fun x => { x with bd:=[] }:=by
 apply List.ext_getElem?
 intro i
 rw [qcP,List.getElem?_map]
 by_cases hi : i < l.length
 ·simp only [hi,if_true]
 ·rw [List.getElem?_eq_none (by omega)]
  rfl
theorem qo4 {l : List Pr} {k : Nat} {x : Pr} (hx : (jR k l)[k]? = some x) : (jR k l).set k { x with bd:=[] } = jR (k + 1) l:=by
 apply List.ext_getElem?
 intro i
 rw [qcP] at hx
 have hl : l[k]? = some x:=by
  cases e : l[k]? with
  | none => rw [e] at hx;cases hx
  | some y => rw [e,Option.map_some,if_neg (Nat.lt_irrefl k)] at hx;exact hx
 have hk:=(List.getElem?_eq_some_iff.1 hl).1
 rw [qcP]
 by_cases hik : i = k
 ·subst hik
  rw [List.getElem?_set_self (by rw [qec];exact hk),hl,Option.map_some,if_pos (Nat.lt_succ_self _)]
 ·rw [List.getElem?_set_ne (fun e => hik e.symm),qcP]
  have : (i < k) = (i < k + 1):=by
   apply propext
   constructor <;> intro h <;> omega
  simp only [this]
theorem qeo {K : Nat} : ∀ {vs : List (Array Value)},(∀ c ∈ vs,c.size = K) -> ∀ {k : Nat} {c : Array Value},vs[k]? = some c -> ∀ (j : Nat) (v : Value),j < K -> (zx vs).set (k * K + j) v = zx (vs.set k (c.setIfInBounds j v))
 | [],_,k,c,h,_,_,_ => by simp at h
 | c0 :: vs,hs,0,c,h,j,v,hj => by
   obtain rfl:=Option.some.inj h
   have h1 : c0.toList.length = K:=by rw [Array.length_toList];exact hs c0 (List.mem_cons_self ..)
   rw [List.set_cons_zero,qcj,qcj,Nat.zero_mul,Nat.zero_add,List.set_append_left _ _ (by omega),Array.toList_setIfInBounds]
 | c0 :: vs,hs,k + 1,c,h,j,v,hj => by
   have h1 : c0.toList.length = K:=by rw [Array.length_toList];exact hs c0 (List.mem_cons_self ..)
   have h2:=qeo (vs:=vs) (fun c hc => hs c (List.mem_cons_of_mem _ hc)) (k:=k) (c:=c) (by simpa using h) j v hj
   rw [List.set_cons_succ,qcj,qcj,Nat.succ_mul,List.set_append_right _ _ (by omega),h1,show k * K + K + j - K = k * K + j by omega,h2]
theorem qdt {W : World} {B size n c : Nat} {e : TypeId} {A : Option Addr} {xs : List Value} (h : W.ownsRow B e size (.slice A n c) n xs) (hn : 0 < n) : ∃ g,A = some ⟨g,0,none⟩:=by
 obtain ⟨g,cap,hv,_⟩:=h.form hn
 injection hv with hA _ _
 exact ⟨g,hA⟩
section
variable {w W : World} {p : Pg} {d : GAd} {bq : Nat} {T : TypeId} {lo hi : Nat -> Nat}
theorem QAt.bare_step {l : List Pr} {k : Nat} (h : QAt w { p with xs:=jR k l } d bq T lo hi W) (hk : k < l.length) :
 ∃ g,d.x = some ⟨g,0,none⟩ /\ (∃ u,W.cell? ⟨g,k * 12 + 11,none⟩ = some u) /\ W.frozen? ⟨g,k * 12 + 11,none⟩ = false /\ QAt w { p with xs:=jR (k + 1) l } d bq T lo hi (W.setCell ⟨g,k * 12 + 11,none⟩ (.slice none 0 0)):=by
 obtain ⟨⟨vs,h1,h2⟩,h3⟩:=h.ox
 dsimp only at h1 h2 h3
 have hl : (jR k l).length = l.length:=qec k l
 have hl2 : (jR (k + 1) l).length = l.length:=qec (k + 1) l
 rw [hl] at h2 h3
 obtain ⟨g,hA⟩:=qdt h2 (by omega)
 rw [hA] at h2 h3
 have hg1:=qs h2 g rfl
 have hg2:=h3 g rfl
 obtain ⟨x,hx⟩ : ∃ x,(jR k l)[k]? = some x:=⟨_,List.getElem?_eq_getElem (by omega)⟩
 obtain ⟨c,hc,qn,hco,hcv⟩:=h1.at_ hx
 obtain ⟨dd,hcc,ho⟩:=hcv
 have jZ : k * 12 + 11 < l.length * 12:=by omega
 have xA:=h.out 5 (by decide)
 refine ⟨g,hA,?_,h2.frozenAt _,?_⟩
 ·rw [h2.cellAt _ jZ,List.getElem?_eq_getElem (by rw [h1.fl_len,hl];exact jZ)]
  exact ⟨_,rfl⟩
 have hset:=qlK h2 (k * 12 + 11) jZ (.slice none 0 0)
 have vW : (zx vs).set (k * 12 + 11) (.slice none 0 0) = zx (vs.set k (c.setIfInBounds 11 (.slice none 0 0))):=qeo h1.sz hc 11 _ (by decide)
 rw [vW] at hset
 have hc' : c.setIfInBounds 11 (.slice none 0 0) = jJ { dd with b:=none,nb:=0 } { x with bd:=[] }:=by rw [hcc];rfl
 have hv : xP w w.heap.size (c.setIfInBounds 11 (.slice none 0 0)) { x with bd:=[] }:=by
  obtain ⟨⟨a0,a1,a2,a3,a4,a5,a6,a7,a8⟩,b1,b2,b3,b4,b5,b6⟩:=ho
  exact ⟨_,hc',⟨a0,a1,a2,a3,a4,a5,a6,a7,Nat.zero_le _⟩,b1,b2,b3,b4,b5,.nil _⟩
 have qL:=h1.set k { x with bd:=[] } (c.setIfInBounds 11 (.slice none 0 0)) (by rw [Array.size_setIfInBounds];exact qn) (qgp _ _ _ _ hv) hv
 rw [qo4 hx] at qL
 have hkp : ∀ b,b < lo 5 \/ hi 5 <= b -> (W.setCell ⟨g,k * 12 + 11,none⟩ (.slice none 0 0)).heap[b]? = W.heap[b]?:=fun b hb => Below.heap_setCell W ⟨g,k * 12 + 11,none⟩ _ b (show b ≠ g by omega)
 refine { blw:=h.blw.setCell (p:=⟨g,k * 12 + 11,none⟩) (Nat.le_trans (h.base 5) hg1.1) _,box:=?_,bw:=h.bw,base:=h.base,sep:=h.sep,out:=h.out,or:=h.or.stay fun b b1 b2 _ => hkp b (by have := h.sep 0 5 (by decide) (by decide);omega),og:=h.og.stay fun b b1 b2 _ => hkp b (by have := h.sep 1 5 (by decide) (by decide);omega),ok:=h.ok.stay fun b b1 b2 _ => hkp b (by have := h.sep 2 5 (by decide) (by decide);omega),od:=h.od.stay fun b b1 b2 _ => hkp b (by have := h.sep 3 5 (by decide) (by decide);omega),om:=h.om.stay fun b b1 b2 _ => hkp b (by have := h.sep 4 5 (by decide) (by decide);omega),ox:=⟨⟨_,qL,?_⟩,?_⟩ }
 ·rw [hkp bq xA,h.box]
  simp only [xY,hl,hl2]
 ·dsimp only
  rw [hl2,hA]
  exact hset
 ·dsimp only
  rw [hl2,hA]
  exact h3
theorem QAt.appended {x : Pr} {vs : List (Array Value)} {c : Array Value} (h : QAt w p d bq T lo hi W) (h1 : VRow xP 12 w w.heap.size p.xs vs) (h2 : W.ownsRow (lo 5) 46 12 (.slice d.x p.xs.length d.nx) p.xs.length (zx vs)) (qn : c.size = 12) (hcv : xP w w.heap.size c x)
 {W2 W3 : World} (hb : Below W.heap.size W W2) {v' : Value} (ho : W3.ownsRow (lo 5) 46 12 v' (p.xs.length + 1) (zx vs ++ c.toList)) (hg : W2.grownBy W3 (Value.slice d.x p.xs.length d.nx).ownBlock) (hat : v'.ownBlock = (Value.slice d.x p.xs.length d.nx).ownBlock \/ v'.ownBlock = some W2.heap.size) :
 ∃ A' c' lo' hi',v' = .slice A' (p.xs.length + 1) c' /\ QAt w { p with xs:=p.xs ++ [x] } { d with x:=A',nx:=c' } bq T lo' hi' (W3.setCell ⟨bq,5,none⟩ (.slice A' (p.xs.length + 1) c')):=by
 have h3:=h.ox.lt
 have jY:=qy h2 hb fun g hg => (qs h2 g hg).2
 obtain ⟨A',c',rfl⟩:=yq ho
 obtain ⟨g',hA'⟩:=qdt ho (Nat.succ_pos _)
 have hg':=qs ho g' (by rw [hA'];rfl)
 have hlW : bq < W.heap.size:=h.lt
 have yV:=hb.size
 have hgs:=hg.size
 have xA:=h.out 5 (by decide)
 have zN : ∀ b,(b < lo 5 \/ hi 5 <= b) -> some b ≠ (Value.slice d.x p.xs.length d.nx).ownBlock:=fun b hb e => by
  have := (qs h2 b e.symm).1
  have := h3 b e.symm
  omega
 have hng : bq ≠ g':=fun e => by
  have e1 : (Value.slice A' (p.xs.length + 1) c').ownBlock = some g':=by rw [hA'];rfl
  rcases hat with h4 | h4
  ·exact zN bq xA (by rw [<- h4,e1,e])
  ·rw [e1] at h4
   have := Option.some.inj h4
   omega
 have zA : W3.heap[bq]? = some (.cells (xY d p) T (0,0)):=(hg.block bq (by omega) (zN bq xA)).trans (qg hb h.box)
 have hk3 : ∀ b,b < W2.heap.size -> (b < lo 5 \/ hi 5 <= b) -> b ≠ bq -> (W3.setCell ⟨bq,5,none⟩ (.slice A' (p.xs.length + 1) c')).heap[b]? = W2.heap[b]?:=fun b b1 b2 b3 => (Below.heap_setCell W3 ⟨bq,5,none⟩ _ b b3).trans (hg.block b b1 (zN b b2))
 have zv : ∀ i,i < 5 -> ∀ b,lo i <= b -> b < hi i -> b < W2.heap.size -> (W3.setCell ⟨bq,5,none⟩ (.slice A' (p.xs.length + 1) c')).heap[b]? = W2.heap[b]?:=fun i hi5 b b1 b2 b3 => by
  have := h.sep i 5 hi5 (by decide)
  have := h.out i (by omega)
  exact hk3 b b3 (by omega) (by omega)
 have hl : (p.xs ++ [x]).length = p.xs.length + 1:=by rw [List.length_append];rfl
 have qt : Below w.heap.size w W3:=(h.blw.chain hb).trans ((zi jY hg (Nat.le_trans (by
  have := h.base 5
  rcases h2.2 with ⟨hv,h0⟩ | ⟨g,cap,cur,hv,hB,hh,_⟩
  ·rcases hat with h4 | h4
   ·rw [hv] at h4
    rw [hA'] at h4
    cases h4
   ·rw [hA'] at h4
    have h5 : g' = W2.heap.size:=Option.some.inj h4
    omega
  ·have := (Array.getElem?_eq_some_iff.1 hh).1
   omega) (Nat.le_refl W2.heap.size))).mono (h.base 5))
 refine ⟨A',c',fun i => if i = 5 then g' else lo i,fun i => if i = 5 then g' + 1 else hi i,rfl,{ blw:=qt.setCell (p:=⟨bq,5,none⟩) h.bw _,box:=?_,bw:=h.bw,base:=fun i => ?_,sep:=fun i j hij hj => ?_,out:=fun i hi6 => ?_,or:=(h.or.next hb).stay (zv 0 (by decide)),og:=(h.og.next hb).stay (zv 1 (by decide)),ok:=(h.ok.next hb).stay (zv 2 (by decide)),od:=(h.od.next hb).stay (zv 3 (by decide)),om:=(h.om.next hb).stay (zv 4 (by decide)),ox:=⟨⟨vs ++ [c],?_,?_⟩,fun g hg => ?_⟩ }⟩
 ·rw [qC zA]
  simp only [xY,hl]
  rfl
 ·have := h.base i
  have := h.base 5
  split <;> omega
 ·have h4:=h.sep i j hij hj
  rw [if_neg (show ¬ i = 5 by omega)]
  split
  ·rename_i e
   subst e
   omega
  ·exact h4
 ·have := h.out i hi6
  split <;> omega
 ·refine h1.append ⟨rfl,(fun e he => by rw [List.mem_singleton.1 he];exact qn),(fun e he => by rw [List.mem_singleton.1 he];exact qgp _ _ _ _ hcv),fun i y e hy he => ?_⟩
  match i,hy,he with
  | 0,hy,he =>
    obtain rfl:=Option.some.inj hy
    obtain rfl:=Option.some.inj he
    exact hcv
  | i + 1,hy,_ => simp at hy
 ·have h5 : W3.ownsRow g' 46 12 (.slice A' (p.xs.length + 1) c') (p.xs.length + 1) (zx (vs ++ [c])):=by
   rw [qbO,show zx [c] = c.toList by simp [zx]]
   refine ⟨ho.1,?_⟩
   rcases ho.2 with h6 | ⟨g,cap,cur,hv,hB,r⟩
   ·exact .inl h6
   ·have e : g' = g:=by
     injection hv with e1 _ _
     rw [hA'] at e1
     injection e1 with e1
     injection e1
    exact .inr ⟨g,cap,cur,hv,by omega,r⟩
  dsimp only
  rw [hl]
  refine qdr h5 fun g hg => Below.heap_setCell W3 ⟨bq,5,none⟩ _ g ?_
  rw [hA'] at hg
  have e : g' = g:=Option.some.inj hg
  show g ≠ bq
  omega
 ·dsimp only at hg ⊢
  rw [hl,hA'] at hg
  have e : g' = g:=Option.some.inj hg
  rw [if_pos rfl]
  omega
theorem QAt.first_name {x : Pr} {l : List Pr} (h : QAt w p d bq T lo hi W) (hx : p.xs = x :: l) : ∃ g,d.x = some ⟨g,0,none⟩ /\ W.cell? ⟨g,0,none⟩ = some (.string ⟨x.nm.toArray⟩):=by
 obtain ⟨⟨vs,h1,h2⟩,h3⟩:=h.ox
 have hl : 0 < p.xs.length:=by rw [hx];exact Nat.succ_pos _
 obtain ⟨g,hA⟩:=qdt h2 hl
 rw [hA] at h2
 obtain ⟨c,hc,qn,_,dd,hcc,_⟩:=h1.at_ (i:=0) (x:=x) (by rw [hx];rfl)
 refine ⟨g,hA,?_⟩
 rw [h2.cellAt 0 (by omega)]
 have h4:=qaU h1.sz 0 0 (by decide)
 rw [hc,hcc] at h4
 exact h4
end
theorem qbf {α : Type} {V : World -> Nat -> Array Value -> α -> Prop} (hV : ju V) {K : Nat} {w W : World} {l : List α} {A : Option Addr} (h : qD V K w w.heap.size l A) (hb : Below w.heap.size w W) : qD V K W w.heap.size l A:=fun i x hi => by
 obtain ⟨a,cs,h1,h2,h3,h4,h5⟩:=h i x hi
 exact ⟨a,cs,h1,h2,h3,fun j v hj => (hb.cell (by rw [qm,qm];exact h2)).trans (h4 j v hj),hV _ _ _ _ _ _ (fun q hq => hb.cell hq) (Nat.le_refl _) h5⟩
theorem vT {p : Pg} (h : xT p = true) : p.rs.length <= 100 /\ p.gs.length <= 100 /\ p.ks.length <= 100 /\ p.ds.length <= 100 /\ p.ms.length <= 100 /\ p.xs.length <= 100:=by
 unfold xT at h
 simp only [Bool.and_eq_true_iff] at h
 obtain ⟨⟨⟨⟨⟨⟨h1,_⟩,⟨⟨_,h2⟩,_⟩⟩,⟨h3,_⟩⟩,⟨h4,_⟩⟩,⟨h5,_⟩⟩,⟨h6,_⟩⟩:=h
 have h2:=of_decide_eq_true h2
 have h1:=of_decide_eq_true h1.2
 have h3:=of_decide_eq_true h3.2
 have h4:=of_decide_eq_true h4.2
 have h5:=of_decide_eq_true h5.2
 have h6:=of_decide_eq_true h6.2
 exact ⟨by omega,by omega,by omega,by omega,by omega,by omega⟩
theorem qiP {p : Pg} (h : qaj p = true) : xT p = true:=by
 have g:=(qkC.2 (vZ.1 h))
 unfold qaf at g
 split at g
 ·assumption
 ·cases g
end Go.Proofs.YtojjfdegkooknaaGreatDoor
