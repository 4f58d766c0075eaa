/-
  Validity of programs whose statements differ in places alone.
  TreePlaces: the programs with other places: the row of procedures that the law fills, round by round.
-/
import Derived.Test.YtehmoomoocdidaaGreatDoorSTreeMa
import Derived.Test.YtehmoomoocdidaaGreatDoorSTreePd
import Derived.Test.YtehmoomoocdidaaGreatDoorSTreeMo
set_option linter.unusedVariables false
set_option linter.unusedSimpArgs false
namespace Go.Proofs.YtehmoomoocdidaaGreatDoor
open Go.RowKit
theorem mvPr_valid {y : Int} (h0 : 0 ≤ y) (h1 : y ≤ 255) {x z : Pr} (h : MvPr y x z) (hx : vPos x.ln x.co = true) (hp : PlL x.bd) : vPr x = vPr z:=by
 obtain ⟨g1,g2⟩:=h
 have e:=vSs_same nameL 1048576 8 30 _ _ (mv_same g1) hp (mv_pl g1 h0)
 have hy : vPos y 3 = true:=by
  unfold vPos
  rw [decide_eq_true h0,decide_eq_true (show y ≤ 65537 by omega)]
  rfl
 rw [g2]
 unfold vPr
 simp only
 rw [hx,hy,e]
theorem all2_all {α : Type} {R : α → α → Prop} (p : α → Bool) : ∀ {l m : List α},All2 R l m → (∀ x y,R x y → x ∈ l → p x = p y) → l.all p = m.all p
 | [],[],_,_ => rfl
 | [],_ :: _,h,_ => by have := h.1;simp at this
 | _ :: _,[],h,_ => by have := h.1;simp at this
 | x :: l,y :: m,h,hp => by
   obtain ⟨h1,h2⟩:=(all2_cons R x y l m).1 h
   rw [List.all_cons,List.all_cons,hp x y h1 (List.mem_cons_self ..),all2_all p h2 (fun a b hab ha => hp a b hab (List.mem_cons_of_mem _ ha))]
theorem mvPg_valid {y : Int} (h0 : 0 ≤ y) (h1 : y ≤ 255) {p m : Pg} (h : MvPg y p m) (hf : ∀ x ∈ p.xs,vPos x.ln x.co = true ∧ PlL x.bd) : vPg p = vPg m:=by
 obtain ⟨g1,g2⟩:=h
 have e:=all2_all vPr g2 (fun x z hxz hx => mvPr_valid h0 h1 hxz (hf x hx).1 (hf x hx).2)
 have e2:=g2.1
 rw [g1]
 unfold vPg
 simp only
 rw [e,e2]
end Go.Proofs.YtehmoomoocdidaaGreatDoor
namespace Go.Proofs.YtehmoomoocdidaaGreatDoor
open Go.RowKit
theorem own_prRow {w : World} {base n : Nat} {v : Value} {D : Nat → PAd} {ys : List Pr} (h : w.ownsRow base 40 12 v n (flat12 (prL D ys))) (hn : n = ys.length) {S : Nat → Prop} (he : ∀ i z,ys[i]? = some z → PrIn S w (D i) z) : ∃ A c,v = .slice A n c ∧ PrRow w w.heap.size ys A:=by
 rcases h.2 with ⟨rfl,h0⟩ | ⟨g,cap,cur,rfl,hb,hg,h1,h2,h3,h4⟩
 ·subst h0
  have : ys = []:=List.eq_nil_of_length_eq_zero hn.symm
  subst this
  exact ⟨none,0,rfl,.nil _⟩
 ·refine ⟨some ⟨g,0,none⟩,cap,rfl,pr_rowX hg (fun i x hi j v hj => ?_) he⟩
  have hj12 : j < 12:=by
   have := (Array.getElem?_eq_some_iff.1 hj).1
   exact this
  have h5:=pr_get D ys i j hj12
  rw [hi] at h5
  have h6 : (flat12 (prL D ys))[i * 12 + j]? = some v:=h5.trans hj
  rw [← h4] at h6
  rw [List.getElem?_take] at h6
  split at h6
  ·simpa using h6
  ·cases h6
def rePr (x : Pr) (y : Int) (m : List St) : Pr:={ x with ln:=y,co:=3,bd:=m }
def reD2 (D : Nat → PAd) (k : Nat) (A : Option Addr) (c : Nat) : Nat → PAd:=fun i => if i = k then { D k with b:=A,nb:=c } else D i
theorem flat_set (D : Nat → PAd) (ys : List Pr) (k : Nat) (x : Pr) (hx : ys[k]? = some x) (y : Int) (m : List St) (A : Option Addr) (c : Nat) :
 (((flat12 (prL D ys)).set (k * 12 + 11) (.slice A m.length c)).set (k * 12 + 1) (.int .i64 y)).set (k * 12 + 2) (.int .i64 3) = flat12 (prL (reD2 D k A c) (ys.set k (rePr x y m))):=by
 have hk : k < ys.length:=(List.getElem?_eq_some_iff.1 hx).1
 have hlen : (flat12 (prL D ys)).length = ys.length * 12:=pr_len D ys
 refine List.ext_getElem? (fun q => ?_)
 have e1:=pr_get D ys (q / 12) (q % 12) (by omega)
 have e2:=pr_get (reD2 D k A c) (ys.set k (rePr x y m)) (q / 12) (q % 12) (by omega)
 rw [show q / 12 * 12 + q % 12 = q from by omega] at e1 e2
 rw [e2]
 simp only [List.getElem?_set,List.length_set,hlen]
 by_cases hq : q / 12 = k
 ·rw [hq] at e1 ⊢
  rw [if_pos rfl,if_pos hk]
  rw [hx] at e1
  have hr : (reD2 D k A c) k = { D k with b:=A,nb:=c }:=if_pos rfl
  simp only [Option.bind_some,hr]
  simp only [Option.bind_some] at e1
  have hm : q % 12 = 0 ∨ q % 12 = 1 ∨ q % 12 = 2 ∨ q % 12 = 3 ∨ q % 12 = 4 ∨ q % 12 = 5 ∨ q % 12 = 6 ∨ q % 12 = 7 ∨ q % 12 = 8 ∨ q % 12 = 9 ∨ q % 12 = 10 ∨ q % 12 = 11:=by omega
  have hq2 : q = k * 12 + q % 12:=by omega
  rcases hm with h | h | h | h | h | h | h | h | h | h | h | h <;> rw [h] at hq2 e1 ⊢ <;> subst hq2
  ·rw [if_neg (by omega),if_neg (by omega),if_neg (by omega),e1];rfl
  ·rw [if_neg (by omega),if_pos rfl,if_pos (by omega)];rfl
  ·rw [if_pos rfl,if_pos (by omega)];rfl
  ·rw [if_neg (by omega),if_neg (by omega),if_neg (by omega),e1];rfl
  ·rw [if_neg (by omega),if_neg (by omega),if_neg (by omega),e1];rfl
  ·rw [if_neg (by omega),if_neg (by omega),if_neg (by omega),e1];rfl
  ·rw [if_neg (by omega),if_neg (by omega),if_neg (by omega),e1];rfl
  ·rw [if_neg (by omega),if_neg (by omega),if_neg (by omega),e1];rfl
  ·rw [if_neg (by omega),if_neg (by omega),if_neg (by omega),e1];rfl
  ·rw [if_neg (by omega),if_neg (by omega),if_neg (by omega),e1];rfl
  ·rw [if_neg (by omega),if_neg (by omega),if_neg (by omega),e1];rfl
  ·rw [if_neg (by omega),if_neg (by omega),if_pos rfl,if_pos (by omega)];rfl
 ·rw [if_neg (by omega),if_neg (by omega),if_neg (by omega),e1,if_neg (fun e => hq e.symm)]
  have hr : (reD2 D k A c) (q / 12) = D (q / 12):=if_neg hq
  rw [hr]
def fineP (F : Pr → List St) (x : Pr) : Bool:=(F x).all fineS && decide (x.ln ≥ 0) && decide (x.co ≥ 0) && decide (x.ln ≤ 65536) && decide (x.co ≤ 65536)
theorem fineP_plain {F : Pr → List St} {x : Pr} (hF : FlL x.bd (F x)) (h : fineP F x = true) : vPos x.ln x.co = true ∧ PlL x.bd:=by
 unfold fineP at h
 simp only [Bool.and_eq_true,decide_eq_true_eq] at h
 obtain ⟨⟨⟨⟨h1,h2⟩,h3⟩,h4⟩,h5⟩:=h
 refine ⟨?_,fine_pl hF h1⟩
 unfold vPos
 rw [decide_eq_true h2,decide_eq_true (show x.ln ≤ 65537 by omega),decide_eq_true h3,decide_eq_true (show x.co ≤ 65537 by omega)]
 rfl
def PlInv (w W0 : World) (y : Int) (F : Pr → List St) (xs : List Pr) (D : Nat → PAd) (v : Value) (k : Nat) (fv : Bool) (wr : World) : Prop :=
 ∃ (ys : List Pr) (D' : Nat → PAd),ys.length = xs.length ∧ (∀ i x z,i < k → xs[i]? = some x → ys[i]? = some z → MvPr y x z) ∧ (∀ i,k ≤ i → ys[i]? = xs[i]? ∧ D' i = D i) ∧
  wr.ownsRow W0.heap.size 40 12 v xs.length (flat12 (prL D' ys)) ∧ (∀ i z,ys[i]? = some z → PrIn (fun b => v.ownBlock ≠ some b) wr (D' i) z) ∧ Below w.heap.size w wr ∧ (∀ b,b < W0.heap.size → v.ownBlock ≠ some b) ∧ fv = (xs.take k).all (fineP F)
theorem PrIn.later {S : Nat → Prop} {w w' : World} {d : PAd} {x : Pr} (h : PrIn S w d x) (hk : ∀ q : Addr,S q.block → q.block < w.heap.size → w'.cell? q = w.cell? q) : PrIn S w' d x:=by
 obtain ⟨w0,h1,h2⟩:=h
 exact ⟨w0,fun q v hq => ⟨(hk q (h1 q v hq).2 (lt_of_cell (h1 q v hq).1)).trans (h1 q v hq).1,(h1 q v hq).2⟩,h2⟩
theorem all_take_succ' {α : Type} (f : α → Bool) (l : List α) (k : Nat) (x : α) (h : l[k]? = some x) : (l.take (k + 1)).all f = ((l.take k).all f && f x):=by
 rw [List.take_add_one,h]
 simp
theorem PlInv.next {w W0 wr w5 w6 : World} {y : Int} {F : Pr → List St} {xs : List Pr} {D : Nat → PAd} {g k c c' : Nat} {fv : Bool} {x : Pr} {m : List St} {A' : Option Addr}
 (hB : w.heap.size ≤ W0.heap.size) (h : PlInv w W0 y F xs D (.slice (some ⟨g,0,none⟩) xs.length c) k fv wr) (hx : xs[k]? = some x) (hpr : PrOwn wr w.heap.size (D k) x) (hb : Below wr.heap.size wr w5) (hm : MvL y 0 x.bd m) (hml : m.length ≤ maxLen)
 (hs : StIn (fun b => b < w.heap.size ∨ wr.heap.size ≤ b) w5 m A')
 (h6 : w6 = ((w5.setCell ⟨g,k * 12 + 11,none⟩ (.slice A' m.length c')).setCell ⟨g,k * 12 + 1,none⟩ (.int .i64 y)).setCell ⟨g,k * 12 + 2,none⟩ (.int .i64 3)) :
 PlInv w W0 y F xs D (.slice (some ⟨g,0,none⟩) xs.length c) (k + 1) (fv && fineP F x) w6:=by
 obtain ⟨ys,D',e1,e2,e3,e4,e5,e6,e7,e8⟩:=h
 have hk : k < xs.length:=(List.getElem?_eq_some_iff.1 hx).1
 have hyk : ys[k]? = some x:=(e3 k (Nat.le_refl _)).1.trans hx
 have hDk : D' k = D k:=(e3 k (Nat.le_refl _)).2
 have hg : W0.heap.size ≤ g ∧ g < wr.heap.size:=own_lt e4 g rfl
 have hkeep : ∀ q : Addr,q.block ≠ g → w6.cell? q = w5.cell? q:=fun q hq => by
  rw [h6,set_otherM _ _ _ hq,set_otherM _ _ _ hq,set_otherM _ _ _ hq]
 have hown5 : w5.ownsRow W0.heap.size 40 12 (.slice (some ⟨g,0,none⟩) xs.length c) xs.length (flat12 (prL D' ys)):=own_below e4 hb (fun g' hg' => (own_lt e4 g' hg').2)
 have hown6:=own_set (own_set (own_set hown5 (k * 12 + 11) (by omega) (.slice A' m.length c')) (k * 12 + 1) (by omega) (.int .i64 y)) (k * 12 + 2) (by omega) (.int .i64 3)
 rw [← h6,flat_set D' ys k x hyk y m A' c'] at hown6
 refine ⟨_,_,by rw [List.length_set];exact e1,fun i x' z hi hxi hzi => ?_,fun i hi => ?_,hown6,fun i z hzi => ?_,?_,e7,?_⟩
 ·by_cases hik : i = k
  ·subst hik
   rw [List.getElem?_set_self (by omega)] at hzi
   obtain rfl:=Option.some.inj hzi
   obtain rfl:=Option.some.inj (hx.symm.trans hxi)
   exact ⟨hm,rfl⟩
  ·rw [List.getElem?_set_ne (fun e => hik e.symm)] at hzi
   exact e2 i x' z (by omega) hxi hzi
 ·rw [List.getElem?_set_ne (by omega)]
  refine ⟨(e3 i (by omega)).1,?_⟩
  unfold reD2
  rw [if_neg (by omega)]
  exact (e3 i (by omega)).2
 ·by_cases hik : i = k
  ·subst hik
   rw [List.getElem?_set_self (by omega)] at hzi
   obtain rfl:=Option.some.inj hzi
   have hr : (reD2 D' i A' c') i = { D' i with b:=A',nb:=c' }:=if_pos rfl
   rw [hr,hDk]
   have h1 : PrIn (fun b => b < w.heap.size) w5 (D i) x:=(hpr.keep (fun q hq => hb.cell (Nat.lt_of_lt_of_le hq e6.size)) (Nat.le_refl _)).in_ (Nat.le_trans e6.size hb.size)
   have h2 : PrIn (fun b => b < w.heap.size ∨ wr.heap.size ≤ b) w5 { D i with b:=A',nb:=c' } (rePr x y m):=h1.body hs hml y 3 (fun b hb => .inl hb) (fun b hb => hb)
   refine h2.stay (fun q hq => hkeep q (by omega)) (fun b hb => ?_)
   intro e
   have hb2 : b < w.heap.size ∨ wr.heap.size ≤ b:=hb
   have e2 : some g = some b:=e
   injection e2 with e2
   omega
  ·rw [List.getElem?_set_ne (fun e => hik e.symm)] at hzi
   have hr : (reD2 D' k A' c') i = D' i:=if_neg hik
   rw [hr]
   refine (e5 i z hzi).later (fun q hq hlt => ?_)
   exact (hkeep q (fun e => hq (by rw [e];rfl))).trans (hb.cell hlt)
 ·refine e6.trans ?_
  rw [h6]
  have hb2:=hb.mono e6.size
  exact ((hb2.setCell (p:=⟨g,k * 12 + 11,none⟩) (by show w.heap.size ≤ g;omega) _).setCell (p:=⟨g,k * 12 + 1,none⟩) (by show w.heap.size ≤ g;omega) _).setCell (p:=⟨g,k * 12 + 2,none⟩) (by show w.heap.size ≤ g;omega) _
 ·rw [all_take_succ' (fineP F) xs k x hx,← e8]
theorem PlInv.next' {w W0 wr w5 w6 : World} {y : Int} {F : Pr → List St} {xs : List Pr} {D : Nat → PAd} {g k c c' n : Nat} {fv : Bool} {x : Pr} {m : List St} {A' : Option Addr}
 (hn : n = xs.length) (hB : w.heap.size ≤ W0.heap.size) (h : PlInv w W0 y F xs D (.slice (some ⟨g,0,none⟩) n c) k fv wr) (hx : xs[k]? = some x) (hpr : PrOwn wr w.heap.size (D k) x) (hb : Below wr.heap.size wr w5) (hm : MvL y 0 x.bd m) (hml : m.length ≤ maxLen)
 (hs : StIn (fun b => b < w.heap.size ∨ wr.heap.size ≤ b) w5 m A')
 (h6 : w6 = ((w5.setCell ⟨g,k * 12 + 11,none⟩ (.slice A' m.length c')).setCell ⟨g,k * 12 + 1,none⟩ (.int .i64 y)).setCell ⟨g,k * 12 + 2,none⟩ (.int .i64 3)) :
 PlInv w W0 y F xs D (.slice (some ⟨g,0,none⟩) n c) (k + 1) (fv && fineP F x) w6:=by
 subst hn
 exact PlInv.next hB h hx hpr hb hm hml hs h6
theorem PlInv.cells {w W0 wr : World} {y : Int} {F : Pr → List St} {xs : List Pr} {D : Nat → PAd} {g k c n : Nat} {fv : Bool} {x : Pr} (h : PlInv w W0 y F xs D (.slice (some ⟨g,0,none⟩) n c) k fv wr) (hn : n = xs.length) (hx : xs[k]? = some x) :
 ∀ j v,(prCs (D k) x)[j]? = some v → wr.cell? (((⟨g,0,none⟩ : Addr).add (k * 12)).add j) = some v:=by
 intro j v hj
 subst hn
 obtain ⟨ys,D',e1,e2,e3,e4,e5,e6,e7,e8⟩:=h
 have hj12 : j < 12:=(Array.getElem?_eq_some_iff.1 hj).1
 have h1:=pr_get D' ys k j hj12
 rw [(e3 k (Nat.le_refl _)).1,(e3 k (Nat.le_refl _)).2,hx] at h1
 rw [add_of_add]
 exact e4.cells (g:=g) rfl _ _ (h1.trans hj)
theorem PlInv.frozen {w W0 wr : World} {y : Int} {F : Pr → List St} {xs : List Pr} {D : Nat → PAd} {g k c n : Nat} {fv : Bool} (h : PlInv w W0 y F xs D (.slice (some ⟨g,0,none⟩) n c) k fv wr) (hn : n = xs.length) (i : Nat) :
 wr.frozen? ⟨g,i,none⟩ = false ∧ W0.heap.size ≤ g ∧ g < wr.heap.size:=by
 subst hn
 obtain ⟨ys,D',e1,e2,e3,e4,e5,e6,e7,e8⟩:=h
 have h1:=e4.frozenAt i
 exact ⟨h1,own_lt e4 g rfl⟩
theorem PlInv.form {w W0 wr : World} {y : Int} {F : Pr → List St} {xs : List Pr} {D : Nat → PAd} {k c n : Nat} {fv : Bool} {A : Option Addr} (h : PlInv w W0 y F xs D (.slice A n c) k fv wr) (hn : n = xs.length) (hk : k < n) : ∃ g,A = some ⟨g,0,none⟩:=by
 subst hn
 obtain ⟨ys,D',e1,e2,e3,e4,e5,e6,e7,e8⟩:=h
 rcases e4.2 with ⟨_,h0⟩ | ⟨g,cap,cur,hv,_⟩
 ·omega
 ·injection hv with h1 h2 h3
  exact ⟨g,h1⟩
theorem PlInv.start {w W0 W3 : World} {y : Int} {F : Pr → List St} {xs : List Pr} {D : Nat → PAd} {v : Value} {n bm : Nat} (hn : n = xs.length) (ho : W3.ownsRow W0.heap.size 40 12 v n (flat12 (prL D xs))) (hD : ∀ i x,xs[i]? = some x → PrOwn W0 w.heap.size (D i) x) (hb3 : Below W0.heap.size W0 W3)
 (hw : Below w.heap.size w W0) (hbm : w.heap.size ≤ bm ∧ bm < W0.heap.size) (u : Value) : PlInv w W0 y F xs D v 0 true (W3.setCell ⟨bm,5,none⟩ u):=by
 subst hn
 have hlt:=fun g hg => own_lt ho g hg
 have hk : ∀ q : Addr,q.block < w.heap.size → (W3.setCell ⟨bm,5,none⟩ u).cell? q = W0.cell? q:=fun q hq => (set_otherM _ _ _ (show q.block ≠ bm by omega)).trans (hb3.cell (by omega))
 refine ⟨xs,D,rfl,fun i x z hi => by omega,fun i _ => ⟨rfl,rfl⟩,⟨ho.1,ho.2.imp id ?_⟩,fun i z hz => ?_,?_,fun b hb e => by have := (hlt b e).1;omega,by simp⟩
 ·rintro ⟨g,cap,cur,hv,hb,hg,r⟩
  exact ⟨g,cap,cur,hv,hb,(Below.heap_setCell W3 ⟨bm,5,none⟩ u g (show g ≠ bm by omega)).trans hg,r⟩
 ·have h1 : PrIn (fun b => b < w.heap.size) (W3.setCell ⟨bm,5,none⟩ u) (D i) z:=((hD i z hz).keep hk (Nat.le_refl _)).in_ (by simp [World.setCell];have := hb3.size;omega)
  exact h1.stay (fun _ _ => rfl) (fun b hb e => by have h2:=(hlt b e).1;have h3 : b < w.heap.size:=hb;omega)
 ·exact (hw.trans (hb3.mono (by omega))).setCell (p:=⟨bm,5,none⟩) hbm.1 u
theorem PlInv.below {w W0 wr : World} {y : Int} {F : Pr → List St} {xs : List Pr} {D : Nat → PAd} {k : Nat} {fv : Bool} {v : Value} (h : PlInv w W0 y F xs D v k fv wr) : Below w.heap.size w wr:=by
 obtain ⟨ys,D',e1,e2,e3,e4,e5,e6,e7,e8⟩:=h
 exact e6
theorem flatted_below {B : Nat} {w wr : World} {g : List St} {v : Value} (h : Flatted B w g v wr) : Below w.heap.size w wr:=by
 obtain ⟨D,xs,h1,h2,h3,h4⟩:=h
 exact h4
def PzFine (W5 : World) (b : Bool) (v : Value) (wx : World) : Prop:=∃ W,W = wx ∧ v = .bool b ∧ Below W5.heap.size W5 W
end Go.Proofs.YtehmoomoocdidaaGreatDoor
