import Derived.RangeFuncNested
import Derived.RangeFuncBound
import Derived.RangeFuncCalls
import Derived.RangeFuncLeaves
import Derived.WalkKit
import Derived.OwnWalkIn
import Derived.TacticsInMore
import Derived.LoopNIn
import Derived.LoopIn
import Derived.Test.YtbalioicgpgehaaGreatDoorProg
import Derived.Test.YtbalioicgpgehaaGreatDoorSLexMZ
import Derived.Laws.Rows
import Derived.Laws.Tables
import Derived.Deep.WholeRow
import Derived.Lib.Hide
import Derived.Deep.LoopGhost
set_option linter.unusedVariables false
set_option linter.unusedSimpArgs false
namespace Go.Proofs.YtbalioicgpgehaaGreatDoor
open Go.RowKit
structure Part (Pv : Nat → Prop) (W W' : World) : Prop where
 os : W'.os = W.os
 tape : W'.tape = W.tape
 output : W'.output = W.output
 size : W.heap.size ≤ W'.heap.size
 block : ∀ k,k < W.heap.size → ¬ Pv k → W'.heap[k]? = W.heap[k]?
theorem Part.refl (Pv : Nat → Prop) (W : World) : Part Pv W W:=⟨rfl,rfl,rfl,Nat.le_refl _,fun _ _ _ => rfl⟩
theorem Part.trans {Pv : Nat → Prop} {A B C : World} (h : Part Pv A B) (k : Part Pv B C) : Part Pv A C :=
 ⟨k.os.trans h.os,k.tape.trans h.tape,k.output.trans h.output,Nat.le_trans h.size k.size,fun i hi hp => (k.block i (Nat.lt_of_lt_of_le hi h.size) hp).trans (h.block i hi hp)⟩
theorem Part.mono {Pv Pv' : Nat → Prop} {A B : World} (h : Part Pv A B) (hp : ∀ b,Pv b → Pv' b) : Part Pv' A B :=
 ⟨h.os,h.tape,h.output,h.size,fun i hi hn => h.block i hi fun e => hn (hp i e)⟩
theorem Part.of_below {Pv : Nat → Prop} {A B : World} (h : Below A.heap.size A B) : Part Pv A B:=⟨h.os,h.tape,h.output,h.size,fun i hi _ => h.block i hi⟩
theorem Part.alloc {Pv : Nat → Prop} (W : World) (o : Obj) : Part Pv W (W.alloc o):=Part.of_below ((Below.refl _ W).alloc (Nat.le_refl _) o)
theorem Part.putObj {Pv : Nat → Prop} (W : World) {l : Nat} (o : Obj) (h : Pv l) : Part Pv W (W.putObj l o) :=
 ⟨rfl,rfl,rfl,by simp,fun k _ hk => World.putObj_heap_other fun e => hk (e ▸ h)⟩
theorem Part.setCell {Pv : Nat → Prop} (W : World) {a : Addr} (v : Value) (h : Pv a.block) : Part Pv W (W.setCell a v) :=
 ⟨rfl,rfl,rfl,by simp [World.setCell],fun k _ hk => Below.heap_setCell _ _ _ _ fun e => hk (e ▸ h)⟩
theorem Part.cell {Pv : Nat → Prop} {W W' : World} (h : Part Pv W W') {p : Addr} (hp : p.block < W.heap.size) (hn : ¬ Pv p.block) : W'.cell? p = W.cell? p:=World.cell?_of_block (w:=W) (h.block p.block hp hn)
theorem Part.frozen {Pv : Nat → Prop} {W W' : World} (h : Part Pv W W') {p : Addr} (hp : p.block < W.heap.size) (hn : ¬ Pv p.block) : W'.frozen? p = W.frozen? p:=World.frozen?_of_block (w:=W) (h.block p.block hp hn)
def Abid {β : Type} (J : (Nat → Prop) → β → World → Prop) : Prop :=
 ∀ (Pv Pv' : Nat → Prop) (s : β) (W W' : World),J Pv s W → Part Pv W W' → (∀ b,Pv' b → Pv b ∨ W.heap.size ≤ b) → (∀ b,Pv' b → b < W'.heap.size) → J Pv' s W'
def SeqOwn {α : Type} (F : Fence) (n : Nat) (P : Program) (g : Nat) (lb : Array Value) (encs : α → Array Value) (Q : Nat → Prop) (Y : List α → α → World → Prop) (S Sp : List α → World → Prop) (w : World) : Prop :=
 ∀ (l : Nat) (J Jx : (Nat → Prop) → List α → World → Prop) (W : World),Below w.heap.size w W → Abid J → Abid Jx →
  (∀ Pv pre x W1,J Pv pre W1 → (∀ b,Pv b → b < W1.heap.size) → (∀ b,Pv b → W.heap.size ≤ b) → Y pre x W1 → YieldAt F (n - 1) P l (encs x) W1 fun e W' =>
    (∀ b,b < W1.heap.size → Pv b ∨ Q b → W'.heap[b]? = W1.heap[b]?) ∧ W1.heap.size ≤ W'.heap.size ∧ ((e = .returned (.bool true) ∧ J Pv (pre ++ [x]) W') ∨ (e = .returned (.bool false) ∧ Jx Pv (pre ++ [x]) W'))) →
  J (fun _ => False) [] W →
  CallsIn F n P g (#[.func (.yield l) #[] #[]] ++ lb) W fun e W' => (∃ v,e = .returned v) ∧ ∃ Pv : Nat → Prop,(∀ b,Pv b → b < W'.heap.size) ∧ ((∃ xs,S xs W' ∧ J Pv xs W') ∨ (∃ pre,Sp pre W' ∧ Jx Pv pre W'))
variable {F : Fence} {n : Nat} {P : Program}
def ownPostP {α : Type} (K : Nat → Prop) (I : List α → World → Prop) (Ix : Code → List α → World → Prop) (xs : List α) (W : World) : Exit → Act → World → Prop
 | .normal,_,W' => (∀ b,b < W.heap.size → K b → W'.heap[b]? = W.heap[b]?) ∧ W.heap.size ≤ W'.heap.size ∧ I xs W'
 | .ret,_,W' => (∀ b,b < W.heap.size → K b → W'.heap[b]? = W.heap[b]?) ∧ W.heap.size ≤ W'.heap.size ∧ Ix .ret xs W'
 | .exit id,_,W' => (∀ b,b < W.heap.size → K b → W'.heap[b]? = W.heap[b]?) ∧ W.heap.size ≤ W'.heap.size ∧ Ix (.exit id) xs W'
 | .goto t,_,W' => (∀ b,b < W.heap.size → K b → W'.heap[b]? = W.heap[b]?) ∧ W.heap.size ≤ W'.heap.size ∧ Ix (.goto t) xs W'
 | .panic _,_,_ => False
 | .outgrown,_,_ => False
theorem wpIn_rangeFunc_pv {α : Type} {g : Operand} {ps : Array Tmp} {assign body : Code} {R : Exit → Act → World → Prop} {a : Act} {w : World}
 (hro : F.round = none) (h1 : 1 ≤ n) {gf : Nat} {lb : Array Value} (hg : a.eval g = .func (.func gf) #[] lb) (hFg : F.fn gf) (eg : ∀ args w,(callFunc gf args).run P w = .ok (.enter gf args) w)
 {encs : α → Array Value} {Q : Nat → Prop} {Y : List α → α → World → Prop} {S Sp : List α → World → Prop} {w0 : World} (hseq : SeqOwn F (n - 1) P gf lb encs Q Y S Sp w0) (hb0 : Below w0.heap.size w0 w)
 (hps : ∀ x,(encs x).size = ps.size)
 (I : (Nat → Prop) → List α → World → Prop) (Ix : Code → (Nat → Prop) → List α → World → Prop) (hI : Abid I) (hIx : ∀ c,Abid (Ix c)) (h0 : I (fun _ => False) [] w)
 (hround : ∀ (Pv : Nat → Prop) (pre : List α) (x : α) (W : World) (r : Loop),(∀ b,Pv b → b < W.heap.size) → (∀ b,Pv b → w.heap.size ≤ b) → Pv w.heap.size → Pv (w.heap.size + 1) → W.heap[w.heap.size + 1]? = some (.loop r) → I Pv pre W → Y pre x W →
   assign.wpIn (F.inRound (w.heap.size + 1)) (n - 1 - 1) P (Exit.then (fun a' Wa => Part (fun b => ¬ (Pv b ∨ Q b)) W Wa ∧ ∀ r',body.wpIn (F.inRound (w.heap.size + 1)) (n - 1 - 1) P
    (ownPostP (fun b => Pv b ∨ Q b) (I Pv) (fun c => Ix c Pv) (pre ++ [x]) (Wa.putObj (w.heap.size + 1) (.loop r'))) a' (Wa.putObj (w.heap.size + 1) (.loop r'))) (fun _ _ _ => False))
    { tmps:=(ps.zip (encs x)).foldl (fun t (p,v) => t.setIfInBounds p v) a.tmps,defers:=[] } W)
 (hQ : ∀ b,Q b → b < w.heap.size)
 (hSl : ∀ xs (W W' : World),S xs W → Part (fun b => b = w.heap.size + 1) W W' → S xs W') (hSpl : ∀ xs (W W' : World),Sp xs W → Part (fun b => b = w.heap.size + 1) W W' → Sp xs W')
 (hdone : ∀ (Pv : Nat → Prop) (xs : List α) (W : World),S xs W → I Pv xs W → Pv w.heap.size → Pv (w.heap.size + 1) → (∀ b,Pv b → b < W.heap.size) → W.heap[w.heap.size]? = some (.deferred (some [])) → R .normal { a with defers:={ target:=.collected w.heap.size,args:=#[] } :: a.defers } W)
 (hstop : ∀ (c : Code) (Pv : Nat → Prop) (pre : List α) (W : World),Sp pre W → Ix c Pv pre W → Pv w.heap.size → Pv (w.heap.size + 1) → (∀ b,Pv b → b < W.heap.size) → W.heap[w.heap.size]? = some (.deferred (some [])) → c.wpIn F n P R { a with defers:={ target:=.collected w.heap.size,args:=#[] } :: a.defers } W) :
 (Code.rangeFunc g ps assign body).wpIn F n P R a w:=by
 refine wpIn_rangeFunc ?_
 intro fn hfn
 rw [hro]
 obtain ⟨rec,hrec⟩ : ∃ rec : LoopState → Option Code → Loop,rec = fun st pe => { state:=st,pending:=pe,fn,tmps:=a.tmps,params:=ps,assign,body,defers:=w.heap.size }:=⟨_,rfl⟩
 obtain ⟨W1,hW1⟩ : ∃ W1,(w.alloc (.deferred (some []))).alloc (.loop (rec .ready none)) = W1:=⟨_,rfl⟩
 have hsz1 : W1.heap.size = w.heap.size + 2:=by rw [← hW1];simp
 have hL1 : W1.heap[w.heap.size + 1]? = some (.loop (rec .ready none)):=by
  rw [← hW1];have := World.alloc_heap_new (w.alloc (.deferred (some []))) (.loop (rec .ready none));rwa [World.size_alloc] at this
 have hK1 : W1.heap[w.heap.size]? = some (.deferred (some [])):=by
  rw [← hW1];exact (Below.heap_alloc _ _ _ (by simp)).trans (World.alloc_heap_new w _)
 have hbw : Below w.heap.size w W1:=by rw [← hW1];exact ((Below.refl _ w).alloc (Nat.le_refl _) _).alloc (by simp) _
 have hb1 : Below w0.heap.size w0 W1:=hb0.trans (hbw.mono hb0.size)
 -- the iterator's blocks,with the two of the loop
 obtain ⟨M,hM⟩ : ∃ M : (Nat → Prop) → Nat → Prop,M = fun Pv b => Pv b ∨ b = w.heap.size ∨ b = w.heap.size + 1:=⟨_,rfl⟩
 have hMd : ∀ Pv,M Pv w.heap.size:=fun Pv => by rw [hM];exact Or.inr (Or.inl rfl)
 have hMl : ∀ Pv,M Pv (w.heap.size + 1):=fun Pv => by rw [hM];exact Or.inr (Or.inr rfl)
 have hI1 : I (M fun _ => False) [] W1:=hI _ _ _ _ _ h0 (Part.of_below hbw) (fun b hb => by
  rw [hM] at hb
  rcases hb with h | rfl | rfl
  ·exact h.elim
  ·exact Or.inr (Nat.le_refl _)
  ·exact Or.inr (Nat.le_succ _)) (fun b hb => by
  rw [hM] at hb
  rcases hb with h | rfl | rfl
  ·exact h.elim
  ·omega
  ·omega)
 refine ⟨w.heap.size + 1,[{ target:=.collected w.heap.size,args:=#[] }],W1,{ target:=.fn (.func gf) lb,args:=#[.func (.yield (w.heap.size + 1)) #[] #[]] },W1,gf,
  #[.func (.yield (w.heap.size + 1)) #[] #[]] ++ lb,W1,?_,?_,?_,?_,fun _ => h1,?_⟩
 ·rw [← hW1,hrec];exact run_enterLoop_outer _ _ _ _ _
 ·simp only [resolve,hg]
  simp [go_sem]
 ·intro f' hf';simp [Target.leads] at hf';subst hf';exact hFg
 ·simp [invoke,go_sem,eg]
 ·have stays : ∀ {Pv : Nat → Prop} {A B : World},(∀ b,Pv b → w.heap.size + 2 ≤ b) → Part Pv A B → ∀ {k : Nat} {o : Obj},k < w.heap.size + 2 → A.heap[k]? = some o → B.heap[k]? = some o:=fun hp hAB k o hk ho =>
   (hAB.block k (Array.getElem?_eq_some_iff.1 ho).1 (fun e => by have := hp k e;omega)).trans ho
  refine (hseq (w.heap.size + 1)
   (fun Pv pre W => I (M Pv) pre W ∧ (∀ b,Pv b → w.heap.size + 2 ≤ b) ∧ W.heap[w.heap.size + 1]? = some (.loop (rec .ready none)) ∧ W.heap[w.heap.size]? = some (.deferred (some [])))
   (fun Pv pre W => ∃ c,Ix c (M Pv) pre W ∧ (∀ b,Pv b → w.heap.size + 2 ≤ b) ∧ W.heap[w.heap.size + 1]? = some (.loop (rec .done (some c))) ∧ W.heap[w.heap.size]? = some (.deferred (some [])))
   W1 hb1 ?ab1 ?ab2 ?_ ⟨hI1,fun _ h => h.elim,hL1,hK1⟩).mono ?_
  case ab1 =>
   rintro Pv Pv' s A B ⟨hi,hp,hl,hk⟩ hAB hnew hlt
   have hA : w.heap.size + 2 ≤ A.heap.size:=by have := (Array.getElem?_eq_some_iff.1 hl).1;omega
   refine ⟨hI _ _ _ _ _ hi (hAB.mono fun b hb => by rw [hM];exact Or.inl hb) (fun b hb => ?_) (fun b hb => ?_),fun b hb => ?_,stays hp hAB (by omega) hl,stays hp hAB (by omega) hk⟩
   ·rw [hM] at hb ⊢
    rcases hb with h | h
    ·rcases hnew b h with h | h
     ·exact Or.inl (Or.inl h)
     ·exact Or.inr h
    ·exact Or.inl (Or.inr h)
   ·rw [hM] at hb
    have := hAB.size
    rcases hb with h | rfl | rfl
    ·exact hlt b h
    ·omega
    ·omega
   ·rcases hnew b hb with h | h
    ·exact hp b h
    ·omega
  case ab2 =>
   rintro Pv Pv' s A B ⟨c,hi,hp,hl,hk⟩ hAB hnew hlt
   have hA : w.heap.size + 2 ≤ A.heap.size:=by have := (Array.getElem?_eq_some_iff.1 hl).1;omega
   refine ⟨c,hIx c _ _ _ _ _ hi (hAB.mono fun b hb => by rw [hM];exact Or.inl hb) (fun b hb => ?_) (fun b hb => ?_),fun b hb => ?_,stays hp hAB (by omega) hl,stays hp hAB (by omega) hk⟩
   ·rw [hM] at hb ⊢
    rcases hb with h | h
    ·rcases hnew b h with h | h
     ·exact Or.inl (Or.inl h)
     ·exact Or.inr h
    ·exact Or.inl (Or.inr h)
   ·rw [hM] at hb
    have := hAB.size
    rcases hb with h | rfl | rfl
    ·exact hlt b h
    ·omega
    ·omega
   ·rcases hnew b hb with h | h
    ·exact hp b h
    ·omega
  ·-- ONE ROUND
   rintro Pv pre x W ⟨hi,hp,hl,hk⟩ hlt hge hy0
   have hltl : w.heap.size + 1 < W.heap.size:=(Array.getElem?_eq_some_iff.1 hl).1
   have hy:=run_yield (P:=P) (args:=encs x) hl (by rw [hrec];exact hps x)
   rw [hrec] at hy
   have hMlt : ∀ b,M Pv b → b < W.heap.size:=fun b hb => by
    rw [hM] at hb
    rcases hb with h | rfl | rfl
    ·exact hlt b h
    ·omega
    ·omega
   have hMge : ∀ b,M Pv b → w.heap.size ≤ b:=fun b hb => by
    rw [hM] at hb
    rcases hb with h | rfl | rfl
    ·have := hp b h;omega
    ·omega
    ·omega
   refine ⟨fn,_,assign,body,hy,roundIn_of_wpIn hfn (wpIn_mono (hround (M Pv) pre x W _ hMlt hMge (hMd Pv) (hMl Pv) hl hi hy0) ?_)⟩
   clear hy
   rintro e a' Wa hE
   cases e with
   | normal =>
     obtain ⟨hWa,hbody⟩:=hE
     have keepA : ∀ {k : Nat} {o : Obj},M Pv k → W.heap[k]? = some o → Wa.heap[k]? = some o:=fun hm ho => (hWa.block _ (Array.getElem?_eq_some_iff.1 ho).1 (fun h => h (Or.inl hm))).trans ho
     have hla:=keepA (hMl Pv) hl
     have hka:=keepA (hMd Pv) hk
     have hltla : w.heap.size + 1 < Wa.heap.size:=(Array.getElem?_eq_some_iff.1 hla).1
     refine ⟨_,run_beginRound hla (by rw [hrec]),?_⟩
     refine wpIn_mono (hbody _) ?_
     have hl2 : (Wa.putObj (w.heap.size + 1) (.loop { rec .ready none with state:=.busy })).heap[w.heap.size + 1]? = some (.loop { rec .ready none with state:=.busy }):=World.putObj_heap_same hltla
     have hk2 : (Wa.putObj (w.heap.size + 1) (.loop { rec .ready none with state:=.busy })).heap[w.heap.size]? = some (.deferred (some [])):=(World.putObj_heap_other (by omega)).trans hka
     have fin : ∀ (jump : Option Code) (W3 : World),(∀ b,b < (Wa.putObj (w.heap.size + 1) (.loop { rec .ready none with state:=.busy })).heap.size → M Pv b ∨ Q b → W3.heap[b]? = (Wa.putObj (w.heap.size + 1) (.loop { rec .ready none with state:=.busy })).heap[b]?) →
      (Instr.endRound (w.heap.size + 1) jump).run P W3 = .ok (.bool jump.isNone) (W3.putObj (w.heap.size + 1) (.loop (rec (if jump.isNone then .ready else .done) jump))) ∧
      W3.heap[w.heap.size + 1]? = some (.loop { rec .ready none with state:=.busy }) ∧
      (W3.putObj (w.heap.size + 1) (.loop (rec (if jump.isNone then .ready else .done) jump))).heap[w.heap.size + 1]? = some (.loop (rec (if jump.isNone then .ready else .done) jump)) ∧
      (W3.putObj (w.heap.size + 1) (.loop (rec (if jump.isNone then .ready else .done) jump))).heap[w.heap.size]? = some (.deferred (some [])):=fun jump W3 hk3 => by
      have hl3:=(hk3 _ (by simp;omega) (Or.inl (hMl Pv))).trans hl2
      have hd3:=(hk3 _ (by simp;omega) (Or.inl (hMd Pv))).trans hk2
      have := run_endRound (P:=P) jump hl3
      rw [hrec] at this ⊢
      exact ⟨this,by rw [hrec] at hl3;exact hl3,World.putObj_heap_same (Array.getElem?_eq_some_iff.1 hl3).1,(World.putObj_heap_other (by omega)).trans hd3⟩
     -- what the whole round has left: the iterator's own blocks,and Q
     have left : ∀ (W3 : World) (o : Obj),(∀ b,b < (Wa.putObj (w.heap.size + 1) (.loop { rec .ready none with state:=.busy })).heap.size → M Pv b ∨ Q b → W3.heap[b]? = (Wa.putObj (w.heap.size + 1) (.loop { rec .ready none with state:=.busy })).heap[b]?) →
      ∀ b,b < W.heap.size → Pv b ∨ Q b → (W3.putObj (w.heap.size + 1) o).heap[b]? = W.heap[b]?:=fun W3 o hk3 b hb hpq => by
      have hne : b ≠ w.heap.size + 1:=by
       rcases hpq with h | h
       ·have := hp b h;omega
       ·have := hQ b h;omega
      have hmq : M Pv b ∨ Q b:=hpq.imp (fun h => by rw [hM];exact Or.inl h) id
      rw [World.putObj_heap_other hne,hk3 b (by simp;exact Nat.lt_of_lt_of_le hb hWa.size) hmq,World.putObj_heap_other hne]
      exact hWa.block b hb fun h => h hmq
     have hsize : ∀ {W3 : World},(Wa.putObj (w.heap.size + 1) (.loop { rec .ready none with state:=.busy })).heap.size ≤ W3.heap.size → ∀ o,W.heap.size ≤ (W3.putObj (w.heap.size + 1) o).heap.size:=fun h o => by
      have := hWa.size
      simp at h ⊢
      omega
     have turn : ∀ {J : (Nat → Prop) → List α → World → Prop},Abid J → ∀ {s : List α} {W3 : World} (o : Obj),W.heap.size ≤ W3.heap.size → J (M Pv) s W3 → J (M Pv) s (W3.putObj (w.heap.size + 1) o):=fun hJ s W3 o hs hj =>
      hJ _ _ _ _ _ hj (Part.putObj W3 o (hMl Pv)) (fun b hb => Or.inl hb) (fun b hb => by have := hMlt b hb;simp;omega)
     rintro e a3 W3 hp3
     cases e with
     | normal =>
       obtain ⟨hk3,hs3,hi3⟩:=hp3
       obtain ⟨hr,hl3,hl4,hk4⟩:=fin none W3 hk3
       have hs3' : W.heap.size ≤ W3.heap.size:=by have := hWa.size;simp at hs3;omega
       exact ⟨_,_,hr,left W3 _ hk3,hsize hs3 _,.inl ⟨rfl,turn hI _ hs3' hi3,hp,hl4,hk4⟩⟩
     | ret =>
       obtain ⟨hk3,hs3,hi3⟩:=hp3
       obtain ⟨hr,hl3,hl4,hk4⟩:=fin (some .ret) W3 hk3
       have hs3' : W.heap.size ≤ W3.heap.size:=by have := hWa.size;simp at hs3;omega
       exact ⟨_,_,hr,left W3 _ hk3,hsize hs3 _,.inr ⟨rfl,.ret,turn (hIx _) _ hs3' hi3,hp,hl4,hk4⟩⟩
     | exit id =>
       obtain ⟨hk3,hs3,hi3⟩:=hp3
       obtain ⟨hr,hl3,hl4,hk4⟩:=fin (some (.exit id)) W3 hk3
       have hs3' : W.heap.size ≤ W3.heap.size:=by have := hWa.size;simp at hs3;omega
       exact ⟨_,_,hr,left W3 _ hk3,hsize hs3 _,.inr ⟨rfl,.exit id,turn (hIx _) _ hs3' hi3,hp,hl4,hk4⟩⟩
     | goto t =>
       obtain ⟨hk3,hs3,hi3⟩:=hp3
       obtain ⟨hr,hl3,hl4,hk4⟩:=fin (some (.goto t)) W3 hk3
       have hs3' : W.heap.size ≤ W3.heap.size:=by have := hWa.size;simp at hs3;omega
       exact ⟨_,_,hr,left W3 _ hk3,hsize hs3 _,.inr ⟨rfl,.goto t,turn (hIx _) _ hs3' hi3,hp,hl4,hk4⟩⟩
     | panic ch => exact hp3.elim
     | outgrown => exact hp3.elim
   | _ => exact hE.elim
  ·-- BEHIND THE ITERATOR
   rintro e W2 ⟨⟨v,rfl⟩,Pv,hlt,(⟨xs,hS,hi,hp,hl,hk⟩ | ⟨pre,hSp,c,hi,hp,hl,hk⟩)⟩
   ·have hz : w.heap.size + 1 < W2.heap.size:=(Array.getElem?_eq_some_iff.1 hl).1
    have hMlt : ∀ b,M Pv b → b < W2.heap.size:=fun b hb => by
     rw [hM] at hb
     rcases hb with h | rfl | rfl
     ·exact hlt b h
     ·omega
     ·omega
    exact ⟨none,_,by have := run_endLoop (P:=P) hl (by rw [hrec];simp);rw [hrec] at this;exact this,hdone (M Pv) xs _ (hSl _ _ _ hS (Part.putObj _ _ rfl)) (hI _ _ _ _ _ hi (Part.putObj _ _ (hMl Pv)) (fun b hb => Or.inl hb) (fun b hb => by have := hMlt b hb;simp;omega)) (hMd Pv) (hMl Pv) (fun b hb => by have := hMlt b hb;simp;omega) ((World.putObj_heap_other (by omega)).trans hk)⟩
   ·have hz : w.heap.size + 1 < W2.heap.size:=(Array.getElem?_eq_some_iff.1 hl).1
    have hMlt : ∀ b,M Pv b → b < W2.heap.size:=fun b hb => by
     rw [hM] at hb
     rcases hb with h | rfl | rfl
     ·exact hlt b h
     ·omega
     ·omega
    exact ⟨some c,_,by have := run_endLoop (P:=P) hl (by rw [hrec];simp);rw [hrec] at this;exact this,hstop c (M Pv) pre _ (hSpl _ _ _ hSp (Part.putObj _ _ rfl)) (hIx c _ _ _ _ _ hi (Part.putObj _ _ (hMl Pv)) (fun b hb => Or.inl hb) (fun b hb => by have := hMlt b hb;simp;omega)) (hMd Pv) (hMl Pv) (fun b hb => by have := hMlt b hb;simp;omega) ((World.putObj_heap_other (by omega)).trans hk)⟩
end Go.Proofs.YtbalioicgpgehaaGreatDoor
namespace Go.Proofs.YtbalioicgpgehaaGreatDoor
set_option maxRecDepth 100000
set_option maxHeartbeats 4000000
open Go.RowKit
inductive Ord (W : World) (Q : Nat → Prop) : Option Addr → Nat → List (Array Value) → Prop
 | nil (A : Option Addr) : Ord W Q A 0 []
 | cons (a : Addr) (n : Nat) (cs : Array Value) (A1 A2 : Option Addr) (n1 n2 c1 c2 : Nat) (l1 l2 l3 : List (Array Value)) : Q a.block → a.block < W.heap.size → cs.size = 24 → cs.all (·.oneCell') = true → n1 ≤ maxLen → n2 ≤ maxLen →
    (∀ (j : Nat) (v : Value),cs[j]? = some v → W.cell? (a.add j) = some v) → cs[22]? = some (.slice A1 n1 c1) → cs[23]? = some (.slice A2 n2 c2) →
    Ord W Q A1 n1 l1 → Ord W Q A2 n2 l2 → Ord W Q (some (a.add 24)) n l3 → Ord W Q (some a) (n + 1) (cs :: (l1 ++ (l2 ++ l3)))
theorem Ord.keep {W W' : World} {Q : Nat → Prop} (hk : ∀ b,Q b → W'.heap[b]? = W.heap[b]?) (hs : ∀ b,Q b → b < W'.heap.size) {A : Option Addr} {n : Nat} {l : List (Array Value)} (h : Ord W Q A n l) : Ord W' Q A n l:=by
 induction h with
 | nil A => exact .nil A
 | cons a n cs A1 A2 n1 n2 c1 c2 l1 l2 l3 hq hb h24 h1c m1 m2 hc h22 h23 _ _ _ i1 i2 i3 =>
   refine .cons a n cs A1 A2 n1 n2 c1 c2 l1 l2 l3 hq (hs _ hq) h24 h1c m1 m2 (fun j v hv => ?_) h22 h23 i1 i2 i3
   rw [← hc j v hv]
   refine World.cell?_of_block (w:=W) ?_
   have e : (a.add j).block = a.block:=by unfold Addr.add;split <;> rfl
   rw [e]
   exact hk _ hq
theorem Ord.zero {W : World} {Q : Nat → Prop} {A : Option Addr} {ls : List (Array Value)} (h : Ord W Q A 0 ls) : ls = []:=by
 cases h
 rfl
theorem Ord.pos {W : World} {Q : Nat → Prop} {A : Option Addr} {n : Nat} {ls : List (Array Value)} (h : Ord W Q A (n + 1) ls) :
 ∃ (a : Addr) (cs : Array Value) (A1 A2 : Option Addr) (n1 n2 c1 c2 : Nat) (l1 l2 l3 : List (Array Value)),A = some a ∧ ls = cs :: (l1 ++ (l2 ++ l3)) ∧ Q a.block ∧ a.block < W.heap.size ∧ cs.size = 24 ∧ cs.all (·.oneCell') = true ∧ n1 ≤ maxLen ∧ n2 ≤ maxLen ∧
  (∀ (j : Nat) (v : Value),cs[j]? = some v → W.cell? (a.add j) = some v) ∧ cs[22]? = some (.slice A1 n1 c1) ∧ cs[23]? = some (.slice A2 n2 c2) ∧ Ord W Q A1 n1 l1 ∧ Ord W Q A2 n2 l2 ∧ Ord W Q (some (a.add 24)) n l3:=by
 cases h with
 | cons a n cs A1 A2 n1 n2 c1 c2 l1 l2 l3 hq hb h24 h1c m1 m2 hc h22 h23 i1 i2 i3 => exact ⟨a,cs,A1,A2,n1,n2,c1,c2,l1,l2,l3,rfl,rfl,hq,hb,h24,h1c,m1,m2,hc,h22,h23,i1,i2,i3⟩
theorem Ord.sized {W : World} {Q : Nat → Prop} {A : Option Addr} {n : Nat} {ls : List (Array Value)} (h : Ord W Q A n ls) : ∀ {k : Nat} {cs : Array Value},ls[k]? = some cs → cs.size = 24 ∧ cs.all (·.oneCell') = true:=by
 have key : ∀ cs ∈ ls,cs.size = 24 ∧ cs.all (·.oneCell') = true:=by
  induction h with
  | nil A => intro cs hc;cases hc
  | cons a n cs A1 A2 n1 n2 c1 c2 l1 l2 l3 hq hb h24 h1c m1 m2 hc h22 h23 _ _ _ i1 i2 i3 =>
    intro x hx
    rcases List.mem_cons.1 hx with rfl | hx
    ·exact ⟨h24,h1c⟩
    ·rcases List.mem_append.1 hx with hx | hx
     ·exact i1 x hx
     ·rcases List.mem_append.1 hx with hx | hx
      ·exact i2 x hx
      ·exact i3 x hx
 intro k cs hk
 exact key cs (List.mem_of_getElem? hk)
theorem cell_of_block {W : World} {b : Nat} {cs : Array Value} {t : TypeId} (h : W.heap[b]? = some (.cells cs t (0,0))) (j : Nat) {v : Value} (hv : cs[j]? = some v) : W.cell? ⟨b,j,none⟩ = some v:=by
 simp [World.cell?,h,hv]
theorem add_add_plain (a : Addr) (i j : Nat) : (a.add i).add j = a.add (i + j):=by
 unfold Addr.add
 by_cases h1 : i = 0 <;> by_cases h2 : j = 0 <;> simp [h1,h2,Nat.add_assoc]
theorem add_block0 (b j : Nat) : (⟨b,0,none⟩ : Addr).add j = ⟨b,j,none⟩:=by
 unfold Addr.add
 split
 ·next h => subst h;rfl
 ·simp
def YPost (Q : Nat → Prop) (J Jx : (Nat → Prop) → List (Array Value) → World → Prop) (Pv : Nat → Prop) (xs : List (Array Value)) (W : World) (e : Ending) (W' : World) : Prop :=
 (∀ b,b < W.heap.size → Pv b ∨ Q b → W'.heap[b]? = W.heap[b]?) ∧ W.heap.size ≤ W'.heap.size ∧ ((e = .returned (.bool true) ∧ J Pv xs W') ∨ (e = .returned (.bool false) ∧ Jx Pv xs W'))
structure YaPost (Q : Nat → Prop) (J Jx : (Nat → Prop) → List (Array Value) → World → Prop) (Pv : Nat → Prop) (pre ls : List (Array Value)) (W : World) (e : Ending) (W' : World) : Prop where
 keep : ∀ b,b < W.heap.size → Pv b ∨ Q b → W'.heap[b]? = W.heap[b]?
 size : W.heap.size ≤ W'.heap.size
 out : ∃ Pv' : Nat → Prop,(∀ b,Pv b → Pv' b) ∧ (∀ b,Pv' b → b < W'.heap.size) ∧ (∀ b,Pv' b → Pv b ∨ W.heap.size ≤ b) ∧
  ((e = .returned (.bool true) ∧ J Pv' (pre ++ ls) W') ∨ (e = .returned (.bool false) ∧ ∃ q,q <+: ls ∧ Jx Pv' (pre ++ q) W'))
theorem stmt_runs' : (∀ w : World,(isAgg 36).run Tryz.prog w = .ok true w) ∧ (∀ w : World,(sizeOf 36).run Tryz.prog w = .ok 24 w) :=
 ⟨fun w => by kernel_rfl,fun w => by kernel_rfl⟩
theorem stmt_hidden : ∃ (T N : Nat),36 = T ∧ N = 24 ∧ (∀ w : World,(isAgg T).run Tryz.prog w = .ok true w) ∧ (∀ w : World,(sizeOf T).run Tryz.prog w = .ok N w) :=
 ⟨_,24,rfl,rfl,stmt_runs'.1,stmt_runs'.2⟩
theorem load_list {W : World} {a : Addr} {N : Nat} {cs : Array Value} (h : ∀ (j : Nat) (v : Value),cs[j]? = some v → W.cell? (a.add j) = some v) (hN : cs.size = N) : (loadCellsFrom a 0 N #[]).run Tryz.prog W = .ok cs W:=by
 have := run_loadCells_list (P:=Tryz.prog) (w:=W) a cs.toList (fun j v hv => h j v (by simpa using hv))
 rw [Array.length_toList,hN] at this
 simpa [loadCells] using this
theorem store_new {w : World} {cs : Array Value} (h24 : cs.size = 24) (h1 : cs.all (·.oneCell') = true) :
 (storeCells ⟨w.heap.size,0,none⟩ cs.toList).run Tryz.prog (w.alloc (.cells #[.int .i64 0,.int .i64 0,.int .i64 0,.string ⟨#[]⟩,.string ⟨#[]⟩,.string ⟨#[]⟩,.int .i64 0,.int .i64 0,.string ⟨#[]⟩,.slice none 0 0,.int .i64 0,.int .i64 0,.int .i64 0,.string ⟨#[]⟩,.slice none 0 0,.int .i64 0,.int .i64 0,.string ⟨#[]⟩,.slice none 0 0,.slice none 0 0,.slice none 0 0,.slice none 0 0,.slice none 0 0,.slice none 0 0] 36)) = .ok () (w.alloc (.cells cs 36)):=by
 have := run_storeCells_from (P:=Tryz.prog) w.heap.size 36 cs.toList 0 #[.int .i64 0,.int .i64 0,.int .i64 0,.string ⟨#[]⟩,.string ⟨#[]⟩,.string ⟨#[]⟩,.int .i64 0,.int .i64 0,.string ⟨#[]⟩,.slice none 0 0,.int .i64 0,.int .i64 0,.int .i64 0,.string ⟨#[]⟩,.slice none 0 0,.int .i64 0,.int .i64 0,.string ⟨#[]⟩,.slice none 0 0,.slice none 0 0,.slice none 0 0,.slice none 0 0,.slice none 0 0,.slice none 0 0] (w.alloc (.cells #[.int .i64 0,.int .i64 0,.int .i64 0,.string ⟨#[]⟩,.string ⟨#[]⟩,.string ⟨#[]⟩,.int .i64 0,.int .i64 0,.string ⟨#[]⟩,.slice none 0 0,.int .i64 0,.int .i64 0,.int .i64 0,.string ⟨#[]⟩,.slice none 0 0,.int .i64 0,.int .i64 0,.string ⟨#[]⟩,.slice none 0 0,.slice none 0 0,.slice none 0 0,.slice none 0 0,.slice none 0 0,.slice none 0 0] 36)) (heap_of_alloc _ _) (by simp [h24]) (fun v hv => (Array.all_eq_true_iff_forall_mem.1 h1) v (by simpa using hv))
 rw [show ((#[.int .i64 0,.int .i64 0,.int .i64 0,.string ⟨#[]⟩,.string ⟨#[]⟩,.string ⟨#[]⟩,.int .i64 0,.int .i64 0,.string ⟨#[]⟩,.slice none 0 0,.int .i64 0,.int .i64 0,.int .i64 0,.string ⟨#[]⟩,.slice none 0 0,.int .i64 0,.int .i64 0,.string ⟨#[]⟩,.slice none 0 0,.slice none 0 0,.slice none 0 0,.slice none 0 0,.slice none 0 0,.slice none 0 0] : Array Value).toList.take 0 ++ cs.toList).toArray = cs by simp,World.setRow_alloc_new] at this
 exact this
structure YaSt (Q : Nat → Prop) (J : (Nat → Prop) → List (Array Value) → World → Prop) (base : Nat) (Pv : Nat → Prop) (W : World) (pre dn : List (Array Value)) (B : Nat) (cs : Array Value) (Pv' : Nat → Prop) (Wx : World) : Prop where
 j : J Pv' (pre ++ dn) Wx
 sub : ∀ b,Pv b → Pv' b
 lt : ∀ b,Pv' b → b < Wx.heap.size
 ge : ∀ b,Pv' b → base ≤ b
 new : ∀ b,Pv' b → Pv b ∨ W.heap.size ≤ b
 own : Pv' B
 keep : ∀ b,b < W.heap.size → Pv b ∨ Q b → Wx.heap[b]? = W.heap[b]?
 size : W.heap.size ≤ Wx.heap.size
 box : Wx.heap[B]? = some (.cells cs 36 (0,0))
def YaFail (Q : Nat → Prop) (Jx : (Nat → Prop) → List (Array Value) → World → Prop) (Pv : Nat → Prop) (W : World) (pre ls : List (Array Value)) (Wx : World) : Prop :=
 (∀ b,b < W.heap.size → Pv b ∨ Q b → Wx.heap[b]? = W.heap[b]?) ∧ W.heap.size ≤ Wx.heap.size ∧ ∃ Pv' : Nat → Prop,(∀ b,Pv b → Pv' b) ∧ (∀ b,Pv' b → b < Wx.heap.size) ∧ (∀ b,Pv' b → Pv b ∨ W.heap.size ≤ b) ∧ ∃ q,q <+: ls ∧ Jx Pv' (pre ++ q) Wx
theorem YaSt.yield {Q : Nat → Prop} {J Jx : (Nat → Prop) → List (Array Value) → World → Prop} {base : Nat} {Pv Pv' : Nat → Prop} {W Wx W2 : World} {pre dn : List (Array Value)} {B : Nat} {cs : Array Value} {ls : List (Array Value)} {e : Ending}
 (h : YaSt Q J base Pv W pre dn B cs Pv' Wx) (hp : YPost Q J Jx Pv' (pre ++ dn ++ [cs]) Wx e W2) (hq : dn ++ [cs] <+: ls) :
 (e = .returned (.bool true) ∧ YaSt Q J base Pv W pre (dn ++ [cs]) B cs Pv' W2) ∨ (e = .returned (.bool false) ∧ YaFail Q Jx Pv W pre ls W2):=by
 obtain ⟨hk,hs,ho⟩:=hp
 have keep' : ∀ b,b < W.heap.size → Pv b ∨ Q b → W2.heap[b]? = W.heap[b]?:=fun b hb hpq => (hk b (Nat.lt_of_lt_of_le hb h.size) (hpq.imp (h.sub b) id)).trans (h.keep b hb hpq)
 have lt' : ∀ b,Pv' b → b < W2.heap.size:=fun b hb => Nat.lt_of_lt_of_le (h.lt b hb) hs
 rcases ho with ⟨rfl,hj⟩ | ⟨rfl,hx⟩
 ·exact .inl ⟨rfl,⟨by rw [← List.append_assoc];exact hj,h.sub,lt',h.ge,h.new,h.own,keep',Nat.le_trans h.size hs,(hk B (h.lt B h.own) (Or.inl h.own)).trans h.box⟩⟩
 ·exact .inr ⟨rfl,keep',Nat.le_trans h.size hs,Pv',h.sub,lt',h.new,dn ++ [cs],hq,by rw [← List.append_assoc];exact hx⟩
theorem YaSt.all {Q : Nat → Prop} {J Jx : (Nat → Prop) → List (Array Value) → World → Prop} {base : Nat} {Pv Pv' : Nat → Prop} {W Wx W2 : World} {pre dn : List (Array Value)} {B : Nat} {cs : Array Value} {ls l1 : List (Array Value)} {e : Ending}
 (h : YaSt Q J base Pv W pre dn B cs Pv' Wx) (hb : base ≤ W.heap.size) (hp : YaPost Q J Jx Pv' (pre ++ dn) l1 Wx e W2) (hq : dn ++ l1 <+: ls) :
 (e = .returned (.bool true) ∧ ∃ Pv2,YaSt Q J base Pv W pre (dn ++ l1) B cs Pv2 W2) ∨ (e = .returned (.bool false) ∧ YaFail Q Jx Pv W pre ls W2):=by
 obtain ⟨hk,hs,Pv2,s1,s2,s3,ho⟩:=hp
 have keep' : ∀ b,b < W.heap.size → Pv b ∨ Q b → W2.heap[b]? = W.heap[b]?:=fun b hb hpq => (hk b (Nat.lt_of_lt_of_le hb h.size) (hpq.imp (h.sub b) id)).trans (h.keep b hb hpq)
 have new' : ∀ b,Pv2 b → Pv b ∨ W.heap.size ≤ b:=fun b hb => (s3 b hb).elim (h.new b) fun hle => Or.inr (Nat.le_trans h.size hle)
 have ge' : ∀ b,Pv2 b → base ≤ b:=fun b hb' => (s3 b hb').elim (h.ge b) fun hle => Nat.le_trans hb (Nat.le_trans h.size hle)
 rcases ho with ⟨rfl,hj⟩ | ⟨rfl,q,hq2,hx⟩
 ·exact .inl ⟨rfl,Pv2,⟨by rw [← List.append_assoc];exact hj,fun b hb => s1 b (h.sub b hb),s2,ge',new',s1 B h.own,keep',Nat.le_trans h.size hs,(hk B (h.lt B h.own) (Or.inl h.own)).trans h.box⟩⟩
 ·refine .inr ⟨rfl,keep',Nat.le_trans h.size hs,Pv2,fun b hb => s1 b (h.sub b hb),s2,new',dn ++ q,?_,by rw [← List.append_assoc];exact hx⟩
  obtain ⟨r,hr⟩:=hq2
  obtain ⟨r2,hr2⟩:=hq
  exact ⟨r ++ r2,by rw [← hr2,← hr];simp⟩
theorem ya_in (F : Fence) (hd : F.depth = none) (h143 : F.fn 57) (hro : F.round = none) (l base : Nat) (Q : Nat → Prop) (J Jx : (Nat → Prop) → List (Array Value) → World → Prop) (whole : List (Array Value))
 (hJ : Abid J) (hQ : ∀ b,Q b → b < base)
 (hY : ∀ m Pv pre cs W,J Pv pre W → (∀ b,Pv b → b < W.heap.size) → (∀ b,Pv b → base ≤ b) → pre ++ [cs] <+: whole → YieldAt F m Tryz.prog l #[.agg cs] W (YPost Q J Jx Pv (pre ++ [cs]) W)) :
 ∀ (N : Nat) (ls : List (Array Value)),ls.length < N → ∀ (m n c : Nat) (A : Option Addr) (Pv : Nat → Prop) (pre : List (Array Value)) (W : World),n ≤ maxLen → Ord W Q A n ls → J Pv pre W → (∀ b,Pv b → b < W.heap.size) → (∀ b,Pv b → base ≤ b) → base ≤ W.heap.size → pre ++ ls <+: whole →
  CallsIn F m Tryz.prog 57 #[.slice A n c,.func (.yield l) #[] #[]] W (YaPost Q J Jx Pv pre ls W):=by
 intro N
 induction N with
 | zero => intro ls h;omega
 | succ N ih =>
   intro ls hls m n c A Pv pre W hn hO hj hPl hPb hbase hpre
   have hdd : ∀ k : Nat,(F.depth.isSome = true → 1 ≤ k):=fun k h => by rw [hd] at h;cases h
   obtain ⟨T,M,hT,hM,hag,hsz⟩:=stmt_hidden
   have e1 : ∀ y : Operand,Op.load 36 y = Op.load T y:=fun y => by rw [hT]
   have e2 : ∀ y z : Operand,Op.store 36 y z = Op.store T y z:=fun y z => by rw [hT]
   have HH:=Lib.hid (And.intro hO (And.intro hj (And.intro hPl (And.intro hPb (And.intro hpre (And.intro ih (And.intro hM hls)))))))
   have HY:=Lib.hid hY
   clear hO hj hPl hPb hpre ih hls hM hY
   refine callsIn_of_wp Tryz.func57 rfl h143 ?_ hro
   simp only [Tryz.ntmps57,List.size_toArray,List.length_cons,List.length_nil,Nat.reduceAdd,Nat.reduceSub,Array.replicate_succ,Array.replicate_zero,List.push_toArray,List.append_toArray,List.nil_append,List.cons_append,e1,e2]
   clear e1 e2 hT
   gi_wp2
   gi_loopw [9] (fun p wr => ∃ (k : Nat) (done rest : List (Array Value)) (Pv1 : Nat → Prop),p = .int .i64 k ∧ k ≤ n ∧ ls = done ++ rest ∧ Ord wr Q (A.map fun a => a.add (k * 24)) (n - k) rest ∧ J Pv1 (pre ++ done) wr ∧ (∀ b,Pv b → Pv1 b) ∧ (∀ b,Pv1 b → b < wr.heap.size) ∧ (∀ b,Pv1 b → Pv b ∨ W.heap.size ≤ b) ∧ (∀ b,b < W.heap.size → Pv b ∨ Q b → wr.heap[b]? = W.heap[b]?) ∧ W.heap.size ≤ wr.heap.size)
    (fun p wr => n - (intOf p).toNat)
   case atStart =>
    refine ⟨0,[],ls,Pv,rfl,Nat.zero_le _,rfl,?_,by rw [List.append_nil];exact HH.out.2.1,fun _ h => h,HH.out.2.2.1,fun _ h => Or.inl h,fun _ _ _ => rfl,Nat.le_refl _⟩
    have := HH.out.1
    cases A with
    | none => exact this
    | some a => rw [show (some a).map (fun a => a.add (0 * 24)) = some a by simp [Addr.add]];exact this
   case round =>
    obtain ⟨k,done,rest,Pv1,rfl,hk,hls,hOr,hj1,hsub,hlt1,hnew,hkeep,hsize⟩:=hrel
    by_cases hlt : k < n
    ·obtain ⟨n',hn'⟩ : ∃ n',n - k = n' + 1:=⟨n - k - 1,by omega⟩
     rw [hn'] at hOr
     obtain ⟨a,cs,A1,A2,n1,n2,c1,c2,l1,l2,l3,hA,hrest,hq,hb,h24,h1c,m1,m2,hc,h22,h23,i1,i2,i3⟩:=hOr.pos
     obtain ⟨a0,rfl⟩ : ∃ a0,A = some a0:=by cases A with | none => cases hA | some a0 => exact ⟨a0,rfl⟩
     obtain rfl : a0.add (k * 24) = a:=Option.some.inj hA
     have hszc : cs.size = M:=h24.trans HH.out.2.2.2.2.2.2.1.symm
     have hl1:=load_list (N:=M) hc hszc
     have hst:=store_new (w:=wr) h24 h1c
     have hbx:=heap_of_alloc wr (.cells cs 36)
     have hl2:=load_list (W:=wr.alloc (.cells cs 36)) (a:=⟨wr.heap.size,0,none⟩) (N:=M) (cs:=cs) (fun j v hv => by rw [add_block0];exact cell_of_block hbx j hv) hszc
     have hS1 : YaSt Q J base Pv W pre done wr.heap.size cs (fun b => Pv1 b ∨ b = wr.heap.size) (wr.alloc (.cells cs 36)):=by
      have hz:=size_of_alloc wr (.cells cs 36)
      refine ⟨hJ _ _ _ _ _ hj1 (Part.alloc _ _) (fun b hb => hb.imp id fun e => Nat.le_of_eq e.symm) (fun b hb => ?_),fun b hb => Or.inl (hsub b hb),fun b hb => ?_,fun b hb => ?_,fun b hb => ?_,Or.inr rfl,fun b hb hpq => ?_,by omega,hbx⟩
      ·rcases hb with hb | rfl
       ·have := hlt1 b hb;omega
       ·omega
      ·rcases hb with hb | rfl
       ·have := hlt1 b hb;omega
       ·omega
      ·rcases hb with hb | rfl
       ·exact (hnew b hb).elim (HH.out.2.2.2.1 b) (fun hle => Nat.le_trans hbase hle)
       ·exact Nat.le_trans hbase hsize
      ·rcases hb with hb | rfl
       ·exact hnew b hb
       ·exact Or.inr hsize
      ·exact (Below.heap_alloc wr _ b (Nat.lt_of_lt_of_le hb hsize)).trans (hkeep b hb hpq)
     have hq1 : done ++ [cs] <+: ls:=⟨l1 ++ (l2 ++ l3),by rw [hls,hrest];simp⟩
     have hq2 : done ++ [cs] ++ l1 <+: ls:=⟨l2 ++ l3,by rw [hls,hrest];simp⟩
     have hq3 : done ++ [cs] ++ l1 ++ l2 <+: ls:=⟨l3,by rw [hls,hrest];simp⟩
     have hR0:=HY.out (m - 1) _ _ cs _ hS1.j hS1.lt hS1.ge (by
      refine List.IsPrefix.trans ?_ HH.out.2.2.2.2.1
      rw [List.append_assoc]
      exact (List.prefix_append_right_inj pre).2 hq1)
     obtain ⟨fn,tmps,assign,body,hy,hR1⟩:=hR0
     have hR:=hR1.mono (R':=fun e W2 => (e = .returned (.bool true) ∧ W2.cell? ⟨wr.heap.size,22,none⟩ = some (.slice A1 n1 c1) ∧ Hid (YaSt Q J base Pv W pre (done ++ [cs]) wr.heap.size cs (fun b => Pv1 b ∨ b = wr.heap.size) W2)) ∨ (e = .returned (.bool false) ∧ Hid (YaFail Q Jx Pv W pre ls W2))) (fun e W2 hp => (hS1.yield hp hq1).elim (fun h => .inl ⟨h.1,cell_of_block h.2.box 22 h22,h.2⟩) .inr)
     clear hR1
     have stay : ∀ (Wx Wy : World),(∀ b,b < W.heap.size → Pv b ∨ Q b → Wx.heap[b]? = W.heap[b]?) → (∀ b,b < W.heap.size → Pv b ∨ Q b → Wy.heap[b]? = W.heap[b]?) → W.heap.size ≤ Wy.heap.size → ∀ {A : Option Addr} {n : Nat} {l : List (Array Value)},Ord Wx Q A n l → Ord Wy Q A n l:=fun Wx Wy hx hy hs A n l h =>
      h.keep (fun b hb => (hy b (Nat.lt_of_lt_of_le (hQ b hb) hbase) (Or.inr hb)).trans (hx b (Nat.lt_of_lt_of_le (hQ b hb) hbase) (Or.inr hb)).symm) (fun b hb => Nat.lt_of_lt_of_le (hQ b hb) (Nat.le_trans hbase hs))
     have hlen : ls.length = done.length + 1 + l1.length + l2.length + l3.length:=by rw [hls,hrest];simp;omega
     have hB1 : Hid (∀ W2,Hid (YaSt Q J base Pv W pre (done ++ [cs]) wr.heap.size cs (fun b => Pv1 b ∨ b = wr.heap.size) W2) → CallsIn F (m - 1) Tryz.prog 57 #[.slice A1 n1 c1,.func (.yield l) #[] #[]] W2 fun e W3 =>
      (e = .returned (.bool true) ∧ W3.cell? ⟨wr.heap.size,23,none⟩ = some (.slice A2 n2 c2) ∧ ∃ Pv3,Hid (YaSt Q J base Pv W pre (done ++ [cs] ++ l1) wr.heap.size cs Pv3 W3)) ∨ (e = .returned (.bool false) ∧ Hid (YaFail Q Jx Pv W pre ls W3))):=Lib.hid (fun W2 h =>
      (HH.out.2.2.2.2.2.1 l1 (by have := HH.out.2.2.2.2.2.2.2;omega) (m - 1) n1 c1 A1 _ (pre ++ (done ++ [cs])) W2 m1 (stay wr W2 hkeep h.out.keep h.out.size i1) h.out.j h.out.lt h.out.ge (Nat.le_trans hbase h.out.size) (by
        refine List.IsPrefix.trans ?_ HH.out.2.2.2.2.1
        rw [List.append_assoc]
        exact (List.prefix_append_right_inj pre).2 hq2)).mono fun e W3 hp => (h.out.all hbase hp hq2).elim (fun ⟨he,Pv3,h3⟩ => .inl ⟨he,cell_of_block h3.box 23 h23,Pv3,h3⟩) .inr)
     have hB2 : Hid (∀ Pv3 W3,Hid (YaSt Q J base Pv W pre (done ++ [cs] ++ l1) wr.heap.size cs Pv3 W3) → CallsIn F (m - 1) Tryz.prog 57 #[.slice A2 n2 c2,.func (.yield l) #[] #[]] W3 fun e W4 =>
      (e = .returned (.bool true) ∧ ∃ Pv4,Hid (YaSt Q J base Pv W pre (done ++ [cs] ++ l1 ++ l2) wr.heap.size cs Pv4 W4)) ∨ (e = .returned (.bool false) ∧ Hid (YaFail Q Jx Pv W pre ls W4))):=Lib.hid (fun Pv3 W3 h =>
      (HH.out.2.2.2.2.2.1 l2 (by have := HH.out.2.2.2.2.2.2.2;omega) (m - 1) n2 c2 A2 _ (pre ++ (done ++ [cs] ++ l1)) W3 m2 (stay wr W3 hkeep h.out.keep h.out.size i2) h.out.j h.out.lt h.out.ge (Nat.le_trans hbase h.out.size) (by
        refine List.IsPrefix.trans ?_ HH.out.2.2.2.2.1
        rw [List.append_assoc]
        exact (List.prefix_append_right_inj pre).2 hq3)).mono fun e W4 hp => (h.out.all hbase hp hq3).elim (fun ⟨he,Pv4,h4⟩ => .inl ⟨he,Pv4,h4⟩) .inr)
     have HK:=Lib.hid (And.intro (fun W4 Pv4 (h4 : YaSt Q J base Pv W pre (done ++ [cs] ++ l1 ++ l2) wr.heap.size cs Pv4 W4) => stay wr W4 hkeep h4.keep h4.size i3) (And.intro hls hrest))
     clear stay hlen hOr hj1 hsub hlt1 hnew hkeep hc h22 h23 i1 i2 i3 hA hq1 hq2 hq3 hS1 hls hrest hq h24 h1c hJ hQ
     have hki : (k : Int) < n:=by omega
     unfold maxLen at m1 m2 hn
     gi_wp2_with (first
      | ((try refine ⟨hdd _,?_⟩);refine hR.mono ?_;clear hR;rintro e W2 (⟨rfl,q22,HS2⟩ | ⟨rfl,HF⟩))
      | ((try refine ⟨hdd _,?_⟩);gi_at_call 57;refine (hB1.out _ HS2).mono ?_;clear hB1;rintro e W3 (⟨rfl,q23,Pv3,HS3⟩ | ⟨rfl,HF⟩))
      | ((try refine ⟨hdd _,?_⟩);gi_at_call 57;refine (hB2.out _ _ HS3).mono ?_;clear hB2;rintro e W4 (⟨rfl,Pv4,HS4⟩ | ⟨rfl,HF⟩)))
     case roundEnd =>
      refine ⟨⟨k + 1,done ++ [cs] ++ l1 ++ l2,l3,Pv4,rfl,hlt,?_,?_,HS4.out.j,HS4.out.sub,HS4.out.lt,HS4.out.new,HS4.out.keep,HS4.out.size⟩,by simp [intOf];omega⟩
      ·rw [HK.out.2.1,HK.out.2.2];simp
      ·have h3:=HK.out.1 W4 Pv4 HS4.out
       rw [show n - (k + 1) = n' by omega]
       have ea : (a0.add (k * 24)).add 24 = a0.add ((k + 1) * 24):=by
        rw [add_add_plain,show k * 24 + 24 = (k + 1) * 24 by omega]
       rw [ea] at h3
       exact h3
     all_goals go_ret
     all_goals exact ⟨HF.out.1,HF.out.2.1,by obtain ⟨Pv5,s1,s2,s3,q,hq5,hx5⟩:=HF.out.2.2;exact ⟨Pv5,s1,s2,s3,.inr ⟨rfl,q,hq5,hx5⟩⟩⟩
    ·obtain rfl : k = n:=by omega
     rw [Nat.sub_self] at hOr
     obtain rfl:=hOr.zero
     rw [List.append_nil] at hls
     subst hls
     have HZ:=Lib.hid (And.intro hj1 (And.intro hsub (And.intro hlt1 (And.intro hnew (And.intro hkeep hsize)))))
     clear hj1 hsub hlt1 hnew hkeep hOr hJ hQ
     gi_wp2
     go_ret
     exact ⟨HZ.out.2.2.2.2.1,HZ.out.2.2.2.2.2,Pv1,HZ.out.2.1,HZ.out.2.2.1,HZ.out.2.2.2.1,.inl ⟨rfl,HZ.out.1⟩⟩
end Go.Proofs.YtbalioicgpgehaaGreatDoor
