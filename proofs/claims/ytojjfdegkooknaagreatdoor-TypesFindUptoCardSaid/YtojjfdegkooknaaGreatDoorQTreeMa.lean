import Derived.Test.YtojjfdegkooknaaGreatDoorQTreeQ
import Derived.Test.YtojjfdegkooknaaGreatDoorQTreeSh
import Derived.Laws.AppendOwn
set_option linter.unusedVariables false
set_option linter.unusedSimpArgs false
namespace Go.Proofs.YtojjfdegkooknaaGreatDoor
open Go.RowKit
def Sub (w0 w : World) : Prop:=∀ (q : Addr) (v : Value),w0.cell? q = some v → w.cell? q = some v
theorem lt_of_cell {w : World} {q : Addr} {v : Value} (h : w.cell? q = some v) : q.block < w.heap.size:=World.block_lt_of_cell? w q h
theorem ExRow.sub {w0 w : World} {B : Nat} (hs : Sub w0 w) {es : List Ex} {A : Option Addr} (h : ExRow w0 B es A) : ExRow w w.heap.size es A:=by
 induction h with
 | nil A => exact .nil A
 | row a es Ad C hb cells sub ih =>
   rcases es with _ | ⟨⟨k,n,s,l⟩,es⟩
   ·exact .nil _
   have h0:=lt_of_cell (hs _ _ (cells 0 k n s l rfl).1)
   rw [block_adds] at h0
   refine .row a _ Ad C h0 (fun i k n s l hi => ?_) ih
   obtain ⟨h0,h1,h2,h3,h4,h5⟩:=cells i k n s l hi
   exact ⟨hs _ _ h0,hs _ _ h1,hs _ _ h2,hs _ _ h3,h4,h5⟩
theorem CCells.sub {w0 w : World} (hs : Sub w0 w) {p : Addr} {k ak an : Int} {sa : List UInt8} {la : Value} {bk bn : Int} {sb : List UInt8} {lb ll : Value} (h : CCells w0 p k ak an sa la bk bn sb lb ll) : CCells w p k ak an sa la bk bn sb lb ll :=
 ⟨hs _ _ h.c0,hs _ _ h.c1,hs _ _ h.c2,hs _ _ h.c3,hs _ _ h.c4,hs _ _ h.c5,hs _ _ h.c6,hs _ _ h.c7,hs _ _ h.c8,hs _ _ h.c9⟩
theorem CnRow.sub {w0 w : World} {B : Nat} (hs : Sub w0 w) {cs : List Cn} {A : Option Addr} (h : CnRow w0 B cs A) : CnRow w w.heap.size cs A:=by
 induction h with
 | nil A => exact .nil A
 | row a cs Aa Ab Al Ca Cb Cl hb cells sub ih =>
   rcases cs with _ | ⟨⟨k,⟨ak,an,sa,al⟩,⟨bk,bn,sb,bl⟩,l⟩,cs⟩
   ·exact .nil _
   have h0:=lt_of_cell (hs _ _ (cells 0 k ak an sa al bk bn sb bl l rfl).1.c0)
   rw [block_adds] at h0
   refine .row a _ Aa Ab Al Ca Cb Cl h0 (fun i k ak an sa al bk bn sb bl l hi => ?_) ih
   obtain ⟨h1,h2,h3,h4,h5,h6,h7,h8⟩:=cells i k ak an sa al bk bn sb bl l hi
   exact ⟨h1.sub hs,h2,h3,h4,h5,h6,h7.sub hs,h8.sub hs⟩
def Subs {α : Type} (P : World → Nat → Addr → α → Prop) : Prop :=
 ∀ (w0 w : World) (B : Nat) (p : Addr) (x : α),Sub w0 w → P w0 B p x → P w w.heap.size p x ∧ p.block < w.heap.size
theorem RowX.sub {α : Type} {P : World → Nat → Addr → α → Prop} (hP : Subs P) {n : Nat} {w0 w : World} {B : Nat} (hs : Sub w0 w) {es : List α} {A : Option Addr} (h : RowX P n w0 B es A) : RowX P n w w.heap.size es A:=by
 cases h with
 | nil => exact .nil _
 | row a es hb cells =>
   rcases es with _ | ⟨x,es⟩
   ·exact .nil _
   have h0:=(hP w0 w B _ x hs (cells 0 x rfl)).2
   rw [block_adds] at h0
   exact .row a _ h0 (fun i x hi => (hP w0 w B _ x hs (cells i x hi)).1)
theorem pm_subs : Subs PmAt:=fun _ _ _ _ _ hs ⟨h0,h1,h2,h3⟩ => ⟨⟨hs _ _ h0,hs _ _ h1,h2,h3⟩,lt_of_cell (hs _ _ h0)⟩
theorem at_subs : Subs AtAt:=by
 rintro w0 w B p x hs ⟨ak,an,sa,al,bk,bn,sb,bl,Aa,ca,Ab,cb,h1,h2,h3,h4,h5,h6⟩
 exact ⟨⟨ak,an,sa,al,bk,bn,sb,bl,Aa,ca,Ab,cb,h1,h2,⟨hs _ _ h3.c0,hs _ _ h3.c1,hs _ _ h3.c2,hs _ _ h3.c3,hs _ _ h3.c4,hs _ _ h3.c5,hs _ _ h3.c6,hs _ _ h3.c7,hs _ _ h3.c8⟩,h4,h5.sub hs,h6.sub hs⟩,lt_of_cell (hs _ _ h3.c0)⟩
theorem cl_subs : Subs ClAt:=by
 rintro w0 w B p x hs ⟨A,c,h0,h1,h2,h3,h4,h5,h6⟩
 exact ⟨⟨A,c,hs _ _ h0,hs _ _ h1,hs _ _ h2,h3,h4,h5.sub hs,h6⟩,lt_of_cell (hs _ _ h0)⟩
theorem fm_subs : Subs FmAt:=by
 rintro w0 w B p x hs ⟨Ap,cp,Aa,ca,Ac,cc,h0,h1,h2,h3,h4,h5,h6⟩
 exact ⟨⟨Ap,cp,Aa,ca,Ac,cc,hs _ _ h0,hs _ _ h1,hs _ _ h2,h3,h4.sub pm_subs hs,h5.sub at_subs hs,h6.sub cl_subs hs⟩,lt_of_cell (hs _ _ h0)⟩
theorem cal_subs : Subs CalAt:=by
 rintro w0 w B p x hs ⟨A,c,h0,h1,h2,h3,h4,h5,h6⟩
 exact ⟨⟨A,c,hs _ _ h0,hs _ _ h1,hs _ _ h2,h3,h4,h5,h6.sub hs⟩,lt_of_cell (hs _ _ h0)⟩
theorem StOwn.sub {w0 w : World} {B : Nat} (hs : Sub w0 w) {d : SAd} {s : St} (h : StOwn w0 B d s) : StOwn w w.heap.size d s:=by
 obtain ⟨k,ln,co,nm,fd,fr,⟨ek,en,es,el⟩,⟨ck,⟨ak,an,sa,al⟩,⟨bk,bn,sb,bl⟩,l⟩,cl,iv,b,o⟩:=s
 obtain ⟨h0,h1,h2,h3,h4,h5,h6⟩:=h
 exact ⟨h0,h1.sub hs,h2.sub hs,h3.sub hs,h4.sub hs,h5.sub cal_subs hs,h6.sub fm_subs hs⟩
theorem StRow.sub {w0 w : World} {B : Nat} (hs : Sub w0 w) {ss : List St} {A : Option Addr} (h : StRow w0 B ss A) : StRow w w.heap.size ss A:=by
 induction h with
 | nil A => exact .nil A
 | row a ss D hb cells sub1 sub2 ih1 ih2 =>
   rcases ss with _ | ⟨s,ss⟩
   ·exact .nil _
   have h24 : 0 < (stCs (D 0) s).size:=by rw [stCs_size];decide
   have h0:=lt_of_cell (hs _ _ ((cells 0 s rfl).1 0 _ (Array.getElem?_eq_getElem h24)))
   rw [block_adds,block_adds] at h0
   exact .row a _ D h0 (fun i s hi => ⟨fun j v hv => hs _ _ ((cells i s hi).1 j v hv),(cells i s hi).2.sub hs⟩) ih1 ih2
def In (S : Nat → Prop) (w0 w : World) : Prop:=∀ (q : Addr) (v : Value),w0.cell? q = some v → w.cell? q = some v ∧ S q.block
theorem In.toSub {S : Nat → Prop} {w0 w : World} (h : In S w0 w) : Sub w0 w:=fun q v hq => (h q v hq).1
theorem In.stay {S S' : Nat → Prop} {w0 w w' : World} (h : In S w0 w) (hk : ∀ q : Addr,S q.block → w'.cell? q = w.cell? q) (hS : ∀ b,S b → S' b) : In S' w0 w':=fun q v hq =>
 ⟨(hk q (h q v hq).2).trans (h q v hq).1,hS _ (h q v hq).2⟩
def World.upto (w : World) (B : Nat) : World:={ w with heap:=w.heap.extract 0 B }
theorem upto_cell (w : World) (B : Nat) (q : Addr) (hq : q.block < B) : (World.upto w B).cell? q = w.cell? q:=by
 have : (w.heap.extract 0 B)[q.block]? = w.heap[q.block]?:=by
  rw [Array.getElem?_extract]
  simp only [Nat.zero_add,Nat.sub_zero]
  split
  ·rfl
  ·rename_i h
   rw [Array.getElem?_eq_none (by omega)]
 unfold World.cell? World.upto
 simp only [this]
theorem upto_in (w : World) (B : Nat) : In (fun b => b < B) (World.upto w B) w:=by
 intro q v hq
 have h1:=lt_of_cell hq
 have h2 : q.block < B:=by
  unfold World.upto at h1
  simp only [Array.size_extract] at h1
  omega
 exact ⟨by rw [← upto_cell w B q h2];exact hq,h2⟩
def StIn (S : Nat → Prop) (w : World) (ss : List St) (A : Option Addr) : Prop:=∃ w0,In S w0 w ∧ StRow w0 w0.heap.size ss A
theorem StIn.row {S : Nat → Prop} {w : World} {ss : List St} {A : Option Addr} (h : StIn S w ss A) : StRow w w.heap.size ss A:=by
 obtain ⟨w0,h1,h2⟩:=h
 exact h2.sub h1.toSub
theorem StIn.stay {S S' : Nat → Prop} {w w' : World} (hk : ∀ q : Addr,S q.block → w'.cell? q = w.cell? q) (hS : ∀ b,S b → S' b) {ss : List St} {A : Option Addr} (h : StIn S w ss A) : StIn S' w' ss A:=by
 obtain ⟨w0,h1,h2⟩:=h
 exact ⟨w0,h1.stay hk hS,h2⟩
theorem StRow.in_ {w : World} {B : Nat} (hB : B ≤ w.heap.size) {ss : List St} {A : Option Addr} (h : StRow w B ss A) : StIn (fun b => b < B) w ss A:=by
 refine ⟨World.upto w B,upto_in w B,?_⟩
 have hsz : (World.upto w B).heap.size = B:=by
  unfold World.upto
  simp only [Array.size_extract]
  omega
 exact (h.keep (fun q hq => upto_cell w B q hq) (by omega))
end Go.Proofs.YtojjfdegkooknaaGreatDoor
namespace Go.Proofs.YtojjfdegkooknaaGreatDoor
open Go.RowKit
open Classical in
noncomputable def World.mask (w : World) (S : Nat → Prop) : World:={ w with heap:=w.heap.mapIdx fun i o => if S i then o else .cells #[] 0 (0,0) }
theorem mask_at (w : World) (S : Nat → Prop) (q : Addr) (hq : S q.block) : (World.mask w S).cell? q = w.cell? q:=by
 have : (World.mask w S).heap[q.block]? = w.heap[q.block]?:=by
  unfold World.mask
  simp only [Array.getElem?_mapIdx,if_pos hq]
  cases w.heap[q.block]? <;> rfl
 unfold World.cell?
 rw [this]
theorem mask_in (w : World) (S : Nat → Prop) : In S (World.mask w S) w:=by
 intro q v hq
 by_cases h : S q.block
 ·exact ⟨by rw [← mask_at w S q h];exact hq,h⟩
 ·exfalso
  unfold World.cell? at hq
  have e : (World.mask w S).heap[q.block]? = (w.heap[q.block]?).map fun _ => Obj.cells #[] 0 (0,0):=by
   unfold World.mask
   simp only [Array.getElem?_mapIdx,if_neg h]
  rw [e] at hq
  cases hw : w.heap[q.block]? with
  | none => rw [hw] at hq;simp at hq
  | some o =>
    rw [hw] at hq
    simp only [Option.map_some] at hq
    split at hq <;> simp at hq
theorem In.mask {S S' : Nat → Prop} {w0 w : World} (h : In S w0 w) (hS : ∀ b,S b → S' b) : Sub w0 (World.mask w S'):=fun q v hq => by
 obtain ⟨h1,h2⟩:=h q v hq
 rw [mask_at w S' q (hS _ h2)]
 exact h1
theorem StIn.mask {S S' : Nat → Prop} {w : World} {ss : List St} {A : Option Addr} (h : StIn S w ss A) (hS : ∀ b,S b → S' b) : StRow (World.mask w S') (World.mask w S').heap.size ss A:=by
 obtain ⟨w0,h1,h2⟩:=h
 exact h2.sub (h1.mask hS)
def OwnIn (S : Nat → Prop) (w : World) (d : SAd) (s : St) : Prop:=∃ w0,In S w0 w ∧ StOwn w0 w0.heap.size d s
theorem OwnIn.mask {S S' : Nat → Prop} {w : World} {d : SAd} {s : St} (h : OwnIn S w d s) (hS : ∀ b,S b → S' b) : StOwn (World.mask w S') (World.mask w S').heap.size d s:=by
 obtain ⟨w0,h1,h2⟩:=h
 exact h2.sub (h1.mask hS)
theorem OwnIn.stay {S S' : Nat → Prop} {w w' : World} (hk : ∀ q : Addr,S q.block → w'.cell? q = w.cell? q) (hS : ∀ b,S b → S' b) {d : SAd} {s : St} (h : OwnIn S w d s) : OwnIn S' w' d s:=by
 obtain ⟨w0,h1,h2⟩:=h
 exact ⟨w0,h1.stay hk hS,h2⟩
theorem StOwn.in_ {w : World} {B : Nat} (hB : B ≤ w.heap.size) {d : SAd} {s : St} (h : StOwn w B d s) : OwnIn (fun b => b < B) w d s:=by
 refine ⟨World.upto w B,upto_in w B,?_⟩
 have hsz : (World.upto w B).heap.size = B:=by
  unfold World.upto
  simp only [Array.size_extract]
  omega
 exact h.keep (fun q hq => upto_cell w B q hq) (by omega)
def ElIn (S : Nat → Prop) (w : World) (d : SAd) (s : St) : Prop:=OwnIn S w d s ∧ StIn S w s.body d.s ∧ StIn S w s.els d.t
theorem ElIn.stay {S S' : Nat → Prop} {w w' : World} (hk : ∀ q : Addr,S q.block → w'.cell? q = w.cell? q) (hS : ∀ b,S b → S' b) {d : SAd} {s : St} (h : ElIn S w d s) : ElIn S' w' d s :=
 ⟨h.1.stay hk hS,h.2.1.stay hk hS,h.2.2.stay hk hS⟩
def CellsOf (D : Nat → SAd) (ms : List St) (xs : List Value) : Prop:=∀ i s,ms[i]? = some s → ∀ j v,(stCs (D i) s)[j]? = some v → xs[i * 24 + j]? = some v
theorem CellsOf.snoc {D : Nat → SAd} {ms : List St} {xs : List Value} (h : CellsOf D ms xs) (hx : xs.length = ms.length * 24) (d : SAd) (s : St) (hd : D ms.length = d) : CellsOf D (ms ++ [s]) (xs ++ (stCs d s).toList):=by
 intro i t hi j v hj
 have hj24 : j < 24:=by
  have := (Array.getElem?_eq_some_iff.1 hj).1
  rw [stCs_size] at this
  exact this
 by_cases hlt : i < ms.length
 ·rw [List.getElem?_append_left hlt] at hi
  rw [List.getElem?_append_left (by omega)]
  exact h i t hi j v hj
 ·rw [List.getElem?_append_right (by omega)] at hi
  have hi0 : i = ms.length:=by
   rcases Nat.eq_zero_or_pos (i - ms.length) with h0 | h0
   ·omega
   ·rw [List.getElem?_eq_none (by simp only [List.length_cons,List.length_nil];omega)] at hi
    cases hi
  subst hi0
  rw [Nat.sub_self] at hi
  obtain rfl : s = t:=Option.some.inj hi
  rw [List.getElem?_append_right (by omega),hx,Nat.add_sub_cancel_left]
  rw [hd] at hj
  simpa using hj
end Go.Proofs.YtojjfdegkooknaaGreatDoor
namespace Go.Proofs.YtojjfdegkooknaaGreatDoor
open Go.RowKit
def catD (n : Nat) (D1 D2 : Nat → SAd) : Nat → SAd:=fun i => if i < n then D1 i else D2 (i - n)
theorem catD_lt {n : Nat} {D1 D2 : Nat → SAd} {i : Nat} (h : i < n) : catD n D1 D2 i = D1 i:=if_pos h
theorem catD_ge {n : Nat} {D1 D2 : Nat → SAd} {i : Nat} (h : n ≤ i) : catD n D1 D2 i = D2 (i - n):=if_neg (by omega)
theorem CellsOf.append {D1 D2 : Nat → SAd} {ms1 ms2 : List St} {xs1 xs2 : List Value} (h1 : CellsOf D1 ms1 xs1) (hx : xs1.length = ms1.length * 24) (h2 : CellsOf D2 ms2 xs2) : CellsOf (catD ms1.length D1 D2) (ms1 ++ ms2) (xs1 ++ xs2):=by
 intro i t hi j v hj
 have hj24 : j < 24:=by
  have := (Array.getElem?_eq_some_iff.1 hj).1
  rw [stCs_size] at this
  exact this
 by_cases hlt : i < ms1.length
 ·rw [List.getElem?_append_left hlt] at hi
  rw [catD_lt hlt] at hj
  rw [List.getElem?_append_left (by omega)]
  exact h1 i t hi j v hj
 ·rw [List.getElem?_append_right (by omega)] at hi
  rw [catD_ge (by omega)] at hj
  rw [List.getElem?_append_right (by omega),hx]
  have h3:=h2 (i - ms1.length) t hi j v hj
  rw [show i * 24 + j - ms1.length * 24 = (i - ms1.length) * 24 + j from by omega]
  exact h3
end Go.Proofs.YtojjfdegkooknaaGreatDoor
namespace Go.Proofs.YtojjfdegkooknaaGreatDoor
open Go.RowKit
theorem PrOwn.sub {w0 w : World} {B : Nat} (hs : Sub w0 w) {d : PAd} {x : Pr} (h : PrOwn w0 B d x) : PrOwn w w.heap.size d x:=by
 obtain ⟨h0,h1,h2,h3,h4,h5,h6⟩:=h
 exact ⟨h0,h1.sub pm_subs hs,h2.sub pm_subs hs,h3.sub fm_subs hs,h4.sub fm_subs hs,h5.sub pm_subs hs,h6.sub hs⟩
def PrIn (S : Nat → Prop) (w : World) (d : PAd) (x : Pr) : Prop:=∃ w0,In S w0 w ∧ PrOwn w0 w0.heap.size d x
theorem PrIn.stay {S S' : Nat → Prop} {w w' : World} (hk : ∀ q : Addr,S q.block → w'.cell? q = w.cell? q) (hS : ∀ b,S b → S' b) {d : PAd} {x : Pr} (h : PrIn S w d x) : PrIn S' w' d x:=by
 obtain ⟨w0,h1,h2⟩:=h
 exact ⟨w0,h1.stay hk hS,h2⟩
theorem PrIn.own {S : Nat → Prop} {w : World} {d : PAd} {x : Pr} (h : PrIn S w d x) : PrOwn w w.heap.size d x:=by
 obtain ⟨w0,h1,h2⟩:=h
 exact h2.sub h1.toSub
theorem PrOwn.in_ {w : World} {B : Nat} (hB : B ≤ w.heap.size) {d : PAd} {x : Pr} (h : PrOwn w B d x) : PrIn (fun b => b < B) w d x:=by
 refine ⟨World.upto w B,upto_in w B,?_⟩
 have hsz : (World.upto w B).heap.size = B:=by
  unfold World.upto
  simp only [Array.size_extract]
  omega
 exact h.keep (fun q hq => upto_cell w B q hq) (by omega)
theorem PrIn.body {S S' : Nat → Prop} {w : World} {d : PAd} {x : Pr} (h : PrIn S w d x) {bd : List St} {A : Option Addr} {c : Nat} (hb : StIn S' w bd A) (hl : bd.length ≤ maxLen) (ln co : Int) {S2 : Nat → Prop} (h1 : ∀ b,S b → S2 b) (h2 : ∀ b,S' b → S2 b) :
 PrIn S2 w { d with b:=A,nb:=c } { x with ln:=ln,co:=co,bd:=bd }:=by
 obtain ⟨w0,g1,g2⟩:=h
 obtain ⟨⟨a0,a1,a2,a3,a4,a5,a6,a7,a8⟩,b1,b2,b3,b4,b5,b6⟩:=g2.sub (g1.mask h1)
 exact ⟨World.mask w S2,mask_in w S2,⟨a0,a1,a2,a3,a4,a5,a6,a7,hl⟩,b1,b2,b3,b4,b5,hb.mask h2⟩
end Go.Proofs.YtojjfdegkooknaaGreatDoor
