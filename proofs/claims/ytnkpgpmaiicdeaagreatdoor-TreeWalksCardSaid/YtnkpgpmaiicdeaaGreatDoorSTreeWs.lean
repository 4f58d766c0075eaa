/-
  TreeWalks: the states of its two loops, the program that it counts, and a yielded statement beside the one of the flat list.
-/
import Derived.Test.YtnkpgpmaiicdeaaGreatDoorSTreeCn
import Derived.Test.YtnkpgpmaiicdeaaGreatDoorSTreeMo
import Derived.Test.YtnkpgpmaiicdeaaGreatDoorSTreeMj
import Derived.Test.YtnkpgpmaiicdeaaGreatDoorSTreeLy
import Derived.Test.YtnkpgpmaiicdeaaGreatDoorSTreeQg
set_option linter.unusedVariables false
set_option linter.unusedSimpArgs false
namespace Go.Proofs.YtnkpgpmaiicdeaaGreatDoor
open Go.RowKit
structure WlSt (N M : Nat) (W0 : World) (Pv : Nat → Prop) (pre : List (Nat × Array Value)) (W : World) : Prop where
 row : W.heap[N]? = some (.cells #[.int .i64 pre.length] 3 (0,0))
 le : pre.length ≤ M
 off : ∀ b,Pv b → W0.heap.size ≤ b
 size : W0.heap.size ≤ W.heap.size
 keep : ∀ b,b < W0.heap.size → b ≠ N → W.heap[b]? = W0.heap[b]?
 os : W.os = W0.os
 tape : W.tape = W0.tape
 output : W.output = W0.output
theorem WlSt.abid {N M : Nat} {W0 : World} (hN : N < W0.heap.size) : Abid (WlSt N M W0):=by
 intro Pv Pv' s W W' h hp hn hl
 have hno : ∀ b,b < W0.heap.size → ¬ Pv b:=fun b hb hp => by have := h.off b hp;omega
 refine ⟨(hp.block N (Nat.lt_of_lt_of_le hN h.size) (hno N hN)).trans h.row,h.le,fun b hb => ?_,Nat.le_trans h.size hp.size,fun b hb hne => (hp.block b (Nat.lt_of_lt_of_le hb h.size) (hno b hb)).trans (h.keep b hb hne),hp.os.trans h.os,hp.tape.trans h.tape,hp.output.trans h.output⟩
 rcases hn b hb with hb | hb
 ·exact h.off b hb
 ·exact Nat.le_trans h.size hb
structure WlEnd (N M : Nat) (W0 : World) (L : Code) (c : Code) (Pv : Nat → Prop) (pre : List (Nat × Array Value)) (W : World) : Prop where
 code : c = L
 row : W.heap[N]? = some (.cells #[.int .i64 M] 3 (0,0))
 le : pre.length = M + 1
 off : ∀ b,Pv b → W0.heap.size ≤ b
 size : W0.heap.size ≤ W.heap.size
 keep : ∀ b,b < W0.heap.size → b ≠ N → W.heap[b]? = W0.heap[b]?
 os : W.os = W0.os
 tape : W.tape = W0.tape
 output : W.output = W0.output
theorem WlEnd.abid {N M : Nat} {W0 : World} {L : Code} (hN : N < W0.heap.size) (c : Code) : Abid (WlEnd N M W0 L c):=by
 intro Pv Pv' s W W' h hp hn hl
 have hno : ∀ b,b < W0.heap.size → ¬ Pv b:=fun b hb hp => by have := h.off b hp;omega
 refine ⟨h.code,(hp.block N (Nat.lt_of_lt_of_le hN h.size) (hno N hN)).trans h.row,h.le,fun b hb => ?_,Nat.le_trans h.size hp.size,fun b hb hne => (hp.block b (Nat.lt_of_lt_of_le hb h.size) (hno b hb)).trans (h.keep b hb hne),hp.os.trans h.os,hp.tape.trans h.tape,hp.output.trans h.output⟩
 rcases hn b hb with hb | hb
 ·exact h.off b hb
 ·exact Nat.le_trans h.size hb
def prB (l : List St) : Pr:=⟨[],0,0,[],[],[],[],false,[],[],[],l⟩
def pdB (A : Option Addr) (c : Nat) : PAd:=⟨none,none,none,none,none,A,0,0,0,0,0,c⟩
def pgB (l : List St) : Pg:=⟨[],[],[],[],[],[prB l,prB [],prB l]⟩
def gdB (R : Nat) : GAd:=⟨none,none,none,none,none,some ⟨R,0,none⟩,0,0,0,0,0,3⟩
theorem prB_own {w : World} {B : Nat} {l : List St} {A : Option Addr} {c : Nat} (h : StRow w B l A) (hl : l.length ≤ maxLen) : PrOwn w B (pdB A c) (prB l) :=
 ⟨⟨Nat.zero_le _,Nat.zero_le _,Nat.zero_le _,Nat.zero_le _,Nat.zero_le _,Nat.zero_le _,Nat.zero_le _,Nat.zero_le _,hl⟩,.nil _,.nil _,.nil _,.nil _,.nil _,h⟩
theorem pgB_own {w : World} {l : List St} {A : Option Addr} {c R : Nat} (h : StRow w w.heap.size l A) (hl : l.length ≤ maxLen) (hR : R < w.heap.size)
 (h0 : ∀ (j : Nat) v,(prCs (pdB A c) (prB l))[j]? = some v → w.cell? ⟨R,j,none⟩ = some v) (h1 : ∀ (j : Nat) v,(prCs (pdB none 0) (prB []))[j]? = some v → w.cell? ⟨R,12 + j,none⟩ = some v)
 (h2 : ∀ (j : Nat) v,(prCs (pdB A c) (prB l))[j]? = some v → w.cell? ⟨R,24 + j,none⟩ = some v) : PgOwn w w.heap.size (gdB R) (pgB l):=by
 refine ⟨⟨Nat.zero_le _,Nat.zero_le _,Nat.zero_le _,Nat.zero_le _,Nat.zero_le _,by show 3 ≤ maxLen;unfold maxLen;omega⟩,.nil _,.nil _,.nil _,.nil _,.nil _,?_⟩
 refine .row ⟨R,0,none⟩ _ hR (fun i x hi => ?_)
 match i,hi with
 | 0,hi =>
   obtain rfl : prB l = x:=Option.some.inj hi
   exact ⟨pdB A c,fun j v hv => by rw [add_add_plain,add_block0];simpa using h0 j v hv,prB_own h hl⟩
 | 1,hi =>
   obtain rfl : prB [] = x:=Option.some.inj hi
   exact ⟨pdB none 0,fun j v hv => by rw [add_add_plain,add_block0];simpa using h1 j v hv,prB_own (.nil _) (Nat.zero_le _)⟩
 | 2,hi =>
   obtain rfl : prB l = x:=Option.some.inj hi
   exact ⟨pdB A c,fun j v hv => by rw [add_add_plain,add_block0];simpa using h2 j v hv,prB_own h hl⟩
theorem size_B {w : World} {l f : List St} {R : Nat} (hf : FlL l f) (hb : f.length ≤ 200000) (hp : PgOwn w w.heap.size (gdB R) (pgB l)) :
 Calls Tryz.prog 10 #[progV (gdB R) (pgB l)] w fun e w' => e = .returned (.int .i64 (2 * f.length : Nat)) ∧ Below w.heap.size w w' :=
 size_any (pgB l) (gdB R) (fun x => if x.bd = [] then [] else f) (fun x hx => by
  have hx : x = prB l ∨ x = prB [] ∨ x = prB l:=by simpa [pgB] using hx
  have h1 : FlL (prB l).bd (if (prB l).bd = [] then [] else f):=by
   show FlL l (if l = [] then [] else f)
   split
   ·rename_i h;subst h;exact .nil
   ·exact hf
  rcases hx with rfl | rfl | rfl
  ·exact h1
  ·exact .nil
  ·exact h1) (2 * f.length) (by
  have h2 : (if l = [] then [] else f).length = f.length:=by
   split
   ·rename_i h;subst h;cases hf;rfl
   ·rfl
  show 2 * f.length = ((if l = [] then ([] : List St) else f).length + (0 + ((if l = [] then ([] : List St) else f).length + 0)))
  omega) (by omega) w hp
theorem StRow.one {w : World} {B : Nat} {ss : List St} {A : Option Addr} (h : StRow w B ss A) {k : Nat} {s : St} (hi : ss[k]? = some s) :
 ∃ a d,A = some a ∧ a.block < B ∧ (∀ (j : Nat) v,(stCs d s)[j]? = some v → w.cell? ((a.add (k * 24)).add j) = some v) ∧ StRow w B [s] (some (a.add (k * 24))):=by
 obtain ⟨a,d,rfl,hab,hc,own,r1,r2⟩:=h.at_ hi
 refine ⟨a,d,rfl,hab,hc,.row (a.add (k * 24)) [s] (fun _ => d) (by rw [show (a.add (k * 24)).block = a.block by unfold Addr.add;split <;> rfl];exact hab) (fun i x hx => ?_) (fun i x hx => ?_) (fun i x hx => ?_)⟩
 all_goals
  match i,hx with
  | 0,hx =>
    obtain rfl : s = x:=Option.some.inj hx
    first
     | exact ⟨fun j v hv => by rw [Nat.zero_mul,show (a.add (k * 24)).add 0 = a.add (k * 24) by rw [add_add_plain,Nat.add_zero]];exact hc j v hv,own⟩
     | exact r1
     | exact r2
  | i + 1,hx => simp at hx
theorem stCs_pos (x : St) : ∃ ln co : Int,∀ d : SAd,(stCs d x)[1]? = some (.int .i64 ln) ∧ (stCs d x)[2]? = some (.int .i64 co):=by
 obtain ⟨k0,ln,co,nm,fd,fr,⟨ek,en,es,el⟩,⟨ck,⟨ak,an,sa,al⟩,⟨bk,bn,sb,bl⟩,l⟩,cl,iv,bd,ot⟩:=x
 exact ⟨ln,co,fun d => ⟨rfl,rfl⟩⟩
theorem flatted_row {B : Nat} {w w' : World} {f : List St} {A : Option Addr} {c : Nat} (h : Flatted B w f (.slice A f.length c) w') : StRow w' w'.heap.size f A:=by
 obtain ⟨D,xs,h1,h2,h3,h4⟩:=h
 obtain ⟨A',c',e,hin⟩:=own_stIn (S':=fun _ => True) h1 rfl h2 (fun _ _ => trivial) (fun _ _ => trivial) h3
 injection e with e1 _ _
 rw [e1]
 exact hin.row
theorem st_fresh {W W' : World} {cs : Array Value} {x : St} {R : Nat} (hv : VSt W W.heap.size cs x) (hb : Below W.heap.size W W') (hR : R < W'.heap.size) (hc : ∀ (j : Nat) v,cs[j]? = some v → W'.cell? ⟨R,j,none⟩ = some v) : StRow W' W'.heap.size [x] (some ⟨R,0,none⟩):=by
 obtain ⟨d,rfl,hown,r1,r2⟩:=hv
 refine .row ⟨R,0,none⟩ [x] (fun _ => d) hR (fun i y hy => ?_) (fun i y hy => ?_) (fun i y hy => ?_)
 all_goals
  match i,hy with
  | 0,hy =>
    obtain rfl : x = y:=Option.some.inj hy
    first
     | exact ⟨fun j v hv => by rw [add_add_plain,add_block0];simpa using hc j v hv,hown.keep (fun q hq => hb.cell hq) hb.size⟩
     | exact r1.keep (fun q hq => hb.cell hq) hb.size
     | exact r2.keep (fun q hq => hb.cell hq) hb.size
  | i + 1,hy => simp at hy
theorem eq_one (x : St) (R q : Addr) (ca cb : Nat) (W : World) (ra : StRow W W.heap.size [x] (some R)) (rb : StRow W W.heap.size [x] (some q)) :
 Calls Tryz.prog 9 #[.slice (some R) 1 ca,.slice (some q) 1 cb] W fun e w' => e = .returned (.bool true) ∧ Below W.heap.size W w' :=
 eqss_row [x] [x] (some R) (some q) ca cb W (by show 1 ≤ maxLen;unfold maxLen;omega) (by show 1 ≤ maxLen;unfold maxLen;omega) ra rb true ⟨fun _ => sameL_refl _ [x] (Nat.lt_succ_self _),fun _ => rfl⟩
end Go.Proofs.YtnkpgpmaiicdeaaGreatDoor
