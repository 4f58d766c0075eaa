import Derived.Test.YtojjfdegkooknaaGreatDoorQTypN
import Derived.Test.YtojjfdegkooknaaGreatDoorQTreeV
import Derived.Test.YtojjfdegkooknaaGreatDoorQTreeMo
set_option linter.unusedVariables false
set_option linter.unusedSimpArgs false
namespace Go.Proofs.YtojjfdegkooknaaGreatDoor
open Go.RowKit Go.Lib
abbrev encS (s : List UInt8) : Value:=.string ⟨s.toArray⟩
end Go.Proofs.YtojjfdegkooknaaGreatDoor
namespace Go.Proofs.YtojjfdegkooknaaGreatDoor
open Go.RowKit Go.Lib
section
variable {P : Program} {ops : Array Oper} {Q : Exit → Act → World → Prop} {md : Region.Mode} {S : World → Prop}
end
def NmR (w : World) (lo : Nat) (O : Option Nat) (A : Option Addr) (n : Nat) (l : List (List UInt8)) : Prop :=
 (n = l.length ∧ n ≤ maxLen) ∧ (∀ x ∈ l,x.length ≤ maxLen) ∧ Reads w w.heap.size 1 A n (l.map encS) ∧ (0 < n → ∀ a,A = some a → lo ≤ a.block ∧ O ≠ some a.block)
theorem NmR.grown {w w' : World} {lo : Nat} {O O' : Option Nat} {A : Option Addr} {n : Nat} {l : List (List UInt8)} (h : NmR w lo O A n l) (hg : w.grownBy w' O) (ho : O' = O ∨ O' = some w.heap.size) : NmR w' lo O' A n l:=by
 obtain ⟨h1,h2,h3,h4⟩:=h
 refine ⟨h1,h2,⟨h3.1,fun hn => ?_⟩,fun hn a ha => ?_⟩
 ·obtain ⟨ad,hA,hb,hc⟩:=h3.2 hn
  have hne:=(h4 hn ad hA).2
  exact ⟨ad,hA,Nat.lt_of_lt_of_le hb hg.size,fun j u hu => (World.cell?_of_block (w:=w) (by rw [block_of_add];exact hg.block _ hb (fun e => hne e.symm))).trans (hc j u hu)⟩
 ·obtain ⟨q1,q2⟩:=h4 hn a ha
  refine ⟨q1,?_⟩
  rcases ho with rfl | rfl
  ·exact q2
  ·obtain ⟨ad,hA,hb,_⟩:=h3.2 hn
   obtain rfl : a = ad:=Option.some.inj (ha.symm.trans hA)
   intro e
   have := Option.some.inj e
   omega
theorem NmR.on {w w' : World} {lo : Nat} {O : Option Nat} {A : Option Addr} {n : Nat} {l : List (List UInt8)} (h : NmR w lo O A n l) (hb : Below w.heap.size w w') : NmR w' lo O A n l :=
 ⟨h.1,h.2.1,(h.2.2.1.below hb).more hb.size,h.2.2.2⟩
theorem NmR.of_own {w : World} {lo B : Nat} {O : Option Nat} {v : Value} {l : List (List UInt8)} (h : w.ownsRow B 9 1 v l.length (l.map encS)) (hl : ∀ x ∈ l,x.length ≤ maxLen) (hB : lo ≤ B) (hO : ∀ g,O = some g → g < B) : ∃ A c,v = .slice A l.length c ∧ NmR w lo O A l.length l:=by
 obtain ⟨A,c,rfl⟩:=own_sliceM h
 have hcap : l.length ≤ maxLen:=by
  rcases h.2 with ⟨_,h0⟩ | ⟨g,cap,cur,_,_,_,h1,h2,_⟩
  ·rw [h0];exact Nat.zero_le _
  ·exact Nat.le_trans h1 h2
 refine ⟨A,c,rfl,⟨rfl,hcap⟩,hl,Reads.of_own h,fun hn a ha => ?_⟩
 obtain ⟨g,cap,hv,hg,_⟩:=h.form hn
 have hA : A = some ⟨g,0,none⟩:=by injection hv
 obtain rfl : a = ⟨g,0,none⟩:=Option.some.inj (ha.symm.trans hA)
 exact ⟨Nat.le_trans hB hg,fun e => Nat.lt_irrefl _ (Nat.lt_of_lt_of_le (hO _ e) hg)⟩
def StepV (w : World) (lo : Nat) (O : Option Nat) (s : Stp) (u v : Value) : Prop :=
 ∃ (A : Option Addr) (n c : Nat) (A2 : Option Addr) (n2 c2 : Nat) (l : List (List UInt8)),u = .slice A n c ∧ v = .slice A2 n2 c2 ∧ NmR w lo O A n l ∧ (∀ x,x ∈ l ↔ x ∈ s.nd) ∧ NmR w lo O A2 n2 s.ms
def StepsAt (w : World) (lo : Nat) (O : Option Nat) (ss : List Stp) (xs : List Value) : Prop :=
 xs.length = ss.length * 2 ∧ ∀ (i : Nat) (s : Stp),ss[i]? = some s → ∃ u v,xs[i * 2]? = some u ∧ xs[i * 2 + 1]? = some v ∧ StepV w lo O s u v
theorem StepV.grown {w w' : World} {lo : Nat} {O O' : Option Nat} {s : Stp} {u v : Value} (h : StepV w lo O s u v) (hg : w.grownBy w' O) (ho : O' = O ∨ O' = some w.heap.size) : StepV w' lo O' s u v:=by
 obtain ⟨A,n,c,A2,n2,c2,l,h1,h2,h3,h4,h5⟩:=h
 exact ⟨A,n,c,A2,n2,c2,l,h1,h2,h3.grown hg ho,h4,h5.grown hg ho⟩
theorem StepV.on {w w' : World} {lo : Nat} {O : Option Nat} {s : Stp} {u v : Value} (h : StepV w lo O s u v) (hb : Below w.heap.size w w') : StepV w' lo O s u v:=by
 obtain ⟨A,n,c,A2,n2,c2,l,h1,h2,h3,h4,h5⟩:=h
 exact ⟨A,n,c,A2,n2,c2,l,h1,h2,h3.on hb,h4,h5.on hb⟩
theorem StepsAt.grown {w w' : World} {lo : Nat} {O O' : Option Nat} {ss : List Stp} {xs : List Value} (h : StepsAt w lo O ss xs) (hg : w.grownBy w' O) (ho : O' = O ∨ O' = some w.heap.size) : StepsAt w' lo O' ss xs :=
 ⟨h.1,fun i s hs => by
   obtain ⟨u,v,h1,h2,h3⟩:=h.2 i s hs
   exact ⟨u,v,h1,h2,h3.grown hg ho⟩⟩
theorem StepsAt.on {w w' : World} {lo : Nat} {O : Option Nat} {ss : List Stp} {xs : List Value} (h : StepsAt w lo O ss xs) (hb : Below w.heap.size w w') : StepsAt w' lo O ss xs :=
 ⟨h.1,fun i s hs => by
   obtain ⟨u,v,h1,h2,h3⟩:=h.2 i s hs
   exact ⟨u,v,h1,h2,h3.on hb⟩⟩
theorem StepsAt.nil (w : World) (lo : Nat) (O : Option Nat) : StepsAt w lo O [] []:=⟨rfl,fun i s h => by simp at h⟩
theorem StepsAt.snoc {w : World} {lo : Nat} {O : Option Nat} {ss : List Stp} {xs : List Value} {s : Stp} {u v : Value} (h : StepsAt w lo O ss xs) (hv : StepV w lo O s u v) : StepsAt w lo O (ss ++ [s]) (xs ++ [u,v]):=by
 refine ⟨by rw [List.length_append,List.length_append,h.1];simp;omega,fun i t ht => ?_⟩
 have hx:=h.1
 by_cases hi : i < ss.length
 ·rw [List.getElem?_append_left hi] at ht
  obtain ⟨a,b,h1,h2,h3⟩:=h.2 i t ht
  exact ⟨a,b,by rw [List.getElem?_append_left (by omega)];exact h1,by rw [List.getElem?_append_left (by omega)];exact h2,h3⟩
 ·rw [List.getElem?_append_right (by omega)] at ht
  have h0 : i - ss.length = 0:=by
   have := (List.getElem?_eq_some_iff.1 ht).1
   simpa using this
  obtain rfl : i = ss.length:=by omega
  obtain rfl : s = t:=by simpa using ht
  refine ⟨u,v,?_,?_,hv⟩
  ·rw [List.getElem?_append_right (by omega),show ss.length * 2 - xs.length = 0 by omega];rfl
  ·rw [List.getElem?_append_right (by omega),show ss.length * 2 + 1 - xs.length = 1 by omega];rfl
end Go.Proofs.YtojjfdegkooknaaGreatDoor
