import Derived.Test.YtbalioicgpgehaaGreatDoorSFloV
import Derived.Test.YtbalioicgpgehaaGreatDoorSShelf
import Derived.Sort.OwnSorted
import Derived.Lib.RowBridge
import Derived.Test.YtbalioicgpgehaaGreatDoorSTreeMo
import Derived.Test.YtbalioicgpgehaaGreatDoorSFloL
import Derived.WalkSpells
import Derived.Outline
set_option linter.unusedVariables false
set_option linter.unusedSimpArgs false
namespace Go.Proofs.YtbalioicgpgehaaGreatDoor
set_option maxRecDepth 100000
set_option maxHeartbeats 2000000
open Go.RowKit Go.Lib Go.Sort
theorem lt_of_le_neF {a b : List UInt8} (h : a ≤ b) (hne : a ≠ b) : a < b:=by
 by_cases h2 : a < b
 ·exact h2
 ·exact absurd (List.le_antisymm h (List.not_lt.1 h2)) hne
theorem lt_of_le_ltF {a b c : List UInt8} (h : a ≤ b) (h2 : b < c) : a < c :=
 lt_of_le_neF (List.le_trans h (List.le_of_lt h2)) fun e => by subst e;exact absurd h (List.not_le.2 h2)
theorem compact_upF {zs : List (List UInt8)} (h : zs.Pairwise (fun x y => x ≤ y)) : ∀ m,m ≤ zs.length → (compactUpTo zs.toArray m).Pairwise (fun x y => x < y) ∧ (∀ y,y ∈ compactUpTo zs.toArray m ↔ ∃ j,j < m ∧ zs[j]? = some y):=by
 intro m
 induction m with
 | zero => intro _;exact ⟨by simp [compactUpTo],fun y => by simp [compactUpTo]⟩
 | succ m ih =>
   intro hm
   obtain ⟨i1,i2⟩:=ih (by omega)
   have hg : zs.toArray[m]! = zs[m]:=by rw [getElem!_pos _ m (by simp;omega)];simp
   have hgo : zs[m]? = some zs[m]:=List.getElem?_eq_getElem (by omega)
   have hle : ∀ j,j < m → ∀ y,zs[j]? = some y → y ≤ zs[m]:=by
    intro j hj y hy
    have := (List.pairwise_iff_getElem.1 h) j m (by omega) (by omega) hj
    rw [List.getElem?_eq_getElem (by omega)] at hy
    rw [← Option.some.inj hy]
    exact this
   rw [compactUpTo_succ]
   by_cases hk : keeps zs.toArray m = true
   ·rw [if_pos hk,hg]
    have hlt : ∀ y ∈ compactUpTo zs.toArray m,y < zs[m]:=by
     intro y hy
     obtain ⟨j,hj,hy⟩:=(i2 y).1 hy
     rcases Nat.eq_zero_or_pos m with h0 | h0
     ·omega
     ·have hp : zs.toArray[m - 1]! = zs[m - 1]:=by rw [getElem!_pos _ (m - 1) (by simp;omega)];simp
      have hne : zs[m] ≠ zs[m - 1]:=by
       intro e
       have := keeps_neg (d:=zs.toArray) h0 (by rw [hg,hp];exact e)
       rw [hk] at this
       cases this
      have h1 : zs[m - 1] ≤ zs[m]:=hle (m - 1) (by omega) _ (List.getElem?_eq_getElem (by omega))
      have h2 : zs[m - 1] < zs[m]:=lt_of_le_neF h1 (Ne.symm hne)
      have h3 : y ≤ zs[m - 1]:=by
       rw [List.getElem?_eq_getElem (by omega)] at hy
       rw [← Option.some.inj hy]
       rcases Nat.lt_or_ge j (m - 1) with hj2 | hj2
       ·exact (List.pairwise_iff_getElem.1 h) j (m - 1) (by omega) (by omega) hj2
       ·have : j = m - 1:=by omega
        subst this
        exact List.le_refl _
      exact lt_of_le_ltF h3 h2
    refine ⟨List.pairwise_append.2 ⟨i1,by simp,fun a ha b hb => by rw [List.mem_singleton.1 hb];exact hlt a ha⟩,fun y => ?_⟩
    rw [List.mem_append,i2,List.mem_singleton]
    constructor
    ·rintro (⟨j,hj,hy⟩ | rfl)
     ·exact ⟨j,by omega,hy⟩
     ·exact ⟨m,by omega,hgo⟩
    ·rintro ⟨j,hj,hy⟩
     rcases Nat.lt_or_ge j m with hj2 | hj2
     ·exact .inl ⟨j,hj2,hy⟩
     ·have : j = m:=by omega
      subst this
      rw [hgo] at hy
      exact .inr (Option.some.inj hy).symm
   ·rw [if_neg hk,List.append_nil]
    refine ⟨i1,fun y => ?_⟩
    rw [i2]
    constructor
    ·rintro ⟨j,hj,hy⟩
     exact ⟨j,by omega,hy⟩
    ·rintro ⟨j,hj,hy⟩
     rcases Nat.lt_or_ge j m with hj2 | hj2
     ·exact ⟨j,hj2,hy⟩
     ·have hjm : j = m:=by omega
      subst hjm
      have h0 : 0 < j:=by
       rcases Nat.eq_zero_or_pos j with h0 | h0
       ·subst h0
        exact absurd (keeps_lt_one _ 0 (by omega)) hk
       ·exact h0
      refine ⟨j - 1,by omega,?_⟩
      have hp : zs.toArray[j - 1]! = zs[j - 1]:=by rw [getElem!_pos _ (j - 1) (by simp;omega)];simp
      have he : zs[j] = zs[j - 1]:=by
       by_cases e : zs[j] = zs[j - 1]
       ·exact e
       ·exact absurd (keeps_pos (d:=zs.toArray) (by rw [hg,hp];exact e)) hk
      rw [hgo] at hy
      rw [List.getElem?_eq_getElem (by omega),← he]
      exact hy
theorem compact_ascF {zs : List (List UInt8)} (h : zs.Pairwise (fun x y => x ≤ y)) : (compact zs).Pairwise (fun x y => x < y) ∧ ∀ y,y ∈ compact zs ↔ y ∈ zs:=by
 obtain ⟨h1,h2⟩:=compact_upF h zs.length (Nat.le_refl _)
 refine ⟨h1,fun y => (h2 y).trans ?_⟩
 constructor
 ·rintro ⟨j,_,hy⟩
  exact List.mem_of_getElem? hy
 ·intro hy
  obtain ⟨j,hj,rfl⟩:=List.getElem_of_mem hy
  exact ⟨j,hj,List.getElem?_eq_getElem hj⟩
theorem cloneStr_any {ns : List (List UInt8)} {B : Nat} {W : World} {A : Option Addr} {n c : Nat} (h : NmRow ns B W A n c) (hn : ns.length ≤ 8000000000000) :
 Calls Tryz.prog 47 #[.slice A n c] W fun e w' => ∃ A' c',e = .returned (.slice A' n c') ∧ NmRow ns W.heap.size w' A' n c' ∧ Below W.heap.size W w':=by
 obtain ⟨m,hm,hown,hx,hl,hle⟩:=h
 rcases hown.2 with ⟨h0,hz⟩ | ⟨g,cap,cur,hv,hg,hb,hnc,hcap,hsz,htake⟩
 ·injection h0 with e1 e2 e3
  subst e1 e2 e3
  refine (Tryz.slices_Clone_string_nil 0 0 W).mono ?_
  rintro e w' ⟨rfl,rfl⟩
  exact ⟨none,0,rfl,⟨m,hm,(by have : m = []:=List.length_eq_zero_iff.1 hm.symm; subst this; exact World.ownsRow_nil _ _ _ _),hx,hl,hle⟩,Below.refl _ _⟩
 ·injection hv with e1 e2 e3
  subst e1 e3
  have hlen : (m.map fun x => (⟨x.toArray⟩ : ByteArray)).length = n:=by rw [List.length_map,hm]
  have h:=Tryz.slices_Clone_string g 0 n c (m.map fun x => ⟨x.toArray⟩) W (by omega) (by omega) (fun j hj => by
   rw [hlen] at hj
   have h1:=(Reads.of_own hown).2 (by omega)
   obtain ⟨ad,ha,_,hc⟩:=h1
   obtain rfl:=Option.some.inj ha
   have h2:=hc j (encF (m[j]'(by omega))) (by rw [List.getElem?_map,List.getElem?_eq_getElem (by omega)];rfl)
   have h3 : (⟨g,0,none⟩ : Addr).add j = ⟨g,0 + j,none⟩:=by rw [add_block0,Nat.zero_add]
   rw [h3] at h2
   rw [h2,List.getD_eq_getElem?_getD,List.getElem?_map,List.getElem?_eq_getElem (by omega)]
   rfl)
  refine h.mono ?_
  rintro e w' ⟨v',rfl,ho,_,hb'⟩
  obtain ⟨A',c',rfl⟩:=own_sliceM ho
  refine ⟨A',c',rfl,⟨m,hm,?_,hx,hl,hle⟩,hb'⟩
  have e4 : ((m.map fun x => (⟨x.toArray⟩ : ByteArray)).take n).map Value.string = m.map encF:=by
   rw [List.take_of_length_le (by omega),List.map_map]
   rfl
  rw [e4] at ho
  exact ho
def SortedRow (ns : List (List UInt8)) (B : Nat) (W : World) (A : Option Addr) (n c : Nat) : Prop :=
 ∃ m : List (List UInt8),n = m.length ∧ W.ownsRow B 9 1 (.slice A n c) n (m.map encF) ∧ (∀ x,x ∈ m ↔ x ∈ ns) ∧ m.Pairwise (fun x y => x ≤ y) ∧ n ≤ ns.length
theorem sortStr_any {ns : List (List UInt8)} {B : Nat} {W : World} {A : Option Addr} {n c : Nat} (h : NmRow ns B W A n c) (hB : B ≤ W.heap.size) (hn : ns.length ≤ 8000000000000) :
 Calls Tryz.prog 48 #[.slice A n c] W fun e w' => e = .returned (.tuple #[]) ∧ SortedRow ns B w' A n c ∧ Below B W w':=by
 obtain ⟨m,hm,hown,hx,hl,hle⟩:=h
 have tr : ∀ a b c : List UInt8,decide (a ≤ b) = true → decide (b ≤ c) = true → decide (a ≤ c) = true:=fun a b c h1 h2 => by simp only [decide_eq_true_eq] at *;exact List.le_trans h1 h2
 have tt : ∀ a b : List UInt8,(decide (a ≤ b) || decide (b ≤ a)) = true:=fun a b => by simp only [Bool.or_eq_true,decide_eq_true_eq];exact List.le_total a b
 rcases hown.2 with ⟨h0,hz⟩ | ⟨g,cap,cur,hv,hg,hb,hnc,hcap,hsz,htake⟩
 ·injection h0 with e1 e2 e3
  subst e1 e2 e3
  refine (Tryz.slices_Sort_string_none none 0 W).mono ?_
  rintro e w' ⟨rfl,rfl⟩
  have : m = []:=List.length_eq_zero_iff.1 hm.symm
  subst this
  exact ⟨rfl,⟨[],rfl,hown,hx,by simp,Nat.zero_le _⟩,Below.refl _ _⟩
 ·injection hv with e1 e2 e3
  subst e1 e3
  have ht : cur.toList.take m.length = m.map encStr:=by
   have := htake
   rw [Nat.mul_one,hm] at this
   exact this
  have hlt : g < W.heap.size:=(Array.getElem?_eq_some_iff.1 hb).1
  have h:=Tryz.slices_Sort_string g 0 c m W (holds_of_block hb ht) hlt (by omega)
  rw [hm]
  refine h.mono ?_
  rintro e w' ⟨rfl,k,os,rfl⟩
  refine ⟨rfl,⟨m.mergeSort fun x y => decide (x ≤ y),by rw [List.length_mergeSort],?_,fun x => (List.mem_mergeSort).trans (hx x),(List.pairwise_mergeSort tr tt m).imp fun h => by simpa using h,by omega⟩,below_grown2v (grownBy_sorted _) hg hB⟩
  exact ownsRow_sorted (by rw [List.length_mergeSort]) hg hb (by omega) hcap (by simpa using hsz)
def UniRow (ns : List (List UInt8)) (W : World) (A : Option Addr) (n : Nat) : Prop:=∃ m : List (List UInt8),n = m.length ∧ Reads W W.heap.size 1 A n (m.map encF) ∧ Asc m ∧ (∀ x,x ∈ m ↔ x ∈ ns) ∧ n ≤ ns.length
theorem UniRow.on {ns : List (List UInt8)} {W W' : World} {A : Option Addr} {n : Nat} (h : UniRow ns W A n) (hb : Below W.heap.size W W') : UniRow ns W' A n:=by
 obtain ⟨m,h1,h2,h3⟩:=h
 exact ⟨m,h1,(h2.below hb).more hb.size,h3⟩
theorem compactStr_any {ns : List (List UInt8)} {B : Nat} {W : World} {A : Option Addr} {n c : Nat} (h : SortedRow ns B W A n c) (hB : B ≤ W.heap.size) (hn : ns.length ≤ 8000000000000) :
 Calls Tryz.prog 49 #[.slice A n c] W fun e w' => ∃ A' n' c',e = .returned (.slice A' n' c') ∧ UniRow ns w' A' n' ∧ Below B W w':=by
 obtain ⟨m,hm,hown,hx,hp,hle⟩:=h
 rcases hown.2 with ⟨h0,hz⟩ | ⟨g,cap,cur,hv,hg,hb,hnc,hcap,hsz,htake⟩
 ·injection h0 with e1 e2 e3
  subst e1 e2 e3
  refine (Tryz.slices_Compact_string_empty none 0 W).mono ?_
  rintro e w' ⟨rfl,rfl⟩
  have : m = []:=List.length_eq_zero_iff.1 hm.symm
  subst this
  exact ⟨none,0,0,rfl,⟨[],rfl,Reads.none_,⟨by simp,by simp⟩,hx,Nat.zero_le _⟩,Below.refl _ _⟩
 ·injection hv with e1 e2 e3
  subst e1 e3
  have ht : cur.toList.take m.length = m.map encStr:=by
   have := htake
   rw [Nat.mul_one,hm] at this
   exact this
  have hlt : g < W.heap.size:=(Array.getElem?_eq_some_iff.1 hb).1
  have h:=Tryz.slices_Compact_string g 0 c m W (holds_of_block hb ht) (by omega) (by omega)
  obtain ⟨q1,q2⟩:=compact_ascF hp
  have hcl:=compact_length_le m
  rw [hm]
  refine h.mono ?_
  rintro e w' ⟨rfl,k,rfl⟩
  obtain ⟨ys,hys⟩ : ∃ ys,ys = compact m ++ List.replicate (m.length - (compact m).length) ([] : List UInt8):=⟨_,rfl⟩
  have hyl : ys.length = m.length:=by rw [hys,List.length_append,List.length_replicate];omega
  rw [← hys]
  have ho:=ownsRow_sorted (n:=k) (os:=#[]) (base:=B) hyl hg hb (by omega) hcap (by simpa using hsz)
  have hgb:=grownBy_sorted (w:=W) (g:=g) (n:=k) (os:=#[]) ys.toArray
  rw [grow_empty] at ho hgb
  refine ⟨_,_,_,rfl,⟨compact m,rfl,?_,⟨q1.imp fun {a b} hab e => by rw [e] at hab;exact List.lt_irrefl _ hab,q1.imp fun {a b} hab => List.le_of_lt hab⟩,fun x => (q2 x).trans (hx x),by omega⟩,below_grown2v hgb hg hB⟩
  have hr:=Reads.of_own ho
  refine ⟨by simp,fun hpos => ?_⟩
  obtain ⟨ad,ha,hab,hc⟩:=hr.2 (by omega)
  refine ⟨ad,ha,hab,fun j u hu => hc j u ?_⟩
  rw [hys,List.map_append]
  have hj : j < ((compact m).map encF).length:=(List.getElem?_eq_some_iff.1 hu).1
  rw [List.getElem?_append_left hj]
  exact hu
theorem union_any {ns1 ns2 : List (List UInt8)} {B1 B2 : Nat} {W : World} {A1 A2 : Option Addr} {n1 c1 n2 c2 : Nat} (h1 : NmRow ns1 B1 W A1 n1 c1) (h2 : NmRow ns2 B2 W A2 n2 c2) (hn : ns1.length + ns2.length ≤ 8000000000000) :
 Calls Tryz.prog 26 #[.slice A1 n1 c1,.slice A2 n2 c2] W fun e w' => ∃ A n c,e = .returned (.slice A n c) ∧ UniRow (ns1 ++ ns2) w' A n ∧ Below W.heap.size W w':=by
 have hln : (ns1 ++ ns2).length ≤ 8000000000000:=by rw [List.length_append];exact hn
 have HC:=Lib.hid (cloneStr_any h1 (by omega))
 have HH:=Lib.hid (And.intro h2 (And.intro hn hln))
 clear h1 h2 hn hln
 go_enter Tryz.func26,Tryz.ntmps26
 go_wp2_with (first
  | (go_at_call 47;(with_reducible refine HC.out.mono ?_);rintro e w2 ⟨A3,c3,rfl,h3,hb3⟩;have H3:=Lib.hid (And.intro h3 (And.intro (HH.out.1.on hb3) hb3));clear h3 hb3)
  | (at_builtin;refine nmL_append (o:=⟨some 9,_,_,_,_,_⟩) _ rfl _ _ rfl rfl rfl H3.out.1 H3.out.2.1 HH.out.2.1 H3.out.2.2.size ?_;intro A4 n4 c4 w4 q4 hb4;have H4:=Lib.hid (And.intro q4 (H3.out.2.2.trans hb4));have HS:=Lib.hid (sortStr_any q4 (Nat.le_trans H3.out.2.2.size hb4.size) HH.out.2.2);clear q4 hb4)
  | (go_at_call 48;(with_reducible refine HS.out.mono ?_);rintro e w5 ⟨rfl,h5,hb5⟩;have H5:=Lib.hid (H4.out.2.trans hb5);have HP:=Lib.hid (compactStr_any h5 H5.out.size HH.out.2.2);clear h5 hb5)
  | (go_at_call 49;(with_reducible refine HP.out.mono ?_);rintro e w6 ⟨A6,n6,c6,rfl,h6,hb6⟩;have H6:=Lib.hid (And.intro h6 (H5.out.trans hb6));clear h6 hb6))
 go_ret
 exact ⟨A6,n6,c6,rfl,H6.out⟩
end Go.Proofs.YtbalioicgpgehaaGreatDoor
namespace Go.Proofs.YtbalioicgpgehaaGreatDoor
open Go.RowKit
theorem flat_rowF {B : Nat} {w w' : World} {f : List St} {A : Option Addr} {c : Nat} (h : Flatted B w f (.slice A f.length c) w') : StRow w' w'.heap.size f A:=by
 obtain ⟨D,xs,h1,h2,h3,h4⟩:=h
 obtain ⟨A',c',e,hin⟩:=own_stIn (S':=fun _ => True) h1 rfl h2 (fun _ _ => trivial) (fun _ _ => trivial) h3
 injection e with e1 _ _
 rw [e1]
 exact hin.row
end Go.Proofs.YtbalioicgpgehaaGreatDoor
namespace Go.Proofs.YtbalioicgpgehaaGreatDoor
set_option maxRecDepth 100000
set_option maxHeartbeats 1000000
open Go.RowKit
theorem flat24_len : ∀ {vs : List (Array Value)},(∀ c ∈ vs,c.size = 24) → (vs.flatMap Array.toList).length = vs.length * 24
 | [],_ => rfl
 | c :: vs,h => by
   have h1 : c.toList.length = 24:=by rw [Array.length_toList];exact h c (List.mem_cons_self ..)
   have h2:=flat24_len (vs:=vs) (fun c hc => h c (List.mem_cons_of_mem _ hc))
   rw [List.flatMap_cons,List.length_append,h1,h2,List.length_cons]
   omega
theorem flat24_get : ∀ {vs : List (Array Value)},(∀ c ∈ vs,c.size = 24) → ∀ (i j : Nat),j < 24 → (vs.flatMap Array.toList)[i * 24 + j]? = (vs[i]?).bind fun c => c[j]?
 | [],_,i,j,_ => by simp
 | c :: vs,h,i,j,hj => by
   have h1 : c.toList.length = 24:=by rw [Array.length_toList];exact h c (List.mem_cons_self ..)
   have h2:=fun i => flat24_get (vs:=vs) (fun c hc => h c (List.mem_cons_of_mem _ hc)) i j hj
   rw [List.flatMap_cons]
   match i with
   | 0 =>
     rw [List.getElem?_append_left (by omega),Nat.zero_mul,Nat.zero_add]
     simp
   | i + 1 =>
     rw [List.getElem?_append_right (by omega),h1,show (i + 1) * 24 + j - 24 = i * 24 + j from by omega,h2 i]
     rfl
def stL (D : Nat → SAd) (l : List St) : List (Array Value):=l.mapIdx fun i x => stCs (D i) x
theorem stL_get (D : Nat → SAd) (l : List St) (i : Nat) : (stL D l)[i]? = (l[i]?).map (stCs (D i)):=by
 unfold stL
 rw [List.getElem?_mapIdx]
theorem stL_size (D : Nat → SAd) (l : List St) : ∀ c ∈ stL D l,c.size = 24:=by
 intro c hc
 obtain ⟨i,hi,rfl⟩:=List.getElem_of_mem hc
 have h:=stL_get D l i
 rw [List.getElem?_eq_getElem hi] at h
 cases e : l[i]? with
 | none => rw [e] at h;cases h
 | some x => rw [e] at h;rw [Option.some.inj h];exact stCs_size _ _
theorem st_reads {w : World} {B : Nat} {l : List St} {A : Option Addr} (h : StRow w B l A) (hB : B ≤ w.heap.size) : ∃ (D : Nat → SAd) (xs : List Value),Reads w B 24 A l.length xs ∧ CellsOf D l xs ∧ ∀ i s,l[i]? = some s → ElIn (fun b => b < B) w (D i) s:=by
 have h1 : ∀ i,∃ d : SAd,∀ x,l[i]? = some x → ∃ a,A = some a ∧ a.block < B ∧ (∀ j v,(stCs d x)[j]? = some v → w.cell? ((a.add (i * 24)).add j) = some v) ∧ ElIn (fun b => b < B) w d x:=by
  intro i
  cases e : l[i]? with
  | none => exact ⟨sAd0,fun x hx => by cases hx⟩
  | some x =>
    obtain ⟨a,d,ha,hab,hc,hown,hb1,hb2⟩:=h.at_ e
    exact ⟨d,fun y hy => by obtain rfl:=Option.some.inj hy;exact ⟨a,ha,hab,hc,el_in hB hown hb1 hb2⟩⟩
 obtain ⟨D,hD⟩:=Classical.axiomOfChoice h1
 have hlen : ((stL D l).flatMap Array.toList).length = l.length * 24:=by
  rw [flat24_len (stL_size D l)]
  unfold stL
  rw [List.length_mapIdx]
 have hget : ∀ i j,j < 24 → ((stL D l).flatMap Array.toList)[i * 24 + j]? = (l[i]?).bind fun x => (stCs (D i) x)[j]?:=fun i j hj => by
  rw [flat24_get (stL_size D l) i j hj,stL_get]
  cases l[i]? <;> rfl
 refine ⟨D,(stL D l).flatMap Array.toList,⟨hlen,fun hpos => ?_⟩,?_,?_⟩
 ·obtain ⟨x0,hx0⟩ : ∃ x,l[0]? = some x:=⟨l[0],List.getElem?_eq_getElem hpos⟩
  obtain ⟨a,ha,hab,_,_⟩:=hD 0 x0 hx0
  refine ⟨a,ha,hab,fun p u hu => ?_⟩
  have h2:=hget (p / 24) (p % 24) (by omega)
  rw [show p / 24 * 24 + p % 24 = p from by omega,hu] at h2
  cases e : l[p / 24]? with
  | none => rw [e] at h2;cases h2
  | some x =>
    rw [e] at h2
    obtain ⟨a',ha',_,hc,_⟩:=hD (p / 24) x e
    obtain rfl:=Option.some.inj (ha.symm.trans ha')
    have h3:=hc (p % 24) u h2.symm
    rw [add_of_add,show p / 24 * 24 + p % 24 = p from by omega] at h3
    exact h3
 ·intro i s hi j v hj
  have hj24 : j < 24:=by
   have := (Array.getElem?_eq_some_iff.1 hj).1
   rw [stCs_size] at this
   exact this
  rw [hget i j hj24,hi]
  exact hj
 ·intro i s hi
  obtain ⟨_,_,_,_,he⟩:=hD i s hi
  exact he
theorem cloneSt_any (A : Option Addr) (c n : Nat) (l : List St) (hn : n = l.length) (hb : n * 368 ≤ 140737488355328) (w : World) (hf : StRow w w.heap.size l A) :
 Calls Tryz.prog 25 #[.slice A n c] w fun e w' => ∃ A' c',e = .returned (.slice A' n c') ∧ Flatted w.heap.size w l (.slice A' n c') w':=by
 obtain ⟨D,xs,hr,hcl,ho⟩:=st_reads hf (Nat.le_refl _)
 have HF:=Lib.hid (And.intro hr (And.intro hn (And.intro hb (And.intro hcl ho))))
 clear hf hn hb hr ho hcl
 cases A with
 | none =>
   have h0 : n = 0:=by
    rcases Nat.eq_zero_or_pos n with h | h
    ·exact h
    ·obtain ⟨a,ha,_⟩:=HF.out.1.2 (by rw [← HF.out.2.1];exact h)
     cases ha
   subst h0
   have hq:=Lib.run_eql_slice_nil (P:=Tryz.prog) w 22 36 none 0 c 0 0 Tryz.underlying22
   go_enter Tryz.func25,Tryz.ntmps25
   go_wp2
   go_ret
   have h1 : l = []:=List.eq_nil_of_length_eq_zero HF.out.2.1.symm
   rw [h1]
   exact ⟨none,0,rfl,fun _ => sAd0,[],World.ownsRow_nil w _ _ _,fun i s hi => by simp at hi,fun i s hi => by simp at hi,Below.refl _ _⟩
 | some a =>
   obtain ⟨i0,hi,hiz,his,hib⟩:=info_parts infoStmt
   have HR:=Lib.hid (And.intro (World.ownsRow_made w #[] 0 (base:=w.heap.size) (e:=36) (size:=24) (Nat.le_refl _) (by unfold maxLen;omega) rfl) (HF.out.1.alloc (Nat.le_refl _) (.cells #[] 36)))
   have HI:=Lib.hid (And.intro hi (And.intro hiz (And.intro his hib)))
   clear hi hiz his hib
   have hq:=Lib.run_eql_slice_nil (P:=Tryz.prog) w 22 36 (some a) n c 0 0 Tryz.underlying22
   go_enter Tryz.func25,Tryz.ntmps25
   go_wp2_with (at_builtin;refine wpList_append_any _ rfl _ _ 22 rfl w.heap.size 36 i0 _ 24 368 Tryz.underlying22 HI.out.1 HI.out.2.1 HI.out.2.2.1 HI.out.2.2.2 rfl (by decide) _ 0 [] rfl HR.out.1 w.heap.size (some a) n c xs rfl (HF.out.2.1 ▸ HR.out.2) (cells_one HF.out.2.2.2.1 HF.out.1.1) (by have := HF.out.2.2.1;unfold maxLen;omega) (by have := HF.out.2.2.1;omega) (by rw [size_of_alloc];omega) ?_;intro v' w2 hown hgrow hat;have HO:=Lib.hid (And.intro hown (And.intro hgrow hat));clear hown hgrow hat)
   go_ret
   have hb : Below w.heap.size w w2:=((below_alloc w _).trans (below_grown HR.out.1 HO.out.2.1 (by rw [size_of_alloc];omega)))
   have h1:=HO.out.1
   rw [Nat.zero_add,List.nil_append] at h1
   obtain ⟨A',c',hv⟩:=own_sliceM h1
   rw [hv] at h1
   refine ⟨A',c',by rw [hv] <;> rfl,D,xs,HF.out.2.1 ▸ h1,HF.out.2.2.2.1,fun i s hi => (HF.out.2.2.2.2 i s hi).stay (fun q hq => hb.cell hq) fun _ h => h,hb⟩
theorem fl_append {a fa : List St} (h : FlL a fa) : ∀ {b fb : List St},FlL b fb → FlL (a ++ b) (fa ++ fb):=by
 induction h with
 | nil => intro b fb h;exact h
 | cons s l fb fo fl h1 h2 h3 i1 i2 i3 =>
   intro b gb hg
   have := FlL.cons s (l ++ b) fb fo (fl ++ gb) h1 h2 (i3 hg)
   rw [List.cons_append,List.cons_append,List.append_assoc]
   exact this
theorem ws_append {a b : List St} (ha : WS a) (hb : WS b) (hn : (a ++ b).length * 368 ≤ 140737488355328) : WS (a ++ b):=by
 obtain ⟨_,a1,_,a3,a4⟩:=ha
 obtain ⟨_,b1,_,b3,b4⟩:=hb
 refine .mk _ (fun x hx => ?_) hn (fun x hx => ?_) (fun x hx => ?_)
 ·exact (List.mem_append.1 hx).elim (a1 x) (b1 x)
 ·exact (List.mem_append.1 hx).elim (a3 x) (b3 x)
 ·exact (List.mem_append.1 hx).elim (a4 x) (b4 x)
theorem vSs_split {v : List UInt8 → Bool} {nu ex : Int} {d : Nat} {a b : List St} (h : vSs v nu ex (d + 1) (a ++ b) = true) : vSs v nu ex (d + 1) a = true ∧ vSs v nu ex (d + 1) b = true ∧ (a ++ b).length ≤ 100:=by
 have h' : ((a ++ b).isEmpty || (decide ((1 : Int) ≤ (a ++ b).length) && decide (((a ++ b).length : Int) ≤ 100) && (a ++ b).all (vSt v nu ex (vSs v nu ex d)))) = true:=h
 have key : (a ++ b).length ≤ 100 ∧ ∀ x ∈ a ++ b,vSt v nu ex (vSs v nu ex d) x = true:=by
  rcases Bool.or_eq_true_iff.1 h' with h1 | h1
  ·have : a ++ b = []:=by simpa using h1
   rw [this]
   exact ⟨by simp,fun x hx => by cases hx⟩
  ·obtain ⟨h2,h3⟩:=Bool.and_eq_true_iff.1 h1
   have := of_decide_eq_true (Bool.and_eq_true_iff.1 h2).2
   exact ⟨by omega,List.all_eq_true.1 h3⟩
 have half : ∀ c : List St,c.length ≤ 100 → (∀ x ∈ c,vSt v nu ex (vSs v nu ex d) x = true) → vSs v nu ex (d + 1) c = true:=by
  intro c hc hx
  cases c with
  | nil => rfl
  | cons y c =>
    refine Bool.or_eq_true_iff.2 (.inr (Bool.and_eq_true_iff.2 ⟨Bool.and_eq_true_iff.2 ⟨decide_eq_true ?_,decide_eq_true ?_⟩,List.all_eq_true.2 hx⟩))
    ·simp;omega
    ·simp at hc ⊢;omega
 have hl:=key.1
 rw [List.length_append] at hl
 exact ⟨half a (by omega) fun x hx => key.2 x (List.mem_append_left _ hx),half b (by omega) fun x hx => key.2 x (List.mem_append_right _ hx),key.1⟩
end Go.Proofs.YtbalioicgpgehaaGreatDoor
