import Derived.Test.YthenbbpagbdbeaaGreatDoorSTreeQ
import Derived.Test.YthenbbpagbdbeaaGreatDoorSTreeSh
import Derived.Test.YthenbbpagbdbeaaGreatDoorSTypSm
import Derived.Test.YthenbbpagbdbeaaGreatDoorSTreeMo
import Derived.Test.YthenbbpagbdbeaaGreatDoorSTreeAx
import Derived.Deep.Onto
import Derived.BigQuiet
import Derived.Sort.Walk0
set_option linter.unusedVariables false
set_option linter.unusedSimpArgs false
namespace Go.Proofs.YthenbbpagbdbeaaGreatDoor
open Go.RowKit
def powS (n : Nat) : Nat → Nat
 | 0 => 1
 | k + 1 => 1 + n * powS n k
mutual
def paS (lp : Nat) : St → Nat
 | .mk k _ _ _ _ _ _ _ _ _ b o => if k = 8 then paL lp b + paL lp o else if k = 9 then powS (paL lp b) lp else if k = 11 then paL lp b else 1
def paL (lp : Nat) : List St → Nat
 | [] => 1
 | s :: l => paS lp s * paL lp l
end
theorem powS_pos (n : Nat) : ∀ k,1 ≤ powS n k
 | 0 => Nat.le_refl _
 | k + 1 => by rw [powS];omega
mutual
theorem paS_pos (lp : Nat) : ∀ s : St,1 ≤ paS lp s
 | .mk k _ _ _ _ _ _ _ _ _ b o => by
   have h1:=paL_pos lp b
   have h2:=powS_pos (paL lp b) lp
   rw [paS]
   split
   ·omega
   ·split
    ·exact h2
    ·split
     ·exact h1
     ·exact Nat.le_refl _
theorem paL_pos (lp : Nat) : ∀ l : List St,1 ≤ paL lp l
 | [] => by rw [paL];exact Nat.le_refl _
 | s :: l => by rw [paL];exact Nat.mul_pos (paS_pos lp s) (paL_pos lp l)
end
end Go.Proofs.YthenbbpagbdbeaaGreatDoor
namespace Go.Proofs.YthenbbpagbdbeaaGreatDoor
open Go.RowKit Go.Lib Go.Maps
open Go.Sort
abbrev encF (s : List UInt8) : Value:=.string ⟨s.toArray⟩
def NmPost (ns : List (List UInt8)) (w : World) (e : Ending) (w' : World) : Prop :=
 ∃ (A : Option Addr) (c : Nat) (m : List (List UInt8)),e = .returned (.slice A m.length c) ∧ w'.ownsRow w.heap.size 9 1 (.slice A m.length c) m.length (m.map encF) ∧ (∀ x,x ∈ m ↔ x ∈ ns) ∧ (∀ x ∈ m,x.length ≤ maxLen) ∧ m.length ≤ ns.length ∧ Below w.heap.size w w'
def Asc (l : List (List UInt8)) : Prop:=l.Nodup ∧ l.Pairwise (fun x y => x ≤ y)
end Go.Proofs.YthenbbpagbdbeaaGreatDoor
namespace Go.Proofs.YthenbbpagbdbeaaGreatDoor
open Go.RowKit Go.Lib
mutual
def cnVars : Cn → List (List UInt8)
 | .mk _ a b l => exVars a ++ exVars b ++ cnsVars l
def cnsVars : List Cn → List (List UInt8)
 | [] => []
 | x :: l => cnVars x ++ cnsVars l
end
theorem encF_one (m : List (List UInt8)) : ∀ u ∈ m.map encF,u.oneCell' = true:=by
 intro u hu
 obtain ⟨s,_,rfl⟩:=List.mem_map.1 hu
 rfl
def NmRow (ns : List (List UInt8)) (B : Nat) (W : World) (A : Option Addr) (n c : Nat) : Prop :=
 ∃ m : List (List UInt8),n = m.length ∧ W.ownsRow B 9 1 (.slice A n c) n (m.map encF) ∧ (∀ x,x ∈ m ↔ x ∈ ns) ∧ (∀ x ∈ m,x.length ≤ maxLen) ∧ n ≤ ns.length
theorem NmRow.on {ns : List (List UInt8)} {B : Nat} {W W' : World} {A : Option Addr} {n c : Nat} (h : NmRow ns B W A n c) (hb : Below W.heap.size W W') : NmRow ns B W' A n c:=by
 obtain ⟨m,h1,h2,h3⟩:=h
 exact ⟨m,h1,own_below h2 hb (fun g hg => (own_lt h2 g hg).2),h3⟩
theorem NmRow.mono {ns : List (List UInt8)} {B B' : Nat} {W : World} {A : Option Addr} {n c : Nat} (h : NmRow ns B W A n c) (hb : B' ≤ B) : NmRow ns B' W A n c:=by
 obtain ⟨m,h1,h2,h3⟩:=h
 exact ⟨m,h1,h2.mono hb,h3⟩
theorem NmPost.row {ns : List (List UInt8)} {w w' : World} {e : Ending} (h : NmPost ns w e w') : ∃ (A : Option Addr) (n c : Nat),e = .returned (.slice A n c) ∧ NmRow ns w.heap.size w' A n c ∧ Below w.heap.size w w':=by
 obtain ⟨A,c,m,h1,h2,h3,h4,h5,h6⟩:=h
 exact ⟨A,m.length,c,h1,⟨m,rfl,h2,h3,h4,h5⟩,h6⟩
theorem NmRow.post {ns : List (List UInt8)} {w w' : World} {A : Option Addr} {n c : Nat} (h : NmRow ns w.heap.size w' A n c) (hb : Below w.heap.size w w') : NmPost ns w (.returned (.slice A n c)) w':=by
 obtain ⟨m,rfl,h2,h3,h4,h5⟩:=h
 exact ⟨A,c,m,rfl,h2,h3,h4,h5,hb⟩
end Go.Proofs.YthenbbpagbdbeaaGreatDoor
namespace Go.Proofs.YthenbbpagbdbeaaGreatDoor
set_option maxRecDepth 100000
set_option maxHeartbeats 8000000
open Go.RowKit Go.Lib
theorem asc_lt {l : List (List UInt8)} (h : Asc l) : l.Pairwise (fun x y => x < y):=by
 obtain ⟨h1,h2⟩:=h
 refine (h2.and h1).imp fun {a b} ⟨hab,hne⟩ => ?_
 by_cases h : a < b
 ·exact h
 ·exact absurd (List.le_antisymm hab (List.not_lt.1 h)) hne
theorem lt_asc {l : List (List UInt8)} (h : l.Pairwise (fun x y => x < y)) : Asc l :=
 ⟨h.imp fun {a b} hab e => by rw [e] at hab;exact List.lt_irrefl _ hab,h.imp fun {a b} hab => List.le_of_lt hab⟩
theorem ins_asc {m : List (List UInt8)} (h : Asc m) {s : List UInt8} {i : Nat} (hlt : ∀ (j : Nat) x,j < i → m[j]? = some x → x < s) (hge : ∀ x,m[i]? = some x → s < x) : Asc (m.take i ++ [s] ++ m.drop i):=by
 have h2:=asc_lt h
 have e : m = m.take i ++ m.drop i:=(List.take_append_drop ..).symm
 rw [e] at h2
 obtain ⟨p1,p2,p3⟩:=List.pairwise_append.1 h2
 have a1 : ∀ x ∈ m.take i,x < s:=fun x hx => by
  obtain ⟨j,hj⟩:=List.mem_iff_getElem?.1 hx
  rw [List.getElem?_take] at hj
  split at hj
  ·exact hlt j x (by assumption) hj
  ·cases hj
 have a2 : ∀ x ∈ m.drop i,s < x:=fun x hx => by
  obtain ⟨j,hj⟩:=List.mem_iff_getElem?.1 hx
  rw [List.getElem?_drop] at hj
  match j with
  | 0 => exact hge x hj
  | j + 1 =>
    have hi : i < m.length:=by
     have := (List.getElem?_eq_some_iff.1 hj).1
     omega
    have h0 : m[i]? = some m[i]:=List.getElem?_eq_getElem hi
    have h1:=hge _ h0
    have hj2:=(List.getElem?_eq_some_iff.1 hj)
    obtain ⟨hl,hx2⟩:=hj2
    have h3:=List.pairwise_iff_getElem.1 (asc_lt h) i (i + (j + 1)) hi hl (by omega)
    rw [hx2] at h3
    exact List.lt_trans h1 h3
 refine lt_asc ?_
 rw [List.append_assoc]
 refine List.pairwise_append.2 ⟨p1,List.pairwise_append.2 ⟨by simp,p2,fun x hx y hy => ?_⟩,fun x hx y hy => ?_⟩
 ·rw [List.mem_singleton.1 hx]
  exact a2 y hy
 ·rcases List.mem_append.1 hy with hy | hy
  ·rw [List.mem_singleton.1 hy]
   exact a1 x hx
  ·exact p3 x hx y hy
theorem ins_mem (m : List (List UInt8)) (s : List UInt8) (i : Nat) (x : List UInt8) : x ∈ m.take i ++ [s] ++ m.drop i ↔ x = s ∨ x ∈ m:=by
 have e : x ∈ m ↔ x ∈ m.take i ∨ x ∈ m.drop i:=by rw [← List.mem_append,List.take_append_drop]
 rw [e,List.mem_append,List.mem_append,List.mem_singleton]
 constructor
 ·rintro ((h | h) | h)
  ·exact .inr (.inl h)
  ·exact .inl h
  ·exact .inr (.inr h)
 ·rintro (h | h | h)
  ·exact .inl (.inr h)
  ·exact .inl (.inl h)
  ·exact .inr h
def SetRow (ns : List (List UInt8)) (W : World) (A : Option Addr) (n c : Nat) : Prop :=
 ∃ m : List (List UInt8),n = m.length ∧ n ≤ c ∧ Reads W W.heap.size 1 A n (m.map encF) ∧ Asc m ∧ (∀ x,x ∈ m ↔ x ∈ ns) ∧ (∀ x ∈ m,x.length ≤ maxLen) ∧ n ≤ ns.length
theorem SetRow.on {ns : List (List UInt8)} {W W' : World} {A : Option Addr} {n c : Nat} (h : SetRow ns W A n c) (hb : Below W.heap.size W W') : SetRow ns W' A n c:=by
 obtain ⟨m,h1,h2,h3,h4⟩:=h
 exact ⟨m,h1,h2,(h3.below hb).more hb.size,h4⟩
theorem SetRow.same {ns ms : List (List UInt8)} {W : World} {A : Option Addr} {n c : Nat} (h : SetRow ns W A n c) (hm : ∀ x,x ∈ ns ↔ x ∈ ms) (hl : ns.length ≤ ms.length) : SetRow ms W A n c:=by
 obtain ⟨m,h1,h2,h3,h4,h5,h6,h7⟩:=h
 exact ⟨m,h1,h2,h3,h4,fun x => (h5 x).trans (hm x),h6,Nat.le_trans h7 hl⟩
theorem SetRow.none_ (W : World) (c : Nat) : SetRow [] W none 0 c :=
 ⟨[],rfl,Nat.zero_le _,Reads.none_,⟨by simp,by simp⟩,fun x => Iff.rfl,fun x hx => by simp at hx,Nat.le_refl _⟩
theorem reads_take {W : World} {B : Nat} {A : Option Addr} {n : Nat} {xs : List Value} (h : Reads W B 1 A n xs) {i : Nat} (hi : i ≤ n) : Reads W B 1 A i (xs.take i):=by
 refine ⟨by have := h.1;rw [List.length_take];omega,fun h0 => ?_⟩
 obtain ⟨ad,e1,e2,e3⟩:=h.2 (by omega)
 refine ⟨ad,e1,e2,fun j u hu => e3 j u ?_⟩
 rw [List.getElem?_take] at hu
 split at hu
 ·exact hu
 ·cases hu
theorem reads_drop {W : World} {B : Nat} {a : Addr} {n : Nat} {xs : List Value} (h : Reads W B 1 (some a) n xs) {i : Nat} (hi : i ≤ n) : Reads W B 1 (some (a.add i)) (n - i) (xs.drop i):=by
 refine ⟨by have := h.1;rw [List.length_drop];omega,fun h0 => ?_⟩
 obtain ⟨ad,e1,e2,e3⟩:=h.2 (by omega)
 obtain rfl:=Option.some.inj e1
 refine ⟨_,rfl,by rw [block_of_add];exact e2,fun j u hu => ?_⟩
 rw [List.getElem?_drop] at hu
 rw [add_of_add]
 exact e3 (i + j) u hu
theorem reads_end {W : World} {B : Nat} {A : Option Addr} {n k : Nat} {xs : List Value} (hk : k = n) (hx : n = xs.length) : Reads W B 1 A (n - k) (xs.drop k) :=
 ⟨by rw [List.length_drop];omega,fun h => by omega⟩
def SetPost (ns : List (List UInt8)) (w : World) (e : Ending) (w' : World) : Prop:=∃ (A : Option Addr) (n c : Nat),e = .returned (.slice A n c) ∧ SetRow ns w' A n c ∧ Below w.heap.size w w'
theorem own_emptyI (w : World) (e : TypeId) (size : Nat) (base : Nat) (hb : base ≤ w.heap.size) : (w.alloc (.cells #[] e)).ownsRow base e size (.slice (some ⟨w.heap.size,0,none⟩) 0 0) 0 []:=by
 have := World.ownsRow_lit (base:=base) (e:=e) (size:=size) w #[] 0 hb (Nat.zero_le _) (by simp)
 simpa using this
theorem exL_append {ops : Array Oper} {rest : List Oper} {o : Oper} {a : Act} {Q : Exit → Act → World → Prop} (w : World) (hgd : o.guard = none) (s x : Operand)
 (ho : o.op = .call { callee:=.builtin .append,args:=#[s,x],argTypes:=#[47,47] })
 {m1 m2 : List (List UInt8)} {B0 B : Nat} {A A2 : Option Addr} {n c n2 c2 : Nat} (hs : a.eval s = .slice A n c) (hx : a.eval x = .slice A2 n2 c2) (h1 : w.ownsRow B0 9 1 (.slice A n c) n (m1.map encF)) (h2 : Reads w B 1 A2 n2 (m2.map encF)) (hlen : n + n2 ≤ 8000000000000) (hB : B0 ≤ w.heap.size)
 (h : ∀ A' c' w',w'.ownsRow B0 9 1 (.slice A' (n + n2) c') (n + n2) ((m1 ++ m2).map encF) → Below B0 w w' → wpList Tryz.prog ops Q rest (a.put o.dst (.slice A' (n + n2) c')) w') : wpList Tryz.prog ops Q (o :: rest) a w:=by
 obtain ⟨i0,hi0,hiz,his,hib⟩:=info_parts infoStrA
 refine wpList_append_any w hgd s x 47 ho B0 9 i0 _ 1 16 Tryz.underlying47 hi0 hiz his hib rfl (by decide) _ n (m1.map encF) hs h1 B A2 n2 c2 (m2.map encF) hx h2 (encF_one m2) (by unfold maxLen;omega) (by omega) hB ?_
 intro v1 w1 o3 g1 _
 obtain ⟨A9,c9,rfl⟩:=own_sliceM o3
 exact h A9 c9 w1 (by rw [List.map_append];exact o3) (below_grown h1 g1 hB)
theorem ins_post {ns m : List (List UInt8)} {s : List UInt8} {w w' : World} {n k : Nat} {A' : Option Addr} {c' n' : Nat} (hn : n = m.length) (hasc : Asc m) (hmem : ∀ x,x ∈ m ↔ x ∈ ns) (hml : ∀ x ∈ m,x.length ≤ maxLen) (hs : s.length ≤ maxLen) (hnl : n ≤ ns.length) (hk : k ≤ n) (hlt : ∀ (j : Nat) x,j < k → m[j]? = some x → x < s) (hge : ∀ x,m[k]? = some x → s < x)
 (hn' : n' = k + 1 + (n - k)) (ho : w'.ownsRow w.heap.size 9 1 (.slice A' n' c') n' (([] ++ m.take k ++ [s] ++ m.drop k).map encF)) (hb : Below w.heap.size w w') : SetPost (s :: ns) w (.returned (.slice A' n' c')) w':=by
 refine ⟨A',n',c',rfl,⟨m.take k ++ [s] ++ m.drop k,?_,?_,?_,ins_asc hasc hlt hge,fun x => ?_,fun x hx => ?_,?_⟩,hb⟩
 ·simp only [List.length_append,List.length_take,List.length_drop,List.length_singleton]
  omega
 ·rcases ho.2 with ⟨_,h0⟩ | ⟨g,cap,cur,e1,_,_,hnc,_⟩
  ·omega
  ·injection e1 with _ _ e1
   omega
 ·rw [List.nil_append] at ho
  exact Reads.of_own ho
 ·rw [ins_mem,hmem,List.mem_cons]
 ·rcases (ins_mem m s k x).1 hx with rfl | hx
  ·exact hs
  ·exact hml x hx
 ·rw [List.length_cons]
  omega
theorem insert_any (ns : List (List UInt8)) (s : List UInt8) (hs : s.length ≤ maxLen) (A : Option Addr) (n c : Nat) (w : World) (hr : SetRow ns w A n c) (hb : ns.length ≤ 7000000000000) :
 Calls Tryz.prog 47 #[.slice A n c,.string ⟨s.toArray⟩] w (SetPost (s :: ns) w):=by
 have HR0:=Lib.hid hr
 obtain ⟨m,hn,hnc,hrd,hasc,hmem,hml,hnl⟩:=hr
 have HH:=Lib.hid (And.intro hn (And.intro hrd (And.intro hasc (And.intro hmem (And.intro hml (And.intro hs hnl))))))
 have hn7 : n ≤ 7000000000000:=Nat.le_trans hnl hb
 obtain ⟨i0,hi0,hiz,his,hib⟩:=info_parts infoStrA
 have HI0:=Lib.hid (And.intro hi0 (And.intro hiz (And.intro his hib)))
 clear hi0 hiz his hib hn hrd hasc hmem hml hs hnl hb
 have HB0:=Lib.hid (Below.refl w.heap.size w)
 go_enter Tryz.func47,Tryz.ntmps47
 go_wp2
 go_loopg [5] n (fun mm j wr => ∃ k : Nat,mm = n - k ∧ k ≤ n ∧ j = .int .i64 k ∧ Hid (w = wr ∧ ∀ (j : Nat) x,j < k → m[j]? = some x → x < s))
 case atStart => exact ⟨0,rfl,Nat.zero_le _,rfl,Lib.hid ⟨rfl,fun j x hj => absurd hj (Nat.not_lt_zero _)⟩⟩
 case round =>
  obtain ⟨k,rfl,hk,rfl,HI⟩:=hrel
  have hk0 : (0 : Int) ≤ k:=by omega
  obtain ⟨hw,hpre⟩:=HI.out
  subst hw
  have HPre:=Lib.hid hpre
  clear hpre
  by_cases hlt : k < n
  ·have hki : (k : Int) < n:=by omega
   obtain ⟨x,hx⟩ : ∃ x,m[k]? = some x:=⟨m[k]'(by rw [← HH.out.1];exact hlt),List.getElem?_eq_getElem _⟩
   obtain ⟨a,u,rfl,hab,hu,c0⟩:=HH.out.2.1.at_ hlt
   obtain rfl : u = encF x:=Option.some.inj (hu.symm.trans (by rw [List.getElem?_map,hx];rfl))
   have HX:=Lib.hid (And.intro hx hlt)
   clear hx hu hab
   by_cases hxs : x < s
   ·have hbl : Op.bytesLess x s = true:=by rw [Go.Proofs.bytesLess_eq];exact decide_eq_true hxs
    have HXS:=Lib.hid hxs
    clear hxs
    go_wp2
    go_roundg (n - (k + 1))
    case measure => have := HX.out.2;omega
    case rel =>
     refine ⟨k + 1,rfl,(by have := HX.out.2;omega),by go_num,Lib.hid ⟨rfl,fun j y hj hy => ?_⟩⟩
     by_cases hjk : j < k
     ·exact HPre.out j y hjk hy
     ·obtain rfl : j = k:=by omega
      obtain rfl : x = y:=Option.some.inj (HX.out.1.symm.trans hy)
      exact HXS.out
   ·have hbl : Op.bytesLess x s = false:=by rw [Go.Proofs.bytesLess_eq];exact decide_eq_false hxs
    by_cases hxe : x = s
    ·subst hxe
     go_wp2
     go_ret
     refine ⟨some a,n,c,rfl,?_,HB0.out⟩
     refine HR0.out.same (fun y => ?_) (by simp)
     have hxm : x ∈ ns:=(HH.out.2.2.2.1 x).1 (List.mem_of_getElem? HX.out.1)
     rw [List.mem_cons]
     exact ⟨.inr,fun h => h.elim (fun e => e ▸ hxm) id⟩
    ·have hbe : (x == s) = false:=by simpa using hxe
     have hsx : s < x:=by
      by_cases h : s < x
      ·exact h
      ·exact absurd (List.le_antisymm (List.not_lt.1 h) (List.not_lt.1 hxs)) hxe
     have HGE : Hid (∀ y,m[k]? = some y → s < y):=Lib.hid (fun y hy => by
      obtain rfl : x = y:=Option.some.inj (HX.out.1.symm.trans hy)
      exact hsx)
     clear hsx hxe hxs
     have hk1 : k ≤ n:=hk
     have HP6 : Hid ((w.alloc (.cells #[] 9)).ownsRow w.heap.size 9 1 (.slice (some ⟨w.heap.size,0,none⟩) 0 0) 0 (([] : List (List UInt8)).map encF)):=Lib.hid (own_emptyI w _ _ _ (Nat.le_refl _))
     have HBA : Hid (Below w.heap.size w (w.alloc (.cells #[] 9))):=Lib.hid (below_alloc _ _)
     have HRD : Hid (∀ W,Below w.heap.size w W → Reads W w.heap.size 1 (some a) n (m.map encF)):=Lib.hid (fun W hb => HH.out.2.1.below hb)
     go_wp2_with (first
      | (at_builtin;refine exL_append (o:=⟨some 38,_,_,_,_,_⟩) (m1:=[]) (m2:=m.take k) (B:=w.heap.size) _ rfl _ _ rfl (by rfl) (by rfl) HP6.out (by rw [List.map_take];exact reads_take (HRD.out _ HBA.out) hk1) (by omega) HBA.out.size ?_;intro A7 c7 w7 o7 b7;rw [Nat.zero_add] at o7;have H7:=Lib.hid (And.intro o7 (HBA.out.trans b7));have HL7:=Lib.hid (And.intro (H7.out.1.alloc (.cells #[.string ⟨s.toArray⟩] 9)) (H7.out.2.trans ((below_alloc w7 (.cells #[.string ⟨s.toArray⟩] 9)).mono H7.out.2.size)));clear o7 b7)
      | (at_builtin;refine exL_append (o:=⟨some 42,_,_,_,_,_⟩) (m1:=[] ++ m.take k) (m2:=[s]) (B:=w7.heap.size + 1) _ rfl _ _ rfl (by rfl) (by rfl) HL7.out.1 (by have h:=Reads.of_own (World.ownsRow_lit (base:=0) (e:=9) (size:=1) w7 #[.string ⟨s.toArray⟩] 1 (Nat.zero_le _) (by unfold maxLen;omega) rfl);rw [size_of_alloc] at h;exact h) (by omega) HL7.out.2.size ?_;intro A8 c8 w8 o8 b8;have H8:=Lib.hid (And.intro o8 (HL7.out.2.trans b8));clear o8 b8)
      | (at_builtin;refine exL_append (o:=⟨some 47,_,_,_,_,_⟩) (m1:=[] ++ m.take k ++ [s]) (m2:=m.drop k) (B:=w.heap.size) _ rfl _ _ rfl (by rfl) (by rfl) H8.out.1 (by rw [List.map_drop];exact reads_drop (HRD.out _ H8.out.2) hk1) (by omega) H8.out.2.size ?_;intro A9 c9 w9 o9 b9;have H9:=Lib.hid (And.intro o9 (H8.out.2.trans b9));clear o9 b9))
     go_ret
     exact ins_post HH.out.1 HH.out.2.2.1 HH.out.2.2.2.1 HH.out.2.2.2.2.1 HH.out.2.2.2.2.2.1 HH.out.2.2.2.2.2.2 hk1 HPre.out HGE.out rfl H9.out.1 H9.out.2
  ·have hkn : k = n:=by omega
   have hki : ¬ (k : Int) < n:=by omega
   have HGE : Hid (∀ y,m[k]? = some y → s < y):=Lib.hid (fun y hy => by
    have := (List.getElem?_eq_some_iff.1 hy).1
    have := HH.out.1
    omega)
   have HKN:=Lib.hid hkn
   clear hlt hkn
   rcases A with _ | a
   ·have hk1 : k ≤ n:=hk
    have HP6 : Hid ((w.alloc (.cells #[] 9)).ownsRow w.heap.size 9 1 (.slice (some ⟨w.heap.size,0,none⟩) 0 0) 0 (([] : List (List UInt8)).map encF)):=Lib.hid (own_emptyI w _ _ _ (Nat.le_refl _))
    have HBA : Hid (Below w.heap.size w (w.alloc (.cells #[] 9))):=Lib.hid (below_alloc _ _)
    have HRD : Hid (∀ W,Below w.heap.size w W → Reads W w.heap.size 1 none n (m.map encF)):=Lib.hid (fun W hb => HH.out.2.1.below hb)
    go_wp2_with (first
     | (at_builtin;refine exL_append (o:=⟨some 38,_,_,_,_,_⟩) (m1:=[]) (m2:=m.take k) (B:=w.heap.size) _ rfl _ _ rfl (by rfl) (by rfl) HP6.out (by rw [List.map_take];exact reads_take (HRD.out _ HBA.out) hk1) (by omega) HBA.out.size ?_;intro A7 c7 w7 o7 b7;rw [Nat.zero_add] at o7;have H7:=Lib.hid (And.intro o7 (HBA.out.trans b7));have HL7:=Lib.hid (And.intro (H7.out.1.alloc (.cells #[.string ⟨s.toArray⟩] 9)) (H7.out.2.trans ((below_alloc w7 (.cells #[.string ⟨s.toArray⟩] 9)).mono H7.out.2.size)));clear o7 b7)
     | (at_builtin;refine exL_append (o:=⟨some 42,_,_,_,_,_⟩) (m1:=[] ++ m.take k) (m2:=[s]) (B:=w7.heap.size + 1) _ rfl _ _ rfl (by rfl) (by rfl) HL7.out.1 (by have h:=Reads.of_own (World.ownsRow_lit (base:=0) (e:=9) (size:=1) w7 #[.string ⟨s.toArray⟩] 1 (Nat.zero_le _) (by unfold maxLen;omega) rfl);rw [size_of_alloc] at h;exact h) (by omega) HL7.out.2.size ?_;intro A8 c8 w8 o8 b8;have H8:=Lib.hid (And.intro o8 (HL7.out.2.trans b8));clear o8 b8)
     | (at_builtin;refine exL_append (o:=⟨some 47,_,_,_,_,_⟩) (m1:=[] ++ m.take k ++ [s]) (m2:=m.drop k) (B:=w.heap.size) _ rfl _ _ rfl (by rfl) (by rfl) H8.out.1 (by rw [List.map_drop];exact reads_end HKN.out (by rw [List.length_map];exact HH.out.1)) (by omega) H8.out.2.size ?_;intro A9 c9 w9 o9 b9;have H9:=Lib.hid (And.intro o9 (H8.out.2.trans b9));clear o9 b9))
    go_ret
    exact ins_post HH.out.1 HH.out.2.2.1 HH.out.2.2.2.1 HH.out.2.2.2.2.1 HH.out.2.2.2.2.2.1 HH.out.2.2.2.2.2.2 hk1 HPre.out HGE.out rfl H9.out.1 H9.out.2
   ·have hk1 : k ≤ n:=hk
    have HP6 : Hid ((w.alloc (.cells #[] 9)).ownsRow w.heap.size 9 1 (.slice (some ⟨w.heap.size,0,none⟩) 0 0) 0 (([] : List (List UInt8)).map encF)):=Lib.hid (own_emptyI w _ _ _ (Nat.le_refl _))
    have HBA : Hid (Below w.heap.size w (w.alloc (.cells #[] 9))):=Lib.hid (below_alloc _ _)
    have HRD : Hid (∀ W,Below w.heap.size w W → Reads W w.heap.size 1 (some a) n (m.map encF)):=Lib.hid (fun W hb => HH.out.2.1.below hb)
    go_wp2_with (first
     | (at_builtin;refine exL_append (o:=⟨some 38,_,_,_,_,_⟩) (m1:=[]) (m2:=m.take k) (B:=w.heap.size) _ rfl _ _ rfl (by rfl) (by rfl) HP6.out (by rw [List.map_take];exact reads_take (HRD.out _ HBA.out) hk1) (by omega) HBA.out.size ?_;intro A7 c7 w7 o7 b7;rw [Nat.zero_add] at o7;have H7:=Lib.hid (And.intro o7 (HBA.out.trans b7));have HL7:=Lib.hid (And.intro (H7.out.1.alloc (.cells #[.string ⟨s.toArray⟩] 9)) (H7.out.2.trans ((below_alloc w7 (.cells #[.string ⟨s.toArray⟩] 9)).mono H7.out.2.size)));clear o7 b7)
     | (at_builtin;refine exL_append (o:=⟨some 42,_,_,_,_,_⟩) (m1:=[] ++ m.take k) (m2:=[s]) (B:=w7.heap.size + 1) _ rfl _ _ rfl (by rfl) (by rfl) HL7.out.1 (by have h:=Reads.of_own (World.ownsRow_lit (base:=0) (e:=9) (size:=1) w7 #[.string ⟨s.toArray⟩] 1 (Nat.zero_le _) (by unfold maxLen;omega) rfl);rw [size_of_alloc] at h;exact h) (by omega) HL7.out.2.size ?_;intro A8 c8 w8 o8 b8;have H8:=Lib.hid (And.intro o8 (HL7.out.2.trans b8));clear o8 b8)
     | (at_builtin;refine exL_append (o:=⟨some 47,_,_,_,_,_⟩) (m1:=[] ++ m.take k ++ [s]) (m2:=m.drop k) (B:=w.heap.size) _ rfl _ _ rfl (by rfl) (by rfl) H8.out.1 (by rw [List.map_drop];exact reads_end HKN.out (by rw [List.length_map];exact HH.out.1)) (by omega) H8.out.2.size ?_;intro A9 c9 w9 o9 b9;have H9:=Lib.hid (And.intro o9 (H8.out.2.trans b9));clear o9 b9))
    all_goals go_ret
    all_goals exact ins_post HH.out.1 HH.out.2.2.1 HH.out.2.2.2.1 HH.out.2.2.2.2.1 HH.out.2.2.2.2.2.1 HH.out.2.2.2.2.2.2 hk1 HPre.out HGE.out rfl H9.out.1 H9.out.2
end Go.Proofs.YthenbbpagbdbeaaGreatDoor
namespace Go.Proofs.YthenbbpagbdbeaaGreatDoor
set_option maxRecDepth 100000
set_option maxHeartbeats 8000000
open Go.RowKit Go.Lib
theorem rvars_any : ∀ (M : Nat) (l : List Ex),SizeOf.sizeOf l < M → ∀ (k nn : Int) (s : List UInt8) (A : Option Addr) (c : Nat) (w : World),ExRow w w.heap.size l A → s.length ≤ maxLen → l.length ≤ maxLen → (exVars (.mk k nn s l)).length ≤ 7000000000000 →
 Calls Tryz.prog 14 #[exprV k nn ⟨s.toArray⟩ (.slice A l.length c)] w (SetPost (exVars (.mk k nn s l)) w):=by
 intro M
 induction M with
 | zero => intro l h;omega
 | succ M ih =>
   intro l hM k nn s A0 c0 w hr hs hl hcnt
   rw [exVars] at hcnt ⊢
   rw [List.length_append] at hcnt
   obtain ⟨V0,hV0⟩ : ∃ V0 : List (List UInt8),V0 = if k = 2 then [s] else []:=⟨_,rfl⟩
   rw [← hV0] at hcnt ⊢
   obtain ⟨z,hz⟩ : ∃ z,z = l.length:=⟨_,rfl⟩
   rw [← hz] at hl ⊢
   have ih2 : ∀ l : List Ex,SizeOf.sizeOf l < M → ∀ (k nn : Int) (s : List UInt8) (A : Option Addr) (c : Nat) (w : World),ExRow w w.heap.size l A → s.length ≤ maxLen → l.length ≤ maxLen → (exVars (.mk k nn s l)).length ≤ 7000000000000 →
    Calls Tryz.prog 14 #[exprV k nn ⟨s.toArray⟩ (.slice A l.length c)] w (SetPost (exVars (.mk k nn s l)) w):=ih
   obtain ⟨W1,hW1⟩ : ∃ W1,W1 = w.alloc (exprC k nn ⟨s.toArray⟩ (.slice A0 z c0)):=⟨_,rfl⟩
   have hb1 : Below w.heap.size w W1:=by rw [hW1];exact below_alloc w _
   have hp1 : W1.heap[w.heap.size]? = some (exprC k nn ⟨s.toArray⟩ (.slice A0 z c0)):=by rw [hW1];exact heap_of_alloc w _
   have HH:=Lib.hid (And.intro hr (And.intro hM (And.intro ih2 (And.intro hcnt (And.intro hz (And.intro hb1 (And.intro hp1 hs)))))))
   have HC3 : Hid (∀ W,Below W1.heap.size W1 W → W.cell? ⟨w.heap.size,3,none⟩ = some (.slice A0 z c0)):=Lib.hid (fun W hb => cell_of_block (kept_box hb hp1) 3 rfl)
   clear hr hM ih ih2 hcnt hz hs hb1 hp1
   unfold maxLen at hl
   obtain ⟨W2,hW2⟩ : ∃ W2,W2 = W1:=⟨_,rfl⟩
   by_cases h2 : k = 2
   ·subst h2
    have HV0 : Hid (V0 = [s]):=Lib.hid (by rw [hV0,if_pos rfl])
    clear hV0 hW2 W2
    go_enter Tryz.func14,Tryz.ntmps14
    have HRo : Hid (Reads (W1.alloc (.cells #[.string ⟨s.toArray⟩] 9)) (W1.heap.size + 1) 1 (some ⟨W1.heap.size,0,none⟩) 1 ([s].map encF)):=Lib.hid (by
     have h:=Reads.of_own (World.ownsRow_lit (base:=0) (e:=9) (size:=1) W1 #[.string ⟨s.toArray⟩] 1 (Nat.zero_le _) (by unfold maxLen;omega) rfl)
     rw [size_of_alloc] at h
     exact h)
    have HBo : Hid (Below (w.heap.size + 1) W1 (W1.alloc (.cells #[.string ⟨s.toArray⟩] 9))):=Lib.hid (by
     have h:=below_alloc W1 (.cells #[.string ⟨s.toArray⟩] 9)
     have e : W1.heap.size = w.heap.size + 1:=by rw [hW1,size_of_alloc]
     rwa [e] at h)
    rw [hW1] at HRo HBo
    simp only [size_of_alloc] at HRo
    go_wp2_with (at_builtin;go_loud (refine exL_append (o:=⟨some 14,_,_,_,_,_⟩) (m1:=[]) (m2:=[s]) (B0:=w.heap.size + 1) (B:=w.heap.size + 1 + 1) _ rfl _ _ rfl (by rfl) (by rfl) (World.ownsRow_nil _ _ _ _) HRo.out (by omega) (by simp only [size_of_alloc];omega) ?_);go_loud (intro A7 c7 w7 o7 b7;rw [Nat.zero_add] at o7;have H7:=Lib.hid (And.intro o7 (HBo.out.trans b7));clear o7 b7))
    have HS0 : Hid (SetRow V0 w7 A7 1 c7 ∧ Below W1.heap.size W1 w7):=Lib.hid ⟨by
     rw [HV0.out]
     obtain ⟨o7,b7⟩:=H7.out
     refine ⟨[s],rfl,?_,Reads.of_own o7,⟨by simp,by simp⟩,fun x => Iff.rfl,fun x hx => by rw [List.mem_singleton.1 hx];exact HH.out.2.2.2.2.2.2.2,Nat.le_refl _⟩
     rcases o7.2 with ⟨_,h0⟩ | ⟨g,cap,cur,e1,_,_,hnc,_⟩
     ·omega
     ·injection e1 with _ _ e1
      omega,by rw [hW1,size_of_alloc];exact H7.out.2⟩
    clear hW1
    go_loopg [3,4] z (fun mm v j wr => ∃ (i n c : Nat) (A : Option Addr),mm = z - i ∧ i ≤ z ∧ j = .int .i64 i ∧ v = .slice A n c ∧ Hid (SetRow (V0 ++ exsVars (l.take i)) wr A n c ∧ Below W1.heap.size W1 wr))
    case atStart => exact ⟨0,1,c7,A7,rfl,Nat.zero_le _,rfl,rfl,Lib.hid ⟨by rw [List.take_zero,exsVars,List.append_nil];exact HS0.out.1,HS0.out.2⟩⟩
    case round =>
     obtain ⟨i,n,c,A,rfl,hi,rfl,rfl,HI⟩:=hrel
     have hi0 : (0 : Int) ≤ i:=by omega
     have c3:=HC3.out _ HI.out.2
     by_cases hlt : i < z
     ·have hii : (i : Int) < z:=by omega
      have hbw : Below w.heap.size w wr:=HH.out.2.2.2.2.2.1.chain HI.out.2
      obtain ⟨⟨k0,n0,s0,l0⟩,hg⟩ : ∃ x,l[i]? = some x:=⟨l[i]'(by rw [← HH.out.2.2.2.2.1];exact hlt),List.getElem?_eq_getElem _⟩
      obtain ⟨a,A',c',rfl,hab,y0,y1,y2,y3,hs0,hl0,hrow⟩:=(HH.out.1.on hbw).at_ hg
      have e0 : wr.cell? (a.add (i * 4)) = some (.int .i64 k0):=y0
      have e1 : wr.cell? ⟨(a.add (i * 4)).block,(a.add (i * 4)).off + 1,none⟩ = some (.int .i64 n0):=y1
      have e2 : wr.cell? ⟨(a.add (i * 4)).block,(a.add (i * 4)).off + 2,none⟩ = some (.string ⟨s0.toArray⟩):=y2
      have e3 : wr.cell? ⟨(a.add (i * 4)).block,(a.add (i * 4)).off + 3,none⟩ = some (.slice A' l0.length c'):=y3
      have hle:=exsVars_le l i _ hg
      have htk:=exsVars_take l i _ hg
      obtain ⟨Vx,hVx⟩ : ∃ v,v = exVars (.mk k0 n0 s0 l0):=⟨_,rfl⟩
      rw [← hVx] at hle htk
      have hin : SizeOf.sizeOf l0 < M:=by
       have h1:=HH.out.2.1
       have h2:=List.sizeOf_lt_of_mem (List.mem_of_getElem? hg)
       have h3 : SizeOf.sizeOf l0 < SizeOf.sizeOf (Ex.mk k0 n0 s0 l0):=by simp;omega
       omega
      have HC : Hid (Calls Tryz.prog 14 #[exprV k0 n0 ⟨s0.toArray⟩ (.slice A' l0.length c')] wr (SetPost Vx wr)):=Lib.hid (by
       rw [hVx]
       refine HH.out.2.2.1 l0 hin k0 n0 s0 A' c' wr hrow hs0 hl0 ?_
       have := HH.out.2.2.2.1
       rw [← hVx]
       omega)
      have HG:=Lib.hid (And.intro htk (And.intro hle hlt))
      clear hg hbw hab y0 y1 y2 y3 hs0 hl0 hrow hle htk hVx hin
      generalize l0.length = nl0 at *
      go_wp2_with (go_at_call 14;(with_reducible refine HC.out.mono ?_);rintro e w5 ⟨A5,n5,c5,rfl,h5,hb5⟩;have HS5 : Hid (SetRow (V0 ++ exsVars (l.take i)) w5 A n c ∧ SetRow Vx w5 A5 n5 c5):=Lib.hid ⟨HI.out.1.on hb5,h5⟩;have H5w:=Lib.hid hb5;clear h5 hb5)
      obtain ⟨Bs,hBs⟩ : ∃ Bs : List (List UInt8),Bs = V0 ++ exsVars (l.take i):=⟨_,rfl⟩
      rw [← hBs] at HS5
      have HBs:=Lib.hid hBs
      have hbl : Bs.length + Vx.length ≤ 7000000000000:=by rw [hBs];have h1:=HH.out.2.2.2.1;have h2:=HG.out.2.1;simp only [List.length_append];omega
      clear hBs
      obtain ⟨m5,hn5,hc5,hrd5,hasc5,hmem5,hml5,hnl5⟩:=HS5.out.2
      have HM5:=Lib.hid (And.intro hn5 (And.intro hrd5 (And.intro hmem5 (And.intro hml5 hnl5))))
      have hnb5 : n5 ≤ 7000000000000:=Nat.le_trans hnl5 (by have h1:=HH.out.2.2.2.1;have h2:=HG.out.2.1;omega)
      clear hn5 hrd5 hasc5 hmem5 hml5 hnl5
      go_loopg [3,6] n5 (fun mm v j wr2 => ∃ (q n c : Nat) (A : Option Addr),mm = n5 - q ∧ q ≤ n5 ∧ j = .int .i64 q ∧ v = .slice A n c ∧ Hid (SetRow (Bs ++ m5.take q) wr2 A n c ∧ Below w5.heap.size w5 wr2))
      case atStart => exact ⟨0,n,c,A,rfl,Nat.zero_le _,rfl,rfl,Lib.hid ⟨by rw [List.take_zero,List.append_nil];exact HS5.out.1,Below.refl _ _⟩⟩
      case round =>
       obtain ⟨q,n6,c6,A6,rfl,hq,rfl,rfl,HJ⟩:=hrel
       have hq0 : (0 : Int) ≤ q:=by omega
       by_cases hqt : q < n5
       ·have hqi : (q : Int) < n5:=by omega
        obtain ⟨y,hy⟩ : ∃ y,m5[q]? = some y:=⟨m5[q]'(by rw [← HM5.out.1];exact hqt),List.getElem?_eq_getElem _⟩
        obtain ⟨a5,u5,rfl,hab5,hu5,c5y⟩:=(HM5.out.2.1.below HJ.out.2).at_ hqt
        obtain rfl : u5 = encF y:=Option.some.inj (hu5.symm.trans (by rw [List.getElem?_map,hy];rfl))
        have HI7:=Lib.hid (insert_any (Bs ++ m5.take q) y (HM5.out.2.2.2.1 y (List.mem_of_getElem? hy)) A6 n6 c6 wr HJ.out.1 (by rw [List.length_append,List.length_take];have := HM5.out.2.2.2.2;omega))
        have HY:=Lib.hid (And.intro hy hqt)
        clear hy hab5 hu5
        go_wp2_with (go_at_call 47;(with_reducible refine HI7.out.mono ?_);rintro e w7 ⟨A7,n7,c7,rfl,h7,hb7⟩;have H7:=Lib.hid (And.intro h7 hb7);clear h7 hb7)
        go_roundg (n5 - (q + 1))
        case measure => have := HY.out.2;omega
        case rel =>
         refine ⟨q + 1,n7,c7,A7,rfl,(by have := HY.out.2;omega),by go_num,rfl,Lib.hid ⟨?_,HJ.out.2.chain H7.out.2⟩⟩
         refine H7.out.1.same (fun z => ?_) ?_
         ·rw [List.take_add_one,HY.out.1,List.mem_cons,List.mem_append,List.mem_append,List.mem_append]
          show z = y ∨ z ∈ Bs ∨ z ∈ m5.take q ↔ z ∈ Bs ∨ z ∈ m5.take q ∨ z ∈ [y]
          rw [List.mem_singleton]
          constructor
          ·rintro (h | h | h)
           ·exact .inr (.inr h)
           ·exact .inl h
           ·exact .inr (.inl h)
          ·rintro (h | h | h)
           ·exact .inr (.inl h)
           ·exact .inr (.inr h)
           ·exact .inl h
         ·rw [List.take_add_one,HY.out.1]
          show _ ≤ (Bs ++ (m5.take q ++ [y])).length
          simp only [List.length_append,List.length_cons,List.length_nil]
          omega
       ·obtain rfl : q = n5:=by omega
        have HI5 : Hid (SetRow (Bs ++ Vx) wr A6 n6 c6 ∧ Below w5.heap.size w5 wr):=Lib.hid ⟨by
         have h1:=HJ.out.1
         rw [show m5.take q = m5 from List.take_of_length_le (by rw [← HM5.out.1];exact Nat.le_refl _)] at h1
         refine h1.same (fun z => ?_) ?_
         ·rw [List.mem_append,List.mem_append,HM5.out.2.2.1]
         ·have := HM5.out.2.2.2.2
          have h2:=HM5.out.1
          rw [List.length_append,List.length_append]
          omega,HJ.out.2⟩
        have HB6 : Hid (Below W1.heap.size W1 wr):=Lib.hid (HI.out.2.chain (H5w.out.chain HI5.out.2))
        have c3:=HC3.out _ HB6.out
        go_wp2
        go_roundg (z - (i + 1))
        case measure => have := HG.out.2.2;omega
        case rel => exact ⟨i + 1,n6,c6,A6,rfl,(by have := HG.out.2.2;omega),by go_num,rfl,Lib.hid ⟨by rw [HG.out.1,← List.append_assoc,← HBs.out];exact HI5.out.1,HB6.out⟩⟩
     ·obtain rfl : i = z:=by omega
      go_wp2
      go_ret
      have h1:=HI.out.1
      rw [show l.take i = l from List.take_of_length_le (by rw [← HH.out.2.2.2.2.1];exact Nat.le_refl _)] at h1
      exact ⟨A,n,c,rfl,h1,HH.out.2.2.2.2.2.1.chain HI.out.2⟩
   ·have hkb : (k == 2) = false:=by simpa using h2
    have HS0 : Hid (SetRow V0 W1 none 0 0 ∧ Below W1.heap.size W1 W1):=Lib.hid ⟨by rw [hV0,if_neg h2];exact SetRow.none_ _ _,Below.refl _ _⟩
    clear hV0 h2 hW2 W2
    go_enter Tryz.func14,Tryz.ntmps14
    go_wp2
    rw [← hW1]
    clear hW1
    go_loopg [3,4] z (fun mm v j wr => ∃ (i n c : Nat) (A : Option Addr),mm = z - i ∧ i ≤ z ∧ j = .int .i64 i ∧ v = .slice A n c ∧ Hid (SetRow (V0 ++ exsVars (l.take i)) wr A n c ∧ Below W1.heap.size W1 wr))
    case atStart => exact ⟨0,0,0,none,rfl,Nat.zero_le _,rfl,rfl,Lib.hid ⟨by rw [List.take_zero,exsVars,List.append_nil];exact HS0.out.1,HS0.out.2⟩⟩
    case round =>
     obtain ⟨i,n,c,A,rfl,hi,rfl,rfl,HI⟩:=hrel
     have hi0 : (0 : Int) ≤ i:=by omega
     have c3:=HC3.out _ HI.out.2
     by_cases hlt : i < z
     ·have hii : (i : Int) < z:=by omega
      have hbw : Below w.heap.size w wr:=HH.out.2.2.2.2.2.1.chain HI.out.2
      obtain ⟨⟨k0,n0,s0,l0⟩,hg⟩ : ∃ x,l[i]? = some x:=⟨l[i]'(by rw [← HH.out.2.2.2.2.1];exact hlt),List.getElem?_eq_getElem _⟩
      obtain ⟨a,A',c',rfl,hab,y0,y1,y2,y3,hs0,hl0,hrow⟩:=(HH.out.1.on hbw).at_ hg
      have e0 : wr.cell? (a.add (i * 4)) = some (.int .i64 k0):=y0
      have e1 : wr.cell? ⟨(a.add (i * 4)).block,(a.add (i * 4)).off + 1,none⟩ = some (.int .i64 n0):=y1
      have e2 : wr.cell? ⟨(a.add (i * 4)).block,(a.add (i * 4)).off + 2,none⟩ = some (.string ⟨s0.toArray⟩):=y2
      have e3 : wr.cell? ⟨(a.add (i * 4)).block,(a.add (i * 4)).off + 3,none⟩ = some (.slice A' l0.length c'):=y3
      have hle:=exsVars_le l i _ hg
      have htk:=exsVars_take l i _ hg
      obtain ⟨Vx,hVx⟩ : ∃ v,v = exVars (.mk k0 n0 s0 l0):=⟨_,rfl⟩
      rw [← hVx] at hle htk
      have hin : SizeOf.sizeOf l0 < M:=by
       have h1:=HH.out.2.1
       have h2:=List.sizeOf_lt_of_mem (List.mem_of_getElem? hg)
       have h3 : SizeOf.sizeOf l0 < SizeOf.sizeOf (Ex.mk k0 n0 s0 l0):=by simp;omega
       omega
      have HC : Hid (Calls Tryz.prog 14 #[exprV k0 n0 ⟨s0.toArray⟩ (.slice A' l0.length c')] wr (SetPost Vx wr)):=Lib.hid (by
       rw [hVx]
       refine HH.out.2.2.1 l0 hin k0 n0 s0 A' c' wr hrow hs0 hl0 ?_
       have := HH.out.2.2.2.1
       rw [← hVx]
       omega)
      have HG:=Lib.hid (And.intro htk (And.intro hle hlt))
      clear hg hbw hab y0 y1 y2 y3 hs0 hl0 hrow hle htk hVx hin
      generalize l0.length = nl0 at *
      go_wp2_with (go_at_call 14;(with_reducible refine HC.out.mono ?_);rintro e w5 ⟨A5,n5,c5,rfl,h5,hb5⟩;have HS5 : Hid (SetRow (V0 ++ exsVars (l.take i)) w5 A n c ∧ SetRow Vx w5 A5 n5 c5):=Lib.hid ⟨HI.out.1.on hb5,h5⟩;have H5w:=Lib.hid hb5;clear h5 hb5)
      obtain ⟨Bs,hBs⟩ : ∃ Bs : List (List UInt8),Bs = V0 ++ exsVars (l.take i):=⟨_,rfl⟩
      rw [← hBs] at HS5
      have HBs:=Lib.hid hBs
      have hbl : Bs.length + Vx.length ≤ 7000000000000:=by rw [hBs];have h1:=HH.out.2.2.2.1;have h2:=HG.out.2.1;simp only [List.length_append];omega
      clear hBs
      obtain ⟨m5,hn5,hc5,hrd5,hasc5,hmem5,hml5,hnl5⟩:=HS5.out.2
      have HM5:=Lib.hid (And.intro hn5 (And.intro hrd5 (And.intro hmem5 (And.intro hml5 hnl5))))
      have hnb5 : n5 ≤ 7000000000000:=Nat.le_trans hnl5 (by have h1:=HH.out.2.2.2.1;have h2:=HG.out.2.1;omega)
      clear hn5 hrd5 hasc5 hmem5 hml5 hnl5
      go_loopg [3,6] n5 (fun mm v j wr2 => ∃ (q n c : Nat) (A : Option Addr),mm = n5 - q ∧ q ≤ n5 ∧ j = .int .i64 q ∧ v = .slice A n c ∧ Hid (SetRow (Bs ++ m5.take q) wr2 A n c ∧ Below w5.heap.size w5 wr2))
      case atStart => exact ⟨0,n,c,A,rfl,Nat.zero_le _,rfl,rfl,Lib.hid ⟨by rw [List.take_zero,List.append_nil];exact HS5.out.1,Below.refl _ _⟩⟩
      case round =>
       obtain ⟨q,n6,c6,A6,rfl,hq,rfl,rfl,HJ⟩:=hrel
       have hq0 : (0 : Int) ≤ q:=by omega
       by_cases hqt : q < n5
       ·have hqi : (q : Int) < n5:=by omega
        obtain ⟨y,hy⟩ : ∃ y,m5[q]? = some y:=⟨m5[q]'(by rw [← HM5.out.1];exact hqt),List.getElem?_eq_getElem _⟩
        obtain ⟨a5,u5,rfl,hab5,hu5,c5y⟩:=(HM5.out.2.1.below HJ.out.2).at_ hqt
        obtain rfl : u5 = encF y:=Option.some.inj (hu5.symm.trans (by rw [List.getElem?_map,hy];rfl))
        have HI7:=Lib.hid (insert_any (Bs ++ m5.take q) y (HM5.out.2.2.2.1 y (List.mem_of_getElem? hy)) A6 n6 c6 wr HJ.out.1 (by rw [List.length_append,List.length_take];have := HM5.out.2.2.2.2;omega))
        have HY:=Lib.hid (And.intro hy hqt)
        clear hy hab5 hu5
        go_wp2_with (go_at_call 47;(with_reducible refine HI7.out.mono ?_);rintro e w7 ⟨A7,n7,c7,rfl,h7,hb7⟩;have H7:=Lib.hid (And.intro h7 hb7);clear h7 hb7)
        go_roundg (n5 - (q + 1))
        case measure => have := HY.out.2;omega
        case rel =>
         refine ⟨q + 1,n7,c7,A7,rfl,(by have := HY.out.2;omega),by go_num,rfl,Lib.hid ⟨?_,HJ.out.2.chain H7.out.2⟩⟩
         refine H7.out.1.same (fun z => ?_) ?_
         ·rw [List.take_add_one,HY.out.1,List.mem_cons,List.mem_append,List.mem_append,List.mem_append]
          show z = y ∨ z ∈ Bs ∨ z ∈ m5.take q ↔ z ∈ Bs ∨ z ∈ m5.take q ∨ z ∈ [y]
          rw [List.mem_singleton]
          constructor
          ·rintro (h | h | h)
           ·exact .inr (.inr h)
           ·exact .inl h
           ·exact .inr (.inl h)
          ·rintro (h | h | h)
           ·exact .inr (.inl h)
           ·exact .inr (.inr h)
           ·exact .inl h
         ·rw [List.take_add_one,HY.out.1]
          show _ ≤ (Bs ++ (m5.take q ++ [y])).length
          simp only [List.length_append,List.length_cons,List.length_nil]
          omega
       ·obtain rfl : q = n5:=by omega
        have HI5 : Hid (SetRow (Bs ++ Vx) wr A6 n6 c6 ∧ Below w5.heap.size w5 wr):=Lib.hid ⟨by
         have h1:=HJ.out.1
         rw [show m5.take q = m5 from List.take_of_length_le (by rw [← HM5.out.1];exact Nat.le_refl _)] at h1
         refine h1.same (fun z => ?_) ?_
         ·rw [List.mem_append,List.mem_append,HM5.out.2.2.1]
         ·have := HM5.out.2.2.2.2
          have h2:=HM5.out.1
          rw [List.length_append,List.length_append]
          omega,HJ.out.2⟩
        have HB6 : Hid (Below W1.heap.size W1 wr):=Lib.hid (HI.out.2.chain (H5w.out.chain HI5.out.2))
        have c3:=HC3.out _ HB6.out
        go_wp2
        go_roundg (z - (i + 1))
        case measure => have := HG.out.2.2;omega
        case rel => exact ⟨i + 1,n6,c6,A6,rfl,(by have := HG.out.2.2;omega),by go_num,rfl,Lib.hid ⟨by rw [HG.out.1,← List.append_assoc,← HBs.out];exact HI5.out.1,HB6.out⟩⟩
     ·obtain rfl : i = z:=by omega
      go_wp2
      go_ret
      have h1:=HI.out.1
      rw [show l.take i = l from List.take_of_length_le (by rw [← HH.out.2.2.2.2.1];exact Nat.le_refl _)] at h1
      exact ⟨A,n,c,rfl,h1,HH.out.2.2.2.2.2.1.chain HI.out.2⟩
end Go.Proofs.YthenbbpagbdbeaaGreatDoor
