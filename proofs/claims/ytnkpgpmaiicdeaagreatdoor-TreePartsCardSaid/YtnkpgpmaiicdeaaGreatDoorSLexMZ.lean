/-
  Plain mathematics of package lex, on lists of bytes: which bytes are letters and digits, the check of a number, blanks and comments, places, tokens. No program is imported.
  Plain facts on worlds, blocks and texts.
  Plain mathematics of package lex, part 2: blanks and comments, places.
  Plain mathematics of package lex, part 3: places.
  Plain mathematics of package lex, part 4: the token at the beginning of a text, and the tokens of a text.
  Plain mathematics of package lex, part 5: a token in front of a text that does not go on with it; splitting without a count of rounds.
-/
import Derived.Test.YtnkpgpmaiicdeaaGreatDoorProg
import Derived.WalkKit
import Derived.Below
import Derived.RowKit3
import Derived.WalkKit
import Derived.Below
import Derived.Lib.IndexMore
import Derived.Lib.LastIndexByte
import Derived.Lib.SlTrimSet
set_option linter.unusedVariables false
set_option linter.unusedSimpArgs false
namespace Go.Proofs.YtnkpgpmaiicdeaaGreatDoor
def isLetter (c : Int) : Bool:=(decide (97 ≤ c) && decide (c ≤ 122)) || (decide (65 ≤ c) && decide (c ≤ 90))
def isDigit (c : Int) : Bool:=decide (48 ≤ c) && decide (c ≤ 57)
def ltr (c : UInt8) : Bool:=isLetter (c.toNat : Int)
def dgt (c : UInt8) : Bool:=isDigit (c.toNat : Int)
def prt (c : UInt8) : Bool:=ltr c || dgt c || c == 95
def numF (l : List UInt8) : Int:=l.foldl (fun n c => min (10 * n + ((c.toNat : Int) - 48)) 1048577) 0
def checkNum (l : List UInt8) : Int :=
 if l.head? = some 48 ∧ 1 < l.length then 3
 else if l.all dgt then (if numF l ≤ 1048576 then 0 else 10) else 3
theorem take_snoc (s : ByteArray) (k : Nat) (h : k < s.size) : s.data.toList.take (k + 1) = s.data.toList.take k ++ [s[k]]:=by
 rw [List.take_succ_eq_append_getElem (by simpa using h)];rfl
theorem numF_snoc (l : List UInt8) (c : UInt8) : numF (l ++ [c]) = min (10 * numF l + ((c.toNat : Int) - 48)) 1048577:=by
 unfold numF;rw [List.foldl_append];rfl
theorem dgt_bd {c : UInt8} (h : dgt c = true) : 48 ≤ (c.toNat : Int) ∧ (c.toNat : Int) ≤ 57:=by
 unfold dgt isDigit at h;simp only [Bool.and_eq_true,decide_eq_true_eq] at h;exact h
theorem numF_bd (l : List UInt8) (h : l.all dgt = true) : 0 ≤ numF l ∧ numF l ≤ 1048577:=by
 have key : ∀ (l : List UInt8) (n : Int),l.all dgt = true → 0 ≤ n → n ≤ 1048577 → 0 ≤ l.foldl (fun n c => min (10 * n + ((c.toNat : Int) - 48)) 1048577) n ∧ l.foldl (fun n c => min (10 * n + ((c.toNat : Int) - 48)) 1048577) n ≤ 1048577:=by
  intro l
  induction l with
  | nil => intro n _ h1 h2;exact ⟨h1,h2⟩
  | cons c l ih =>
    intro n ha h1 h2
    rw [List.all_cons,Bool.and_eq_true] at ha
    have hb:=dgt_bd ha.1
    exact ih (min (10 * n + ((c.toNat : Int) - 48)) 1048577) ha.2 (by omega) (by omega)
 exact key l 0 h (by omega) (by omega)
theorem all_take_snoc (s : ByteArray) (k : Nat) (h : k < s.size) (ha : (s.data.toList.take k).all dgt = true) (hd : dgt s[k] = true) : (s.data.toList.take (k + 1)).all dgt = true:=by
 rw [take_snoc s k h,List.all_append,ha];simp [hd]
theorem not_all_of (s : ByteArray) (k : Nat) (h : k < s.size) (hd : dgt s[k] = false) : s.data.toList.all dgt = false:=by
 rw [← List.take_append_drop (k + 1) s.data.toList,List.all_append,take_snoc s k h,List.all_append];simp [hd]
theorem head_eq (s : ByteArray) (h : 0 < s.size) : s.data.toList.head? = some s[0]:=by
 rw [List.head?_eq_getElem?,List.getElem?_eq_getElem (by simpa using h)];rfl
def runL (l : List UInt8) : List UInt8:=l.takeWhile prt
theorem takeWhile_of (p : UInt8 → Bool) : ∀ (l : List UInt8) (n : Nat),n ≤ l.length → (l.take n).all p = true → (∀ c,l[n]? = some c → p c = false) → l.takeWhile p = l.take n
 | [],n,h,_,_ => by simp
 | c :: l,0,_,_,hc => by
   have := hc c (by simp)
   simp [this]
 | c :: l,n + 1,h,ha,hc => by
   rw [List.take_succ_cons,List.all_cons,Bool.and_eq_true] at ha
   rw [List.takeWhile_cons,ha.1,List.take_succ_cons]
   simp only [if_true]
   congr 1
   exact takeWhile_of p l n (by simpa using h) ha.2 (fun d hd => hc d (by simpa using hd))
theorem runL_of (s : ByteArray) (n : Nat) (h : n ≤ s.size) (ha : (s.data.toList.take n).all prt = true) (hc : ∀ _ : n < s.size,prt s[n] = false) : runL s.data.toList = s.data.toList.take n:=by
 refine takeWhile_of prt _ n h ha (fun c hc' => ?_)
 by_cases hlt : n < s.size
 ·rw [List.getElem?_eq_getElem (by simpa using hlt)] at hc'
  rw [← Option.some.inj hc'];exact hc hlt
 ·rw [List.getElem?_eq_none (by rw [show s.data.toList.length = s.size from rfl];omega)] at hc'
  cases hc'
theorem all_prt_snoc (s : ByteArray) (k : Nat) (h : k < s.size) (ha : (s.data.toList.take k).all prt = true) (hd : prt s[k] = true) : (s.data.toList.take (k + 1)).all prt = true:=by
 rw [take_snoc s k h,List.all_append,ha];simp [hd]
theorem prt_of_ltr {c : UInt8} (h : ltr c = true) : prt c = true:=by simp [prt,h]
theorem prt_of_dgt {c : UInt8} (h : dgt c = true) : prt c = true:=by simp [prt,h]
theorem size_list (s : ByteArray) : s.data.toList.length = s.size:=rfl
theorem prt_of_us {c : UInt8} (h : c.toNat = 95) : prt c = true:=by
 have : c = 95:=UInt8.toNat_inj.1 h
 subst this;decide
theorem prt_not {c : UInt8} (h1 : ltr c = false) (h2 : dgt c = false) (h3 : ¬ c.toNat = 95) : prt c = false:=by
 have : (c == 95) = false:=by rw [beq_eq_false_iff_ne];rintro rfl;exact h3 rfl
 simp [prt,h1,h2,this]
def checkLen (l : List UInt8) : Int:=if l.length ≤ 20 then 0 else 5
def syms : List (List UInt8):=[[61,61,62],[45,62],[61,61],[33,61],[60,61],[38,38],[124,124],[123],[125],[40],[41],[59],[44],[58],[46],[61],[60],[33],[38],[43],[45],[42]]
def symFind (l : List UInt8) : Option (List UInt8):=syms.find? (fun x => x.isPrefixOf l)
def symKind (l : List UInt8) : Int:=if (symFind l).isSome then 3 else 0
def symText (l : List UInt8) : List UInt8:=(symFind l).getD []
def symErr (l : List UInt8) : Int:=if (symFind l).isSome then 0 else 3
theorem find_at {α : Type} (p : α → Bool) (d : α) : ∀ (l : List α) (k : Nat),k < l.length → (∀ i,i < k → p (l.getD i d) = false) → p (l.getD k d) = true → l.find? p = some (l.getD k d)
 | [],k,h,_,_ => absurd h (Nat.not_lt_zero _)
 | x :: l,0,_,_,hp => by
   have hp' : p x = true:=hp
   simp [hp']
 | x :: l,k + 1,h,hn,hp => by
   have h0 : p x = false:=hn 0 (Nat.succ_pos _)
   rw [List.find?_cons,h0]
   have := find_at p d l k (by simpa using h) (fun i hi => hn (i + 1) (by omega)) hp
   simpa using this
theorem find_no {α : Type} (p : α → Bool) (d : α) : ∀ (l : List α),(∀ i,i < l.length → p (l.getD i d) = false) → l.find? p = none
 | [],_ => rfl
 | x :: l,hn => by
   have h0 : p x = false:=hn 0 (by simp)
   rw [List.find?_cons,h0]
   exact find_no p d l (fun i hi => hn (i + 1) (by simpa using hi))
theorem symText_at (l : List UInt8) (k : Nat) (hk : k < 22) (hn : ∀ i,i < k → (syms.getD i []).isPrefixOf l = false) (hp : (syms.getD k []).isPrefixOf l = true) : symKind l = 3 ∧ symText l = syms.getD k [] ∧ symErr l = 0:=by
 have h : symFind l = some (syms.getD k []):=find_at _ [] syms k hk hn hp
 unfold symKind symText symErr
 rw [h]
 exact ⟨rfl,rfl,rfl⟩
theorem symText_none (l : List UInt8) (hn : ∀ i,i < 22 → (syms.getD i []).isPrefixOf l = false) : symKind l = 0 ∧ symText l = [] ∧ symErr l = 3:=by
 have h : symFind l = none:=find_no _ [] syms hn
 unfold symKind symText symErr
 rw [h]
 exact ⟨rfl,rfl,rfl⟩
theorem first_prt (s : ByteArray) (h0 : 0 < s.size) (h : prt s[0] = true) : (s.data.toList.take 1).all prt = true:=by
 rw [take_snoc s 0 h0,List.take_zero,List.nil_append,List.all_cons,h];rfl
end Go.Proofs.YtnkpgpmaiicdeaaGreatDoor
namespace Go.Proofs.YtnkpgpmaiicdeaaGreatDoor
open Go.RowKit
theorem grown_of_below {W W' : World} (hb : Below W.heap.size W W') : W.grownBy W' none:=⟨hb.os,hb.tape,hb.output,hb.size,fun k hk _ => hb.block k hk⟩
theorem below_alloc (w : World) (o : Obj) : Below w.heap.size w (w.alloc o):=(Below.refl _ w).alloc (Nat.le_refl _) o
theorem heap_of_alloc (w : World) (o : Obj) : (w.alloc o).heap[w.heap.size]? = some o:=by
 show (w.heap.push o)[w.heap.size]? = _
 simp
theorem size_of_alloc (w : World) (o : Obj) : (w.alloc o).heap.size = w.heap.size + 1:=by
 show (w.heap.push o).size = _
 simp
theorem lt_of_block {W : World} {k : Nat} {o : Obj} (h : W.heap[k]? = some o) : k < W.heap.size:=(Array.getElem?_eq_some_iff.1 h).1
theorem cells_of2 {W : World} {b : Nat} {x y : Value} {t : TypeId} (h : W.heap[b]? = some (.cells #[x,y] t (0,0))) : W.cell? ⟨b,0,none⟩ = some x ∧ W.cell? ⟨b,1,none⟩ = some y ∧ W.frozen? ⟨b,0,none⟩ = false ∧ W.frozen? ⟨b,1,none⟩ = false :=
 ⟨by simp [World.cell?,h],by simp [World.cell?,h],by simp [World.frozen?,h],by simp [World.frozen?,h]⟩
theorem heap_setCell2 {W : World} {b : Nat} {x y u v : Value} {t : TypeId} (h : W.heap[b]? = some (.cells #[x,y] t (0,0))) : ((W.setCell ⟨b,0,none⟩ u).setCell ⟨b,1,none⟩ v).heap[b]? = some (.cells #[u,v] t (0,0)):=by
 simp [World.setCell,Array.getElem?_modify,h]
theorem ownsRow_mono {W : World} {b b' : Nat} {e : TypeId} {size : Nat} {v : Value} {n : Nat} {xs : List Value} (h : W.ownsRow b e size v n xs) (hb : b' ≤ b) : W.ownsRow b' e size v n xs:=by
 refine ⟨h.1,?_⟩
 rcases h.2 with h2 | ⟨g,cap,cur,hv,hg,r⟩
 ·exact Or.inl h2
 ·exact Or.inr ⟨g,cap,cur,hv,Nat.le_trans hb hg,r⟩
theorem _root_.Go.RowKit.Below.chain {w W1 W2 : World} (h1 : Below w.heap.size w W1) (h2 : Below W1.heap.size W1 W2) : Below w.heap.size w W2:=h1.trans (h2.mono h1.size)
theorem str_list (s : ByteArray) : (⟨s.data.toList.toArray⟩ : ByteArray) = s:=by
 apply ByteArray.ext
 simp
theorem own_slice {W : World} {B : Nat} {e : TypeId} {size n : Nat} {v : Value} {xs : List Value} (h : W.ownsRow B e size v n xs) : ∃ a c,v = .slice a n c:=by
 rcases h.2 with ⟨hv,hn⟩ | ⟨g,cap,cur,hv,_⟩
 ·exact ⟨none,0,by rw [hv,hn]⟩
 ·exact ⟨_,_,hv⟩
end Go.Proofs.YtnkpgpmaiicdeaaGreatDoor
namespace Go.Proofs.YtnkpgpmaiicdeaaGreatDoor
def wsList : List UInt8:=[32,9,13,10]
def skipM : Bool → List UInt8 → List UInt8
 | _,[] => []
 | true,c :: r => if c = 10 then skipM false r else skipM true r
 | false,c :: r => if wsList.contains c then skipM false r else if c = 35 then skipM true r else c :: r
def skipL (l : List UInt8) : List UInt8:=skipM false l
def afterNl : List UInt8 → List UInt8
 | [] => []
 | c :: r => if c = 10 then r else afterNl r
theorem afterNl_length : ∀ l : List UInt8,(afterNl l).length ≤ l.length
 | [] => Nat.le_refl _
 | c :: r => by
   unfold afterNl
   split
   ·simp
   ·have := afterNl_length r;simp;omega
theorem skipM_true (l : List UInt8) : skipM true l = skipM false (afterNl l):=by
 induction l with
 | nil => rfl
 | cons c r ih =>
   show (if c = 10 then skipM false r else skipM true r) = skipM false (if c = 10 then r else afterNl r)
   by_cases h : c = 10
   ·rw [if_pos h,if_pos h]
   ·rw [if_neg h,if_neg h];exact ih
theorem skip_trim (l : List UInt8) : skipL (Lib.trimLeftS l wsList) = skipL l:=by
 unfold Lib.trimLeftS skipL
 induction l with
 | nil => rfl
 | cons c r ih =>
   rw [List.dropWhile_cons]
   cases h : wsList.contains c with
   | true =>
     simp only [if_true]
     rw [ih]
     conv => rhs;unfold skipM
     rw [h];rfl
   | false => rfl
theorem cut_nl (l : List UInt8) : (Lib.cut l [10]).2.1 = afterNl l:=by
 have key : ∀ l : List UInt8,(0 ≤ Lib.index l [10] → l.drop ((Lib.index l [10]).toNat + 1) = afterNl l) ∧ (¬ 0 ≤ Lib.index l [10] → afterNl l = []):=by
  intro l
  induction l with
  | nil => exact ⟨fun h => absurd h (by decide),fun _ => rfl⟩
  | cons c r ih =>
    have hge:=Lib.index_ge r [10]
    unfold Lib.index afterNl
    by_cases hc : c = 10
    ·subst hc
     have hp : List.isPrefixOf [(10 : UInt8)] (10 :: r) = true:=by simp [List.isPrefixOf]
     rw [hp]
     simp
    ·have hp : List.isPrefixOf [(10 : UInt8)] (c :: r) = false:=by
      simp [List.isPrefixOf];exact fun h => hc h.symm
     rw [hp,if_neg hc]
     simp only [Bool.false_eq_true,if_false]
     by_cases h1 : Lib.index r [10] = -1
     ·rw [h1]
      simp only [BEq.rfl,if_true]
      exact ⟨fun h => absurd h (by decide),fun _ => ih.2 (by rw [h1];decide)⟩
     ·have hb : (Lib.index r [10] == -1) = false:=by rw [beq_eq_false_iff_ne];exact h1
      rw [hb]
      simp only [Bool.false_eq_true,if_false]
      refine ⟨fun _ => ?_,fun h => absurd (by omega) h⟩
      rw [show (Lib.index r [10] + 1).toNat + 1 = ((Lib.index r [10]).toNat + 1) + 1 by omega,List.drop_succ_cons]
      exact ih.1 (by omega)
 unfold Lib.cut
 by_cases h : 0 ≤ Lib.index l [10]
 ·rw [if_pos h];exact (key l).1 h
 ·rw [if_neg h];exact ((key l).2 h).symm
theorem skip_hash (l : List UInt8) (h : Lib.hasPrefix l [35] = true) : skipL (Lib.cut l [10]).2.1 = skipL l ∧ (Lib.cut l [10]).2.1.length < l.length:=by
 rw [cut_nl]
 cases l with
 | nil => cases h
 | cons c r =>
   have hc : c = 35:=by
    have : (35 : UInt8) = c:=by simpa [Lib.hasPrefix,List.isPrefixOf] using h
    exact this.symm
   subst hc
   have e : afterNl (35 :: r) = afterNl r:=rfl
   rw [e]
   refine ⟨?_,by have := afterNl_length r;simp;omega⟩
   unfold skipL
   conv => rhs;unfold skipM
   rw [← skipM_true]
   rfl
theorem skip_stop (l : List UInt8) (h : Lib.hasPrefix (Lib.trimLeftS l wsList) [35] = false) : skipL (Lib.trimLeftS l wsList) = Lib.trimLeftS l wsList:=by
 generalize hu : Lib.trimLeftS l wsList = u at *
 cases u with
 | nil => rfl
 | cons c r =>
   have hw : wsList.contains c = false:=by
    have := List.head?_dropWhile_not (p:=(wsList.contains ·)) (l:=l)
    unfold Lib.trimLeftS at hu
    rw [hu] at this
    simpa using this
   have h35 : ¬ c = 35:=by
    rintro rfl
    simp [Lib.hasPrefix,List.isPrefixOf] at h
   unfold skipL skipM
   rw [hw,if_neg h35]
   rfl
theorem trim_length (l : List UInt8) : (Lib.trimLeftS l wsList).length ≤ l.length:=(List.dropWhile_suffix _).length_le
end Go.Proofs.YtnkpgpmaiicdeaaGreatDoor
namespace Go.Proofs.YtnkpgpmaiicdeaaGreatDoor
def posStep (p : Int × Int) (c : UInt8) : Int × Int:=if c = 10 then (p.1 + 1,1) else (p.1,p.2 + 1)
def afterL (p : Int × Int) (l : List UInt8) : Int × Int:=l.foldl posStep p
theorem afterL_snoc (p : Int × Int) (l : List UInt8) (c : UInt8) : afterL p (l ++ [c]) = posStep (afterL p l) c:=by
 unfold afterL;rw [List.foldl_append];rfl
theorem afterL_append (p : Int × Int) (l m : List UInt8) : afterL p (l ++ m) = afterL (afterL p l) m:=by
 unfold afterL;rw [List.foldl_append]
theorem after_take (a b : Int) (s : ByteArray) : ∀ k : Nat,k ≤ s.size → afterL (a,b) (s.data.toList.take k) =
 if (s.data.toList.take k).count 10 = 0 then (a,b + k) else (a + ((s.data.toList.take k).count 10 : Nat),k - Lib.lastIdx s 10 k)
 | 0,_ => by simp [afterL]
 | k + 1,h => by
   have hk : k < s.size:=by omega
   rw [take_snoc s k hk,afterL_snoc,after_take a b s k (by omega)]
   have hb : s.data[k]! = s[k]:=by rw [getElem!_pos s.data k (by simpa using hk)];rfl
   rw [List.count_append]
   unfold posStep
   by_cases hc : s[k] = 10
   ·have h1 : List.count 10 [s[k]] = 1:=by rw [hc];rfl
    have h2 : Lib.lastIdx s 10 (k + 1) = k:=by
     unfold Lib.lastIdx
     rw [hb,hc];rfl
    rw [if_pos hc,h1,h2]
    by_cases h0 : List.count 10 (s.data.toList.take k) = 0
    ·rw [if_pos h0,if_neg (by omega),h0];simp;omega
    ·rw [if_neg h0,if_neg (by omega)];simp;omega
   ·have h1 : List.count 10 [s[k]] = 0:=by rw [List.count_eq_zero];simpa using fun h => hc h.symm
    have h2 : Lib.lastIdx s 10 (k + 1) = Lib.lastIdx s 10 k:=by
     conv => lhs;unfold Lib.lastIdx
     rw [hb,if_neg]
     intro h
     apply hc
     apply UInt8.toNat_inj.1
     have : ((s[k].toNat : Int)) = 10:=by simpa using h
     show s[k].toNat = 10
     omega
    rw [if_neg hc,h1,h2,Nat.add_zero]
    split <;> rename_i h0
    ·simp;omega
    ·simp;omega
theorem after_all (a b : Int) (s : ByteArray) : afterL (a,b) s.data.toList =
 if s.data.toList.count 10 = 0 then (a,b + s.size) else (a + (s.data.toList.count 10 : Nat),s.size - Lib.lastIndexByte s 10):=by
 have h:=after_take a b s s.size (Nat.le_refl _)
 rw [List.take_of_length_le (Nat.le_of_eq (size_list s))] at h
 exact h
theorem after_bd (p : Int × Int) (l : List UInt8) : p.1 ≤ (afterL p l).1 ∧ (afterL p l).1 ≤ p.1 + l.length ∧ (1 ≤ p.2 → 1 ≤ (afterL p l).2 ∧ (afterL p l).2 ≤ p.2 + l.length):=by
 induction l generalizing p with
 | nil => simp [afterL]
 | cons c r ih =>
   have h:=ih (posStep p c)
   have e : afterL p (c :: r) = afterL (posStep p c) r:=rfl
   rw [e,List.length_cons]
   have hs : (posStep p c = (p.1 + 1,1)) ∨ (posStep p c = (p.1,p.2 + 1)):=by unfold posStep;split <;> simp
   rcases hs with hs | hs
   ·rw [hs] at h ⊢
    simp only at h
    refine ⟨by omega,by omega,fun h1 => ?_⟩
    have := h.2.2 (by omega)
    omega
   ·rw [hs] at h ⊢
    simp only at h
    refine ⟨by omega,by omega,fun h1 => ?_⟩
    have := h.2.2 (by omega)
    omega
end Go.Proofs.YtnkpgpmaiicdeaaGreatDoor
namespace Go.Proofs.YtnkpgpmaiicdeaaGreatDoor
def headIs (p : UInt8 → Bool) (l : List UInt8) : Bool:=match l with | [] => false | c :: _ => p c
def takeK (l : List UInt8) : Int:=if headIs ltr l then 1 else if headIs dgt l then 2 else symKind l
def takeT (l : List UInt8) : List UInt8:=if headIs ltr l then runL l else if headIs dgt l then runL l else symText l
def takeE (l : List UInt8) : Int:=if headIs ltr l then checkLen (runL l) else if headIs dgt l then checkNum (runL l) else symErr l
structure Tok where
 k : Int
 t : List UInt8
 l : Int
 c : Int
structure Res where
 toks : List Tok
 l : Int
 c : Int
 e : Int
def nextAt (p : Int × Int) (t : List UInt8) : Int × Int:=afterL p (t.take (t.length - (skipL t).length))
def splitF : Nat → List Tok → List UInt8 → Int × Int → Res
 | 0,acc,_,_ => ⟨acc,0,0,0⟩
 | f + 1,acc,t,p =>
   if skipL t = [] then ⟨acc,0,0,0⟩
   else if takeE (skipL t) = 0 then splitF f (acc ++ [⟨takeK (skipL t),takeT (skipL t),(nextAt p t).1,(nextAt p t).2⟩]) ((skipL t).drop (takeT (skipL t)).length) (afterL (nextAt p t) (takeT (skipL t)))
   else ⟨[],(nextAt p t).1,(nextAt p t).2,takeE (skipL t)⟩
def splitL (s : List UInt8) : Res:=if 65536 < s.length then ⟨[],0,0,5⟩ else splitF (s.length + 1) [] s (1,1)
theorem skipM_suffix : ∀ (b : Bool) (l : List UInt8),skipM b l <:+ l
 | _,[] => by unfold skipM;exact List.suffix_refl _
 | true,c :: r => by
   show (if c = 10 then skipM false r else skipM true r) <:+ c :: r
   split
   ·exact (skipM_suffix false r).trans (List.suffix_cons c r)
   ·exact (skipM_suffix true r).trans (List.suffix_cons c r)
 | false,c :: r => by
   show (if wsList.contains c then skipM false r else if c = 35 then skipM true r else c :: r) <:+ c :: r
   split
   ·exact (skipM_suffix false r).trans (List.suffix_cons c r)
   ·split
    ·exact (skipM_suffix true r).trans (List.suffix_cons c r)
    ·exact List.suffix_refl _
theorem skip_length (l : List UInt8) : (skipL l).length ≤ l.length:=(skipM_suffix false l).length_le
theorem run_length (l : List UInt8) : (runL l).length ≤ l.length:=(List.takeWhile_prefix _).length_le
theorem symText_prefix (l : List UInt8) : symText l <+: l:=by
 unfold symText
 cases h : symFind l with
 | none => exact List.nil_prefix
 | some x =>
   have := List.find?_some h
   exact List.isPrefixOf_iff_prefix.1 this
theorem takeT_prefix (l : List UInt8) : takeT l <+: l:=by
 unfold takeT runL
 split
 ·exact List.takeWhile_prefix _
 ·split
  ·exact List.takeWhile_prefix _
  ·exact symText_prefix l
theorem run_pos {l : List UInt8} (h : headIs prt l = true) : 0 < (runL l).length:=by
 cases l with
 | nil => cases h
 | cons c r =>
   have hc : prt c = true:=h
   unfold runL
   rw [List.takeWhile_cons,hc]
   simp
theorem headIs_mono {p q : UInt8 → Bool} (hpq : ∀ c,p c = true → q c = true) {l : List UInt8} (h : headIs p l = true) : headIs q l = true:=by
 cases l with
 | nil => cases h
 | cons c r => exact hpq c h
theorem syms_pos : ∀ x ∈ syms,0 < x.length:=by decide
theorem takeT_pos (l : List UInt8) (h : takeE l = 0) : 0 < (takeT l).length:=by
 unfold takeE at h
 unfold takeT
 cases hl : headIs ltr l with
 | true => exact run_pos (headIs_mono (fun _ => prt_of_ltr) hl)
 | false =>
   rw [hl] at h
   cases hd : headIs dgt l with
   | true => exact run_pos (headIs_mono (fun _ => prt_of_dgt) hd)
   | false =>
     rw [hd] at h
     simp only [Bool.false_eq_true,if_false] at h ⊢
     unfold symErr at h
     unfold symText
     cases hf : symFind l with
     | none => rw [hf] at h;simp at h
     | some x => exact syms_pos x (List.mem_of_find?_eq_some hf)
end Go.Proofs.YtnkpgpmaiicdeaaGreatDoor
namespace Go.Proofs.YtnkpgpmaiicdeaaGreatDoor
def tailSym (c : UInt8) : Bool:=c == 61 || c == 62 || c == 38 || c == 124
def sepc (c : UInt8) : Bool:=!prt c && !tailSym c
theorem syms_tail : ∀ x ∈ syms,∀ c ∈ x.drop 1,tailSym c = true:=by decide
theorem syms_head : ∀ x ∈ syms,(match x with | [] => false | c :: _ => !wsList.contains c && c != 35 && !ltr c && !dgt c) = true:=by decide
theorem syms_nl : ∀ x ∈ syms,∀ c ∈ x,c ≠ 10:=by decide
theorem prefix_tail : ∀ (x s : List UInt8) (c : UInt8) (r : List UInt8),(∀ d ∈ x,tailSym d = true) → tailSym c = false → x.isPrefixOf (s ++ c :: r) = x.isPrefixOf s
 | [],s,c,r,_,_ => by rw [List.isPrefixOf_nil_left,List.isPrefixOf_nil_left]
 | y :: x,[],c,r,hx,hc => by
   have : (y == c) = false:=by
    rw [beq_eq_false_iff_ne];rintro rfl
    have := hx y (List.mem_cons_self ..)
    rw [this] at hc;cases hc
   rw [List.nil_append,List.isPrefixOf_cons_cons,this,List.isPrefixOf_cons_nil];rfl
 | y :: x,a :: s,c,r,hx,hc => by
   rw [List.cons_append,List.isPrefixOf_cons_cons,List.isPrefixOf_cons_cons,prefix_tail x s c r (fun d hd => hx d (List.mem_cons_of_mem _ hd)) hc]
theorem prefix_glue (x s : List UInt8) (c : UInt8) (r : List UInt8) (hs : s ≠ []) (hx : ∀ d ∈ x.drop 1,tailSym d = true) (hc : tailSym c = false) : x.isPrefixOf (s ++ c :: r) = x.isPrefixOf s:=by
 cases x with
 | nil => rw [List.isPrefixOf_nil_left,List.isPrefixOf_nil_left]
 | cons y x =>
   cases s with
   | nil => exact absurd rfl hs
   | cons a s =>
     rw [List.cons_append,List.isPrefixOf_cons_cons,List.isPrefixOf_cons_cons,prefix_tail x s c r hx hc]
theorem find_congr {α : Type} {p q : α → Bool} : ∀ (l : List α),(∀ x ∈ l,p x = q x) → l.find? p = l.find? q
 | [],_ => rfl
 | x :: l,h => by
   rw [List.find?_cons,List.find?_cons,h x (List.mem_cons_self ..),find_congr l fun y hy => h y (List.mem_cons_of_mem _ hy)]
theorem symFind_glue (s : List UInt8) (c : UInt8) (r : List UInt8) (hs : s ≠ []) (hc : tailSym c = false) : symFind (s ++ c :: r) = symFind s :=
 find_congr syms fun x hx => prefix_glue x s c r hs (syms_tail x hx) hc
theorem runL_glue (s : List UInt8) (c : UInt8) (r : List UInt8) (hc : prt c = false) : runL (s ++ c :: r) = runL s:=by
 unfold runL
 induction s with
 | nil => rw [List.nil_append,List.takeWhile_cons,hc];rfl
 | cons a s ih => rw [List.cons_append,List.takeWhile_cons,List.takeWhile_cons,ih]
theorem headIs_glue (p : UInt8 → Bool) (s r : List UInt8) (hs : s ≠ []) : headIs p (s ++ r) = headIs p s:=by
 cases s with
 | nil => exact absurd rfl hs
 | cons a s => rfl
theorem take_glue (s : List UInt8) (c : UInt8) (r : List UInt8) (hs : s ≠ []) (hw : headIs ltr s = true ∨ headIs dgt s = true → prt c = false) (hy : headIs ltr s = false → headIs dgt s = false → tailSym c = false) :
 takeK (s ++ c :: r) = takeK s ∧ takeT (s ++ c :: r) = takeT s ∧ takeE (s ++ c :: r) = takeE s:=by
 unfold takeK takeT takeE
 rw [headIs_glue ltr s _ hs,headIs_glue dgt s _ hs]
 cases hl : headIs ltr s with
 | true =>
   rw [runL_glue s c r (hw (Or.inl hl))]
   exact ⟨rfl,rfl,rfl⟩
 | false =>
   cases hd : headIs dgt s with
   | true =>
     rw [runL_glue s c r (hw (Or.inr hd))]
     exact ⟨rfl,rfl,rfl⟩
   | false =>
     have := symFind_glue s c r hs (hy hl hd)
     unfold symKind symText symErr
     rw [this]
     exact ⟨rfl,rfl,rfl⟩
theorem take_sep (s : List UInt8) (c : UInt8) (r : List UInt8) (hs : s ≠ []) (hc : sepc c = true) :
 takeK (s ++ c :: r) = takeK s ∧ takeT (s ++ c :: r) = takeT s ∧ takeE (s ++ c :: r) = takeE s:=by
 unfold sepc at hc
 rw [Bool.and_eq_true,Bool.not_eq_true',Bool.not_eq_true'] at hc
 exact take_glue s c r hs (fun _ => hc.1) (fun _ _ => hc.2)
theorem ltr_plain {c : UInt8} (h : ltr c = true) : wsList.contains c = false ∧ c ≠ 35 ∧ c ≠ 10:=by
 have : ∀ c : UInt8,ltr c = true → wsList.contains c = false ∧ c ≠ 35 ∧ c ≠ 10:=by
  intro c h
  refine ⟨?_,?_,?_⟩
  ·unfold wsList
   rw [Bool.eq_false_iff]
   intro hc
   simp at hc
   rcases hc with rfl | rfl | rfl | rfl <;> exact absurd h (by decide)
  ·rintro rfl;exact absurd h (by decide)
  ·rintro rfl;exact absurd h (by decide)
 exact this c h
theorem dgt_plain {c : UInt8} (h : dgt c = true) : wsList.contains c = false ∧ c ≠ 35 ∧ c ≠ 10:=by
 refine ⟨?_,?_,?_⟩
 ·unfold wsList
  rw [Bool.eq_false_iff]
  intro hc
  simp at hc
  rcases hc with rfl | rfl | rfl | rfl <;> exact absurd h (by decide)
 ·rintro rfl;exact absurd h (by decide)
 ·rintro rfl;exact absurd h (by decide)
theorem prt_nl {c : UInt8} (h : prt c = true) : c ≠ 10:=by
 rintro rfl;exact absurd h (by decide)
theorem skip_tok (t : List UInt8) (h : takeE t = 0) : skipL t = t:=by
 cases t with
 | nil => rfl
 | cons c r =>
   have key : wsList.contains c = false ∧ c ≠ 35:=by
    unfold takeE at h
    cases hl : headIs ltr (c :: r) with
    | true => exact ⟨(ltr_plain hl).1,(ltr_plain hl).2.1⟩
    | false =>
      cases hd : headIs dgt (c :: r) with
      | true => exact ⟨(dgt_plain hd).1,(dgt_plain hd).2.1⟩
      | false =>
        rw [hl,hd] at h
        simp only [Bool.false_eq_true,if_false] at h
        unfold symErr at h
        cases hf : symFind (c :: r) with
        | none => rw [hf] at h;simp at h
        | some x =>
          have hp:=List.find?_some hf
          have hm:=syms_head x (List.mem_of_find?_eq_some hf)
          cases x with
          | nil => cases hm
          | cons d x =>
            rw [List.isPrefixOf_cons_cons,Bool.and_eq_true,beq_iff_eq] at hp
            obtain ⟨rfl,_⟩:=hp
            simp only [Bool.and_eq_true,Bool.not_eq_true',bne_iff_ne,ne_eq] at hm
            exact ⟨hm.1.1.1,hm.1.1.2⟩
   unfold skipL skipM
   rw [key.1,if_neg key.2]
   rfl
theorem mem_run : ∀ (t : List UInt8) (c : UInt8),c ∈ runL t → prt c = true
 | [],c,h => by cases h
 | a :: t,c,h => by
   unfold runL at h
   rw [List.takeWhile_cons] at h
   cases ha : prt a with
   | true =>
     rw [ha] at h
     rcases List.mem_cons.1 h with rfl | h
     ·exact ha
     ·exact mem_run t c h
   | false => rw [ha] at h;cases h
theorem takeT_nl (t : List UInt8) : ∀ c ∈ takeT t,c ≠ 10:=by
 have hr : ∀ c ∈ runL t,c ≠ 10:=fun c hc => prt_nl (mem_run t c hc)
 unfold takeT
 split
 ·exact hr
 ·split
  ·exact hr
  ·unfold symText
   cases hf : symFind t with
   | none => intro c hc;cases hc
   | some x => exact syms_nl x (List.mem_of_find?_eq_some hf)
theorem after_plain (p : Int × Int) (l : List UInt8) (h : ∀ c ∈ l,c ≠ 10) : afterL p l = (p.1,p.2 + l.length):=by
 induction l generalizing p with
 | nil => simp [afterL]
 | cons c l ih =>
   have e : afterL p (c :: l) = afterL (posStep p c) l:=rfl
   rw [e,ih _ (fun d hd => h d (List.mem_cons_of_mem _ hd))]
   unfold posStep
   rw [if_neg (h c (List.mem_cons_self ..))]
   simp only [List.length_cons]
   congr 1
   omega
theorem splitF_fuel : ∀ (f g : Nat) (acc : List Tok) (t : List UInt8) (p : Int × Int),t.length < f → t.length < g → splitF f acc t p = splitF g acc t p
 | 0,_,_,_,_,h,_ => absurd h (Nat.not_lt_zero _)
 | _ + 1,0,_,_,_,_,h => absurd h (Nat.not_lt_zero _)
 | f + 1,g + 1,acc,t,p,hf,hg => by
   unfold splitF
   split
   ·rfl
   ·rename_i hne
    split
    ·rename_i hE
     have h1:=takeT_pos _ hE
     have h2:=(takeT_prefix (skipL t)).length_le
     have h3:=skip_length t
     exact splitF_fuel f g _ _ _ (by rw [List.length_drop];omega) (by rw [List.length_drop];omega)
    ·rfl
def splitN (acc : List Tok) (t : List UInt8) (p : Int × Int) : Res:=splitF (t.length + 1) acc t p
theorem splitL_eq (s : List UInt8) (h : s.length ≤ 65536) : splitL s = splitN [] s (1,1):=by
 unfold splitL splitN
 rw [if_neg (by omega)]
theorem splitN_end (acc : List Tok) (t : List UInt8) (p : Int × Int) (h : skipL t = []) : splitN acc t p = ⟨acc,0,0,0⟩:=by
 unfold splitN splitF;rw [if_pos h]
theorem splitN_err (acc : List Tok) (t : List UInt8) (p : Int × Int) (h : skipL t ≠ []) (hE : takeE (skipL t) ≠ 0) : splitN acc t p = ⟨[],(nextAt p t).1,(nextAt p t).2,takeE (skipL t)⟩:=by
 unfold splitN splitF;rw [if_neg h,if_neg hE]
theorem splitN_tok (acc : List Tok) (t : List UInt8) (p : Int × Int) (h : skipL t ≠ []) (hE : takeE (skipL t) = 0) :
 splitN acc t p = splitN (acc ++ [⟨takeK (skipL t),takeT (skipL t),(nextAt p t).1,(nextAt p t).2⟩]) ((skipL t).drop (takeT (skipL t)).length) (afterL (nextAt p t) (takeT (skipL t))):=by
 unfold splitN
 conv => lhs;unfold splitF
 rw [if_neg h,if_pos hE]
 have h1:=takeT_pos _ hE
 have h2:=(takeT_prefix (skipL t)).length_le
 have h3:=skip_length t
 exact splitF_fuel _ _ _ _ _ (by rw [List.length_drop];omega) (by rw [List.length_drop];omega)
theorem splitN_gap (acc : List Tok) (gap t rest : List UInt8) (p : Int × Int) (k : Int) (hg : skipL (gap ++ (t ++ rest)) = t ++ rest) (hne : t ++ rest ≠ [])
 (hK : takeK (t ++ rest) = k) (hT : takeT (t ++ rest) = t) (hE : takeE (t ++ rest) = 0) :
 splitN acc (gap ++ (t ++ rest)) p = splitN (acc ++ [⟨k,t,(afterL p gap).1,(afterL p gap).2⟩]) rest ((afterL p gap).1,(afterL p gap).2 + t.length):=by
 have hn : nextAt p (gap ++ (t ++ rest)) = afterL p gap:=by
  unfold nextAt
  rw [hg]
  congr 1
  rw [List.length_append,Nat.add_sub_cancel,List.take_left' rfl]
 rw [splitN_tok _ _ _ (by rw [hg];exact hne) (by rw [hg];exact hE),hg,hK,hT,hn,List.drop_left' rfl]
 rw [after_plain _ t (hT ▸ takeT_nl (t ++ rest))]
theorem splitN_here (acc : List Tok) (t rest : List UInt8) (p : Int × Int) (k : Int) (hne : t ++ rest ≠ [])
 (hK : takeK (t ++ rest) = k) (hT : takeT (t ++ rest) = t) (hE : takeE (t ++ rest) = 0) :
 splitN acc (t ++ rest) p = splitN (acc ++ [⟨k,t,p.1,p.2⟩]) rest (p.1,p.2 + t.length) :=
 splitN_gap acc [] t rest p k (skip_tok _ hE) hne hK hT hE
theorem run_all {l : List UInt8} (h : l.all prt = true) : runL l = l:=by
 have := takeWhile_of prt l l.length (Nat.le_refl _) (by rw [List.take_length];exact h) (fun c hc => by simp at hc)
 rw [List.take_length] at this
 exact this
theorem sym_self : ∀ x ∈ syms,symFind x = some x ∧ headIs ltr x = false ∧ headIs dgt x = false ∧ x ≠ []:=by decide
theorem take_sym {x : List UInt8} (h : x ∈ syms) : takeK x = 3 ∧ takeT x = x ∧ takeE x = 0:=by
 obtain ⟨h1,h2,h3,_⟩:=sym_self x h
 unfold takeK takeT takeE symKind symText symErr
 rw [h1,h2,h3]
 exact ⟨rfl,rfl,rfl⟩
theorem take_word {x : List UInt8} (h1 : headIs ltr x = true) (h2 : x.all prt = true) : takeK x = 1 ∧ takeT x = x ∧ takeE x = checkLen x:=by
 unfold takeK takeT takeE
 rw [h1,run_all h2]
 exact ⟨rfl,rfl,rfl⟩
theorem ltr_sepc {c : UInt8} (h : ltr c = true) : tailSym c = false:=by
 unfold tailSym
 rw [Bool.eq_false_iff]
 intro hc
 simp at hc
 rcases hc with ((rfl | rfl) | rfl) | rfl <;> exact absurd h (by decide)
theorem tight_split (a x b : List UInt8) (ha : headIs ltr a = true) (ha2 : a.all prt = true) (hal : a.length ≤ 20) (hx : x ∈ syms) (hb : headIs ltr b = true) (hb2 : b.all prt = true) (hbl : b.length ≤ 20) :
 splitN [] (a ++ (x ++ b)) (1,1) = ⟨[⟨1,a,1,1⟩,⟨3,x,1,1 + a.length⟩,⟨1,b,1,1 + a.length + x.length⟩],0,0,0⟩:=by
 obtain ⟨_,hxl,hxd,hxn⟩:=sym_self x hx
 have han : a ≠ []:=by rintro rfl;cases ha
 have hbn : b ≠ []:=by rintro rfl;cases hb
 obtain ⟨d,b',rfl⟩ : ∃ d b',b = d :: b':=by cases b with | nil => exact absurd rfl hbn | cons d b' => exact ⟨d,b',rfl⟩
 obtain ⟨c,x',rfl⟩ : ∃ c x',x = c :: x':=by cases x with | nil => exact absurd rfl hxn | cons c x' => exact ⟨c,x',rfl⟩
 have hcp : prt c = false:=by
  have h1 : ltr c = false:=hxl
  have h2 : dgt c = false:=hxd
  have h3 : c ≠ 95:=by
   rintro rfl
   have : ∀ x ∈ syms,headIs (· == 95) x = false:=by decide
   have := this _ hx
   cases this
  unfold prt
  rw [h1,h2,beq_eq_false_iff_ne.2 h3];rfl
 have wa:=take_word ha ha2
 have wb:=take_word hb hb2
 have wx:=take_sym hx
 have ga:=take_glue a c (x' ++ d :: b') han (fun _ => hcp) (fun h => by rw [ha] at h;cases h)
 have gx:=take_glue (c :: x') d b' hxn (fun h => absurd h (by rw [hxl,hxd];simp)) (fun _ _ => ltr_sepc hb)
 have ea : checkLen a = 0:=if_pos hal
 have eb : checkLen (d :: b') = 0:=if_pos hbl
 rw [splitN_here [] a (c :: x' ++ d :: b') (1,1) 1 (by simp [han]) (ga.1.trans wa.1) (ga.2.1.trans wa.2.1) (ga.2.2.trans (wa.2.2.trans ea))]
 rw [splitN_here _ (c :: x') (d :: b') _ 3 (by simp) (gx.1.trans wx.1) (gx.2.1.trans wx.2.1) (gx.2.2.trans wx.2.2)]
 have := splitN_here ([] ++ [⟨1,a,1,1⟩] ++ [⟨3,c :: x',1,1 + a.length⟩]) (d :: b') [] (1,1 + a.length + (c :: x').length) 1 (by simp) (by rw [List.append_nil];exact wb.1) (by rw [List.append_nil];exact wb.2.1) (by rw [List.append_nil];exact wb.2.2.trans eb)
 rw [List.append_nil] at this
 rw [this,splitN_end _ _ _ rfl]
 rfl
open Go.RowKit in
abbrev BC (w : World) (n : Nat) (a : Array Value) (v : Bool) : Prop:=∀ W,Below w.heap.size w W → Calls Tryz.prog n a W fun e w' => e = .returned (.bool v) ∧ Below W.heap.size W w'
end Go.Proofs.YtnkpgpmaiicdeaaGreatDoor
