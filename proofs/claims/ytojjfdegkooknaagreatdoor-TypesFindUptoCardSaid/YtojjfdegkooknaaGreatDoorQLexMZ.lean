import Derived.Test.YtojjfdegkooknaaGreatDoorProg
import Derived.WalkKit
import Derived.Below
import Derived.RowKit3
import Derived.WalkKit
import Derived.Below
set_option linter.unusedVariables false
set_option linter.unusedSimpArgs false
namespace Go.Proofs.YtojjfdegkooknaaGreatDoor
def isLetter (c : Int) : Bool:=(decide (97 ≤ c) && decide (c ≤ 122)) || (decide (65 ≤ c) && decide (c ≤ 90))
def isDigit (c : Int) : Bool:=decide (48 ≤ c) && decide (c ≤ 57)
def ltr (c : UInt8) : Bool:=isLetter (c.toNat : Int)
def dgt (c : UInt8) : Bool:=isDigit (c.toNat : Int)
def prt (c : UInt8) : Bool:=ltr c || dgt c || c == 95
def numF (l : List UInt8) : Int:=l.foldl (fun n c => min (10 * n + ((c.toNat : Int) - 48)) 1048577) 0
def checkNum (l : List UInt8) : Int :=
 if l.head? = some 48 ∧ 1 < l.length then 3
 else if l.all dgt then (if numF l ≤ 1048576 then 0 else 10) else 3
theorem take_snoc (s : ByteArray) (k : Nat) (h : k < s.size) : s.data.toList.take (k + 1) = s.data.toList.take k ++ [s[k]]:=by
 rw [List.take_succ_eq_append_getElem (by simpa using h)];rfl
theorem numF_snoc (l : List UInt8) (c : UInt8) : numF (l ++ [c]) = min (10 * numF l + ((c.toNat : Int) - 48)) 1048577:=by
 unfold numF;rw [List.foldl_append];rfl
theorem dgt_bd {c : UInt8} (h : dgt c = true) : 48 ≤ (c.toNat : Int) ∧ (c.toNat : Int) ≤ 57:=by
 unfold dgt isDigit at h;simp only [Bool.and_eq_true,decide_eq_true_eq] at h;exact h
theorem numF_bd (l : List UInt8) (h : l.all dgt = true) : 0 ≤ numF l ∧ numF l ≤ 1048577:=by
 have key : ∀ (l : List UInt8) (n : Int),l.all dgt = true → 0 ≤ n → n ≤ 1048577 → 0 ≤ l.foldl (fun n c => min (10 * n + ((c.toNat : Int) - 48)) 1048577) n ∧ l.foldl (fun n c => min (10 * n + ((c.toNat : Int) - 48)) 1048577) n ≤ 1048577:=by
  intro l
  induction l with
  | nil => intro n _ h1 h2;exact ⟨h1,h2⟩
  | cons c l ih =>
    intro n ha h1 h2
    rw [List.all_cons,Bool.and_eq_true] at ha
    have hb:=dgt_bd ha.1
    exact ih (min (10 * n + ((c.toNat : Int) - 48)) 1048577) ha.2 (by omega) (by omega)
 exact key l 0 h (by omega) (by omega)
theorem all_take_snoc (s : ByteArray) (k : Nat) (h : k < s.size) (ha : (s.data.toList.take k).all dgt = true) (hd : dgt s[k] = true) : (s.data.toList.take (k + 1)).all dgt = true:=by
 rw [take_snoc s k h,List.all_append,ha];simp [hd]
theorem not_all_of (s : ByteArray) (k : Nat) (h : k < s.size) (hd : dgt s[k] = false) : s.data.toList.all dgt = false:=by
 rw [← List.take_append_drop (k + 1) s.data.toList,List.all_append,take_snoc s k h,List.all_append];simp [hd]
theorem head_eq (s : ByteArray) (h : 0 < s.size) : s.data.toList.head? = some s[0]:=by
 rw [List.head?_eq_getElem?,List.getElem?_eq_getElem (by simpa using h)];rfl
def runL (l : List UInt8) : List UInt8:=l.takeWhile prt
theorem takeWhile_of (p : UInt8 → Bool) : ∀ (l : List UInt8) (n : Nat),n ≤ l.length → (l.take n).all p = true → (∀ c,l[n]? = some c → p c = false) → l.takeWhile p = l.take n
 | [],n,h,_,_ => by simp
 | c :: l,0,_,_,hc => by
   have := hc c (by simp)
   simp [this]
 | c :: l,n + 1,h,ha,hc => by
   rw [List.take_succ_cons,List.all_cons,Bool.and_eq_true] at ha
   rw [List.takeWhile_cons,ha.1,List.take_succ_cons]
   simp only [if_true]
   congr 1
   exact takeWhile_of p l n (by simpa using h) ha.2 (fun d hd => hc d (by simpa using hd))
theorem runL_of (s : ByteArray) (n : Nat) (h : n ≤ s.size) (ha : (s.data.toList.take n).all prt = true) (hc : ∀ _ : n < s.size,prt s[n] = false) : runL s.data.toList = s.data.toList.take n:=by
 refine takeWhile_of prt _ n h ha (fun c hc' => ?_)
 by_cases hlt : n < s.size
 ·rw [List.getElem?_eq_getElem (by simpa using hlt)] at hc'
  rw [← Option.some.inj hc'];exact hc hlt
 ·rw [List.getElem?_eq_none (by rw [show s.data.toList.length = s.size from rfl];omega)] at hc'
  cases hc'
theorem all_prt_snoc (s : ByteArray) (k : Nat) (h : k < s.size) (ha : (s.data.toList.take k).all prt = true) (hd : prt s[k] = true) : (s.data.toList.take (k + 1)).all prt = true:=by
 rw [take_snoc s k h,List.all_append,ha];simp [hd]
theorem prt_of_ltr {c : UInt8} (h : ltr c = true) : prt c = true:=by simp [prt,h]
theorem prt_of_dgt {c : UInt8} (h : dgt c = true) : prt c = true:=by simp [prt,h]
theorem size_list (s : ByteArray) : s.data.toList.length = s.size:=rfl
theorem prt_of_us {c : UInt8} (h : c.toNat = 95) : prt c = true:=by
 have : c = 95:=UInt8.toNat_inj.1 h
 subst this;decide
theorem prt_not {c : UInt8} (h1 : ltr c = false) (h2 : dgt c = false) (h3 : ¬ c.toNat = 95) : prt c = false:=by
 have : (c == 95) = false:=by rw [beq_eq_false_iff_ne];rintro rfl;exact h3 rfl
 simp [prt,h1,h2,this]
def checkLen (l : List UInt8) : Int:=if l.length ≤ 20 then 0 else 5
def syms : List (List UInt8):=[[61,61,62],[45,62],[61,61],[33,61],[60,61],[38,38],[124,124],[123],[125],[40],[41],[59],[44],[58],[46],[61],[60],[33],[38],[43],[45],[42]]
def symFind (l : List UInt8) : Option (List UInt8):=syms.find? (fun x => x.isPrefixOf l)
def symKind (l : List UInt8) : Int:=if (symFind l).isSome then 3 else 0
def symText (l : List UInt8) : List UInt8:=(symFind l).getD []
def symErr (l : List UInt8) : Int:=if (symFind l).isSome then 0 else 3
theorem find_at {α : Type} (p : α → Bool) (d : α) : ∀ (l : List α) (k : Nat),k < l.length → (∀ i,i < k → p (l.getD i d) = false) → p (l.getD k d) = true → l.find? p = some (l.getD k d)
 | [],k,h,_,_ => absurd h (Nat.not_lt_zero _)
 | x :: l,0,_,_,hp => by
   have hp' : p x = true:=hp
   simp [hp']
 | x :: l,k + 1,h,hn,hp => by
   have h0 : p x = false:=hn 0 (Nat.succ_pos _)
   rw [List.find?_cons,h0]
   have := find_at p d l k (by simpa using h) (fun i hi => hn (i + 1) (by omega)) hp
   simpa using this
theorem find_no {α : Type} (p : α → Bool) (d : α) : ∀ (l : List α),(∀ i,i < l.length → p (l.getD i d) = false) → l.find? p = none
 | [],_ => rfl
 | x :: l,hn => by
   have h0 : p x = false:=hn 0 (by simp)
   rw [List.find?_cons,h0]
   exact find_no p d l (fun i hi => hn (i + 1) (by simpa using hi))
theorem symText_at (l : List UInt8) (k : Nat) (hk : k < 22) (hn : ∀ i,i < k → (syms.getD i []).isPrefixOf l = false) (hp : (syms.getD k []).isPrefixOf l = true) : symKind l = 3 ∧ symText l = syms.getD k [] ∧ symErr l = 0:=by
 have h : symFind l = some (syms.getD k []):=find_at _ [] syms k hk hn hp
 unfold symKind symText symErr
 rw [h]
 exact ⟨rfl,rfl,rfl⟩
theorem symText_none (l : List UInt8) (hn : ∀ i,i < 22 → (syms.getD i []).isPrefixOf l = false) : symKind l = 0 ∧ symText l = [] ∧ symErr l = 3:=by
 have h : symFind l = none:=find_no _ [] syms hn
 unfold symKind symText symErr
 rw [h]
 exact ⟨rfl,rfl,rfl⟩
theorem first_prt (s : ByteArray) (h0 : 0 < s.size) (h : prt s[0] = true) : (s.data.toList.take 1).all prt = true:=by
 rw [take_snoc s 0 h0,List.take_zero,List.nil_append,List.all_cons,h];rfl
end Go.Proofs.YtojjfdegkooknaaGreatDoor
namespace Go.Proofs.YtojjfdegkooknaaGreatDoor
open Go.RowKit
theorem below_alloc (w : World) (o : Obj) : Below w.heap.size w (w.alloc o):=(Below.refl _ w).alloc (Nat.le_refl _) o
theorem heap_of_alloc (w : World) (o : Obj) : (w.alloc o).heap[w.heap.size]? = some o:=by
 show (w.heap.push o)[w.heap.size]? = _
 simp
theorem size_of_alloc (w : World) (o : Obj) : (w.alloc o).heap.size = w.heap.size + 1:=by
 show (w.heap.push o).size = _
 simp
theorem _root_.Go.RowKit.Below.chain {w W1 W2 : World} (h1 : Below w.heap.size w W1) (h2 : Below W1.heap.size W1 W2) : Below w.heap.size w W2:=h1.trans (h2.mono h1.size)
end Go.Proofs.YtojjfdegkooknaaGreatDoor
namespace Go.Proofs.YtojjfdegkooknaaGreatDoor
def headIs (p : UInt8 → Bool) (l : List UInt8) : Bool:=match l with | [] => false | c :: _ => p c
def takeK (l : List UInt8) : Int:=if headIs ltr l then 1 else if headIs dgt l then 2 else symKind l
def takeT (l : List UInt8) : List UInt8:=if headIs ltr l then runL l else if headIs dgt l then runL l else symText l
def takeE (l : List UInt8) : Int:=if headIs ltr l then checkLen (runL l) else if headIs dgt l then checkNum (runL l) else symErr l
open Go.RowKit in
abbrev BC (w : World) (n : Nat) (a : Array Value) (v : Bool) : Prop:=∀ W,Below w.heap.size w W → Calls Tryz.prog n a W fun e w' => e = .returned (.bool v) ∧ Below W.heap.size W w'
end Go.Proofs.YtojjfdegkooknaaGreatDoor
