/-
  Trees of programs: what is valid by the rules of programs is what is valid by the rules of proofs and plain.
  How many different names there are. differentNames: a map of the names, as many keys as parameters. tree.Formula at any formula.
-/
import Derived.Test.YtnkpgpmaiicdeaaGreatDoorSTreeSh
import Derived.Test.YtnkpgpmaiicdeaaGreatDoorSTreeK
import Derived.Test.YtnkpgpmaiicdeaaGreatDoorSTreeO
import Derived.Maps.Views
import Derived.Test.YtnkpgpmaiicdeaaGreatDoorSTreeF
import Derived.Maps.OwnSet
import Derived.Test.YtnkpgpmaiicdeaaGreatDoorSTreeV
import Derived.Test.YtnkpgpmaiicdeaaGreatDoorSTreeGp
set_option linter.unusedVariables false
set_option linter.unusedSimpArgs false
namespace Go.Proofs.YtnkpgpmaiicdeaaGreatDoor
open Go.RowKit
def Dlr (s : List UInt8) : Prop:=s.head? = some 36
theorem name_no_dlr {s : List UInt8} (h : nameR s = true) : ¬ Dlr s:=by
 intro hd
 cases s with
 | nil => cases hd
 | cons x t =>
   obtain rfl : x = 36:=Option.some.inj hd
   rw [nameR_dollar] at h
   cases h
theorem name_var {s : List UInt8} : nameR s = true ↔ varR s = true ∧ ¬ Dlr s:=by
 constructor
 ·intro h
  exact ⟨by unfold varR;rw [h];rfl,name_no_dlr h⟩
 ·rintro ⟨h1,h2⟩
  unfold varR at h1
  cases hn : nameR s with
  | true => rfl
  | false =>
    rw [hn,Bool.false_or] at h1
    simp only [Bool.and_eq_true] at h1
    exact absurd (show s.head? = some 36 from by simpa using h1.1.2) h2
inductive NpE : Ex → Prop
 | name (n : Int) (s : List UInt8) (l : List Ex) (h : nameR s = false) : NpE (.mk 2 n s l)
 | num (k n : Int) (s : List UInt8) (l : List Ex) (h : inR 1048576 n = false) : NpE (.mk k n s l)
 | sub (k n : Int) (s : List UInt8) (l : List Ex) (x : Ex) (hx : x ∈ l) (h : NpE x) : NpE (.mk k n s l)
theorem npE_iff {k n : Int} {s : List UInt8} {l : List Ex} : NpE (.mk k n s l) ↔ (k = 2 ∧ nameR s = false) ∨ inR 1048576 n = false ∨ ∃ x ∈ l,NpE x:=by
 constructor
 ·intro h
  cases h with
  | name n s l h => exact .inl ⟨rfl,h⟩
  | num k n s l h => exact .inr (.inl h)
  | sub k n s l x hx h => exact .inr (.inr ⟨x,hx,h⟩)
 ·rintro (⟨rfl,h⟩ | h | ⟨x,hx,h⟩)
  ·exact .name _ _ _ h
  ·exact .num _ _ _ _ h
  ·exact .sub _ _ _ _ x hx h
theorem plain_ex {k n : Int} {s : List UInt8} {l : List Ex} : ¬ NpE (.mk k n s l) ↔ (k = 2 → nameR s = true) ∧ inR 1048576 n = true ∧ ∀ x ∈ l,¬ NpE x:=by
 rw [npE_iff]
 constructor
 ·intro h
  refine ⟨fun hk => ?_,?_,fun x hx hn => h (.inr (.inr ⟨x,hx,hn⟩))⟩
  ·cases hs : nameR s with
   | true => rfl
   | false => exact absurd (.inl ⟨hk,hs⟩) h
  ·cases hi : inR 1048576 n with
   | true => rfl
   | false => exact absurd (.inr (.inl hi)) h
 ·rintro ⟨h1,h2,h3⟩ (⟨hk,hs⟩ | hi | ⟨x,hx,hn⟩)
  ·rw [h1 hk] at hs;cases hs
  ·rw [h2] at hi;cases hi
  ·exact h3 x hx hn
theorem inR_small {n : Int} (h : inR 1048576 n = true) : inR 1125899906842624 n = true:=by
 unfold inR at h ⊢
 simp only [Bool.and_eq_true,decide_eq_true_eq] at h ⊢
 omega
theorem inR_zero : inR 1048576 0 = true:=by decide
theorem all_iff {α : Type} {p q : α → Bool} {N : α → Prop} : ∀ {l : List α},(∀ x ∈ l,p x = true ↔ q x = true ∧ ¬ N x) → (l.all p = true ↔ l.all q = true ∧ ∀ x ∈ l,¬ N x)
 | [],_ => by simp
 | x :: l,h => by
   have h1:=h x (by simp)
   have h2:=all_iff (l:=l) (fun y hy => h y (by simp [hy]))
   simp only [List.all_cons,Bool.and_eq_true,List.mem_cons,forall_eq_or_imp]
   rw [h1,h2]
   constructor
   ·rintro ⟨⟨a,b⟩,c,d⟩;exact ⟨⟨a,c⟩,b,d⟩
   ·rintro ⟨⟨a,c⟩,b,d⟩;exact ⟨⟨a,b⟩,c,d⟩
theorem ops_iff {α : Type} {p q : α → Bool} {N : α → Prop} {l : List α} {a b : Bool} (h : ∀ x ∈ l,p x = true ↔ q x = true ∧ ¬ N x) : ((a && b && l.all p) = true ↔ (a && b && l.all q) = true ∧ ∀ x ∈ l,¬ N x):=by
 simp only [Bool.and_eq_true]
 rw [all_iff h]
 constructor
 ·rintro ⟨a,b,c⟩;exact ⟨⟨a,b⟩,c⟩
 ·rintro ⟨⟨a,b⟩,c⟩;exact ⟨a,b,c⟩
theorem ops_nil {α : Type} {l : List α} {f : α → Bool} (h : (decide ((0 : Int) ≤ (l.length : Int)) && decide ((l.length : Int) ≤ 0) && l.all f) = true) : l = []:=by
 simp only [Bool.and_eq_true,decide_eq_true_eq] at h
 exact List.eq_nil_of_length_eq_zero (by omega)
theorem vE_plain : ∀ (d : Nat) (e : Ex),vE nameR 1048576 d e = true ↔ vE varR 1125899906842624 d e = true ∧ ¬ NpE e
 | 0,e => by simp [vE]
 | d + 1,.mk k n s l => by
   have ih:=fun x (_ : x ∈ l) => vE_plain d x
   rw [plain_ex,vE,vE]
   by_cases h1 : k = 1
   ·subst h1
    simp only [if_true,opsB,Bool.and_eq_true]
    constructor
    ·rintro ⟨⟨a,b⟩,c,e⟩
     have hl:=ops_nil (l:=l) (f:=vE nameR 1048576 d) (by simp only [Bool.and_eq_true];exact ⟨c,e⟩)
     subst hl
     exact ⟨⟨⟨inR_small a,b⟩,c,by simp⟩,fun h => absurd h (by decide),a,fun x hx => by cases hx⟩
    ·rintro ⟨⟨⟨_,b⟩,c,e⟩,_,a,_⟩
     have hl:=ops_nil (l:=l) (f:=vE varR 1125899906842624 d) (by simp only [Bool.and_eq_true];exact ⟨c,e⟩)
     subst hl
     exact ⟨⟨a,b⟩,c,by simp⟩
   ·rw [if_neg h1,if_neg h1]
    by_cases h2 : k = 2
    ·subst h2
     simp only [if_true,opsB,Bool.and_eq_true]
     constructor
     ·rintro ⟨⟨a,b⟩,c,e⟩
      have hl:=ops_nil (l:=l) (f:=vE nameR 1048576 d) (by simp only [Bool.and_eq_true];exact ⟨c,e⟩)
      subst hl
      have ha : n = 0:=by simpa using a
      subst ha
      exact ⟨⟨⟨a,(name_var.1 b).1⟩,c,by simp⟩,fun _ => b,inR_zero,fun x hx => by cases hx⟩
     ·rintro ⟨⟨⟨a,_⟩,c,e⟩,b,_,_⟩
      have hl:=ops_nil (l:=l) (f:=vE varR 1125899906842624 d) (by simp only [Bool.and_eq_true];exact ⟨c,e⟩)
      subst hl
      exact ⟨⟨a,b trivial⟩,c,by simp⟩
    ·rw [if_neg h2,if_neg h2]
     have hz : ∀ {m : Int},(((n == 0) && s.isEmpty && opsB m l (vE nameR 1048576 d)) = true ↔ ((n == 0) && s.isEmpty && opsB m l (vE varR 1125899906842624 d)) = true ∧ ((k = 2 → nameR s = true) ∧ inR 1048576 n = true ∧ ∀ x ∈ l,¬ NpE x)):=by
      intro m
      have ho:=ops_iff (a:=decide (m ≤ (l.length : Int))) (b:=decide ((l.length : Int) ≤ m)) ih
      unfold opsB
      simp only [Bool.and_eq_true] at ho ⊢
      constructor
      ·rintro ⟨⟨a,b⟩,ce⟩
       obtain ⟨c,e⟩:=ho.1 ce
       have ha : n = 0:=by simpa using a
       subst ha
       exact ⟨⟨⟨a,b⟩,c⟩,fun h => absurd h h2,inR_zero,e⟩
      ·rintro ⟨⟨⟨a,b⟩,c⟩,_,_,e⟩
       exact ⟨⟨a,b⟩,ho.2 ⟨c,e⟩⟩
     by_cases h3 : k = 3
     ·rw [if_pos h3,if_pos h3];exact hz
     ·rw [if_neg h3,if_neg h3]
      by_cases h4 : k = 4 ∨ k = 5
      ·rw [if_pos h4,if_pos h4];exact hz
      ·rw [if_neg h4,if_neg h4]
       by_cases h6 : k = 6
       ·rw [if_pos h6,if_pos h6]
        have ho:=ops_iff (a:=decide ((1 : Int) ≤ (l.length : Int))) (b:=decide ((l.length : Int) ≤ 1)) ih
        unfold opsB
        simp only [Bool.and_eq_true] at ho ⊢
        constructor
        ·rintro ⟨⟨a,b⟩,ce⟩
         obtain ⟨c,e⟩:=ho.1 ce
         exact ⟨⟨⟨inR_small a,b⟩,c⟩,fun h => absurd h h2,a,e⟩
        ·rintro ⟨⟨⟨_,b⟩,c⟩,_,a,e⟩
         exact ⟨⟨a,b⟩,ho.2 ⟨c,e⟩⟩
       ·rw [if_neg h6,if_neg h6]
        simp
theorem zX_plain {e : Ex} (h : zX e = true) : ¬ NpE e:=by
 obtain ⟨k,n,s,l⟩:=e
 rw [zX_eq] at h
 simp only [Bool.and_eq_true,beq_iff_eq,List.isEmpty_iff] at h
 obtain ⟨⟨⟨rfl,rfl⟩,rfl⟩,rfl⟩:=h
 rw [plain_ex]
 exact ⟨fun h => absurd h (by decide),inR_zero,fun x hx => by cases hx⟩
inductive NpC : Cn → Prop
 | a (k : Int) (a b : Ex) (l : List Cn) (h : NpE a) : NpC (.mk k a b l)
 | b (k : Int) (a b : Ex) (l : List Cn) (h : NpE b) : NpC (.mk k a b l)
 | sub (k : Int) (a b : Ex) (l : List Cn) (x : Cn) (hx : x ∈ l) (h : NpC x) : NpC (.mk k a b l)
theorem plain_cn {k : Int} {a b : Ex} {l : List Cn} : ¬ NpC (.mk k a b l) ↔ ¬ NpE a ∧ ¬ NpE b ∧ ∀ x ∈ l,¬ NpC x:=by
 constructor
 ·intro h
  exact ⟨fun ha => h (.a _ _ _ _ ha),fun hb => h (.b _ _ _ _ hb),fun x hx hn => h (.sub _ _ _ _ x hx hn)⟩
 ·rintro ⟨h1,h2,h3⟩ h
  cases h with
  | a _ _ _ _ h => exact h1 h
  | b _ _ _ _ h => exact h2 h
  | sub _ _ _ _ x hx h => exact h3 x hx h
theorem vC_plain : ∀ (d : Nat) (c : Cn),vC nameR 1048576 d c = true ↔ vC varR 1125899906842624 d c = true ∧ ¬ NpC c
 | 0,c => by simp [vC]
 | d + 1,.mk k a b l => by
   have ih:=fun x (_ : x ∈ l) => vC_plain d x
   rw [plain_cn,vC,vC]
   by_cases h1 : (decide (1 ≤ k) && decide (k ≤ 4)) = true
   ·rw [if_pos h1,if_pos h1]
    simp only [Bool.and_eq_true,vE_plain 30 a,vE_plain 30 b]
    constructor
    ·rintro ⟨⟨⟨x1,x2⟩,x3,x4⟩,x5⟩
     have hl : l = []:=List.eq_nil_of_length_eq_zero (by
      have : (l.length : Int) = 0:=by simpa using x5
      omega)
     subst hl
     exact ⟨⟨⟨x1,x3⟩,x5⟩,x2,x4,fun x hx => by cases hx⟩
    ·rintro ⟨⟨⟨x1,x3⟩,x5⟩,x2,x4,_⟩
     exact ⟨⟨⟨x1,x2⟩,x3,x4⟩,x5⟩
   ·rw [if_neg h1,if_neg h1]
    have hz : ∀ {m : Int},((zX a && zX b && opsC m l (vC nameR 1048576 d)) = true ↔ (zX a && zX b && opsC m l (vC varR 1125899906842624 d)) = true ∧ (¬ NpE a ∧ ¬ NpE b ∧ ∀ x ∈ l,¬ NpC x)):=by
     intro m
     have ho:=ops_iff (a:=decide (m ≤ (l.length : Int))) (b:=decide ((l.length : Int) ≤ m)) ih
     unfold opsC
     simp only [Bool.and_eq_true] at ho ⊢
     constructor
     ·rintro ⟨⟨x1,x2⟩,xc⟩
      obtain ⟨x3,x4⟩:=ho.1 xc
      exact ⟨⟨⟨x1,x2⟩,x3⟩,zX_plain x1,zX_plain x2,x4⟩
     ·rintro ⟨⟨⟨x1,x2⟩,x3⟩,_,_,x4⟩
      exact ⟨⟨x1,x2⟩,ho.2 ⟨x3,x4⟩⟩
    by_cases h5 : k = 5
    ·rw [if_pos h5,if_pos h5];exact hz
    ·rw [if_neg h5,if_neg h5]
     by_cases h6 : k = 6 ∨ k = 7
     ·rw [if_pos h6,if_pos h6];exact hz
     ·rw [if_neg h6,if_neg h6]
      simp
theorem zC_plain {c : Cn} (h : zC c = true) : ¬ NpC c:=by
 obtain ⟨k,a,b,l⟩:=c
 rw [zC_eq] at h
 simp only [Bool.and_eq_true,List.isEmpty_iff] at h
 obtain ⟨⟨⟨_,h1⟩,h2⟩,rfl⟩:=h
 rw [plain_cn]
 exact ⟨zX_plain h1,zX_plain h2,fun x hx => by cases hx⟩
def NpP (x : Pm) : Prop:=nameR x.nm = false
def NpA (x : At) : Prop:=NpE x.a ∨ NpE x.b
def NpL (x : Cl) : Prop:=∃ e ∈ x.l,NpE e
def NpF (f : Fm) : Prop:=8 < f.ps.length ∨ (∃ x ∈ f.ps,NpP x) ∨ (∃ x ∈ f.ats,NpA x) ∨ ∃ x ∈ f.cls,NpL x
theorem vP_plain (x : Pm) : vP nameR x = true ↔ vP varR x = true ∧ ¬ NpP x:=by
 unfold vP NpP
 rw [Bool.and_eq_true,Bool.and_eq_true]
 constructor
 ·rintro ⟨a,b⟩;exact ⟨⟨a,(name_var.1 b).1⟩,by rw [b];decide⟩
 ·rintro ⟨⟨a,_⟩,b⟩;exact ⟨a,by simpa using b⟩
theorem vAt_plain (x : At) : vAt nameR 1048576 x = true ↔ vAt varR 1125899906842624 x = true ∧ ¬ NpA x:=by
 unfold vAt NpA
 simp only [Bool.and_eq_true,vE_plain 30,not_or]
 constructor
 ·rintro ⟨⟨a,b,c⟩,d,e⟩;exact ⟨⟨⟨a,b⟩,d⟩,c,e⟩
 ·rintro ⟨⟨⟨a,b⟩,d⟩,c,e⟩;exact ⟨⟨a,b,c⟩,d,e⟩
theorem vCl_plain (x : Cl) : vCl nameR 1048576 x = true ↔ vCl varR 1125899906842624 x = true ∧ ¬ NpL x:=by
 have hN : ¬ NpL x ↔ ∀ e ∈ x.l,¬ NpE e:=by unfold NpL;exact ⟨fun h e he hn => h ⟨e,he,hn⟩,fun h ⟨e,he,hn⟩ => h e he hn⟩
 rw [hN]
 unfold vCl
 rw [Bool.and_eq_true,Bool.and_eq_true]
 have ih:=fun e (_ : e ∈ x.l) => vE_plain 30 e
 by_cases h1 : x.k = 1
 ·rw [if_pos h1,if_pos h1,ops_iff ih]
  exact ⟨fun ⟨a,b,c⟩ => ⟨⟨a,b⟩,c⟩,fun ⟨⟨a,b⟩,c⟩ => ⟨a,b,c⟩⟩
 ·rw [if_neg h1,if_neg h1]
  by_cases h2 : x.k = 2
  ·rw [if_pos h2,if_pos h2,ops_iff ih]
   exact ⟨fun ⟨a,b,c⟩ => ⟨⟨a,b⟩,c⟩,fun ⟨⟨a,b⟩,c⟩ => ⟨a,b,c⟩⟩
  ·rw [if_neg h2,if_neg h2]
   simp
theorem vF_plain (f : Fm) : vF nameR 1048576 8 f = true ↔ vF varR 1125899906842624 100 f = true ∧ ¬ NpF f:=by
 have e1:=all_iff (p:=vP nameR) (q:=vP varR) (N:=NpP) (l:=f.ps) (fun x _ => vP_plain x)
 have e2:=all_iff (p:=vAt nameR 1048576) (q:=vAt varR 1125899906842624) (N:=NpA) (l:=f.ats) (fun x _ => vAt_plain x)
 have e3:=all_iff (p:=vCl nameR 1048576) (q:=vCl varR 1125899906842624) (N:=NpL) (l:=f.cls) (fun x _ => vCl_plain x)
 have hN : ¬ NpF f ↔ f.ps.length ≤ 8 ∧ (∀ x ∈ f.ps,¬ NpP x) ∧ (∀ x ∈ f.ats,¬ NpA x) ∧ ∀ x ∈ f.cls,¬ NpL x:=by
  unfold NpF
  constructor
  ·intro h
   refine ⟨?_,fun x hx hn => h (.inr (.inl ⟨x,hx,hn⟩)),fun x hx hn => h (.inr (.inr (.inl ⟨x,hx,hn⟩))),fun x hx hn => h (.inr (.inr (.inr ⟨x,hx,hn⟩)))⟩
   by_cases h8 : f.ps.length ≤ 8
   ·exact h8
   ·exact absurd (.inl (by omega)) h
  ·rintro ⟨h1,h2,h3,h4⟩ (h | ⟨x,hx,hn⟩ | ⟨x,hx,hn⟩ | ⟨x,hx,hn⟩)
   ·omega
   ·exact h2 x hx hn
   ·exact h3 x hx hn
   ·exact h4 x hx hn
 rw [hN]
 unfold vF
 simp only [Bool.and_eq_true,decide_eq_true_eq,e1,e2,e3]
 constructor
 ·rintro ⟨⟨⟨⟨⟨⟨a,b,b'⟩,c⟩,d⟩,e,e'⟩,g⟩,h,h'⟩
  exact ⟨⟨⟨⟨⟨⟨⟨by omega,b⟩,c⟩,d⟩,e⟩,g⟩,h⟩,by omega,b',e',h'⟩
 ·rintro ⟨⟨⟨⟨⟨⟨⟨_,b⟩,c⟩,d⟩,e⟩,g⟩,h⟩,a,b',e',h'⟩
  exact ⟨⟨⟨⟨⟨⟨by omega,b,b'⟩,c⟩,d⟩,e,e'⟩,g⟩,h,h'⟩
end Go.Proofs.YtnkpgpmaiicdeaaGreatDoor
namespace Go.Proofs.YtnkpgpmaiicdeaaGreatDoor
set_option maxRecDepth 100000
set_option maxHeartbeats 4000000
open Go.Maps (addKey setOf)
theorem any_sameKey {x : Lit} (hx : Go.WideAt.IsKeyLit x) (L : List Lit) : L.any (fun y => y.sameKey x) = true ↔ x ∈ L:=by
 rw [List.any_eq_true]
 constructor
 ·rintro ⟨y,hy,h⟩
  by_cases e : y = x
  ·rw [← e];exact hy
  ·rw [Go.Maps.sameKey_ne e] at h;cases h
 ·intro h
  exact ⟨x,h,Go.WideAt.sameKey_self hx⟩
theorem addKey_len : ∀ (xs L : List Lit),(∀ x ∈ xs,Go.WideAt.IsKeyLit x) → (xs.foldl addKey L).length ≤ L.length + xs.length ∧ ((xs.foldl addKey L).length = L.length + xs.length ↔ xs.Nodup ∧ ∀ x ∈ xs,x ∉ L)
 | [],L,_ => by simp
 | x :: r,L,h => by
   have hx:=any_sameKey (h x (by simp)) L
   by_cases e : x ∈ L
   ·have e1 : addKey L x = L:=by unfold addKey;rw [hx.2 e];rfl
    obtain ⟨i1,i2⟩:=addKey_len r L (fun y hy => h y (by simp [hy]))
    rw [List.foldl_cons,e1]
    refine ⟨by simp;omega,?_⟩
    constructor
    ·intro h2;simp at h2;omega
    ·rintro ⟨_,h2⟩;exact absurd e (h2 x (by simp))
   ·have e1 : addKey L x = L ++ [x]:=by unfold addKey;rw [if_neg (fun h => e (hx.1 h))]
    obtain ⟨i1,i2⟩:=addKey_len r (L ++ [x]) (fun y hy => h y (by simp [hy]))
    rw [List.foldl_cons,e1]
    have hl : (L ++ [x]).length = L.length + 1:=by simp
    rw [hl] at i1 i2
    refine ⟨by simp;omega,?_⟩
    rw [show L.length + (x :: r).length = L.length + 1 + r.length by simp;omega,i2,List.nodup_cons]
    constructor
    ·rintro ⟨h1,h2⟩
     refine ⟨⟨fun h3 => h2 x h3 (by simp),h1⟩,fun y hy => ?_⟩
     rcases List.mem_cons.1 hy with rfl | hy
     ·exact e
     ·intro h4;exact h2 y hy (by simp [h4])
    ·rintro ⟨⟨h1,h2⟩,h3⟩
     refine ⟨h2,fun y hy h4 => ?_⟩
     rcases List.mem_append.1 h4 with h4 | h4
     ·exact h3 y (by simp [hy]) h4
     ·obtain rfl : y = x:=by simpa using h4
      exact h1 hy
theorem size_names (ns : List (List UInt8)) : (Go.Maps.size (setOf (DataW.lit (H:=Unit) (.bool true)) (ns.map Lit.string)) = ns.length) ↔ ns.Nodup:=by
 have hk : ∀ x ∈ ns.map Lit.string,Go.WideAt.IsKeyLit x:=by
  intro x hx
  obtain ⟨s,_,rfl⟩:=List.mem_map.1 hx
  trivial
 rw [Go.Maps.size_setOf _ _ hk]
 have h:=(addKey_len (ns.map Lit.string) [] hk).2
 simp only [List.length_nil,Nat.zero_add,List.length_map,List.not_mem_nil,not_false_eq_true,implies_true,and_true] at h
 rw [h]
 unfold List.Nodup
 rw [List.pairwise_map]
 simp
theorem nodup_snoc {α : Type} (l : List α) (x : α) : (l ++ [x]).Nodup ↔ l.Nodup ∧ x ∉ l:=by
 unfold List.Nodup
 rw [List.pairwise_append]
 constructor
 ·rintro ⟨h1,_,h3⟩
  exact ⟨h1,fun h => h3 x h x (by simp) rfl⟩
 ·rintro ⟨h1,h2⟩
  refine ⟨h1,by simp,fun a ha b hb => ?_⟩
  obtain rfl : b = x:=by simpa using hb
  intro e
  exact h2 (e ▸ ha)
end Go.Proofs.YtnkpgpmaiicdeaaGreatDoor
namespace Go.Proofs.YtnkpgpmaiicdeaaGreatDoor
set_option maxRecDepth 100000
set_option maxHeartbeats 4000000
open Go.RowKit
open Go.Maps (Keyed setOf)
theorem below_grownF {B b : Nat} {W W' : World} (hg : W.grownBy W' (some b)) (hb : B ≤ b) (hB : B ≤ W.heap.size) : Below B W W' :=
 ⟨hg.os,hg.tape,hg.output,hg.size,fun k hk => hg.block k (by omega) (fun e => by have := Option.some.inj e;omega)⟩
abbrev namesD (ps : List Pm) : DataW Unit:=setOf (DataW.lit (.bool true)) (ps.map fun x => Lit.string x.nm)
theorem namesD_succ (ps : List Pm) (k : Nat) (t nm : List UInt8) (hi : ps[k]? = some ⟨t,nm⟩) : namesD (ps.take (k + 1)) = (namesD (ps.take k)).put (.string nm) (.lit (.bool true)):=by
 unfold namesD
 rw [List.take_add_one,hi,List.map_append,show (Option.some (⟨t,nm⟩ : Pm)).toList.map (fun x => Lit.string x.nm) = [Lit.string nm] from rfl,Go.Maps.setOf_snoc]
theorem size_namesD (ps : List Pm) : decide (((Go.Maps.size (namesD ps) : Nat) : Int) = (ps.length : Int)) = decide ((ps.map (·.nm)).Nodup):=by
 have h:=size_names (ps.map (·.nm))
 rw [List.map_map,List.length_map] at h
 have h2 : Go.Maps.size (namesD ps) = ps.length ↔ (ps.map (·.nm)).Nodup:=h
 exact decide_eq_decide.2 ⟨fun e => h2.1 (by omega),fun e => by have := h2.2 e;omega⟩
theorem names_any (ps : List Pm) (A : Option Addr) (c : Nat) (w : World) (hn : ps.length ≤ maxLen) (hr : PmRow w w.heap.size ps A) :
 Calls Tryz.prog 75 #[.slice A ps.length c] w fun e w' => e = .returned (.bool (decide ((ps.map (·.nm)).Nodup))) ∧ Below w.heap.size w w':=by
 obtain ⟨n,hnn⟩ : ∃ n,n = ps.length:=⟨_,rfl⟩
 have hn':=hn
 have HE:=Lib.hid (size_namesD ps)
 rw [← hnn] at hn hn' HE ⊢
 have HH:=Lib.hid (And.intro hr (And.intro hnn hn'))
 have hmm:=@run_makeMap Tryz.prog
 have HO0:=Lib.hid (World.ownsMap_made w Tryz.prog 9 (plainElem (H:=Unit) Tryz.prog 4))
 have HB0:=Lib.hid (below_alloc w (.map #[] 0))
 clear hr hnn hn'
 unfold maxLen at hn
 go_enter Tryz.func75,Tryz.ntmps75
 go_wp2
 go_loopg [9] n (fun m j wr => ∃ k : Nat,m = n - k ∧ k ≤ n ∧ j = .int .i64 k ∧ Hid (NamesAt wr w.heap.size k (namesD (ps.take k)) ∧ Below w.heap.size w wr))
 case atStart => exact ⟨0,rfl,Nat.zero_le _,rfl,Lib.hid ⟨HO0.out,HB0.out⟩⟩
 case round =>
  obtain ⟨k,rfl,hk,rfl,HI⟩:=hrel
  by_cases hlt : k < n
  ·have hki : (k : Int) < n:=by omega
   obtain ⟨⟨t,nm⟩,hi⟩ : ∃ x,ps[k]? = some x:=⟨ps[k]'(by rw [← HH.out.2.1];exact hlt),List.getElem?_eq_getElem _⟩
   obtain ⟨a,rfl,hab,d0,d1,ht,hnm⟩:=(HH.out.1.stay pm_keeps HI.out.2 (Nat.le_refl _)).at_ hi
   have c0 : wr.cell? (a.add (k * 2)) = some (.string ⟨t.toArray⟩):=d0
   have c1 : wr.cell? ⟨(a.add (k * 2)).block,(a.add (k * 2)).off + 1,none⟩ = some (.string ⟨nm.toArray⟩):=d1
   have HO:=Lib.hid (HI.out.1.alloc (paramC ⟨t.toArray⟩ ⟨nm.toArray⟩))
   have HK:=Lib.hid (Go.WideMaps.keyOf_string_mk Tryz.underlying9 (s:=⟨nm.toArray⟩) hnm)
   have HG:=Lib.hid (HI.out.2.alloc HI.out.2.size (paramC ⟨t.toArray⟩ ⟨nm.toArray⟩))
   have HKN:=Lib.hid (And.intro (Nat.lt_of_lt_of_le hlt HH.out.2.2) (namesD_succ ps k t nm hi))
   clear d0 d1 ht hnm hi
   go_wp2_with (at_mapUpdate;refine wpList_mapUpdate_own _ rfl _ _ _ 95 rfl 9 4 (Keyed.of_law (Go.WideMaps.string_law Tryz.underlying9)) Tryz.underlying95 _ w.heap.size _ _ rfl HO.out HKN.out.1 _ _ _ rfl rfl HK.out _ _ (Go.plainElem_bool Tryz.underlying4 true) ?_;intro wk hown hgr;have HO2:=Lib.hid hown;have HG2:=Lib.hid (HG.out.trans (below_grownF hgr (Nat.le_refl _) HG.out.size));clear hown hgr)
   go_roundg (n - (k + 1))
   case measure => omega
   case rel => exact ⟨k + 1,rfl,by omega,by go_num,Lib.hid ⟨by rw [HKN.out.2];exact HO2.out,HG2.out⟩⟩
  ·obtain rfl : k = n:=by omega
   go_wp2_with (at_len;refine wpList_len_own _ rfl _ 95 rfl 9 4 Tryz.underlying95 _ w.heap.size _ _ rfl HI.out.1 ?_)
   go_ret
   refine ⟨?_,HI.out.2⟩
   have e : ps.take k = ps:=List.take_of_length_le (by rw [HH.out.2.1];exact Nat.le_refl _)
   rw [e]
   have := HE.out
   simp only at this ⊢
   first
    | exact congrArg (fun b => Outcome.returned (.bool b)) this
    | (rw [← this];rfl)
    | (rw [← this];simp)
end Go.Proofs.YtnkpgpmaiicdeaaGreatDoor
namespace Go.Proofs.YtnkpgpmaiicdeaaGreatDoor
set_option maxRecDepth 100000
set_option maxHeartbeats 4000000
open Go.RowKit
theorem vlr_param (fv : Nat) (var : List UInt8 → Bool) (hv : VarOk fv var) (nu ex : Int) (ps : List Pm) (A : Option Addr) (c : Nat) (least most : Int) (w : World) (hn : ps.length ≤ maxLen) (hr : PmRow w w.heap.size ps A) :
 Calls Tryz.prog 63 #[.slice A ps.length c,.int .i64 least,.int .i64 most,.func (.func 64) #[rulesV fv nu ex] #[]] w fun e w' =>
  e = .returned (.bool (decide (least ≤ ps.length) && decide ((ps.length : Int) ≤ most) && ps.all (vP var))) ∧ Below w.heap.size w w':=by
 refine vl_param (vP var) 64 #[rulesV fv nu ex] #[] (enters_of Tryz.func64 (by kernel_rfl) rfl) ps A c least most w hn hr (fun t nm W _ hb ht hnm => ?_)
 exact param_any fv var hv nu ex t nm W ht hnm
theorem vlr_atom (fv : Nat) (var : List UInt8 → Bool) (hv : VarOk fv var) (nu ex : Int) (h0 : 0 ≤ nu) (h1 : nu ≤ 4611686018427387904) (es : List At) (A : Option Addr) (c : Nat) (least most : Int) (w : World) (hn : es.length ≤ maxLen) (hr : AtRow w w.heap.size es A) :
 Calls Tryz.prog 76 #[.slice A es.length c,.int .i64 least,.int .i64 most,.func (.func 77) #[rulesV fv nu ex] #[]] w fun e w' =>
  e = .returned (.bool (decide (least ≤ es.length) && decide ((es.length : Int) ≤ most) && es.all (vAt var nu))) ∧ Below w.heap.size w w':=by
 refine vl_atom (vAt var nu) 77 #[rulesV fv nu ex] #[] (enters_of Tryz.func77 (by kernel_rfl) rfl) es A c least most w hn hr (fun k ak an sa al bk bn sb bl Aa ca Ab cb W _ hb ra rb b1 b2 b3 b4 => ?_)
 exact atom_any fv var hv nu ex h0 h1 k ak an sa al bk bn sb bl Aa ca Ab cb W ra rb b1 b2 b3 b4
theorem vlr_cell (fv : Nat) (var : List UInt8 → Bool) (hv : VarOk fv var) (nu ex : Int) (h0 : 0 ≤ nu) (h1 : nu ≤ 4611686018427387904) (es : List Cl) (A : Option Addr) (c : Nat) (least most : Int) (w : World) (hn : es.length ≤ maxLen) (hr : ClRow w w.heap.size es A) :
 Calls Tryz.prog 78 #[.slice A es.length c,.int .i64 least,.int .i64 most,.func (.func 79) #[rulesV fv nu ex] #[]] w fun e w' =>
  e = .returned (.bool (decide (least ≤ es.length) && decide ((es.length : Int) ≤ most) && es.all (vCl var nu))) ∧ Below w.heap.size w w':=by
 refine vl_cell (vCl var nu) 79 #[rulesV fv nu ex] #[] (enters_of Tryz.func79 (by kernel_rfl) rfl) es A c least most w hn hr (fun k nm l A' c' W _ hb rl hnm hl => ?_)
 exact cell_any fv var hv nu ex h0 h1 k nm l A' c' W rl hnm hl
theorem box3f {W : World} {be : Nat} {p a c : Value} (h : W.heap[be]? = some (formulaC p a c)) :
 W.cell? ⟨be,0,none⟩ = some p ∧ W.cell? ⟨be,1,none⟩ = some a ∧ W.cell? ⟨be,2,none⟩ = some c :=
 ⟨cell_of_block h 0 rfl,cell_of_block h 1 rfl,cell_of_block h 2 rfl⟩
theorem formula_any (fv : Nat) (var : List UInt8 → Bool) (hv : VarOk fv var) (nu ex : Int) (h0 : 0 ≤ nu) (h1 : nu ≤ 4611686018427387904) (f : Fm) (Ap : Option Addr) (cp : Nat) (Aa : Option Addr) (ca : Nat) (Ac : Option Addr) (cc : Nat) (w : World)
 (b0 : f.ps.length ≤ maxLen) (b1 : f.ats.length ≤ maxLen) (b2 : f.cls.length ≤ maxLen) (rp : PmRow w w.heap.size f.ps Ap) (ra : AtRow w w.heap.size f.ats Aa) (rc : ClRow w w.heap.size f.cls Ac) :
 Calls Tryz.prog 38 #[rulesV fv nu ex,formulaV (.slice Ap f.ps.length cp) (.slice Aa f.ats.length ca) (.slice Ac f.cls.length cc)] w fun e w' => e = .returned (.bool (vF var nu ex f)) ∧ Below w.heap.size w w':=by
 obtain ⟨v0,hv0⟩ : ∃ v,v = (decide ((0 : Int) ≤ f.ps.length) && decide ((f.ps.length : Int) ≤ ex) && f.ps.all (vP var)):=⟨_,rfl⟩
 obtain ⟨vd,hvd⟩ : ∃ v,v = decide ((f.ps.map (·.nm)).Nodup):=⟨_,rfl⟩
 obtain ⟨v1,hv1⟩ : ∃ v,v = (decide ((0 : Int) ≤ f.ats.length) && decide ((f.ats.length : Int) ≤ 100) && f.ats.all (vAt var nu)):=⟨_,rfl⟩
 obtain ⟨v2,hv2⟩ : ∃ v,v = (decide ((0 : Int) ≤ f.cls.length) && decide ((f.cls.length : Int) ≤ 100) && f.cls.all (vCl var nu)):=⟨_,rfl⟩
 have hres : vF var nu ex f = (v0 && vd && v1 && v2):=by
  rw [hv0,hvd,hv1,hv2]
  unfold vF
  have e : ∀ n : Nat,decide ((0 : Int) ≤ n) = true:=fun n => by simp
  rw [e,e,e]
  simp only [Bool.true_and,Bool.and_assoc]
 rw [hres]
 have HP : Hid (BC w 63 #[.slice Ap f.ps.length cp,.int .i64 0,.int .i64 ex,.func (.func 64) #[rulesV fv nu ex] #[]] v0):=Lib.hid (fun W hb => by rw [hv0];exact vlr_param fv var hv nu ex f.ps Ap cp 0 ex W b0 (rp.on pm_keeps hb))
 have HD : Hid (BC w 75 #[.slice Ap f.ps.length cp] vd):=Lib.hid (fun W hb => by rw [hvd];exact names_any f.ps Ap cp W b0 (rp.on pm_keeps hb))
 have HA : Hid (BC w 76 #[.slice Aa f.ats.length ca,.int .i64 0,.int .i64 100,.func (.func 77) #[rulesV fv nu ex] #[]] v1):=Lib.hid (fun W hb => by rw [hv1];exact vlr_atom fv var hv nu ex h0 h1 f.ats Aa ca 0 100 W b1 (ra.on at_keeps hb))
 have HC : Hid (BC w 78 #[.slice Ac f.cls.length cc,.int .i64 0,.int .i64 100,.func (.func 79) #[rulesV fv nu ex] #[]] v2):=Lib.hid (fun W hb => by rw [hv2];exact vlr_cell fv var hv nu ex h0 h1 f.cls Ac cc 0 100 W b2 (rc.on cl_keeps hb))
 generalize f.ps.length = n0 at *
 generalize f.ats.length = n1 at *
 generalize f.cls.length = n2 at *
 obtain ⟨W1,hW1⟩ : ∃ W1,W1 = (w.alloc (rulesC fv nu ex)).alloc (formulaC (.slice Ap n0 cp) (.slice Aa n1 ca) (.slice Ac n2 cc)):=⟨_,rfl⟩
 have HB : Hid (Below w.heap.size w W1):=Lib.hid (by rw [hW1];exact (below_alloc w _).chain (below_alloc _ _))
 have q1:=heap_keep (o:=formulaC (.slice Ap n0 cp) (.slice Aa n1 ca) (.slice Ac n2 cc)) (heap_of_alloc w (rulesC fv nu ex))
 have q2:=heap_of_alloc (w.alloc (rulesC fv nu ex)) (formulaC (.slice Ap n0 cp) (.slice Aa n1 ca) (.slice Ac n2 cc))
 rw [size_of_alloc] at q2
 rw [← hW1] at q1 q2
 have HQ:=Lib.hid (And.intro q1 q2)
 unfold maxLen at b0 b1 b2
 have he1:=enters_of Tryz.func64 (by kernel_rfl) rfl
 clear q1 q2 hv rp ra rc hres hv0 hvd hv1 hv2 h0 h1
 cases v0 with
 | false =>
   go_enter Tryz.func38,Tryz.ntmps38
   go_wp2_with (go_at_call 63;rw [← hW1];clear hW1;refine (HP.out _ HB.out).mono ?_;rintro e w2 ⟨rfl,hb2⟩;have HB2:=Lib.hid (HB.out.chain hb2);clear hb2)
   go_ret
   exact ⟨rfl,HB2.out⟩
 | true =>
   cases vd with
   | false =>
     go_enter Tryz.func38,Tryz.ntmps38
     go_wp2_with (first
      | (go_at_call 63;rw [← hW1];clear hW1;refine (HP.out _ HB.out).mono ?_;rintro e w2 ⟨rfl,hb2⟩;have HB2:=Lib.hid (HB.out.chain hb2);have HQ2:=Lib.hid (And.intro (kept_box hb2 HQ.out.1) (kept_box hb2 HQ.out.2));obtain ⟨g0,g1,g2⟩:=box3 HQ2.out.1;obtain ⟨y0,y1,y2⟩:=box3f HQ2.out.2;clear hb2)
      | (go_at_call 75;refine (HD.out _ HB2.out).mono ?_;rintro e w3 ⟨rfl,hb3⟩;have HB3:=Lib.hid (HB2.out.chain hb3);clear hb3))
     go_ret
     exact ⟨rfl,HB3.out⟩
   | true =>
     cases v1 with
     | false =>
       go_enter Tryz.func38,Tryz.ntmps38
       go_wp2_with (first
        | (go_at_call 63;rw [← hW1];clear hW1;refine (HP.out _ HB.out).mono ?_;rintro e w2 ⟨rfl,hb2⟩;have HB2:=Lib.hid (HB.out.chain hb2);have HQ2:=Lib.hid (And.intro (kept_box hb2 HQ.out.1) (kept_box hb2 HQ.out.2));obtain ⟨g0,g1,g2⟩:=box3 HQ2.out.1;obtain ⟨y0,y1,y2⟩:=box3f HQ2.out.2;clear hb2)
        | (go_at_call 75;refine (HD.out _ HB2.out).mono ?_;rintro e w3 ⟨rfl,hb3⟩;have HB3:=Lib.hid (HB2.out.chain hb3);have HQ3:=Lib.hid (And.intro (kept_box hb3 HQ2.out.1) (kept_box hb3 HQ2.out.2));obtain ⟨i0,i1,i2⟩:=box3 HQ3.out.1;obtain ⟨x0,x1,x2⟩:=box3f HQ3.out.2;clear hb3)
        | (go_at_call 76;refine (HA.out _ HB3.out).mono ?_;rintro e w4 ⟨rfl,hb4⟩;have HB4:=Lib.hid (HB3.out.chain hb4);clear hb4))
       go_ret
       exact ⟨rfl,HB4.out⟩
     | true =>
       go_enter Tryz.func38,Tryz.ntmps38
       go_wp2_with (first
        | (go_at_call 63;rw [← hW1];clear hW1;refine (HP.out _ HB.out).mono ?_;rintro e w2 ⟨rfl,hb2⟩;have HB2:=Lib.hid (HB.out.chain hb2);have HQ2:=Lib.hid (And.intro (kept_box hb2 HQ.out.1) (kept_box hb2 HQ.out.2));obtain ⟨g0,g1,g2⟩:=box3 HQ2.out.1;obtain ⟨y0,y1,y2⟩:=box3f HQ2.out.2;clear hb2)
        | (go_at_call 75;refine (HD.out _ HB2.out).mono ?_;rintro e w3 ⟨rfl,hb3⟩;have HB3:=Lib.hid (HB2.out.chain hb3);have HQ3:=Lib.hid (And.intro (kept_box hb3 HQ2.out.1) (kept_box hb3 HQ2.out.2));obtain ⟨i0,i1,i2⟩:=box3 HQ3.out.1;obtain ⟨x0,x1,x2⟩:=box3f HQ3.out.2;clear hb3)
        | (go_at_call 76;refine (HA.out _ HB3.out).mono ?_;rintro e w4 ⟨rfl,hb4⟩;have HB4:=Lib.hid (HB3.out.chain hb4);have HQ4:=Lib.hid (And.intro (kept_box hb4 HQ3.out.1) (kept_box hb4 HQ3.out.2));obtain ⟨j0,j1,j2⟩:=box3 HQ4.out.1;obtain ⟨z0,z1,z2⟩:=box3f HQ4.out.2;clear hb4)
        | (go_at_call 78;refine (HC.out _ HB4.out).mono ?_;rintro e w5 ⟨rfl,hb5⟩;have HB5:=Lib.hid (HB4.out.chain hb5);clear hb5))
       go_ret
       exact ⟨rfl,HB5.out⟩
end Go.Proofs.YtnkpgpmaiicdeaaGreatDoor
