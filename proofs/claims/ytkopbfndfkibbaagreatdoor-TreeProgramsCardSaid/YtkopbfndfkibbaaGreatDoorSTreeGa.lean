/-
  Trees of programs: what is valid by the rules of programs is what is valid by the rules of proofs and plain.
  Statements of programs: what is valid by the rules of programs is what is valid by the rules of proofs and plain.
  What the reference's functions on the parts of programs answer.
-/
import Derived.Test.YtkopbfndfkibbaaGreatDoorSTreeSh
import Derived.Test.YtkopbfndfkibbaaGreatDoorSTreeK
import Derived.Test.YtkopbfndfkibbaaGreatDoorSTreeP
set_option linter.unusedVariables false
set_option linter.unusedSimpArgs false
namespace Go.Proofs.YtkopbfndfkibbaaGreatDoor
open Go.RowKit
def Dlr (s : List UInt8) : Prop:=s.head? = some 36
theorem name_no_dlr {s : List UInt8} (h : nameR s = true) : ¬ Dlr s:=by
 intro hd
 cases s with
 | nil => cases hd
 | cons x t =>
   obtain rfl : x = 36:=Option.some.inj hd
   rw [nameR_dollar] at h
   cases h
theorem name_var {s : List UInt8} : nameR s = true ↔ varR s = true ∧ ¬ Dlr s:=by
 constructor
 ·intro h
  exact ⟨by unfold varR;rw [h];rfl,name_no_dlr h⟩
 ·rintro ⟨h1,h2⟩
  unfold varR at h1
  cases hn : nameR s with
  | true => rfl
  | false =>
    rw [hn,Bool.false_or] at h1
    simp only [Bool.and_eq_true] at h1
    exact absurd (show s.head? = some 36 from by simpa using h1.1.2) h2
inductive NpE : Ex → Prop
 | name (n : Int) (s : List UInt8) (l : List Ex) (h : nameR s = false) : NpE (.mk 2 n s l)
 | num (k n : Int) (s : List UInt8) (l : List Ex) (h : inR 1048576 n = false) : NpE (.mk k n s l)
 | sub (k n : Int) (s : List UInt8) (l : List Ex) (x : Ex) (hx : x ∈ l) (h : NpE x) : NpE (.mk k n s l)
theorem npE_iff {k n : Int} {s : List UInt8} {l : List Ex} : NpE (.mk k n s l) ↔ (k = 2 ∧ nameR s = false) ∨ inR 1048576 n = false ∨ ∃ x ∈ l,NpE x:=by
 constructor
 ·intro h
  cases h with
  | name n s l h => exact .inl ⟨rfl,h⟩
  | num k n s l h => exact .inr (.inl h)
  | sub k n s l x hx h => exact .inr (.inr ⟨x,hx,h⟩)
 ·rintro (⟨rfl,h⟩ | h | ⟨x,hx,h⟩)
  ·exact .name _ _ _ h
  ·exact .num _ _ _ _ h
  ·exact .sub _ _ _ _ x hx h
theorem plain_ex {k n : Int} {s : List UInt8} {l : List Ex} : ¬ NpE (.mk k n s l) ↔ (k = 2 → nameR s = true) ∧ inR 1048576 n = true ∧ ∀ x ∈ l,¬ NpE x:=by
 rw [npE_iff]
 constructor
 ·intro h
  refine ⟨fun hk => ?_,?_,fun x hx hn => h (.inr (.inr ⟨x,hx,hn⟩))⟩
  ·cases hs : nameR s with
   | true => rfl
   | false => exact absurd (.inl ⟨hk,hs⟩) h
  ·cases hi : inR 1048576 n with
   | true => rfl
   | false => exact absurd (.inr (.inl hi)) h
 ·rintro ⟨h1,h2,h3⟩ (⟨hk,hs⟩ | hi | ⟨x,hx,hn⟩)
  ·rw [h1 hk] at hs;cases hs
  ·rw [h2] at hi;cases hi
  ·exact h3 x hx hn
theorem inR_small {n : Int} (h : inR 1048576 n = true) : inR 1125899906842624 n = true:=by
 unfold inR at h ⊢
 simp only [Bool.and_eq_true,decide_eq_true_eq] at h ⊢
 omega
theorem inR_zero : inR 1048576 0 = true:=by decide
theorem all_iff {α : Type} {p q : α → Bool} {N : α → Prop} : ∀ {l : List α},(∀ x ∈ l,p x = true ↔ q x = true ∧ ¬ N x) → (l.all p = true ↔ l.all q = true ∧ ∀ x ∈ l,¬ N x)
 | [],_ => by simp
 | x :: l,h => by
   have h1:=h x (by simp)
   have h2:=all_iff (l:=l) (fun y hy => h y (by simp [hy]))
   simp only [List.all_cons,Bool.and_eq_true,List.mem_cons,forall_eq_or_imp]
   rw [h1,h2]
   constructor
   ·rintro ⟨⟨a,b⟩,c,d⟩;exact ⟨⟨a,c⟩,b,d⟩
   ·rintro ⟨⟨a,c⟩,b,d⟩;exact ⟨⟨a,b⟩,c,d⟩
theorem ops_iff {α : Type} {p q : α → Bool} {N : α → Prop} {l : List α} {a b : Bool} (h : ∀ x ∈ l,p x = true ↔ q x = true ∧ ¬ N x) : ((a && b && l.all p) = true ↔ (a && b && l.all q) = true ∧ ∀ x ∈ l,¬ N x):=by
 simp only [Bool.and_eq_true]
 rw [all_iff h]
 constructor
 ·rintro ⟨a,b,c⟩;exact ⟨⟨a,b⟩,c⟩
 ·rintro ⟨⟨a,b⟩,c⟩;exact ⟨a,b,c⟩
theorem ops_nil {α : Type} {l : List α} {f : α → Bool} (h : (decide ((0 : Int) ≤ (l.length : Int)) && decide ((l.length : Int) ≤ 0) && l.all f) = true) : l = []:=by
 simp only [Bool.and_eq_true,decide_eq_true_eq] at h
 exact List.eq_nil_of_length_eq_zero (by omega)
theorem vE_plain : ∀ (d : Nat) (e : Ex),vE nameR 1048576 d e = true ↔ vE varR 1125899906842624 d e = true ∧ ¬ NpE e
 | 0,e => by simp [vE]
 | d + 1,.mk k n s l => by
   have ih:=fun x (_ : x ∈ l) => vE_plain d x
   rw [plain_ex,vE,vE]
   by_cases h1 : k = 1
   ·subst h1
    simp only [if_true,opsB,Bool.and_eq_true]
    constructor
    ·rintro ⟨⟨a,b⟩,c,e⟩
     have hl:=ops_nil (l:=l) (f:=vE nameR 1048576 d) (by simp only [Bool.and_eq_true];exact ⟨c,e⟩)
     subst hl
     exact ⟨⟨⟨inR_small a,b⟩,c,by simp⟩,fun h => absurd h (by decide),a,fun x hx => by cases hx⟩
    ·rintro ⟨⟨⟨_,b⟩,c,e⟩,_,a,_⟩
     have hl:=ops_nil (l:=l) (f:=vE varR 1125899906842624 d) (by simp only [Bool.and_eq_true];exact ⟨c,e⟩)
     subst hl
     exact ⟨⟨a,b⟩,c,by simp⟩
   ·rw [if_neg h1,if_neg h1]
    by_cases h2 : k = 2
    ·subst h2
     simp only [if_true,opsB,Bool.and_eq_true]
     constructor
     ·rintro ⟨⟨a,b⟩,c,e⟩
      have hl:=ops_nil (l:=l) (f:=vE nameR 1048576 d) (by simp only [Bool.and_eq_true];exact ⟨c,e⟩)
      subst hl
      have ha : n = 0:=by simpa using a
      subst ha
      exact ⟨⟨⟨a,(name_var.1 b).1⟩,c,by simp⟩,fun _ => b,inR_zero,fun x hx => by cases hx⟩
     ·rintro ⟨⟨⟨a,_⟩,c,e⟩,b,_,_⟩
      have hl:=ops_nil (l:=l) (f:=vE varR 1125899906842624 d) (by simp only [Bool.and_eq_true];exact ⟨c,e⟩)
      subst hl
      exact ⟨⟨a,b trivial⟩,c,by simp⟩
    ·rw [if_neg h2,if_neg h2]
     have hz : ∀ {m : Int},(((n == 0) && s.isEmpty && opsB m l (vE nameR 1048576 d)) = true ↔ ((n == 0) && s.isEmpty && opsB m l (vE varR 1125899906842624 d)) = true ∧ ((k = 2 → nameR s = true) ∧ inR 1048576 n = true ∧ ∀ x ∈ l,¬ NpE x)):=by
      intro m
      have ho:=ops_iff (a:=decide (m ≤ (l.length : Int))) (b:=decide ((l.length : Int) ≤ m)) ih
      unfold opsB
      simp only [Bool.and_eq_true] at ho ⊢
      constructor
      ·rintro ⟨⟨a,b⟩,ce⟩
       obtain ⟨c,e⟩:=ho.1 ce
       have ha : n = 0:=by simpa using a
       subst ha
       exact ⟨⟨⟨a,b⟩,c⟩,fun h => absurd h h2,inR_zero,e⟩
      ·rintro ⟨⟨⟨a,b⟩,c⟩,_,_,e⟩
       exact ⟨⟨a,b⟩,ho.2 ⟨c,e⟩⟩
     by_cases h3 : k = 3
     ·rw [if_pos h3,if_pos h3];exact hz
     ·rw [if_neg h3,if_neg h3]
      by_cases h4 : k = 4 ∨ k = 5
      ·rw [if_pos h4,if_pos h4];exact hz
      ·rw [if_neg h4,if_neg h4]
       by_cases h6 : k = 6
       ·rw [if_pos h6,if_pos h6]
        have ho:=ops_iff (a:=decide ((1 : Int) ≤ (l.length : Int))) (b:=decide ((l.length : Int) ≤ 1)) ih
        unfold opsB
        simp only [Bool.and_eq_true] at ho ⊢
        constructor
        ·rintro ⟨⟨a,b⟩,ce⟩
         obtain ⟨c,e⟩:=ho.1 ce
         exact ⟨⟨⟨inR_small a,b⟩,c⟩,fun h => absurd h h2,a,e⟩
        ·rintro ⟨⟨⟨_,b⟩,c⟩,_,a,e⟩
         exact ⟨⟨a,b⟩,ho.2 ⟨c,e⟩⟩
       ·rw [if_neg h6,if_neg h6]
        simp
theorem zX_plain {e : Ex} (h : zX e = true) : ¬ NpE e:=by
 obtain ⟨k,n,s,l⟩:=e
 rw [zX_eq] at h
 simp only [Bool.and_eq_true,beq_iff_eq,List.isEmpty_iff] at h
 obtain ⟨⟨⟨rfl,rfl⟩,rfl⟩,rfl⟩:=h
 rw [plain_ex]
 exact ⟨fun h => absurd h (by decide),inR_zero,fun x hx => by cases hx⟩
inductive NpC : Cn → Prop
 | a (k : Int) (a b : Ex) (l : List Cn) (h : NpE a) : NpC (.mk k a b l)
 | b (k : Int) (a b : Ex) (l : List Cn) (h : NpE b) : NpC (.mk k a b l)
 | sub (k : Int) (a b : Ex) (l : List Cn) (x : Cn) (hx : x ∈ l) (h : NpC x) : NpC (.mk k a b l)
theorem plain_cn {k : Int} {a b : Ex} {l : List Cn} : ¬ NpC (.mk k a b l) ↔ ¬ NpE a ∧ ¬ NpE b ∧ ∀ x ∈ l,¬ NpC x:=by
 constructor
 ·intro h
  exact ⟨fun ha => h (.a _ _ _ _ ha),fun hb => h (.b _ _ _ _ hb),fun x hx hn => h (.sub _ _ _ _ x hx hn)⟩
 ·rintro ⟨h1,h2,h3⟩ h
  cases h with
  | a _ _ _ _ h => exact h1 h
  | b _ _ _ _ h => exact h2 h
  | sub _ _ _ _ x hx h => exact h3 x hx h
theorem vC_plain : ∀ (d : Nat) (c : Cn),vC nameR 1048576 d c = true ↔ vC varR 1125899906842624 d c = true ∧ ¬ NpC c
 | 0,c => by simp [vC]
 | d + 1,.mk k a b l => by
   have ih:=fun x (_ : x ∈ l) => vC_plain d x
   rw [plain_cn,vC,vC]
   by_cases h1 : (decide (1 ≤ k) && decide (k ≤ 4)) = true
   ·rw [if_pos h1,if_pos h1]
    simp only [Bool.and_eq_true,vE_plain 30 a,vE_plain 30 b]
    constructor
    ·rintro ⟨⟨⟨x1,x2⟩,x3,x4⟩,x5⟩
     have hl : l = []:=List.eq_nil_of_length_eq_zero (by
      have : (l.length : Int) = 0:=by simpa using x5
      omega)
     subst hl
     exact ⟨⟨⟨x1,x3⟩,x5⟩,x2,x4,fun x hx => by cases hx⟩
    ·rintro ⟨⟨⟨x1,x3⟩,x5⟩,x2,x4,_⟩
     exact ⟨⟨⟨x1,x2⟩,x3,x4⟩,x5⟩
   ·rw [if_neg h1,if_neg h1]
    have hz : ∀ {m : Int},((zX a && zX b && opsC m l (vC nameR 1048576 d)) = true ↔ (zX a && zX b && opsC m l (vC varR 1125899906842624 d)) = true ∧ (¬ NpE a ∧ ¬ NpE b ∧ ∀ x ∈ l,¬ NpC x)):=by
     intro m
     have ho:=ops_iff (a:=decide (m ≤ (l.length : Int))) (b:=decide ((l.length : Int) ≤ m)) ih
     unfold opsC
     simp only [Bool.and_eq_true] at ho ⊢
     constructor
     ·rintro ⟨⟨x1,x2⟩,xc⟩
      obtain ⟨x3,x4⟩:=ho.1 xc
      exact ⟨⟨⟨x1,x2⟩,x3⟩,zX_plain x1,zX_plain x2,x4⟩
     ·rintro ⟨⟨⟨x1,x2⟩,x3⟩,_,_,x4⟩
      exact ⟨⟨x1,x2⟩,ho.2 ⟨x3,x4⟩⟩
    by_cases h5 : k = 5
    ·rw [if_pos h5,if_pos h5];exact hz
    ·rw [if_neg h5,if_neg h5]
     by_cases h6 : k = 6 ∨ k = 7
     ·rw [if_pos h6,if_pos h6];exact hz
     ·rw [if_neg h6,if_neg h6]
      simp
theorem zC_plain {c : Cn} (h : zC c = true) : ¬ NpC c:=by
 obtain ⟨k,a,b,l⟩:=c
 rw [zC_eq] at h
 simp only [Bool.and_eq_true,List.isEmpty_iff] at h
 obtain ⟨⟨⟨_,h1⟩,h2⟩,rfl⟩:=h
 rw [plain_cn]
 exact ⟨zX_plain h1,zX_plain h2,fun x hx => by cases hx⟩
def NpP (x : Pm) : Prop:=nameR x.nm = false
def NpA (x : At) : Prop:=NpE x.a ∨ NpE x.b
def NpL (x : Cl) : Prop:=∃ e ∈ x.l,NpE e
def NpF (f : Fm) : Prop:=8 < f.ps.length ∨ (∃ x ∈ f.ps,NpP x) ∨ (∃ x ∈ f.ats,NpA x) ∨ ∃ x ∈ f.cls,NpL x
theorem vP_plain (x : Pm) : vP nameR x = true ↔ vP varR x = true ∧ ¬ NpP x:=by
 unfold vP NpP
 rw [Bool.and_eq_true,Bool.and_eq_true]
 constructor
 ·rintro ⟨a,b⟩;exact ⟨⟨a,(name_var.1 b).1⟩,by rw [b];decide⟩
 ·rintro ⟨⟨a,_⟩,b⟩;exact ⟨a,by simpa using b⟩
theorem vAt_plain (x : At) : vAt nameR 1048576 x = true ↔ vAt varR 1125899906842624 x = true ∧ ¬ NpA x:=by
 unfold vAt NpA
 simp only [Bool.and_eq_true,vE_plain 30,not_or]
 constructor
 ·rintro ⟨⟨a,b,c⟩,d,e⟩;exact ⟨⟨⟨a,b⟩,d⟩,c,e⟩
 ·rintro ⟨⟨⟨a,b⟩,d⟩,c,e⟩;exact ⟨⟨a,b,c⟩,d,e⟩
theorem vCl_plain (x : Cl) : vCl nameR 1048576 x = true ↔ vCl varR 1125899906842624 x = true ∧ ¬ NpL x:=by
 have hN : ¬ NpL x ↔ ∀ e ∈ x.l,¬ NpE e:=by unfold NpL;exact ⟨fun h e he hn => h ⟨e,he,hn⟩,fun h ⟨e,he,hn⟩ => h e he hn⟩
 rw [hN]
 unfold vCl
 rw [Bool.and_eq_true,Bool.and_eq_true]
 have ih:=fun e (_ : e ∈ x.l) => vE_plain 30 e
 by_cases h1 : x.k = 1
 ·rw [if_pos h1,if_pos h1,ops_iff ih]
  exact ⟨fun ⟨a,b,c⟩ => ⟨⟨a,b⟩,c⟩,fun ⟨⟨a,b⟩,c⟩ => ⟨a,b,c⟩⟩
 ·rw [if_neg h1,if_neg h1]
  by_cases h2 : x.k = 2
  ·rw [if_pos h2,if_pos h2,ops_iff ih]
   exact ⟨fun ⟨a,b,c⟩ => ⟨⟨a,b⟩,c⟩,fun ⟨⟨a,b⟩,c⟩ => ⟨a,b,c⟩⟩
  ·rw [if_neg h2,if_neg h2]
   simp
theorem vF_plain (f : Fm) : vF nameR 1048576 8 f = true ↔ vF varR 1125899906842624 100 f = true ∧ ¬ NpF f:=by
 have e1:=all_iff (p:=vP nameR) (q:=vP varR) (N:=NpP) (l:=f.ps) (fun x _ => vP_plain x)
 have e2:=all_iff (p:=vAt nameR 1048576) (q:=vAt varR 1125899906842624) (N:=NpA) (l:=f.ats) (fun x _ => vAt_plain x)
 have e3:=all_iff (p:=vCl nameR 1048576) (q:=vCl varR 1125899906842624) (N:=NpL) (l:=f.cls) (fun x _ => vCl_plain x)
 have hN : ¬ NpF f ↔ f.ps.length ≤ 8 ∧ (∀ x ∈ f.ps,¬ NpP x) ∧ (∀ x ∈ f.ats,¬ NpA x) ∧ ∀ x ∈ f.cls,¬ NpL x:=by
  unfold NpF
  constructor
  ·intro h
   refine ⟨?_,fun x hx hn => h (.inr (.inl ⟨x,hx,hn⟩)),fun x hx hn => h (.inr (.inr (.inl ⟨x,hx,hn⟩))),fun x hx hn => h (.inr (.inr (.inr ⟨x,hx,hn⟩)))⟩
   by_cases h8 : f.ps.length ≤ 8
   ·exact h8
   ·exact absurd (.inl (by omega)) h
  ·rintro ⟨h1,h2,h3,h4⟩ (h | ⟨x,hx,hn⟩ | ⟨x,hx,hn⟩ | ⟨x,hx,hn⟩)
   ·omega
   ·exact h2 x hx hn
   ·exact h3 x hx hn
   ·exact h4 x hx hn
 rw [hN]
 unfold vF
 simp only [Bool.and_eq_true,decide_eq_true_eq,e1,e2,e3]
 constructor
 ·rintro ⟨⟨⟨⟨⟨⟨a,b,b'⟩,c⟩,d⟩,e,e'⟩,g⟩,h,h'⟩
  exact ⟨⟨⟨⟨⟨⟨⟨by omega,b⟩,c⟩,d⟩,e⟩,g⟩,h⟩,by omega,b',e',h'⟩
 ·rintro ⟨⟨⟨⟨⟨⟨⟨_,b⟩,c⟩,d⟩,e⟩,g⟩,h⟩,a,b',e',h'⟩
  exact ⟨⟨⟨⟨⟨⟨by omega,b,b'⟩,c⟩,d⟩,e,e'⟩,g⟩,h,h'⟩
end Go.Proofs.YtkopbfndfkibbaaGreatDoor
namespace Go.Proofs.YtkopbfndfkibbaaGreatDoor
open Go.RowKit
def NpCal (x : Cal) : Prop:=Dlr x.r ∨ ∃ e ∈ x.l,NpE e
inductive NpS : St → Prop
 | nm (k ln co : Int) (nm fd fr : List UInt8) (e : Ex) (c : Cn) (cl : List Cal) (iv : List Fm) (b o : List St) (h : Dlr nm) : NpS (.mk k ln co nm fd fr e c cl iv b o)
 | fr (k ln co : Int) (nm fd fr : List UInt8) (e : Ex) (c : Cn) (cl : List Cal) (iv : List Fm) (b o : List St) (h : Dlr fr) : NpS (.mk k ln co nm fd fr e c cl iv b o)
 | e (k ln co : Int) (nm fd fr : List UInt8) (e : Ex) (c : Cn) (cl : List Cal) (iv : List Fm) (b o : List St) (h : NpE e) : NpS (.mk k ln co nm fd fr e c cl iv b o)
 | c (k ln co : Int) (nm fd fr : List UInt8) (e : Ex) (c : Cn) (cl : List Cal) (iv : List Fm) (b o : List St) (h : NpC c) : NpS (.mk k ln co nm fd fr e c cl iv b o)
 | cl (k ln co : Int) (nm fd fr : List UInt8) (e : Ex) (c : Cn) (cl : List Cal) (iv : List Fm) (b o : List St) (x : Cal) (hx : x ∈ cl) (h : NpCal x) : NpS (.mk k ln co nm fd fr e c cl iv b o)
 | iv (k ln co : Int) (nm fd fr : List UInt8) (e : Ex) (c : Cn) (cl : List Cal) (iv : List Fm) (b o : List St) (x : Fm) (hx : x ∈ iv) (h : NpF x) : NpS (.mk k ln co nm fd fr e c cl iv b o)
 | b (k ln co : Int) (nm fd fr : List UInt8) (e : Ex) (c : Cn) (cl : List Cal) (iv : List Fm) (b o : List St) (x : St) (hx : x ∈ b) (h : NpS x) : NpS (.mk k ln co nm fd fr e c cl iv b o)
 | o (k ln co : Int) (nm fd fr : List UInt8) (e : Ex) (c : Cn) (cl : List Cal) (iv : List Fm) (b o : List St) (x : St) (hx : x ∈ o) (h : NpS x) : NpS (.mk k ln co nm fd fr e c cl iv b o)
theorem plain_st {k ln co : Int} {nm fd fr : List UInt8} {e : Ex} {c : Cn} {cl : List Cal} {iv : List Fm} {b o : List St} : ¬ NpS (.mk k ln co nm fd fr e c cl iv b o) ↔
 ¬ Dlr nm ∧ ¬ Dlr fr ∧ ¬ NpE e ∧ ¬ NpC c ∧ (∀ x ∈ cl,¬ NpCal x) ∧ (∀ x ∈ iv,¬ NpF x) ∧ (∀ x ∈ b,¬ NpS x) ∧ ∀ x ∈ o,¬ NpS x:=by
 constructor
 ·intro h
  exact ⟨fun x => h (.nm _ _ _ _ _ _ _ _ _ _ _ _ x),fun x => h (.fr _ _ _ _ _ _ _ _ _ _ _ _ x),fun x => h (.e _ _ _ _ _ _ _ _ _ _ _ _ x),fun x => h (.c _ _ _ _ _ _ _ _ _ _ _ _ x),fun x hx hn => h (.cl _ _ _ _ _ _ _ _ _ _ _ _ x hx hn),
   fun x hx hn => h (.iv _ _ _ _ _ _ _ _ _ _ _ _ x hx hn),fun x hx hn => h (.b _ _ _ _ _ _ _ _ _ _ _ _ x hx hn),fun x hx hn => h (.o _ _ _ _ _ _ _ _ _ _ _ _ x hx hn)⟩
 ·rintro ⟨h1,h2,h3,h4,h5,h6,h7,h8⟩ h
  cases h with
  | nm _ _ _ _ _ _ _ _ _ _ _ _ h => exact h1 h
  | fr _ _ _ _ _ _ _ _ _ _ _ _ h => exact h2 h
  | e _ _ _ _ _ _ _ _ _ _ _ _ h => exact h3 h
  | c _ _ _ _ _ _ _ _ _ _ _ _ h => exact h4 h
  | cl _ _ _ _ _ _ _ _ _ _ _ _ x hx h => exact h5 x hx h
  | iv _ _ _ _ _ _ _ _ _ _ _ _ x hx h => exact h6 x hx h
  | b _ _ _ _ _ _ _ _ _ _ _ _ x hx h => exact h7 x hx h
  | o _ _ _ _ _ _ _ _ _ _ _ _ x hx h => exact h8 x hx h
theorem nil_no_dlr {s : List UInt8} (h : s.isEmpty = true) : ¬ Dlr s:=by
 rw [List.isEmpty_iff] at h
 subst h
 exact fun h => by cases h
theorem vWord_plain (s : List UInt8) (v o : Bool) : vWord nameR s v o = true ↔ vWord varR s v o = true ∧ ¬ Dlr s:=by
 unfold vWord
 cases v
 ·cases o
  ·simp only [Bool.false_eq_true,if_false]
   exact ⟨fun h => ⟨h,nil_no_dlr h⟩,fun h => h.1⟩
  ·simp only [Bool.false_eq_true,if_false,if_true]
   exact ⟨fun h => ⟨h,name_no_dlr (by rw [← name_eq];exact h)⟩,fun h => h.1⟩
 ·simp only [if_true]
  exact name_var
theorem vWord_same (s : List UInt8) (o : Bool) : vWord nameR s false o = vWord varR s false o:=rfl
theorem vCal_plain (x : Cal) : vCal nameR 1048576 x = true ↔ vCal varR 1125899906842624 x = true ∧ ¬ NpCal x:=by
 have ih:=fun e (_ : e ∈ x.l) => vE_plain 30 e
 have ho:=ops_iff (a:=decide ((0 : Int) ≤ (x.l.length : Int))) (b:=decide ((x.l.length : Int) ≤ 8)) ih
 have hN : ¬ NpCal x ↔ ¬ Dlr x.r ∧ ∀ e ∈ x.l,¬ NpE e:=by
  unfold NpCal
  rw [not_or]
  exact ⟨fun ⟨h1,h2⟩ => ⟨h1,fun e he hn => h2 ⟨e,he,hn⟩⟩,fun ⟨h1,h2⟩ => ⟨h1,fun ⟨e,he,hn⟩ => h2 e he hn⟩⟩
 have hr : (x.r.isEmpty || nameR x.r) = true ↔ (x.r.isEmpty || varR x.r) = true ∧ ¬ Dlr x.r:=by
  simp only [Bool.or_eq_true]
  constructor
  ·rintro (h | h)
   ·exact ⟨.inl h,nil_no_dlr h⟩
   ·exact ⟨.inr (name_var.1 h).1,name_no_dlr h⟩
  ·rintro ⟨h | h,hd⟩
   ·exact .inl h
   ·exact .inr (name_var.2 ⟨h,hd⟩)
 rw [hN]
 unfold vCal
 simp only [Bool.and_eq_true] at ho ⊢
 rw [hr,ho]
 constructor
 ·rintro ⟨⟨⟨a,b⟩,c⟩,d,e⟩;exact ⟨⟨⟨a,c⟩,d⟩,b,e⟩
 ·rintro ⟨⟨⟨a,c⟩,d⟩,b,e⟩;exact ⟨⟨⟨a,b⟩,c⟩,d,e⟩
theorem part_plain {α : Type} {b : Bool} {p q z : α → Bool} {N : α → Prop} {x : α} (h1 : p x = true ↔ q x = true ∧ ¬ N x) (h2 : z x = true → ¬ N x) : (if b then p x else z x) = true ↔ (if b then q x else z x) = true ∧ ¬ N x:=by
 cases b
 ·simp only [Bool.false_eq_true,if_false]
  exact ⟨fun h => ⟨h,h2 h⟩,fun h => h.1⟩
 ·simp only [if_true]
  exact h1
theorem vSt_plain (sub1 sub2 : List St → Bool) (hs : ∀ l,sub1 l = true ↔ sub2 l = true ∧ ∀ x ∈ l,¬ NpS x) : ∀ s : St,vSt nameR 1048576 8 sub1 s = true ↔ vSt varR 1125899906842624 100 sub2 s = true ∧ ¬ NpS s
 | .mk k ln co nm fd fr e c cl iv b o => by
   rw [plain_st,vSt,vSt]
   by_cases hk : 1 ≤ k ∧ k ≤ 12
   ·rw [if_pos hk,if_pos hk]
    generalize partsL.getD k.toNat 0 = p
    have w1:=vWord_plain nm (hasB p 1) (hasB p 2)
    have w2:=vWord_plain fr (hasB p 4) (hasB p 8)
    have w4:=part_plain (b:=hasB p 32) (p:=vE nameR 1048576 30) (q:=vE varR 1125899906842624 30) (z:=zX) (N:=NpE) (x:=e) (vE_plain 30 e) zX_plain
    have w5:=part_plain (b:=hasB p 64) (p:=vC nameR 1048576 30) (q:=vC varR 1125899906842624 30) (z:=zC) (N:=NpC) (x:=c) (vC_plain 30 c) zC_plain
    have w6:=ops_iff (a:=decide (mostB p 128 1 + mostB p 256 1 ≤ (cl.length : Int))) (b:=decide ((cl.length : Int) ≤ mostB p 128 1 + mostB p 256 1)) (p:=vCal nameR 1048576) (q:=vCal varR 1125899906842624) (N:=NpCal) (l:=cl) (fun x _ => vCal_plain x)
    have w7:=ops_iff (a:=decide ((0 : Int) ≤ (iv.length : Int))) (b:=decide ((iv.length : Int) ≤ mostB p 512 100)) (p:=vF nameR 1048576 8) (q:=vF varR 1125899906842624 100) (N:=NpF) (l:=iv) (fun x _ => vF_plain x)
    have hz : ∀ l : List St,l.isEmpty = true → ∀ x ∈ l,¬ NpS x:=fun l h x hx => by rw [List.isEmpty_iff] at h;subst h;cases hx
    have w8 : (if hasB p 1024 then sub1 b else b.isEmpty) = true ↔ (if hasB p 1024 then sub2 b else b.isEmpty) = true ∧ ∀ x ∈ b,¬ NpS x:=by
     cases hasB p 1024
     ·simp only [Bool.false_eq_true,if_false]
      exact ⟨fun h => ⟨h,hz b h⟩,fun h => h.1⟩
     ·simp only [if_true];exact hs b
    have w9 : (if hasB p 2048 then sub1 o else o.isEmpty) = true ↔ (if hasB p 2048 then sub2 o else o.isEmpty) = true ∧ ∀ x ∈ o,¬ NpS x:=by
     cases hasB p 2048
     ·simp only [Bool.false_eq_true,if_false]
      exact ⟨fun h => ⟨h,hz o h⟩,fun h => h.1⟩
     ·simp only [if_true];exact hs o
    simp only [Bool.and_eq_true] at w6 w7 ⊢
    rw [w1,w2,vWord_same,w4,w5,w6,w7,w8,w9]
    exact Iff.of_eq (by ac_rfl)
   ·rw [if_neg hk,if_neg hk]
    simp
theorem vSs_plain : ∀ (d : Nat) (l : List St),vSs nameR 1048576 8 d l = true ↔ vSs varR 1125899906842624 100 d l = true ∧ ∀ x ∈ l,¬ NpS x
 | 0,l => by
   rw [vSs,vSs]
   exact ⟨fun h => ⟨h,fun x hx => by rw [List.isEmpty_iff] at h;subst h;cases hx⟩,fun h => h.1⟩
 | d + 1,l => by
   rw [vSs,vSs]
   have hs:=ops_iff (a:=decide ((1 : Int) ≤ (l.length : Int))) (b:=decide ((l.length : Int) ≤ 100)) (fun x (_ : x ∈ l) => vSt_plain _ _ (vSs_plain d) x)
   rw [Bool.or_eq_true,hs,Bool.or_eq_true]
   constructor
   ·rintro (h | ⟨h1,h2⟩)
    ·exact ⟨.inl h,fun x hx => by rw [List.isEmpty_iff] at h;subst h;cases hx⟩
    ·exact ⟨.inr h1,h2⟩
   ·rintro ⟨h | h,h2⟩
    ·exact .inl h
    ·exact .inr ⟨h,h2⟩
end Go.Proofs.YtkopbfndfkibbaaGreatDoor
namespace Go.Proofs.YtkopbfndfkibbaaGreatDoor
open Go.RowKit
def plP (l : List Pm) : Bool:=l.all fun x => nameR x.nm
def rPs (a b : Int) (l : List Pm) : Bool:=decide (a ≤ (l.length : Int)) && decide ((l.length : Int) ≤ b) && l.all (vP varR)
def rFs (a : Int) (l : List Fm) : Bool:=decide (a ≤ (l.length : Int)) && decide ((l.length : Int) ≤ 100) && l.all (vF varR nuP 100)
def dlrB (s : List UInt8) : Bool:=s.head? == some 36
theorem dlr_iff (s : List UInt8) : dlrB s = true ↔ Dlr s:=by
 unfold dlrB Dlr
 rw [beq_iff_eq]
theorem dlr_nil : dlrB [] = false:=rfl
theorem dlr_cons (x : UInt8) (t : List UInt8) : dlrB (x :: t) = decide (x = 36):=by
 unfold dlrB
 rw [List.head?_cons,Bool.eq_iff_iff,beq_iff_eq,decide_eq_true_eq,Option.some_inj]
structure OkF where
 e : Ex → Bool
 c : Cn → Bool
 f : Fm → Bool
 s : St → Bool
 he : ∀ x,e x = true ↔ ¬ NpE x
 hc : ∀ x,c x = true ↔ ¬ NpC x
 hf : ∀ x,f x = true ↔ ¬ NpF x
 hs : ∀ x,s x = true ↔ ¬ NpS x
theorem ok_any : Nonempty OkF:=by
 have h : ∀ {α : Type} (P : α → Prop),∃ p : α → Bool,∀ x,p x = true ↔ P x:=by
  intro α P
  refine ⟨fun x => @decide (P x) (Classical.propDecidable _),fun x => ?_⟩
  exact @decide_eq_true_iff (P x) (Classical.propDecidable _)
 obtain ⟨e,he⟩:=h fun x => ¬ NpE x
 obtain ⟨c,hc⟩:=h fun x => ¬ NpC x
 obtain ⟨f,hf⟩:=h fun x => ¬ NpF x
 obtain ⟨s,hs⟩:=h fun x => ¬ NpS x
 exact ⟨⟨e,c,f,s,he,hc,hf,hs⟩⟩
theorem all_ok {α : Type} {N : α → Prop} {p : α → Bool} (h : ∀ x,p x = true ↔ ¬ N x) (l : List α) : l.all p = true ↔ ∀ x ∈ l,¬ N x:=by
 rw [List.all_eq_true]
 exact ⟨fun g x hx => (h x).1 (g x hx),fun g x hx => (h x).2 (g x hx)⟩
theorem OkF.mkE (o : OkF) (k n : Int) (s : List UInt8) (l : List Ex) : o.e (.mk k n s l) = ((!(decide (k = 2)) || nameR s) && inR 1048576 n && l.all o.e):=by
 rw [Bool.eq_iff_iff,o.he,plain_ex]
 simp only [Bool.and_eq_true,all_ok o.he,Bool.or_eq_true,Bool.not_eq_true',decide_eq_false_iff_not]
 constructor
 ·rintro ⟨a,b,c⟩
  refine ⟨⟨?_,b⟩,c⟩
  by_cases hk : k = 2
  ·exact .inr (a hk)
  ·exact .inl hk
 ·rintro ⟨⟨a,b⟩,c⟩
  exact ⟨fun hk => a.resolve_left (fun h => h hk),b,c⟩
theorem OkF.mkC (o : OkF) (k : Int) (a b : Ex) (l : List Cn) : o.c (.mk k a b l) = (l.all o.c && (o.e a && o.e b)):=by
 rw [Bool.eq_iff_iff,o.hc,plain_cn]
 simp only [Bool.and_eq_true,all_ok o.hc,o.he]
 exact ⟨fun ⟨a,b,c⟩ => ⟨c,a,b⟩,fun ⟨c,a,b⟩ => ⟨a,b,c⟩⟩
def plA (o : OkF) (x : At) : Bool:=o.e x.a && o.e x.b
def plL (o : OkF) (x : Cl) : Bool:=x.l.all o.e
def plCal (o : OkF) (x : Cal) : Bool:=!(dlrB x.r) && x.l.all o.e
theorem plP_iff (l : List Pm) : plP l = true ↔ ∀ x ∈ l,¬ NpP x:=by
 unfold plP
 rw [List.all_eq_true]
 unfold NpP
 simp only [Bool.not_eq_false]
theorem OkF.mkF (o : OkF) (x : Fm) : o.f x = (decide ((x.ps.length : Int) ≤ 8) && plP x.ps && x.ats.all (plA o) && x.cls.all (plL o)):=by
 rw [Bool.eq_iff_iff,o.hf]
 have ha : ∀ y,plA o y = true ↔ ¬ NpA y:=fun y => by
  unfold plA NpA
  rw [Bool.and_eq_true,o.he,o.he,not_or]
 have hl : ∀ y,plL o y = true ↔ ¬ NpL y:=fun y => by
  unfold plL NpL
  rw [all_ok o.he]
  exact ⟨fun h ⟨e,he,hn⟩ => h e he hn,fun h e he hn => h ⟨e,he,hn⟩⟩
 simp only [Bool.and_eq_true,all_ok ha,all_ok hl,plP_iff,decide_eq_true_eq]
 unfold NpF
 constructor
 ·intro h
  refine ⟨⟨⟨?_,fun y hy hn => h (.inr (.inl ⟨y,hy,hn⟩))⟩,fun y hy hn => h (.inr (.inr (.inl ⟨y,hy,hn⟩)))⟩,fun y hy hn => h (.inr (.inr (.inr ⟨y,hy,hn⟩)))⟩
  by_cases h8 : x.ps.length ≤ 8
  ·omega
  ·exact absurd (.inl (by omega)) h
 ·rintro ⟨⟨⟨a,b⟩,c⟩,d⟩ (h | ⟨y,hy,hn⟩ | ⟨y,hy,hn⟩ | ⟨y,hy,hn⟩)
  ·omega
  ·exact b y hy hn
  ·exact c y hy hn
  ·exact d y hy hn
theorem OkF.mkS (o : OkF) (k ln co : Int) (nm fd fr : List UInt8) (e : Ex) (c : Cn) (cl : List Cal) (iv : List Fm) (b t : List St) :
 o.s (.mk k ln co nm fd fr e c cl iv b t) = (!(dlrB nm) && !(dlrB fr) && o.e e && o.c c && iv.all o.f && cl.all (plCal o) && b.all o.s && t.all o.s):=by
 rw [Bool.eq_iff_iff,o.hs,plain_st]
 have hl : ∀ y,plCal o y = true ↔ ¬ NpCal y:=fun y => by
  unfold plCal NpCal
  rw [Bool.and_eq_true,all_ok o.he,not_or,Bool.not_eq_true',← Bool.not_eq_true,dlr_iff]
  exact ⟨fun ⟨h1,h⟩ => ⟨h1,fun ⟨e,he,hn⟩ => h e he hn⟩,fun ⟨h1,h⟩ => ⟨h1,fun e he hn => h ⟨e,he,hn⟩⟩⟩
 have hd : ∀ s,(!(dlrB s)) = true ↔ ¬ Dlr s:=fun s => by rw [Bool.not_eq_true',← Bool.not_eq_true,dlr_iff]
 simp only [Bool.and_eq_true,hd,o.he,o.hc,all_ok o.hf,all_ok hl,all_ok o.hs]
 constructor
 ·rintro ⟨h1,h2,h3,h4,h5,h6,h7,h8⟩
  exact ⟨⟨⟨⟨⟨⟨⟨h1,h2⟩,h3⟩,h4⟩,h6⟩,h5⟩,h7⟩,h8⟩
 ·rintro ⟨⟨⟨⟨⟨⟨⟨h1,h2⟩,h3⟩,h4⟩,h6⟩,h5⟩,h7⟩,h8⟩
  exact ⟨h1,h2,h3,h4,h5,h6,h7,h8⟩
def rRc (x : Rc) : Bool:=nameR x.nm && rPs 1 8 x.fs && plP x.fs
def rLk (o : OkF) (x : Lk) : Bool:=nameR x.nm && rFs 1 x.iv && x.iv.all o.f
def rDf (o : OkF) (x : Df) : Bool:=nameR x.nm && rPs 1 8 x.ps && plP x.ps && rFs 1 x.cs && x.cs.all o.f
def rLm (o : OkF) (x : Lm) : Bool:=nameR x.nm && rPs 0 8 x.ps && plP x.ps && rFs 0 [x.lf,x.rt] && [x.lf,x.rt].all o.f
def rRes (rt rn : List UInt8) : Bool:=(rn.isEmpty && rt.isEmpty) || (tyB rt && varR rn)
def rCt (o : OkF) (ct : Bool) (lg : List Pm) (rq es : List Fm) : Bool :=
 if ct then rFs 1 rq && rFs 1 es && rq.all o.f && es.all o.f else decide ((rq.length : Int) = 0) && decide ((es.length : Int) = 0) && decide ((lg.length : Int) = 0)
def rPr (o : OkF) (x : Pr) : Bool :=
 nameR x.nm && vPos x.ln x.co && rPs 0 8 x.ps && rPs 0 8 x.lg && rPs 0 100 x.lo && vSs varR nuP 100 30 x.bd && rRes x.rt x.rn && !(dlrB x.rn) && plP x.ps && plP x.lg && plP x.lo && x.bd.all o.s && rCt o x.ct x.lg x.rq x.es
def rPg (o : OkF) (p : Pg) : Bool :=
 decide ((p.rs.length : Int) ≤ 100) && decide ((p.ks.length : Int) ≤ 100) && decide ((p.ds.length : Int) ≤ 100) && decide ((p.ms.length : Int) ≤ 100) && decide ((p.xs.length : Int) ≤ 100) && rPs 0 100 p.gs && plP p.gs &&
  p.rs.all rRc && p.ks.all (rLk o) && p.ds.all (rDf o) && p.ms.all (rLm o) && p.xs.all (rPr o)
end Go.Proofs.YtkopbfndfkibbaaGreatDoor
