/-
  Parts of valid trees are valid: rules that are wider, or a greater depth, accept what narrower ones do.
-/
import Derived.Test.YtnkpgpmaiicdeaaGreatDoorSTreePd
import Derived.Test.YtnkpgpmaiicdeaaGreatDoorSTreeMa
set_option linter.unusedVariables false
set_option linter.unusedSimpArgs false
namespace Go.Proofs.YtnkpgpmaiicdeaaGreatDoor
open Go.RowKit
theorem name_varB {s : List UInt8} (h : nameL s = true) : varB s = true:=by
 have hk : takeK s = 1:=by
  unfold nameL at h
  simp only [Bool.and_eq_true,beq_iff_eq] at h
  exact h.1.1.2
 have hh:=takeK_one hk
 have hp : Lib.hasPrefix s [36] = false:=by
  cases s with
  | nil => rfl
  | cons c t =>
    by_cases hc : c = 36
    ·subst hc;exact absurd hh (by simp only [headIs,ltr];decide)
    ·simp [Lib.hasPrefix,List.isPrefixOf,Ne.symm hc]
 unfold varB
 rw [hp]
 simpa using h
theorem and2 {a b a' b' : Bool} (h : (a && b) = true) (ha : a = true → a' = true) (hb : b = true → b' = true) : (a' && b') = true:=by
 obtain ⟨h1,h2⟩:=Bool.and_eq_true_iff.1 h
 exact Bool.and_eq_true_iff.2 ⟨ha h1,hb h2⟩
theorem all_mono {α : Type} {l : List α} {f g : α → Bool} (hl : l.all f = true) (h : ∀ x,f x = true → g x = true) : l.all g = true :=
 List.all_eq_true.2 fun x hx => h x (List.all_eq_true.1 hl x hx)
theorem opsB_mono {m : Int} {l : List Ex} {f g : Ex → Bool} (h : ∀ x,f x = true → g x = true) (ho : opsB m l f = true) : opsB m l g = true:=by
 unfold opsB at ho ⊢
 exact and2 ho id fun h' => all_mono h' h
theorem opsC_mono {m : Int} {l : List Cn} {f g : Cn → Bool} (h : ∀ x,f x = true → g x = true) (ho : opsC m l f = true) : opsC m l g = true:=by
 unfold opsC at ho ⊢
 exact and2 ho id fun h' => all_mono h' h
theorem inR_mono {nu nu' n : Int} (hn : nu ≤ nu') (h : inR nu n = true) : inR nu' n = true:=by
 unfold inR at h ⊢
 exact and2 h (fun h => decide_eq_true (by have := of_decide_eq_true h;omega)) (fun h => decide_eq_true (by have := of_decide_eq_true h;omega))
section
variable {v v' : List UInt8 → Bool} {nu nu' : Int}
theorem vE_mono (hv : ∀ s,v s = true → v' s = true) (hn : nu ≤ nu') : ∀ (d d' : Nat),d ≤ d' → ∀ e,vE v nu d e = true → vE v' nu' d' e = true
 | 0,_,_,e,h => by cases e;simp [vE] at h
 | d + 1,0,hd,_,_ => by omega
 | d + 1,d' + 1,hd,.mk k n s l,h => by
   have ho : ∀ m,opsB m l (vE v nu d) = true → opsB m l (vE v' nu' d') = true:=fun m => opsB_mono (vE_mono hv hn d d' (by omega))
   rw [vE] at h
   rw [vE]
   by_cases h1 : k = 1
   ·rw [if_pos h1] at h;rw [if_pos h1]
    exact and2 h (fun h => and2 h (inR_mono hn) id) (ho _)
   rw [if_neg h1] at h;rw [if_neg h1]
   by_cases h2 : k = 2
   ·rw [if_pos h2] at h;rw [if_pos h2]
    exact and2 h (fun h => and2 h id (hv s)) (ho _)
   rw [if_neg h2] at h;rw [if_neg h2]
   by_cases h3 : k = 3
   ·rw [if_pos h3] at h;rw [if_pos h3]
    exact and2 h id (ho _)
   rw [if_neg h3] at h;rw [if_neg h3]
   by_cases h4 : k = 4 ∨ k = 5
   ·rw [if_pos h4] at h;rw [if_pos h4]
    exact and2 h id (ho _)
   rw [if_neg h4] at h;rw [if_neg h4]
   by_cases h6 : k = 6
   ·rw [if_pos h6] at h;rw [if_pos h6]
    exact and2 h (fun h => and2 h (inR_mono hn) id) (ho _)
   rw [if_neg h6] at h
   cases h
theorem vE_sub {d : Nat} {k n : Int} {s : List UInt8} {l : List Ex} (h : vE v nu (d + 1) (.mk k n s l) = true) : ∀ x ∈ l,vE v nu d x = true:=by
 have ho : ∀ {m : Int} {b : Bool},(b && opsB m l (vE v nu d)) = true → ∀ x ∈ l,vE v nu d x = true:=fun {m b} h x hx => by
  have h2:=(Bool.and_eq_true_iff.1 h).2
  unfold opsB at h2
  exact List.all_eq_true.1 (Bool.and_eq_true_iff.1 h2).2 x hx
 rw [vE] at h
 by_cases h1 : k = 1
 ·rw [if_pos h1] at h;exact ho h
 rw [if_neg h1] at h
 by_cases h2 : k = 2
 ·rw [if_pos h2] at h;exact ho h
 rw [if_neg h2] at h
 by_cases h3 : k = 3
 ·rw [if_pos h3] at h;exact ho h
 rw [if_neg h3] at h
 by_cases h4 : k = 4 ∨ k = 5
 ·rw [if_pos h4] at h;exact ho h
 rw [if_neg h4] at h
 by_cases h6 : k = 6
 ·rw [if_pos h6] at h;exact ho h
 rw [if_neg h6] at h
 cases h
theorem vC_mono (hv : ∀ s,v s = true → v' s = true) (hn : nu ≤ nu') : ∀ (d d' : Nat),d ≤ d' → ∀ c,vC v nu d c = true → vC v' nu' d' c = true
 | 0,_,_,c,h => by cases c;simp [vC] at h
 | d + 1,0,hd,_,_ => by omega
 | d + 1,d' + 1,hd,.mk k a b l,h => by
   have ho : ∀ m,opsC m l (vC v nu d) = true → opsC m l (vC v' nu' d') = true:=fun m => opsC_mono (vC_mono hv hn d d' (by omega))
   rw [vC] at h
   rw [vC]
   by_cases h1 : (decide (1 ≤ k) && decide (k ≤ 4)) = true
   ·rw [if_pos h1] at h;rw [if_pos h1]
    exact and2 h (fun h => and2 h (vE_mono hv hn 30 30 (Nat.le_refl _) a) (vE_mono hv hn 30 30 (Nat.le_refl _) b)) id
   rw [if_neg h1] at h;rw [if_neg h1]
   by_cases h2 : k = 5
   ·rw [if_pos h2] at h;rw [if_pos h2]
    exact and2 h id (ho _)
   rw [if_neg h2] at h;rw [if_neg h2]
   by_cases h4 : k = 6 ∨ k = 7
   ·rw [if_pos h4] at h;rw [if_pos h4]
    exact and2 h id (ho _)
   rw [if_neg h4] at h
   cases h
theorem vP_mono (hv : ∀ s,v s = true → v' s = true) (x : Pm) (h : vP v x = true) : vP v' x = true:=by
 unfold vP at h ⊢
 exact and2 h id (hv _)
theorem vAt_mono (hv : ∀ s,v s = true → v' s = true) (hn : nu ≤ nu') (x : At) (h : vAt v nu x = true) : vAt v' nu' x = true:=by
 unfold vAt at h ⊢
 exact and2 h (fun h => and2 h id (vE_mono hv hn 30 30 (Nat.le_refl _) _)) (vE_mono hv hn 30 30 (Nat.le_refl _) _)
theorem vCl_mono (hv : ∀ s,v s = true → v' s = true) (hn : nu ≤ nu') (x : Cl) (h : vCl v nu x = true) : vCl v' nu' x = true:=by
 unfold vCl at h ⊢
 refine and2 h id fun h => ?_
 by_cases h1 : x.k = 1
 ·rw [if_pos h1] at h;rw [if_pos h1]
  exact and2 h id fun h => all_mono h (vE_mono hv hn 30 30 (Nat.le_refl _))
 rw [if_neg h1] at h;rw [if_neg h1]
 by_cases h2 : x.k = 2
 ·rw [if_pos h2] at h;rw [if_pos h2]
  exact and2 h id fun h => all_mono h (vE_mono hv hn 30 30 (Nat.le_refl _))
 rw [if_neg h2] at h
 cases h
theorem vF_mono (hv : ∀ s,v s = true → v' s = true) (hn : nu ≤ nu') {ex ex' : Int} (he : ex ≤ ex') (x : Fm) (h : vF v nu ex x = true) : vF v' nu' ex' x = true:=by
 unfold vF at h ⊢
 exact and2 h (fun h => and2 h (fun h => and2 h (fun h => and2 h (fun h => and2 h (fun h => and2 h (fun h => decide_eq_true (by have := of_decide_eq_true h;omega)) (fun h => all_mono h (vP_mono hv))) id) id) (fun h => all_mono h (vAt_mono hv hn))) id) (fun h => all_mono h (vCl_mono hv hn))
theorem vCal_mono (hv : ∀ s,v s = true → v' s = true) (hn : nu ≤ nu') (x : Cal) (h : vCal v nu x = true) : vCal v' nu' x = true:=by
 unfold vCal at h ⊢
 refine and2 h (fun h => and2 h (fun h => ?_) id) (fun h => and2 h id fun h => all_mono h (vE_mono hv hn 30 30 (Nat.le_refl _)))
 rcases Bool.or_eq_true_iff.1 h with h | h
 ·exact Bool.or_eq_true_iff.2 (.inl h)
 ·exact Bool.or_eq_true_iff.2 (.inr (hv _ h))
theorem vWord_mono (hv : ∀ s,v s = true → v' s = true) {s : List UInt8} {a b : Bool} (h : vWord v s a b = true) : vWord v' s a b = true:=by
 unfold vWord at h ⊢
 cases a
 ·exact h
 ·exact hv _ h
theorem ite_mono {b : Bool} {x y x' : Bool} (h : (if b then x else y) = true) (hx : x = true → x' = true) : (if b then x' else y) = true:=by
 cases b
 ·exact h
 ·exact hx h
theorem vSt_mono (hv : ∀ s,v s = true → v' s = true) (hn : nu ≤ nu') {ex ex' : Int} (he : ex ≤ ex') {sub sub' : List St → Bool} (hs : ∀ l,sub l = true → sub' l = true) (x : St) (h : vSt v nu ex sub x = true) : vSt v' nu' ex' sub' x = true:=by
 obtain ⟨k,ln,co,nm,fd,fr,e,c,cl,iv,b,o⟩:=x
 unfold vSt at h ⊢
 dsimp only at h ⊢
 by_cases hk : 1 ≤ k ∧ k ≤ 12
 ·rw [if_pos hk] at h;rw [if_pos hk]
  exact and2 h (fun h => and2 h (fun h => and2 h (fun h => and2 h (fun h => and2 h (fun h => and2 h
   (fun h => and2 h id (fun h => and2 h (fun h => and2 h (vWord_mono hv) (vWord_mono hv)) (vWord_mono hv)))
   (fun h => ite_mono h (vE_mono hv hn 30 30 (Nat.le_refl _) _)))
   (fun h => ite_mono h (vC_mono hv hn 30 30 (Nat.le_refl _) _)))
   (fun h => and2 h id (fun h => all_mono h (vCal_mono hv hn))))
   (fun h => and2 h id (fun h => all_mono h (vF_mono hv hn he))))
   (fun h => ite_mono h (hs _)))
   (fun h => ite_mono h (hs _))
 ·rw [if_neg hk] at h
  cases h
theorem vSs_mono (hv : ∀ s,v s = true → v' s = true) (hn : nu ≤ nu') {ex ex' : Int} (he : ex ≤ ex') : ∀ (d d' : Nat),d ≤ d' → ∀ l,vSs v nu ex d l = true → vSs v' nu' ex' d' l = true
 | 0,0,_,l,h => h
 | 0,d' + 1,_,l,h => Bool.or_eq_true_iff.2 (.inl h)
 | d + 1,0,hd,_,_ => by omega
 | d + 1,d' + 1,hd,l,h => by
   rcases Bool.or_eq_true_iff.1 (show (l.isEmpty || (decide ((1 : Int) ≤ l.length) && decide ((l.length : Int) ≤ 100) && l.all (vSt v nu ex (vSs v nu ex d)))) = true from h) with h | h
   ·exact Bool.or_eq_true_iff.2 (.inl h)
   ·exact Bool.or_eq_true_iff.2 (.inr (and2 h id fun h => all_mono h (vSt_mono hv hn he (vSs_mono hv hn he d d' (by omega)))))
theorem vSs_nil {ex : Int} : ∀ (d : Nat) (l : List St),l.isEmpty = true → vSs v nu ex d l = true
 | 0,_,h => h
 | _ + 1,_,h => Bool.or_eq_true_iff.2 (.inl h)
structure StParts (v : List UInt8 → Bool) (nu ex : Int) (k : Int) (e : Ex) (c : Cn) (iv : List Fm) (b o : List St) (d : Nat) : Prop where
 e : k = 1 ∨ k = 3 → vE v nu 30 e = true
 c : k = 8 ∨ k = 9 ∨ k = 10 → vC v nu 30 c = true
 iv : iv.all (vF v nu ex) = true
 b : vSs v nu ex d b = true
 o : vSs v nu ex d o = true
theorem ite_sub {b : Bool} {x y z : Bool} (h : (if b then x else y) = true) (hx : x = true → z = true) (hy : y = true → z = true) : z = true:=by
 cases b
 ·exact hy h
 ·exact hx h
theorem vSt_parts {ex : Int} {d : Nat} {k ln co : Int} {nm fd fr : List UInt8} {e : Ex} {c : Cn} {cl : List Cal} {iv : List Fm} {b o : List St} (h : vSt v nu ex (vSs v nu ex d) (.mk k ln co nm fd fr e c cl iv b o) = true) : StParts v nu ex k e c iv b o d:=by
 unfold vSt at h
 dsimp only at h
 by_cases hk : 1 ≤ k ∧ k ≤ 12
 ·rw [if_pos hk] at h
  obtain ⟨h,ho⟩:=Bool.and_eq_true_iff.1 h
  obtain ⟨h,hb⟩:=Bool.and_eq_true_iff.1 h
  obtain ⟨h,hi⟩:=Bool.and_eq_true_iff.1 h
  obtain ⟨h,_⟩:=Bool.and_eq_true_iff.1 h
  obtain ⟨h,hc⟩:=Bool.and_eq_true_iff.1 h
  obtain ⟨_,he⟩:=Bool.and_eq_true_iff.1 h
  refine ⟨?_,?_,(Bool.and_eq_true_iff.1 hi).2,ite_sub hb id (vSs_nil d b),ite_sub ho id (vSs_nil d o)⟩
  ·rintro (rfl | rfl)
   ·exact he
   ·exact he
  ·rintro (rfl | rfl | rfl)
   ·exact hc
   ·exact hc
   ·exact hc
 ·rw [if_neg hk] at h
  cases h
theorem vSs_flat {ex : Int} {l f : List St} (h : FlL l f) : ∀ (d : Nat),vSs v nu ex d l = true → ∀ s ∈ f,∃ d',d' + 1 ≤ d ∧ vSt v nu ex (vSs v nu ex d') s = true:=by
 induction h with
 | nil => intro d _ s hs;cases hs
 | cons s l fb fo fl h1 h2 h3 i1 i2 i3 =>
   intro d hd x hx
   match d,hd with
   | 0,hd => cases hd
   | d + 1,hd =>
     have hd' : (decide ((1 : Int) ≤ (s :: l).length) && decide (((s :: l).length : Int) ≤ 100) && (s :: l).all (vSt v nu ex (vSs v nu ex d))) = true:=hd
     obtain ⟨ha,hall⟩:=Bool.and_eq_true_iff.1 hd'
     have hlen:=of_decide_eq_true (Bool.and_eq_true_iff.1 ha).2
     have hs : vSt v nu ex (vSs v nu ex d) s = true:=List.all_eq_true.1 hall s (List.mem_cons_self ..)
     have hp : vSs v nu ex d s.body = true ∧ vSs v nu ex d s.els = true:=by
      obtain ⟨k,ln,co,nm,fd,fr,e,c,cl,iv,b,o⟩:=s
      exact ⟨(vSt_parts hs).b,(vSt_parts hs).o⟩
     rcases List.mem_cons.1 hx with rfl | hx
     ·exact ⟨d,Nat.le_refl _,hs⟩
     ·rcases List.mem_append.1 hx with hx | hx
      ·rcases List.mem_append.1 hx with hx | hx
       ·obtain ⟨d',q1,q2⟩:=i1 d hp.1 x hx
        exact ⟨d',by omega,q2⟩
       ·obtain ⟨d',q1,q2⟩:=i2 d hp.2 x hx
        exact ⟨d',by omega,q2⟩
      ·refine i3 (d + 1) ?_ x hx
       cases l with
       | nil => rfl
       | cons y l =>
         refine Bool.or_eq_true_iff.2 (.inr (Bool.and_eq_true_iff.2 ⟨Bool.and_eq_true_iff.2 ⟨decide_eq_true ?_,decide_eq_true ?_⟩,List.all_eq_true.2 fun z hz => List.all_eq_true.1 hall z (List.mem_cons_of_mem _ hz)⟩))
         ·simp;omega
         ·simp at hlen ⊢;omega
end
structure StGood (s : St) : Prop where
 one : vSs varB 1125899906842624 100 30 [s] = true
 parts : ∀ k ln co nm fd fr e c cl iv b o,s = .mk k ln co nm fd fr e c cl iv b o → StParts varB 1125899906842624 100 k e c iv b o 30
theorem st_good {l f : List St} (h : FlL l f) (hv : vSs nameL 1048576 8 30 l = true) : ∀ s ∈ f,StGood s:=by
 intro s hs
 obtain ⟨d,hd,hx⟩:=vSs_flat h 30 hv s hs
 have hx' : vSt varB 1125899906842624 100 (vSs varB 1125899906842624 100 29) s = true:=vSt_mono (fun _ => name_varB) (by omega) (by omega) (vSs_mono (fun _ => name_varB) (by omega) (by omega) d 29 (by omega)) s hx
 refine ⟨?_,?_⟩
 ·refine Bool.or_eq_true_iff.2 (.inr (Bool.and_eq_true_iff.2 ⟨by simp,?_⟩))
  simpa using hx'
 ·rintro k ln co nm fd fr e c cl iv b o rfl
  obtain ⟨q1,q2,q3,q4,q5⟩:=vSt_parts hx'
  exact ⟨q1,q2,q3,vSs_mono (fun _ h => h) (Int.le_refl _) (Int.le_refl _) 29 30 (by omega) b q4,vSs_mono (fun _ h => h) (Int.le_refl _) (Int.le_refl _) 29 30 (by omega) o q5⟩
theorem fm_good {l : List Fm} (h : vDj l = true) : l.all (vF varB 1125899906842624 100) = true:=by
 unfold vDj at h
 exact all_mono (Bool.and_eq_true_iff.1 h).2 (vF_mono (fun _ => name_varB) (by omega) (by omega))
structure PgGood (p : Pg) : Prop where
 xs : ∀ x ∈ p.xs,x.rq.all (vF varB 1125899906842624 100) = true ∧ x.es.all (vF varB 1125899906842624 100) = true ∧ vSs varB 1125899906842624 100 30 x.bd = true ∧ ∀ f,FlL x.bd f → ∀ s ∈ f,StGood s
 ds : ∀ x ∈ p.ds,x.cs.all (vF varB 1125899906842624 100) = true
 ks : ∀ x ∈ p.ks,x.iv.all (vF varB 1125899906842624 100) = true
theorem pg_good {p : Pg} (h : vPg p = true) : PgGood p:=by
 unfold vPg at h
 obtain ⟨h,hx⟩:=Bool.and_eq_true_iff.1 h
 obtain ⟨h,_⟩:=Bool.and_eq_true_iff.1 h
 obtain ⟨h,hd⟩:=Bool.and_eq_true_iff.1 h
 obtain ⟨_,hk⟩:=Bool.and_eq_true_iff.1 h
 refine ⟨fun x hm => ?_,fun x hm => ?_,fun x hm => ?_⟩
 ·have hv:=List.all_eq_true.1 (Bool.and_eq_true_iff.1 hx).2 x hm
  unfold vPr at hv
  obtain ⟨hv,hb⟩:=Bool.and_eq_true_iff.1 hv
  obtain ⟨hv,_⟩:=Bool.and_eq_true_iff.1 hv
  obtain ⟨_,hc⟩:=Bool.and_eq_true_iff.1 hv
  have hc2 : x.rq.all (vF varB 1125899906842624 100) = true ∧ x.es.all (vF varB 1125899906842624 100) = true:=by
   unfold vCt at hc
   cases hct : x.ct
   ·rw [hct] at hc
    simp only [Bool.false_eq_true,if_false] at hc
    obtain ⟨hc,h2⟩:=Bool.and_eq_true_iff.1 hc
    have h1:=of_decide_eq_true (Bool.and_eq_true_iff.1 hc).2
    have h2:=of_decide_eq_true h2
    rw [List.eq_nil_of_length_eq_zero (show x.rq.length = 0 by omega),List.eq_nil_of_length_eq_zero (show x.es.length = 0 by omega)]
    exact ⟨rfl,rfl⟩
   ·rw [hct] at hc
    simp only [if_true] at hc
    obtain ⟨hc,h2⟩:=Bool.and_eq_true_iff.1 hc
    exact ⟨fm_good (Bool.and_eq_true_iff.1 hc).2,fm_good h2⟩
  exact ⟨hc2.1,hc2.2,vSs_mono (fun _ => name_varB) (by omega) (by omega) 30 30 (Nat.le_refl _) _ hb,fun f hf => st_good hf hb⟩
 ·have hv:=List.all_eq_true.1 (Bool.and_eq_true_iff.1 hd).2 x hm
  unfold vDf at hv
  exact fm_good (Bool.and_eq_true_iff.1 hv).2
 ·have hv:=List.all_eq_true.1 (Bool.and_eq_true_iff.1 hk).2 x hm
  unfold vLk at hv
  exact fm_good (Bool.and_eq_true_iff.1 hv).2
end Go.Proofs.YtnkpgpmaiicdeaaGreatDoor
