import Derived.Test.YthenbbpagbdbeaaGreatDoorSTypN
import Derived.Test.YthenbbpagbdbeaaGreatDoorSTypFq
set_option linter.unusedVariables false
set_option linter.unusedSimpArgs false
namespace Go.Proofs.YthenbbpagbdbeaaGreatDoor
def OrBad (Bad : Thr → Prop) (c : Ck) : Prop:=c = none ∨ ∃ b,Bad b ∧ c = some b
def ToSc (Bad : Thr → Prop) (sc sc' : List Pm) : Prop:=∀ n x,fstO (·.nm) sc n = some x → fstO (·.nm) sc' n = some x ∨ (fstO (·.nm) sc' n = none ∧ Bad (n,7))
theorem orBad_seq {Bad : Thr → Prop} {a b : Ck} (ha : OrBad Bad a) (hb : OrBad Bad b) : OrBad Bad (seqC a b):=by
 rcases ha with ha | ⟨t,h1,h2⟩
 ·rw [ha];exact hb
 ·exact .inr ⟨t,h1,by rw [h2];rfl⟩
theorem seqC_nil {a b : Ck} (h : seqC a b = none) : a = none ∧ b = none:=by
 cases a with
 | none => exact ⟨rfl,h⟩
 | some t => cases h
theorem allC_nil {α : Type} {f : α → Ck} : ∀ {l : List α},allC f l = none → ∀ x ∈ l,f x = none
 | [],_,x,hx => by cases hx
 | y :: l,h,x,hx => by
   obtain ⟨h1,h2⟩:=seqC_nil h
   rcases List.mem_cons.1 hx with rfl | hx
   ·exact h1
   ·exact allC_nil h2 x hx
theorem allC_bad {α : Type} {Bad : Thr → Prop} {f f' : α → Ck} : ∀ {l : List α},(∀ x ∈ l,f x = none → OrBad Bad (f' x)) → allC f l = none → OrBad Bad (allC f' l)
 | [],_,_ => .inl rfl
 | y :: l,hf,h => by
   obtain ⟨h1,h2⟩:=seqC_nil h
   exact orBad_seq (hf y (List.mem_cons_self ..) h1) (allC_bad (fun x hx => hf x (List.mem_cons_of_mem _ hx)) h2)
theorem kindE_nil (sc : List Pm) (s : List UInt8) : kindE sc [] s = match fstO (·.nm) sc s with
 | some p => .ok p.t
 | none => .error (s,7):=rfl
mutual
theorem exT_to {Bad : Thr → Prop} {sc sc' : List Pm} (h : ToSc Bad sc sc') : ∀ (e : Ex) (t : List UInt8),exT sc [] e = .ok t → exT sc' [] e = .ok t ∨ ∃ b,Bad b ∧ exT sc' [] e = .error b
 | .mk k n s l,t,he => by
   rw [exT] at he ⊢
   by_cases h2 : k = 2
   ·rw [if_pos h2,kindE_nil] at he
    rw [if_pos h2,kindE_nil]
    cases hf : fstO (·.nm) sc s with
    | none => rw [hf] at he;cases he
    | some x =>
      rw [hf] at he
      rcases h s x hf with h3 | ⟨h3,h4⟩
      ·rw [h3];exact .inl he
      ·rw [h3];exact .inr ⟨_,h4,rfl⟩
   ·rw [if_neg h2] at he ⊢
    by_cases h3 : k = 3
    ·rw [if_pos h3] at he ⊢
     exact .inl he
    ·rw [if_neg h3] at he ⊢
     cases hl : exLs sc [] l with
     | some b => rw [hl] at he;cases he
     | none =>
       rw [hl] at he
       rcases exLs_to h l hl with h4 | ⟨b,h4,h5⟩
       ·rw [h4];exact .inl he
       ·rw [h5];exact .inr ⟨b,h4,rfl⟩
theorem exLs_to {Bad : Thr → Prop} {sc sc' : List Pm} (h : ToSc Bad sc sc') : ∀ l : List Ex,exLs sc [] l = none → OrBad Bad (exLs sc' [] l)
 | [],_ => .inl (by rw [exLs])
 | x :: l,he => by
   rw [exLs] at he ⊢
   cases hx : exT sc [] x with
   | error b => rw [hx] at he;cases he
   | ok y =>
     rw [hx] at he
     obtain ⟨h1,h2⟩:=seqC_nil he
     rcases exT_to h x y hx with h3 | ⟨b,h3,h4⟩
     ·rw [h3]
      exact orBad_seq (.inl h1) (exLs_to h l h2)
     ·rw [h4];exact .inr ⟨b,h3,rfl⟩
end
theorem cmpC_to {Bad : Thr → Prop} {sc sc' : List Pm} (h : ToSc Bad sc sc') (k : Int) (a b : Ex) (he : cmpC sc [] k a b = none) : OrBad Bad (cmpC sc' [] k a b):=by
 unfold cmpC at he ⊢
 cases ha : exT sc [] a with
 | error t => rw [ha] at he;cases he
 | ok x =>
   rw [ha] at he
   rcases exT_to h a x ha with h1 | ⟨t,h1,h2⟩
   ·rw [h1]
    cases hb : exT sc [] b with
    | error t => rw [hb] at he;cases he
    | ok y =>
      rw [hb] at he
      rcases exT_to h b y hb with h3 | ⟨t,h3,h4⟩
      ·rw [h3];exact .inl he
      ·rw [h4];exact .inr ⟨t,h3,rfl⟩
   ·rw [h2];exact .inr ⟨t,h1,rfl⟩
theorem argsC_to {Bad : Thr → Prop} {sc sc' : List Pm} (h : ToSc Bad sc sc') (nm : List UInt8) (l : List Ex) (ps : List Pm) (he : argsC sc [] nm l ps = none) : OrBad Bad (argsC sc' [] nm l ps):=by
 obtain ⟨h1,h2⟩:=seqC_nil he
 refine orBad_seq (.inl h1) (allC_bad (fun x _ hx => ?_) h2)
 cases hy : exT sc [] x.1 with
 | error t => rw [argC_error hy] at hx;cases hx
 | ok y =>
   rw [argC_ok hy] at hx
   rcases exT_to h x.1 y hy with h3 | ⟨t,h3,h4⟩
   ·rw [argC_ok h3];exact .inl hx
   ·rw [argC_error h4];exact .inr ⟨t,h3,rfl⟩
theorem clC_to {Bad : Thr → Prop} {sc sc' : List Pm} (h : ToSc Bad sc sc') (p : Pg) (x : Cl) (he : clC p sc x = none) : OrBad Bad (clC p sc' x):=by
 unfold clC at he ⊢
 cases hc : cellPsE p x with
 | error t => rw [hc] at he;cases he
 | ok ps => rw [hc] at he;exact argsC_to h _ _ _ he
theorem fmC_parts {p : Pg} {sc : List Pm} {f : Fm} (he : fmC p sc f = none) : allC (exiC sc) f.ps = none ∧ tysC p.rs f.ps = none ∧ allC (atC (sc ++ f.ps)) f.ats = none ∧ allC (clC p (sc ++ f.ps)) f.cls = none ∧ detC f = none:=by
 obtain ⟨h1,h⟩:=seqC_nil he
 obtain ⟨h2,h⟩:=seqC_nil h
 obtain ⟨h3,h⟩:=seqC_nil h
 obtain ⟨h4,h5⟩:=seqC_nil h
 exact ⟨h1,h2,h3,h4,h5⟩
theorem exiC_none {sc : List Pm} {x : Pm} : exiC sc x = none ↔ fstO (·.nm) sc x.nm = none:=by
 unfold exiC demC
 cases fstO (·.nm) sc x.nm <;> simp
theorem fmC_to {Bad : Thr → Prop} {p : Pg} {sc sc' : List Pm} {f : Fm} (h : ToSc Bad (sc ++ f.ps) (sc' ++ f.ps)) (hn : ∀ x ∈ f.ps,fstO (·.nm) sc' x.nm = none) (he : fmC p sc f = none) : OrBad Bad (fmC p sc' f):=by
 obtain ⟨h1,h2,h3,h4,h5⟩:=fmC_parts he
 refine orBad_seq (.inl ?_) (orBad_seq (.inl h2) (orBad_seq (allC_bad (fun x _ hx => cmpC_to h _ _ _ hx) h3) (orBad_seq (allC_bad (fun x _ hx => clC_to h p x hx) h4) (.inl h5))))
 have := allC_bad (Bad:=fun _ => False) (f:=exiC sc) (f':=exiC sc') (l:=f.ps) (fun x hx _ => .inl (exiC_none.2 (hn x hx))) h1
 rcases this with h | ⟨_,h,_⟩
 ·exact h
 ·exact h.elim
theorem fstO_append (l m : List Pm) (n : List UInt8) : fstO (·.nm) (l ++ m) n = (fstO (·.nm) l n).or (fstO (·.nm) m n):=by
 unfold fstO
 rw [List.find?_append]
theorem fstO_none {l : List Pm} {n : List UInt8} : fstO (·.nm) l n = none ↔ ∀ x ∈ l,x.nm ≠ n:=by
 unfold fstO
 rw [List.find?_eq_none]
 simp
theorem fstO_name {l : List Pm} {n : List UInt8} {x : Pm} (h : fstO (·.nm) l n = some x) : x ∈ l ∧ x.nm = n:=by
 unfold fstO at h
 exact ⟨List.mem_of_find?_eq_some h,by simpa using List.find?_some h⟩
theorem grow_to {p : Pg} {sc : List Pm} {f : Fm} {m : Pm} (h1 : ∀ x ∈ sc,x.nm ≠ m.nm) (h2 : ∀ x ∈ f.ps,x.nm ≠ m.nm) (he : fmC p sc f = none) (sc' : List Pm) (hs : sc' = sc ++ [m] ∨ sc' = m :: sc) : fmC p sc' f = none:=by
 have hex : ∀ x ∈ f.ps,fstO (·.nm) sc x.nm = none:=fun x hx => exiC_none.1 (allC_nil (fmC_parts he).1 x hx)
 have hmem : ∀ x,x ∈ sc' ↔ x ∈ sc ∨ x = m:=by
  intro x
  rcases hs with rfl | rfl
  ·simp
  ·simp [or_comm]
 have hto : ToSc (fun _ => False) (sc ++ f.ps) (sc' ++ f.ps):=by
  intro n x hx
  obtain ⟨hm,hxn⟩:=fstO_name hx
  have hne : m.nm ≠ n:=by
   rcases List.mem_append.1 hm with hm | hm
   ·rw [← hxn];exact (h1 x hm).symm
   ·rw [← hxn];exact (h2 x hm).symm
  refine .inl ?_
  have hb : (m.nm == n) = false:=beq_eq_false_iff_ne.2 hne
  rcases hs with rfl | rfl
  ·rw [List.append_assoc,fstO_append] at *
   rw [fstO_append,show fstO (·.nm) [m] n = none from fstO_none.2 (fun y hy => by rw [List.mem_singleton.1 hy];exact hne)]
   exact hx
  ·rw [List.cons_append]
   unfold fstO at hx ⊢
   rw [List.find?_cons_of_neg (by simp [hb])]
   exact hx
 rcases fmC_to hto (fun x hx => fstO_none.2 fun y hy => by
  rcases (hmem y).1 hy with hy | rfl
  ·exact fstO_none.1 (hex x hx) y hy
  ·exact (h2 x hx).symm) he with h | ⟨_,h,_⟩
 ·exact h
 ·exact h.elim
/-! ### without one of its variables -/
def without (sc : List Pm) (s : List UInt8) : List Pm:=sc.filter fun x => !(x.nm == s)
theorem without_other (sc : List Pm) (s n : List UInt8) (h : n ≠ s) : fstO (·.nm) (without sc s) n = fstO (·.nm) sc n:=by
 induction sc with
 | nil => rfl
 | cons y sc ih =>
   unfold without fstO at *
   by_cases hy : y.nm = s
   ·rw [List.filter_cons_of_neg (by simp [hy]),List.find?_cons_of_neg (by simp [hy,Ne.symm h]),ih]
   ·rw [List.filter_cons_of_pos (by simp [hy])]
    by_cases hn : y.nm = n
    ·rw [List.find?_cons_of_pos (by simp [hn]),List.find?_cons_of_pos (by simp [hn])]
    ·rw [List.find?_cons_of_neg (by simp [hn]),List.find?_cons_of_neg (by simp [hn]),ih]
theorem without_same (sc : List Pm) (s : List UInt8) : fstO (·.nm) (without sc s) s = none :=
 fstO_none.2 fun x hx => by simpa using (List.mem_filter.1 hx).2
inductive Flat1 : Ex → Prop
 | mk (k n : Int) (s : List UInt8) (l : List Ex) (h0 : (k = 2 ∨ k = 3) → l = []) (hl : ∀ x ∈ l,Flat1 x) : Flat1 (.mk k n s l)
theorem opsB_all {m : Int} {l : List Ex} {f : Ex → Bool} (h : opsB m l f = true) : (l.length : Int) ≤ m ∧ ∀ x ∈ l,f x = true:=by
 unfold opsB at h
 rw [Bool.and_eq_true_iff,Bool.and_eq_true_iff] at h
 exact ⟨of_decide_eq_true h.1.2,List.all_eq_true.1 h.2⟩
theorem flat1_vE {var : List UInt8 → Bool} {nu : Int} : ∀ (d : Nat) (e : Ex),vE var nu d e = true → Flat1 e:=by
 intro d
 induction d with
 | zero => intro e h;rw [vE] at h;cases h
 | succ d ih =>
   intro ⟨k,n,s,l⟩ h
   rw [vE] at h
   have key : ∀ m,opsB m l (vE var nu d) = true → ((k = 2 ∨ k = 3) → m = 0) → Flat1 (.mk k n s l):=fun m hm h0 => by
    obtain ⟨h1,h2⟩:=opsB_all hm
    exact .mk k n s l (fun hk => by have := h0 hk;exact List.length_eq_zero_iff.1 (by omega)) (fun x hx => ih x (h2 x hx))
   split at h
   ·exact key 0 (Bool.and_eq_true_iff.1 h).2 (fun _ => rfl)
   ·split at h
    ·exact key 0 (Bool.and_eq_true_iff.1 h).2 (fun _ => rfl)
    ·split at h
     ·exact key 0 (Bool.and_eq_true_iff.1 h).2 (fun _ => rfl)
     ·split at h
      ·exact key 2 (Bool.and_eq_true_iff.1 h).2 (fun hk => by omega)
      ·split at h
       ·exact key 1 (Bool.and_eq_true_iff.1 h).2 (fun hk => by omega)
       ·cases h
mutual
theorem exT_found {sc : List Pm} : ∀ (e : Ex) (t : List UInt8),Flat1 e → exT sc [] e = .ok t → ∀ n ∈ exVars e,fstO (·.nm) sc n ≠ none
 | .mk k m s l,t,hf,he => by
   obtain ⟨_,_,_,_,h0,hl⟩:=hf
   rw [exT] at he
   intro n hn
   rw [exVars] at hn
   by_cases h2 : k = 2
   ·rw [if_pos h2,kindE_nil] at he
    rw [if_pos h2,h0 (.inl h2),exsVars,List.append_nil] at hn
    obtain rfl:=List.mem_singleton.1 hn
    intro hc
    rw [hc] at he
    cases he
   ·rw [if_neg h2] at he hn
    by_cases h3 : k = 3
    ·rw [h0 (.inr h3),exsVars] at hn
     cases hn
    ·rw [if_neg h3] at he
     cases hx : exLs sc [] l with
     | some b => rw [hx] at he;cases he
     | none => exact exLs_found l hl hx n (by simpa using hn)
theorem exLs_found {sc : List Pm} : ∀ l : List Ex,(∀ x ∈ l,Flat1 x) → exLs sc [] l = none → ∀ n ∈ exsVars l,fstO (·.nm) sc n ≠ none
 | [],_,_ => by intro n hn;rw [exsVars] at hn;cases hn
 | x :: l,hl,he => by
   rw [exLs] at he
   intro n hn
   rw [exsVars] at hn
   cases hx : exT sc [] x with
   | error b => rw [hx] at he;cases he
   | ok y =>
     rw [hx] at he
     rcases List.mem_append.1 hn with hn | hn
     ·exact exT_found x y (hl x (List.mem_cons_self ..)) hx n hn
     ·exact exLs_found l (fun z hz => hl z (List.mem_cons_of_mem _ hz)) (seqC_nil he).2 n hn
end
theorem without_none {p : Pg} {sc : List Pm} {f : Fm} {c : Cl} {cs : List Cl} {a : Ex} {al : List Ex} {s : List UInt8} (hc : f.cls = c :: cs) (ha : c.l = a :: al) (hf : Flat1 a) (hs : s ∈ exVars a) (hx : ∀ x ∈ f.ps,x.nm ≠ s) (he : fmC p sc f = none) : fmC p (without sc s) f = some (s,7):=by
 have hex : ∀ x ∈ f.ps,fstO (·.nm) sc x.nm = none:=fun x hx => exiC_none.1 (allC_nil (fmC_parts he).1 x hx)
 have hps : fstO (·.nm) f.ps s = none:=fstO_none.2 hx
 have hns : fstO (·.nm) (without sc s ++ f.ps) s = none:=by rw [fstO_append,without_same,hps];rfl
 have hto : ToSc (fun b => b = (s,7)) (sc ++ f.ps) (without sc s ++ f.ps):=by
  intro n x hn
  by_cases h : n = s
  ·subst h
   exact .inr ⟨hns,rfl⟩
  ·refine .inl ?_
   rw [fstO_append,without_other sc s n h,← fstO_append]
   exact hn
 rcases fmC_to hto (fun x hx => fstO_none.2 fun y hy => fstO_none.1 (hex x hx) y (List.mem_filter.1 hy).1) he with h | ⟨b,rfl,h⟩
 ·have h4:=(fmC_parts h).2.2.2.1
  rw [hc] at h4
  have h5:=(seqC_nil h4).1
  unfold clC at h5
  cases hq : cellPsE p c with
  | error t => rw [hq] at h5;cases h5
  | ok ps =>
    rw [hq] at h5
    obtain ⟨h6,h7⟩:=seqC_nil h5
    rw [ha] at h6 h7
    cases ps with
    | nil => simp [demC] at h6
    | cons q ps =>
      have h8:=(seqC_nil h7).1
      cases hy : exT (without sc s ++ f.ps) [] a with
      | error t => rw [argC_error (x:=(a,q)) hy] at h8;cases h8
      | ok y => exact absurd hns (exT_found a y hf hy s hs)
 ·exact h
end Go.Proofs.YthenbbpagbdbeaaGreatDoor
namespace Go.Proofs.YthenbbpagbdbeaaGreatDoor
/-! ### what is thrown is an error -/
def NZ (c : Ck) : Prop:=∀ t,c = some t → t.2 ≠ 0
theorem nz_none : NZ none:=fun t h => by cases h
theorem nz_some {s : List UInt8} {x : Int} (h : x ≠ 0) : NZ (some (s,x)):=fun t ht => by
 obtain rfl:=Option.some.inj ht
 exact h
theorem nz_seq {a b : Ck} (ha : NZ a) (hb : NZ b) : NZ (seqC a b):=by
 cases a with
 | none => exact hb
 | some t => exact fun t' h => ha t' h
theorem nz_all {α : Type} {f : α → Ck} (hf : ∀ x,NZ (f x)) : ∀ l : List α,NZ (allC f l)
 | [] => nz_none
 | x :: l => nz_seq (hf x) (nz_all hf l)
theorem nz_dem {b : Bool} {x : Int} {n : List UInt8} (h : x ≠ 0) : NZ (demC b x n):=by
 unfold demC
 split
 ·exact nz_none
 ·exact nz_some h
def NZE {α : Type} (r : Except Thr α) : Prop:=∀ t,r = .error t → t.2 ≠ 0
theorem nze_kind (sc br : List Pm) (s : List UInt8) : NZE (kindE sc br s):=by
 intro t h
 unfold kindE kindO at h
 split at h
 ·injection h with h
  rw [← h]
  show (6 : Int) ≠ 0
  decide
 ·split at h
  ·cases h
  ·injection h with h
   rw [← h]
   show (7 : Int) ≠ 0
   decide
mutual
theorem nze_exT (sc br : List Pm) : ∀ e : Ex,NZE (exT sc br e)
 | .mk k n s l => by
   rw [exT]
   split
   ·exact nze_kind sc br s
   ·split
    ·intro t h;cases h
    ·have := nz_exLs sc br l
     intro t h
     cases hx : exLs sc br l with
     | none => rw [hx] at h;cases h
     | some t' =>
       rw [hx] at h
       injection h with h
       rw [← h]
       exact this t' hx
theorem nz_exLs (sc br : List Pm) : ∀ l : List Ex,NZ (exLs sc br l)
 | [] => by rw [exLs];exact nz_none
 | x :: l => by
   rw [exLs]
   have h:=nze_exT sc br x
   have h2:=nz_exLs sc br l
   cases hx : exT sc br x with
   | error t => exact fun t' ht => by obtain rfl:=Option.some.inj ht;exact h _ hx
   | ok y => exact nz_seq (nz_dem (by decide)) h2
end
theorem nz_cmp (sc br : List Pm) (k : Int) (a b : Ex) : NZ (cmpC sc br k a b):=by
 unfold cmpC
 have ha:=nze_exT sc br a
 have hb:=nze_exT sc br b
 cases h1 : exT sc br a with
 | error t => exact fun t' ht => by obtain rfl:=Option.some.inj ht;exact ha _ h1
 | ok x =>
   cases h2 : exT sc br b with
   | error t => exact fun t' ht => by obtain rfl:=Option.some.inj ht;exact hb _ h2
   | ok y => exact nz_dem (by decide)
theorem nz_args (sc br : List Pm) (nm : List UInt8) (l : List Ex) (ps : List Pm) : NZ (argsC sc br nm l ps):=by
 refine nz_seq (nz_dem (by decide)) (nz_all (fun x => ?_) _)
 have h:=nze_exT sc br x.1
 cases hx : exT sc br x.1 with
 | error t => rw [argC_error hx];exact fun t' ht => by obtain rfl:=Option.some.inj ht;exact h _ hx
 | ok y => rw [argC_ok hx];exact nz_dem (by decide)
theorem nze_cell (p : Pg) (x : Cl) : NZE (cellPsE p x):=by
 intro t h
 unfold cellPsE dfPs rcPs at h
 split at h <;> split at h <;> first
  | (injection h with h;rw [← h];show (7 : Int) ≠ 0;decide)
  | cases h
theorem nz_cl (p : Pg) (sc : List Pm) (x : Cl) : NZ (clC p sc x):=by
 unfold clC
 have h:=nze_cell p x
 cases hx : cellPsE p x with
 | error t => exact fun t' ht => by obtain rfl:=Option.some.inj ht;exact h _ hx
 | ok ps => exact nz_args _ _ _ _ _
theorem nz_ty (rs : List Rc) (x : Pm) : NZ (tyC rs x):=by
 unfold tyC tyQ
 split
 ·exact nz_none
 ·split
  ·exact nz_none
  ·exact nz_some (by decide)
theorem nz_fm (p : Pg) (sc : List Pm) (f : Fm) : NZ (fmC p sc f) :=
 nz_seq (nz_all (fun x => nz_dem (by decide)) _) (nz_seq (nz_all (fun x => nz_ty _ x) _) (nz_seq (nz_all (fun x => nz_cmp _ _ _ _ _) _) (nz_seq (nz_all (fun x => nz_cl _ _ x) _) (nz_all (fun x => nz_dem (by decide)) _))))
theorem fmE_zero {p : Pg} {sc : List Pm} {f : Fm} (h : fmE p sc f = 0) : vF varB 1125899906842624 100 f = true ∧ fmC p sc f = none:=by
 unfold fmE at h
 split at h
 ·rename_i hv
  refine ⟨hv,?_⟩
  cases hc : fmC p sc f with
  | none => rfl
  | some t =>
    rw [hc] at h
    exact absurd h (nz_fm p sc f t hc)
 ·omega
theorem fmE_none {p : Pg} {sc : List Pm} {f : Fm} (hv : vF varB 1125899906842624 100 f = true) (h : fmC p sc f = none) : fmE p sc f = 0:=by
 unfold fmE
 rw [if_pos hv,h]
 rfl
theorem fmE_some {p : Pg} {sc : List Pm} {f : Fm} {s : List UInt8} {x : Int} (hv : vF varB 1125899906842624 100 f = true) (h : fmC p sc f = some (s,x)) : fmE p sc f = x:=by
 unfold fmE
 rw [if_pos hv,h]
 rfl
/-! ### sizes -/
theorem vE_vars {var : List UInt8 → Bool} {nu : Int} : ∀ (d : Nat) (e : Ex),vE var nu d e = true → (exVars e).length ≤ 2 ^ d:=by
 intro d
 induction d with
 | zero => intro e h;rw [vE] at h;cases h
 | succ d ih =>
   intro ⟨k,n,s,l⟩ h
   rw [vE] at h
   have hp : 1 ≤ 2 ^ d:=Nat.one_le_two_pow
   have h2 : 2 ^ (d + 1) = 2 * 2 ^ d:=by rw [Nat.pow_succ,Nat.mul_comm]
   have hs : ∀ l : List Ex,(∀ x ∈ l,vE var nu d x = true) → (exsVars l).length ≤ l.length * 2 ^ d:=by
    intro l
    induction l with
    | nil => intro _;rw [exsVars];exact Nat.zero_le _
    | cons x l ihl =>
      intro hl
      rw [exsVars,List.length_append,List.length_cons,Nat.succ_mul]
      have h3:=ih x (hl x (List.mem_cons_self ..))
      have h4:=ihl (fun y hy => hl y (List.mem_cons_of_mem _ hy))
      omega
   have key : ∀ m : Nat,opsB m l (vE var nu d) = true → (k = 2 → m = 0) → m ≤ 2 → (exVars (.mk k n s l)).length ≤ 2 ^ (d + 1):=fun m hm h0 hm2 => by
    obtain ⟨h3,h4⟩:=opsB_all hm
    have h5:=hs l h4
    have h6 : l.length ≤ m:=by omega
    rw [exVars,List.length_append,h2]
    by_cases hk : k = 2
    ·have h7 : l = []:=List.length_eq_zero_iff.1 (by have := h0 hk;omega)
     rw [if_pos hk,h7,exsVars]
     simp only [List.length_cons,List.length_nil]
     omega
    ·rw [if_neg hk]
     have h7 : l.length * 2 ^ d ≤ 2 * 2 ^ d:=Nat.mul_le_mul_right _ (by omega)
     simp only [List.length_nil]
     omega
   split at h
   ·exact key 0 (Bool.and_eq_true_iff.1 h).2 (fun _ => rfl) (by omega)
   ·split at h
    ·exact key 0 (Bool.and_eq_true_iff.1 h).2 (fun _ => rfl) (by omega)
    ·split at h
     ·exact key 0 (Bool.and_eq_true_iff.1 h).2 (fun _ => rfl) (by omega)
     ·split at h
      ·exact key 2 (Bool.and_eq_true_iff.1 h).2 (fun hk => by omega) (by omega)
      ·split at h
       ·exact key 1 (Bool.and_eq_true_iff.1 h).2 (fun hk => by omega) (by omega)
       ·cases h
theorem vE30_vars {var : List UInt8 → Bool} {nu : Int} {e : Ex} (h : vE var nu 30 e = true) : (exVars e).length ≤ 1073741824:=vE_vars 30 e h
theorem vCl_all {var : List UInt8 → Bool} {nu : Int} {x : Cl} (h : vCl var nu x = true) : (x.k = 1 → x.l ≠ []) ∧ x.l.length ≤ 9 ∧ ∀ e ∈ x.l,vE var nu 30 e = true:=by
 unfold vCl at h
 have h2:=(Bool.and_eq_true_iff.1 h).2
 split at h2
 ·rw [Bool.and_eq_true_iff,Bool.and_eq_true_iff] at h2
  obtain ⟨⟨h3,h4⟩,h5⟩:=h2
  have h3:=of_decide_eq_true h3
  have h4:=of_decide_eq_true h4
  exact ⟨fun _ e => by rw [e] at h3;simp at h3,by omega,List.all_eq_true.1 h5⟩
 ·rename_i hk
  split at h2
  ·rw [Bool.and_eq_true_iff,Bool.and_eq_true_iff] at h2
   obtain ⟨⟨h3,h4⟩,h5⟩:=h2
   have h4:=of_decide_eq_true h4
   exact ⟨fun e => absurd e hk,by omega,List.all_eq_true.1 h5⟩
  ·cases h2
theorem vF_all {var : List UInt8 → Bool} {nu ex : Int} {f : Fm} (h : vF var nu ex f = true) : ((f.ps.length : Int) ≤ ex ∧ f.ats.length ≤ 100 ∧ f.cls.length ≤ 100) ∧ (∀ x ∈ f.ats,vE var nu 30 x.a = true ∧ vE var nu 30 x.b = true) ∧ ∀ x ∈ f.cls,vCl var nu x = true:=by
 unfold vF at h
 simp only [Bool.and_eq_true_iff] at h
 obtain ⟨⟨⟨⟨⟨⟨h1,h2⟩,h3⟩,h4⟩,h5⟩,h6⟩,h7⟩:=h
 have h1:=of_decide_eq_true h1
 have h4:=of_decide_eq_true h4
 have h6:=of_decide_eq_true h6
 refine ⟨⟨h1,by omega,by omega⟩,fun x hx => ?_,List.all_eq_true.1 h7⟩
 have h8:=List.all_eq_true.1 h5 x hx
 unfold vAt at h8
 simp only [Bool.and_eq_true_iff] at h8
 exact ⟨h8.1.2,h8.2⟩
theorem fmFew_of {nu : Int} {f : Fm} (h : vF varB nu 100 f = true) : FmFew f:=by
 obtain ⟨⟨h1,h2,h3⟩,h4,h5⟩:=vF_all h
 refine ⟨by omega,by omega,by omega,fun x hx => ?_,fun x hx => ?_⟩
 ·obtain ⟨q1,q2,q3⟩:=vCl_all (h5 x hx)
  exact ⟨q1,by omega,fun e he => Nat.le_trans (vE30_vars (q3 e he)) (by omega)⟩
 ·obtain ⟨q1,q2⟩:=h4 x hx
  exact ⟨Nat.le_trans (vE30_vars q1) (by omega),Nat.le_trans (vE30_vars q2) (by omega)⟩
end Go.Proofs.YthenbbpagbdbeaaGreatDoor
