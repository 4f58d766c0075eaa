import Derived.Test.YtojjfdegkooknaaGreatDoorSTypN
import Derived.Test.YtojjfdegkooknaaGreatDoorSTypFq
import Derived.Test.YtojjfdegkooknaaGreatDoorSTreeGf
set_option linter.unusedVariables false
set_option linter.unusedSimpArgs false
namespace Go.Proofs.YtojjfdegkooknaaGreatDoor
section
def qjM (Bad : jl -> Prop) (c : Ck) : Prop:=c = none \/ ∃ b,Bad b /\ c = some b
def ToSc (Bad : jl -> Prop) (sc sc' : List Pm) : Prop:=∀ n x,qG (·.nm) sc n = some x -> qG (·.nm) sc' n = some x \/ (qG (·.nm) sc' n = none /\ Bad (n,7))
theorem qn6 {Bad : jl -> Prop} {a b : Ck} (ha : qjM Bad a) (hb : qjM Bad b) : qjM Bad (zw a b):=by
 rcases ha with ha | ⟨t,h1,h2⟩
 ·rw [ha];exact hb
 ·exact .inr ⟨t,h1,by rw [h2];rfl⟩
theorem qg4 {a b : Ck} (h : zw a b = none) : a = none /\ b = none:=by
 cases a with
 | none => exact ⟨rfl,h⟩
 | some t => cases h
theorem qfU (sc : List Pm) (s : List UInt8) : vG sc [] s = match qG (·.nm) sc s with
 | some p => .ok p.t
 | none => .error (s,7):=rfl
mutual
theorem qud {Bad : jl -> Prop} {sc sc' : List Pm} (h : ToSc Bad sc sc') : ∀ (e : Ex) (t : List UInt8),yZ sc [] e = .ok t -> yZ sc' [] e = .ok t \/ ∃ b,Bad b /\ yZ sc' [] e = .error b
 | .mk k n s l,t,he => by
   rw [yZ] at he ⊢
   by_cases h2 : k = 2
   ·rw [if_pos h2,qfU] at he
    rw [if_pos h2,qfU]
    cases hf : qG (·.nm) sc s with
    | none => rw [hf] at he;cases he
    | some x =>
      rw [hf] at he
      rcases h s x hf with h3 | ⟨h3,h4⟩
      ·rw [h3];exact .inl he
      ·rw [h3];exact .inr ⟨_,h4,rfl⟩
   ·rw [if_neg h2] at he ⊢
    by_cases h3 : k = 3
    ·rw [if_pos h3] at he ⊢
     exact .inl he
    ·rw [if_neg h3] at he ⊢
     cases hl : jM sc [] l with
     | some b => rw [hl] at he;cases he
     | none =>
       rw [hl] at he
       rcases qmg h l hl with h4 | ⟨b,h4,h5⟩
       ·rw [h4];exact .inl he
       ·rw [h5];exact .inr ⟨b,h4,rfl⟩
theorem qmg {Bad : jl -> Prop} {sc sc' : List Pm} (h : ToSc Bad sc sc') : ∀ l : List Ex,jM sc [] l = none -> qjM Bad (jM sc' [] l)
 | [],_ => .inl (by rw [jM])
 | x :: l,he => by
   rw [jM] at he ⊢
   cases hx : yZ sc [] x with
   | error b => rw [hx] at he;cases he
   | ok y =>
     rw [hx] at he
     obtain ⟨h1,h2⟩:=qg4 he
     rcases qud h x y hx with h3 | ⟨b,h3,h4⟩
     ·rw [h3]
      exact qn6 (.inl h1) (qmg h l h2)
     ·rw [h4];exact .inr ⟨b,h3,rfl⟩
end
theorem qgR (l m : List Pm) (n : List UInt8) : qG (·.nm) (l ++ m) n = (qG (·.nm) l n).or (qG (·.nm) m n):=by
 unfold qG
 rw [List.find?_append]
/-! ### qr4 one of its variables -/
def qr4 (sc : List Pm) (s : List UInt8) : List Pm:=sc.filter fun x => !(x.nm == s)
inductive Flat1 : Ex -> Prop
 | mk (k n : Int) (s : List UInt8) (l : List Ex) (h0 : (k = 2 \/ k = 3) -> l = []) (hl : ∀ x ∈ l,Flat1 x) : Flat1 (.mk k n s l)
theorem qp7 {m : Int} {l : List Ex} {f : Ex -> Bool} (h : qcV m l f = true) : (l.length : Int) <= m /\ ∀ x ∈ l,f x = true:=by
 unfold qcV at h
 rw [Bool.and_eq_true_iff,Bool.and_eq_true_iff] at h
 exact ⟨of_decide_eq_true h.1.2,List.all_eq_true.1 h.2⟩
mutual
theorem qoO {sc : List Pm} : ∀ (e : Ex) (t : List UInt8),Flat1 e -> yZ sc [] e = .ok t -> ∀ n ∈ zr e,qG (·.nm) sc n ≠ none
 | .mk k m s l,t,hf,he => by
   obtain ⟨_,_,_,_,h0,hl⟩:=hf
   rw [yZ] at he
   intro n hn
   rw [zr] at hn
   by_cases h2 : k = 2
   ·rw [if_pos h2,qfU] at he
    rw [if_pos h2,h0 (.inl h2),qF,List.append_nil] at hn
    obtain rfl:=List.mem_singleton.1 hn
    intro hc
    rw [hc] at he
    cases he
   ·rw [if_neg h2] at he hn
    by_cases h3 : k = 3
    ·rw [h0 (.inr h3),qF] at hn
     cases hn
    ·rw [if_neg h3] at he
     cases hx : jM sc [] l with
     | some b => rw [hx] at he;cases he
     | none => exact qic l hl hx n (by simpa using hn)
theorem qic {sc : List Pm} : ∀ l : List Ex,(∀ x ∈ l,Flat1 x) -> jM sc [] l = none -> ∀ n ∈ qF l,qG (·.nm) sc n ≠ none
 | [],_,_ => by intro n hn;rw [qF] at hn;cases hn
 | x :: l,hl,he => by
   rw [jM] at he
   intro n hn
   rw [qF] at hn
   cases hx : yZ sc [] x with
   | error b => rw [hx] at he;cases he
   | ok y =>
     rw [hx] at he
     rcases List.mem_append.1 hn with hn | hn
     ·exact qoO x y (hl x (List.mem_cons_self ..)) hx n hn
     ·exact qic l (fun z hz => hl z (List.mem_cons_of_mem _ hz)) (qg4 he).2 n hn
end
end
section
/-! ### what is thrown is an error -/
def NZ (c : Ck) : Prop:=∀ t,c = some t -> t.2 ≠ 0
theorem xq : NZ none:=fun t h => by cases h
theorem qgs {s : List UInt8} {x : Int} (h : x ≠ 0) : NZ (some (s,x)):=fun t ht => by
 obtain rfl:=Option.some.inj ht
 exact h
theorem yf {a b : Ck} (ha : NZ a) (hb : NZ b) : NZ (zw a b):=by
 cases a with
 | none => exact hb
 | some t => exact fun t' h => ha t' h
theorem vM {α : Type} {f : α -> Ck} (hf : ∀ x,NZ (f x)) : ∀ l : List α,NZ (zJ f l)
 | [] => xq
 | x :: l => yf (hf x) (vM hf l)
theorem jK {b : Bool} {x : Int} {n : List UInt8} (h : x ≠ 0) : NZ (zQ b x n):=by
 unfold zQ
 split
 ·exact xq
 ·exact qgs h
def NZE {α : Type} (r : Except jl α) : Prop:=∀ t,r = .error t -> t.2 ≠ 0
theorem qkg (sc br : List Pm) (s : List UInt8) : NZE (vG sc br s):=by
 intro t h
 unfold vG qm0 at h
 split at h
 ·injection h with h
  rw [<- h]
  show (6 : Int) ≠ 0
  decide
 ·split at h
  ·cases h
  ·injection h with h
   rw [<- h]
   show (7 : Int) ≠ 0
   decide
mutual
theorem qdh (sc br : List Pm) : ∀ e : Ex,NZE (yZ sc br e)
 | .mk k n s l => by
   rw [yZ]
   split
   ·exact qkg sc br s
   ·split
    ·intro t h;cases h
    ·have := qlL sc br l
     intro t h
     cases hx : jM sc br l with
     | none => rw [hx] at h;cases h
     | some t' =>
       rw [hx] at h
       injection h with h
       rw [<- h]
       exact this t' hx
theorem qlL (sc br : List Pm) : ∀ l : List Ex,NZ (jM sc br l)
 | [] => by rw [jM];exact xq
 | x :: l => by
   rw [jM]
   have h:=qdh sc br x
   have h2:=qlL sc br l
   cases hx : yZ sc br x with
   | error t => exact fun t' ht => by obtain rfl:=Option.some.inj ht;exact h _ hx
   | ok y => exact yf (jK (by decide)) h2
end
theorem qoe (sc br : List Pm) (k : Int) (a b : Ex) : NZ (qcn sc br k a b):=by
 unfold qcn
 have ha:=qdh sc br a
 have hb:=qdh sc br b
 cases h1 : yZ sc br a with
 | error t => exact fun t' ht => by obtain rfl:=Option.some.inj ht;exact ha _ h1
 | ok x =>
   cases h2 : yZ sc br b with
   | error t => exact fun t' ht => by obtain rfl:=Option.some.inj ht;exact hb _ h2
   | ok y => exact jK (by decide)
theorem qlN (sc br : List Pm) (nm : List UInt8) (l : List Ex) (ps : List Pm) : NZ (jp sc br nm l ps):=by
 refine yf (jK (by decide)) (vM (fun x => ?_) _)
 have h:=qdh sc br x.1
 cases hx : yZ sc br x.1 with
 | error t => rw [qie hx];exact fun t' ht => by obtain rfl:=Option.some.inj ht;exact h _ hx
 | ok y => rw [qmm hx];exact jK (by decide)
theorem qp8 (p : Pg) (x : Cl) : NZE (jG p x):=by
 intro t h
 unfold jG qqS qp0 at h
 split at h <;> split at h <;> first
  | (injection h with h;rw [<- h];show (7 : Int) ≠ 0;decide)
  | cases h
theorem qvd (p : Pg) (sc : List Pm) (x : Cl) : NZ (clC p sc x):=by
 unfold clC
 have h:=qp8 p x
 cases hx : jG p x with
 | error t => exact fun t' ht => by obtain rfl:=Option.some.inj ht;exact h _ hx
 | ok ps => exact qlN _ _ _ _ _
theorem qrj (rs : List Rc) (x : Pm) : NZ (tyC rs x):=by
 unfold tyC tyQ
 split
 ·exact xq
 ·split
  ·exact xq
  ·exact qgs (by decide)
theorem qmT (p : Pg) (sc : List Pm) (f : Fm) : NZ (fmC p sc f) :=
 yf (vM (fun x => jK (by decide)) _) (yf (vM (fun x => qrj _ x) _) (yf (vM (fun x => qoe _ _ _ _ _) _) (yf (vM (fun x => qvd _ _ x) _) (vM (fun x => jK (by decide)) _))))
/-! ### sizes -/
theorem qsf {var : List UInt8 -> Bool} {nu : Int} : ∀ (d : Nat) (e : Ex),vE var nu d e = true -> (zr e).length <= 2 ^ d:=by
 intro d
 induction d with
 | zero => intro e h;rw [vE] at h;cases h
 | succ d ih =>
   intro ⟨k,n,s,l⟩ h
   rw [vE] at h
   have hp : 1 <= 2 ^ d:=Nat.one_le_two_pow
   have h2 : 2 ^ (d + 1) = 2 * 2 ^ d:=by rw [Nat.pow_succ,Nat.mul_comm]
   have hs : ∀ l : List Ex,(∀ x ∈ l,vE var nu d x = true) -> (qF l).length <= l.length * 2 ^ d:=by
    intro l
    induction l with
    | nil => intro _;rw [qF];exact Nat.zero_le _
    | cons x l ihl =>
      intro hl
      rw [qF,List.length_append,List.length_cons,Nat.succ_mul]
      have h3:=ih x (hl x (List.mem_cons_self ..))
      have h4:=ihl (fun y hy => hl y (List.mem_cons_of_mem _ hy))
      omega
   have key : ∀ m : Nat,qcV m l (vE var nu d) = true -> (k = 2 -> m = 0) -> m <= 2 -> (zr (.mk k n s l)).length <= 2 ^ (d + 1):=fun m hm h0 hm2 => by
    obtain ⟨h3,h4⟩:=qp7 hm
    have h5:=hs l h4
    have h6 : l.length <= m:=by omega
    rw [zr,List.length_append,h2]
    by_cases hk : k = 2
    ·have h7 : l = []:=List.length_eq_zero_iff.1 (by have := h0 hk;omega)
     rw [if_pos hk,h7,qF]
     simp only [List.length_cons,List.length_nil]
     omega
    ·rw [if_neg hk]
     have h7 : l.length * 2 ^ d <= 2 * 2 ^ d:=Nat.mul_le_mul_right _ (by omega)
     simp only [List.length_nil]
     omega
   split at h
   ·exact key 0 (Bool.and_eq_true_iff.1 h).2 (fun _ => rfl) (by omega)
   ·split at h
    ·exact key 0 (Bool.and_eq_true_iff.1 h).2 (fun _ => rfl) (by omega)
    ·split at h
     ·exact key 0 (Bool.and_eq_true_iff.1 h).2 (fun _ => rfl) (by omega)
     ·split at h
      ·exact key 2 (Bool.and_eq_true_iff.1 h).2 (fun hk => by omega) (by omega)
      ·split at h
       ·exact key 1 (Bool.and_eq_true_iff.1 h).2 (fun hk => by omega) (by omega)
       ·cases h
theorem qfF {var : List UInt8 -> Bool} {nu : Int} {e : Ex} (h : vE var nu 30 e = true) : (zr e).length <= 1073741824:=qsf 30 e h
theorem qsh {var : List UInt8 -> Bool} {nu : Int} {x : Cl} (h : vCl var nu x = true) : (x.k = 1 -> x.l ≠ []) /\ x.l.length <= 9 /\ ∀ e ∈ x.l,vE var nu 30 e = true:=by
 unfold vCl at h
 have h2:=(Bool.and_eq_true_iff.1 h).2
 split at h2
 ·rw [Bool.and_eq_true_iff,Bool.and_eq_true_iff] at h2
  obtain ⟨⟨h3,h4⟩,h5⟩:=h2
  have h3:=of_decide_eq_true h3
  have h4:=of_decide_eq_true h4
  exact ⟨fun _ e => by rw [e] at h3;simp at h3,by omega,List.all_eq_true.1 h5⟩
 ·rename_i hk
  split at h2
  ·rw [Bool.and_eq_true_iff,Bool.and_eq_true_iff] at h2
   obtain ⟨⟨h3,h4⟩,h5⟩:=h2
   have h4:=of_decide_eq_true h4
   exact ⟨fun e => absurd e hk,by omega,List.all_eq_true.1 h5⟩
  ·cases h2
theorem qtd {var : List UInt8 -> Bool} {nu ex : Int} {f : Fm} (h : vF var nu ex f = true) : ((f.ps.length : Int) <= ex /\ f.ats.length <= 100 /\ f.cls.length <= 100) /\ (∀ x ∈ f.ats,vE var nu 30 x.a = true /\ vE var nu 30 x.b = true) /\ ∀ x ∈ f.cls,vCl var nu x = true:=by
 unfold vF at h
 simp only [Bool.and_eq_true_iff] at h
 obtain ⟨⟨⟨⟨⟨⟨h1,h2⟩,h3⟩,h4⟩,h5⟩,h6⟩,h7⟩:=h
 have h1:=of_decide_eq_true h1
 have h4:=of_decide_eq_true h4
 have h6:=of_decide_eq_true h6
 refine ⟨⟨h1,by omega,by omega⟩,fun x hx => ?_,List.all_eq_true.1 h7⟩
 have h8:=List.all_eq_true.1 h5 x hx
 unfold vAt at h8
 simp only [Bool.and_eq_true_iff] at h8
 exact ⟨h8.1.2,h8.2⟩
end
end Go.Proofs.YtojjfdegkooknaaGreatDoor
