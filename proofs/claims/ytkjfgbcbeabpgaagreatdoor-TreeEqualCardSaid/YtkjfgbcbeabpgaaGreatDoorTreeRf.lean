/-
  A law for 'for .. := range f { .. }' where the iterator keeps blocks of its own, and may itself run a loop over another iterator.
-/
import Derived.RangeFuncNested
import Derived.RangeFuncBound
import Derived.RangeFuncCalls
import Derived.RangeFuncLeaves
import Derived.WalkKit
import Derived.OwnWalkIn
import Derived.TacticsInMore
import Derived.LoopNIn
import Derived.LoopIn
import Derived.Test.YtkjfgbcbeabpgaaGreatDoorProg
namespace Go.Proofs.YtkjfgbcbeabpgaaGreatDoor
open Go.RowKit

/-- From W to W' nothing has turned but blocks of Pv; blocks may be new. -/
structure Part (Pv : Nat → Prop) (W W' : World) : Prop where
  os : W'.os = W.os
  tape : W'.tape = W.tape
  output : W'.output = W.output
  size : W.heap.size ≤ W'.heap.size
  block : ∀ k, k < W.heap.size → ¬ Pv k → W'.heap[k]? = W.heap[k]?

theorem Part.refl (Pv : Nat → Prop) (W : World) : Part Pv W W := ⟨rfl, rfl, rfl, Nat.le_refl _, fun _ _ _ => rfl⟩
theorem Part.trans {Pv : Nat → Prop} {A B C : World} (h : Part Pv A B) (k : Part Pv B C) : Part Pv A C :=
  ⟨k.os.trans h.os, k.tape.trans h.tape, k.output.trans h.output, Nat.le_trans h.size k.size, fun i hi hp => (k.block i (Nat.lt_of_lt_of_le hi h.size) hp).trans (h.block i hi hp)⟩
theorem Part.mono {Pv Pv' : Nat → Prop} {A B : World} (h : Part Pv A B) (hp : ∀ b, Pv b → Pv' b) : Part Pv' A B :=
  ⟨h.os, h.tape, h.output, h.size, fun i hi hn => h.block i hi fun e => hn (hp i e)⟩
theorem Part.of_below {Pv : Nat → Prop} {A B : World} (h : Below A.heap.size A B) : Part Pv A B := ⟨h.os, h.tape, h.output, h.size, fun i hi _ => h.block i hi⟩
theorem Part.alloc {Pv : Nat → Prop} (W : World) (o : Obj) : Part Pv W (W.alloc o) := Part.of_below ((Below.refl _ W).alloc (Nat.le_refl _) o)
theorem Part.putObj {Pv : Nat → Prop} (W : World) {l : Nat} (o : Obj) (h : Pv l) : Part Pv W (W.putObj l o) :=
  ⟨rfl, rfl, rfl, by simp, fun k _ hk => World.putObj_heap_other fun e => hk (e ▸ h)⟩
theorem Part.setCell {Pv : Nat → Prop} (W : World) {a : Addr} (v : Value) (h : Pv a.block) : Part Pv W (W.setCell a v) :=
  ⟨rfl, rfl, rfl, by simp [World.setCell], fun k _ hk => Below.heap_setCell _ _ _ _ fun e => hk (e ▸ h)⟩
theorem Part.cell {Pv : Nat → Prop} {W W' : World} (h : Part Pv W W') {p : Addr} (hp : p.block < W.heap.size) (hn : ¬ Pv p.block) : W'.cell? p = W.cell? p := World.cell?_of_block (w := W) (h.block p.block hp hn)
theorem Part.frozen {Pv : Nat → Prop} {W W' : World} (h : Part Pv W W') {p : Addr} (hp : p.block < W.heap.size) (hn : ¬ Pv p.block) : W'.frozen? p = W.frozen? p := World.frozen?_of_block (w := W) (h.block p.block hp hn)

/-- What does not mind that blocks of Pv turn; Pv may grow by new blocks. -/
def Abid {β : Type} (J : (Nat → Prop) → β → World → Prop) : Prop :=
  ∀ (Pv Pv' : Nat → Prop) (s : β) (W W' : World), J Pv s W → Part Pv W W' → (∀ b, Pv' b → Pv b ∨ W.heap.size ≤ b) → (∀ b, Pv' b → b < W'.heap.size) → J Pv' s W'

/-- What an iterator owes: whatever the caller's state J is that abides its own blocks' turns, and whatever the rounds do with it. Q: what the rounds must leave. Y: what is known of what is yielded. -/
def SeqOwn {α : Type} (F : Fence) (n : Nat) (P : Program) (g : Nat) (lb : Array Value) (encs : α → Array Value) (Q : Nat → Prop) (Y : List α → α → World → Prop) (S Sp : List α → World → Prop) (w : World) : Prop :=
  ∀ (l : Nat) (J Jx : (Nat → Prop) → List α → World → Prop) (W : World), Below w.heap.size w W → Abid J → Abid Jx →
    (∀ Pv pre x W1, J Pv pre W1 → (∀ b, Pv b → b < W1.heap.size) → (∀ b, Pv b → W.heap.size ≤ b) → Y pre x W1 → YieldAt F (n - 1) P l (encs x) W1 fun e W' =>
      (∀ b, b < W1.heap.size → Pv b ∨ Q b → W'.heap[b]? = W1.heap[b]?) ∧ W1.heap.size ≤ W'.heap.size ∧ ((e = .returned (.bool true) ∧ J Pv (pre ++ [x]) W') ∨ (e = .returned (.bool false) ∧ Jx Pv (pre ++ [x]) W'))) →
    J (fun _ => False) [] W →
    CallsIn F n P g (#[.func (.yield l) #[] #[]] ++ lb) W fun e W' => (∃ v, e = .returned v) ∧ ∃ Pv : Nat → Prop, (∀ b, Pv b → b < W'.heap.size) ∧ ((∃ xs, S xs W' ∧ J Pv xs W') ∨ (∃ pre, Sp pre W' ∧ Jx Pv pre W'))

variable {F : Fence} {n : Nat} {P : Program}

/-- HOW THE BODY OF A ROUND MAY BE LEFT. -/
def ownPostP {α : Type} (K : Nat → Prop) (I : List α → World → Prop) (Ix : Code → List α → World → Prop) (xs : List α) (W : World) : Exit → Act → World → Prop
  | .normal, _, W' => (∀ b, b < W.heap.size → K b → W'.heap[b]? = W.heap[b]?) ∧ W.heap.size ≤ W'.heap.size ∧ I xs W'
  | .ret, _, W' => (∀ b, b < W.heap.size → K b → W'.heap[b]? = W.heap[b]?) ∧ W.heap.size ≤ W'.heap.size ∧ Ix .ret xs W'
  | .exit id, _, W' => (∀ b, b < W.heap.size → K b → W'.heap[b]? = W.heap[b]?) ∧ W.heap.size ≤ W'.heap.size ∧ Ix (.exit id) xs W'
  | .goto t, _, W' => (∀ b, b < W.heap.size → K b → W'.heap[b]? = W.heap[b]?) ∧ W.heap.size ≤ W'.heap.size ∧ Ix (.goto t) xs W'
  | .panic _, _, _ => False
  | .outgrown, _, _ => False

/-- **THE LOOP.** D: the block for the rounds' deferred calls, l: the loop's record. The state I is told which blocks are the iterator's own, D and l among them. -/
theorem wpIn_rangeFunc_pv {α : Type} {g : Operand} {ps : Array Tmp} {assign body : Code} {R : Exit → Act → World → Prop} {a : Act} {w : World}
    (hro : F.round = none) (h1 : 1 ≤ n) {gf : Nat} {lb : Array Value} (hg : a.eval g = .func (.func gf) #[] lb) (hFg : F.fn gf) (eg : ∀ args w, (callFunc gf args).run P w = .ok (.enter gf args) w)
    {encs : α → Array Value} {Q : Nat → Prop} {Y : List α → α → World → Prop} {S Sp : List α → World → Prop} {w0 : World} (hseq : SeqOwn F (n - 1) P gf lb encs Q Y S Sp w0) (hb0 : Below w0.heap.size w0 w)
    (hps : ∀ x, (encs x).size = ps.size)
    (I : (Nat → Prop) → List α → World → Prop) (Ix : Code → (Nat → Prop) → List α → World → Prop) (hI : Abid I) (hIx : ∀ c, Abid (Ix c)) (h0 : I (fun _ => False) [] w)
    (hround : ∀ (Pv : Nat → Prop) (pre : List α) (x : α) (W : World) (r : Loop), (∀ b, Pv b → b < W.heap.size) → (∀ b, Pv b → w.heap.size ≤ b) → Pv w.heap.size → Pv (w.heap.size + 1) → W.heap[w.heap.size + 1]? = some (.loop r) → I Pv pre W → Y pre x W →
      assign.wpIn (F.inRound (w.heap.size + 1)) (n - 1 - 1) P (Exit.then (fun a' Wa => Part (fun b => ¬ (Pv b ∨ Q b)) W Wa ∧ ∀ r', body.wpIn (F.inRound (w.heap.size + 1)) (n - 1 - 1) P
          (ownPostP (fun b => Pv b ∨ Q b) (I Pv) (fun c => Ix c Pv) (pre ++ [x]) (Wa.putObj (w.heap.size + 1) (.loop r'))) a' (Wa.putObj (w.heap.size + 1) (.loop r'))) (fun _ _ _ => False))
        { tmps := (ps.zip (encs x)).foldl (fun t (p, v) => t.setIfInBounds p v) a.tmps, defers := [] } W)
    (hQ : ∀ b, Q b → b < w.heap.size)
    (hSl : ∀ xs (W W' : World), S xs W → Part (fun b => b = w.heap.size + 1) W W' → S xs W') (hSpl : ∀ xs (W W' : World), Sp xs W → Part (fun b => b = w.heap.size + 1) W W' → Sp xs W')
    (hdone : ∀ (Pv : Nat → Prop) (xs : List α) (W : World), S xs W → I Pv xs W → Pv w.heap.size → Pv (w.heap.size + 1) → (∀ b, Pv b → b < W.heap.size) → W.heap[w.heap.size]? = some (.deferred (some [])) → R .normal { a with defers := { target := .collected w.heap.size, args := #[] } :: a.defers } W)
    (hstop : ∀ (c : Code) (Pv : Nat → Prop) (pre : List α) (W : World), Sp pre W → Ix c Pv pre W → Pv w.heap.size → Pv (w.heap.size + 1) → (∀ b, Pv b → b < W.heap.size) → W.heap[w.heap.size]? = some (.deferred (some [])) → c.wpIn F n P R { a with defers := { target := .collected w.heap.size, args := #[] } :: a.defers } W) :
    (Code.rangeFunc g ps assign body).wpIn F n P R a w := by
  refine wpIn_rangeFunc ?_
  intro fn hfn
  rw [hro]
  obtain ⟨rec, hrec⟩ : ∃ rec : LoopState → Option Code → Loop, rec = fun st pe => { state := st, pending := pe, fn, tmps := a.tmps, params := ps, assign, body, defers := w.heap.size } := ⟨_, rfl⟩
  obtain ⟨W1, hW1⟩ : ∃ W1, (w.alloc (.deferred (some []))).alloc (.loop (rec .ready none)) = W1 := ⟨_, rfl⟩
  have hsz1 : W1.heap.size = w.heap.size + 2 := by rw [← hW1]; simp
  have hL1 : W1.heap[w.heap.size + 1]? = some (.loop (rec .ready none)) := by
    rw [← hW1]; have := World.alloc_heap_new (w.alloc (.deferred (some []))) (.loop (rec .ready none)); rwa [World.size_alloc] at this
  have hK1 : W1.heap[w.heap.size]? = some (.deferred (some [])) := by
    rw [← hW1]; exact (Below.heap_alloc _ _ _ (by simp)).trans (World.alloc_heap_new w _)
  have hbw : Below w.heap.size w W1 := by rw [← hW1]; exact ((Below.refl _ w).alloc (Nat.le_refl _) _).alloc (by simp) _
  have hb1 : Below w0.heap.size w0 W1 := hb0.trans (hbw.mono hb0.size)
  -- the iterator's blocks, with the two of the loop
  obtain ⟨M, hM⟩ : ∃ M : (Nat → Prop) → Nat → Prop, M = fun Pv b => Pv b ∨ b = w.heap.size ∨ b = w.heap.size + 1 := ⟨_, rfl⟩
  have hMd : ∀ Pv, M Pv w.heap.size := fun Pv => by rw [hM]; exact Or.inr (Or.inl rfl)
  have hMl : ∀ Pv, M Pv (w.heap.size + 1) := fun Pv => by rw [hM]; exact Or.inr (Or.inr rfl)
  have hI1 : I (M fun _ => False) [] W1 := hI _ _ _ _ _ h0 (Part.of_below hbw) (fun b hb => by
    rw [hM] at hb
    rcases hb with h | rfl | rfl
    · exact h.elim
    · exact Or.inr (Nat.le_refl _)
    · exact Or.inr (Nat.le_succ _)) (fun b hb => by
    rw [hM] at hb
    rcases hb with h | rfl | rfl
    · exact h.elim
    · omega
    · omega)
  refine ⟨w.heap.size + 1, [{ target := .collected w.heap.size, args := #[] }], W1, { target := .fn (.func gf) lb, args := #[.func (.yield (w.heap.size + 1)) #[] #[]] }, W1, gf,
    #[.func (.yield (w.heap.size + 1)) #[] #[]] ++ lb, W1, ?_, ?_, ?_, ?_, fun _ => h1, ?_⟩
  · rw [← hW1, hrec]; exact run_enterLoop_outer _ _ _ _ _
  · simp only [resolve, hg]
    simp [go_sem]
  · intro f' hf'; simp [Target.leads] at hf'; subst hf'; exact hFg
  · simp [invoke, go_sem, eg]
  · have stays : ∀ {Pv : Nat → Prop} {A B : World}, (∀ b, Pv b → w.heap.size + 2 ≤ b) → Part Pv A B → ∀ {k : Nat} {o : Obj}, k < w.heap.size + 2 → A.heap[k]? = some o → B.heap[k]? = some o := fun hp hAB k o hk ho =>
      (hAB.block k (Array.getElem?_eq_some_iff.1 ho).1 (fun e => by have := hp k e; omega)).trans ho
    refine (hseq (w.heap.size + 1)
      (fun Pv pre W => I (M Pv) pre W ∧ (∀ b, Pv b → w.heap.size + 2 ≤ b) ∧ W.heap[w.heap.size + 1]? = some (.loop (rec .ready none)) ∧ W.heap[w.heap.size]? = some (.deferred (some [])))
      (fun Pv pre W => ∃ c, Ix c (M Pv) pre W ∧ (∀ b, Pv b → w.heap.size + 2 ≤ b) ∧ W.heap[w.heap.size + 1]? = some (.loop (rec .done (some c))) ∧ W.heap[w.heap.size]? = some (.deferred (some [])))
      W1 hb1 ?ab1 ?ab2 ?_ ⟨hI1, fun _ h => h.elim, hL1, hK1⟩).mono ?_
    case ab1 =>
      rintro Pv Pv' s A B ⟨hi, hp, hl, hk⟩ hAB hnew hlt
      have hA : w.heap.size + 2 ≤ A.heap.size := by have := (Array.getElem?_eq_some_iff.1 hl).1; omega
      refine ⟨hI _ _ _ _ _ hi (hAB.mono fun b hb => by rw [hM]; exact Or.inl hb) (fun b hb => ?_) (fun b hb => ?_), fun b hb => ?_, stays hp hAB (by omega) hl, stays hp hAB (by omega) hk⟩
      · rw [hM] at hb ⊢
        rcases hb with h | h
        · rcases hnew b h with h | h
          · exact Or.inl (Or.inl h)
          · exact Or.inr h
        · exact Or.inl (Or.inr h)
      · rw [hM] at hb
        have := hAB.size
        rcases hb with h | rfl | rfl
        · exact hlt b h
        · omega
        · omega
      · rcases hnew b hb with h | h
        · exact hp b h
        · omega
    case ab2 =>
      rintro Pv Pv' s A B ⟨c, hi, hp, hl, hk⟩ hAB hnew hlt
      have hA : w.heap.size + 2 ≤ A.heap.size := by have := (Array.getElem?_eq_some_iff.1 hl).1; omega
      refine ⟨c, hIx c _ _ _ _ _ hi (hAB.mono fun b hb => by rw [hM]; exact Or.inl hb) (fun b hb => ?_) (fun b hb => ?_), fun b hb => ?_, stays hp hAB (by omega) hl, stays hp hAB (by omega) hk⟩
      · rw [hM] at hb ⊢
        rcases hb with h | h
        · rcases hnew b h with h | h
          · exact Or.inl (Or.inl h)
          · exact Or.inr h
        · exact Or.inl (Or.inr h)
      · rw [hM] at hb
        have := hAB.size
        rcases hb with h | rfl | rfl
        · exact hlt b h
        · omega
        · omega
      · rcases hnew b hb with h | h
        · exact hp b h
        · omega
    · -- ONE ROUND
      rintro Pv pre x W ⟨hi, hp, hl, hk⟩ hlt hge hy0
      have hltl : w.heap.size + 1 < W.heap.size := (Array.getElem?_eq_some_iff.1 hl).1
      have hy := run_yield (P := P) (args := encs x) hl (by rw [hrec]; exact hps x)
      rw [hrec] at hy
      have hMlt : ∀ b, M Pv b → b < W.heap.size := fun b hb => by
        rw [hM] at hb
        rcases hb with h | rfl | rfl
        · exact hlt b h
        · omega
        · omega
      have hMge : ∀ b, M Pv b → w.heap.size ≤ b := fun b hb => by
        rw [hM] at hb
        rcases hb with h | rfl | rfl
        · have := hp b h; omega
        · omega
        · omega
      refine ⟨fn, _, assign, body, hy, roundIn_of_wpIn hfn (wpIn_mono (hround (M Pv) pre x W _ hMlt hMge (hMd Pv) (hMl Pv) hl hi hy0) ?_)⟩
      clear hy
      rintro e a' Wa hE
      cases e with
      | normal =>
        obtain ⟨hWa, hbody⟩ := hE
        have keepA : ∀ {k : Nat} {o : Obj}, M Pv k → W.heap[k]? = some o → Wa.heap[k]? = some o := fun hm ho => (hWa.block _ (Array.getElem?_eq_some_iff.1 ho).1 (fun h => h (Or.inl hm))).trans ho
        have hla := keepA (hMl Pv) hl
        have hka := keepA (hMd Pv) hk
        have hltla : w.heap.size + 1 < Wa.heap.size := (Array.getElem?_eq_some_iff.1 hla).1
        refine ⟨_, run_beginRound hla (by rw [hrec]), ?_⟩
        refine wpIn_mono (hbody _) ?_
        have hl2 : (Wa.putObj (w.heap.size + 1) (.loop { rec .ready none with state := .busy })).heap[w.heap.size + 1]? = some (.loop { rec .ready none with state := .busy }) := World.putObj_heap_same hltla
        have hk2 : (Wa.putObj (w.heap.size + 1) (.loop { rec .ready none with state := .busy })).heap[w.heap.size]? = some (.deferred (some [])) := (World.putObj_heap_other (by omega)).trans hka
        have fin : ∀ (jump : Option Code) (W3 : World), (∀ b, b < (Wa.putObj (w.heap.size + 1) (.loop { rec .ready none with state := .busy })).heap.size → M Pv b ∨ Q b → W3.heap[b]? = (Wa.putObj (w.heap.size + 1) (.loop { rec .ready none with state := .busy })).heap[b]?) →
            (Instr.endRound (w.heap.size + 1) jump).run P W3 = .ok (.bool jump.isNone) (W3.putObj (w.heap.size + 1) (.loop (rec (if jump.isNone then .ready else .done) jump))) ∧
            W3.heap[w.heap.size + 1]? = some (.loop { rec .ready none with state := .busy }) ∧
            (W3.putObj (w.heap.size + 1) (.loop (rec (if jump.isNone then .ready else .done) jump))).heap[w.heap.size + 1]? = some (.loop (rec (if jump.isNone then .ready else .done) jump)) ∧
            (W3.putObj (w.heap.size + 1) (.loop (rec (if jump.isNone then .ready else .done) jump))).heap[w.heap.size]? = some (.deferred (some [])) := fun jump W3 hk3 => by
          have hl3 := (hk3 _ (by simp; omega) (Or.inl (hMl Pv))).trans hl2
          have hd3 := (hk3 _ (by simp; omega) (Or.inl (hMd Pv))).trans hk2
          have := run_endRound (P := P) jump hl3
          rw [hrec] at this ⊢
          exact ⟨this, by rw [hrec] at hl3; exact hl3, World.putObj_heap_same (Array.getElem?_eq_some_iff.1 hl3).1, (World.putObj_heap_other (by omega)).trans hd3⟩
        -- what the whole round has left: the iterator's own blocks, and Q
        have left : ∀ (W3 : World) (o : Obj), (∀ b, b < (Wa.putObj (w.heap.size + 1) (.loop { rec .ready none with state := .busy })).heap.size → M Pv b ∨ Q b → W3.heap[b]? = (Wa.putObj (w.heap.size + 1) (.loop { rec .ready none with state := .busy })).heap[b]?) →
            ∀ b, b < W.heap.size → Pv b ∨ Q b → (W3.putObj (w.heap.size + 1) o).heap[b]? = W.heap[b]? := fun W3 o hk3 b hb hpq => by
          have hne : b ≠ w.heap.size + 1 := by
            rcases hpq with h | h
            · have := hp b h; omega
            · have := hQ b h; omega
          have hmq : M Pv b ∨ Q b := hpq.imp (fun h => by rw [hM]; exact Or.inl h) id
          rw [World.putObj_heap_other hne, hk3 b (by simp; exact Nat.lt_of_lt_of_le hb hWa.size) hmq, World.putObj_heap_other hne]
          exact hWa.block b hb fun h => h hmq
        have hsize : ∀ {W3 : World}, (Wa.putObj (w.heap.size + 1) (.loop { rec .ready none with state := .busy })).heap.size ≤ W3.heap.size → ∀ o, W.heap.size ≤ (W3.putObj (w.heap.size + 1) o).heap.size := fun h o => by
          have := hWa.size
          simp at h ⊢
          omega
        have turn : ∀ {J : (Nat → Prop) → List α → World → Prop}, Abid J → ∀ {s : List α} {W3 : World} (o : Obj), W.heap.size ≤ W3.heap.size → J (M Pv) s W3 → J (M Pv) s (W3.putObj (w.heap.size + 1) o) := fun hJ s W3 o hs hj =>
          hJ _ _ _ _ _ hj (Part.putObj W3 o (hMl Pv)) (fun b hb => Or.inl hb) (fun b hb => by have := hMlt b hb; simp; omega)
        rintro e a3 W3 hp3
        cases e with
        | normal =>
          obtain ⟨hk3, hs3, hi3⟩ := hp3
          obtain ⟨hr, hl3, hl4, hk4⟩ := fin none W3 hk3
          have hs3' : W.heap.size ≤ W3.heap.size := by have := hWa.size; simp at hs3; omega
          exact ⟨_, _, hr, left W3 _ hk3, hsize hs3 _, .inl ⟨rfl, turn hI _ hs3' hi3, hp, hl4, hk4⟩⟩
        | ret =>
          obtain ⟨hk3, hs3, hi3⟩ := hp3
          obtain ⟨hr, hl3, hl4, hk4⟩ := fin (some .ret) W3 hk3
          have hs3' : W.heap.size ≤ W3.heap.size := by have := hWa.size; simp at hs3; omega
          exact ⟨_, _, hr, left W3 _ hk3, hsize hs3 _, .inr ⟨rfl, .ret, turn (hIx _) _ hs3' hi3, hp, hl4, hk4⟩⟩
        | exit id =>
          obtain ⟨hk3, hs3, hi3⟩ := hp3
          obtain ⟨hr, hl3, hl4, hk4⟩ := fin (some (.exit id)) W3 hk3
          have hs3' : W.heap.size ≤ W3.heap.size := by have := hWa.size; simp at hs3; omega
          exact ⟨_, _, hr, left W3 _ hk3, hsize hs3 _, .inr ⟨rfl, .exit id, turn (hIx _) _ hs3' hi3, hp, hl4, hk4⟩⟩
        | goto t =>
          obtain ⟨hk3, hs3, hi3⟩ := hp3
          obtain ⟨hr, hl3, hl4, hk4⟩ := fin (some (.goto t)) W3 hk3
          have hs3' : W.heap.size ≤ W3.heap.size := by have := hWa.size; simp at hs3; omega
          exact ⟨_, _, hr, left W3 _ hk3, hsize hs3 _, .inr ⟨rfl, .goto t, turn (hIx _) _ hs3' hi3, hp, hl4, hk4⟩⟩
        | panic ch => exact hp3.elim
        | outgrown => exact hp3.elim
      | _ => exact hE.elim
    · -- BEHIND THE ITERATOR
      rintro e W2 ⟨⟨v, rfl⟩, Pv, hlt, (⟨xs, hS, hi, hp, hl, hk⟩ | ⟨pre, hSp, c, hi, hp, hl, hk⟩)⟩
      · have hz : w.heap.size + 1 < W2.heap.size := (Array.getElem?_eq_some_iff.1 hl).1
        have hMlt : ∀ b, M Pv b → b < W2.heap.size := fun b hb => by
          rw [hM] at hb
          rcases hb with h | rfl | rfl
          · exact hlt b h
          · omega
          · omega
        exact ⟨none, _, by have := run_endLoop (P := P) hl (by rw [hrec]; simp); rw [hrec] at this; exact this, hdone (M Pv) xs _ (hSl _ _ _ hS (Part.putObj _ _ rfl)) (hI _ _ _ _ _ hi (Part.putObj _ _ (hMl Pv)) (fun b hb => Or.inl hb) (fun b hb => by have := hMlt b hb; simp; omega)) (hMd Pv) (hMl Pv) (fun b hb => by have := hMlt b hb; simp; omega) ((World.putObj_heap_other (by omega)).trans hk)⟩
      · have hz : w.heap.size + 1 < W2.heap.size := (Array.getElem?_eq_some_iff.1 hl).1
        have hMlt : ∀ b, M Pv b → b < W2.heap.size := fun b hb => by
          rw [hM] at hb
          rcases hb with h | rfl | rfl
          · exact hlt b h
          · omega
          · omega
        exact ⟨some c, _, by have := run_endLoop (P := P) hl (by rw [hrec]; simp); rw [hrec] at this; exact this, hstop c (M Pv) pre _ (hSpl _ _ _ hSp (Part.putObj _ _ rfl)) (hIx c _ _ _ _ _ hi (Part.putObj _ _ (hMl Pv)) (fun b hb => Or.inl hb) (fun b hb => by have := hMlt b hb; simp; omega)) (hMd Pv) (hMl Pv) (fun b hb => by have := hMlt b hb; simp; omega) ((World.putObj_heap_other (by omega)).trans hk)⟩

end Go.Proofs.YtkjfgbcbeabpgaaGreatDoor
