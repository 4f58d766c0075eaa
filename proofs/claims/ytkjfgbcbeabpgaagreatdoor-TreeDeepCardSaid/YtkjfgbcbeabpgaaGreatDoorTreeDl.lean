/-
  Trees of any depth, as TreeDeep builds them: what they are, and where they lie.
  TreeDeep's body.
-/
import Derived.Laws.Tables
import Derived.Test.YtkjfgbcbeabpgaaGreatDoorTreeSh
import Derived.Test.YtkjfgbcbeabpgaaGreatDoorTreeVm
import Derived.Test.YtkjfgbcbeabpgaaGreatDoorTreeLc
import Derived.Test.YtkjfgbcbeabpgaaGreatDoorTreeAx
import Derived.Great.BuildSlice
import Derived.MakeChecks
import Derived.OpenShut
import Derived.Test.YtkjfgbcbeabpgaaGreatDoorTreeSz
namespace Go.Proofs.YtkjfgbcbeabpgaaGreatDoor
open Go.RowKit

def nullX : Ex := .mk 3 0 [] []
def negX : Ex := .mk 1 (-3) [] []
def nilX : Ex := .mk 0 0 [] []
def kidsE : Nat → List Ex
  | 0 => []
  | n + 1 => [negX, .mk (if n = 0 then 3 else 5) 0 [] (kidsE n)]
def eK (i : Nat) : Int := if i = 0 then 3 else 5
def eN (i : Nat) : Nat := if i = 0 then 0 else 2
def deepE (i : Nat) : Ex := .mk (eK i) 0 [] (kidsE i)
theorem kidsE_len (i : Nat) : (kidsE i).length = eN i := by cases i <;> rfl

def cK (i : Nat) : Int := if i = 0 then 1 else 5
def cA (i : Nat) : Int := if i = 0 then 3 else 0
def cN (i : Nat) : Nat := if i = 0 then 0 else 1
def kidsC : Nat → List Cn
  | 0 => []
  | n + 1 => [.mk (cK n) (.mk (cA n) 0 [] []) (.mk (cA n) 0 [] []) (kidsC n)]
def deepC (i : Nat) : Cn := .mk (cK i) (.mk (cA i) 0 [] []) (.mk (cA i) 0 [] []) (kidsC i)
theorem kidsC_len (i : Nat) : (kidsC i).length = cN i := by cases i <;> rfl

def deepS : Nat → St
  | 0 => .mk 10 0 0 [] [] [] nilX (deepC 0) [] [] [] []
  | n + 1 => .mk 9 0 0 [] [] [] nilX (deepC 0) [] [] [deepS n] []

def sAd (A : Option Addr) (n : Nat) : SAd := ⟨none, none, none, none, none, none, A, none, 0, 0, 0, 0, 0, 0, n, 0⟩

/-! what the functions say of them -/
section
variable {var : List UInt8 → Bool}

theorem vE_neg (d : Nat) : vE var 1125899906842624 (d + 1) negX = true := by
  show vE var 1125899906842624 (d + 1) (.mk 1 (-3) [] []) = true
  simp [vE, opsB, inR]

theorem vE_deep : ∀ (i d : Nat), vE var 1125899906842624 d (deepE i) = decide (i + 1 ≤ d) := by
  intro i
  induction i with
  | zero =>
    intro d
    cases d with
    | zero => rfl
    | succ d =>
      rw [decide_eq_true (by omega)]
      show vE var 1125899906842624 (d + 1) (.mk 3 0 [] []) = true
      simp [vE, opsB]
  | succ i ih =>
    intro d
    cases d with
    | zero => rfl
    | succ d =>
      have e : vE var 1125899906842624 (d + 1) (deepE (i + 1)) = (vE var 1125899906842624 d negX && vE var 1125899906842624 d (deepE i)) := by
        show vE var 1125899906842624 (d + 1) (.mk 5 0 [] [negX, deepE i]) = _
        simp [vE, opsB]
      rw [e, ih d]
      cases d with
      | zero => simp
      | succ d => rw [vE_neg, Bool.true_and]; simp

theorem vC_deep : ∀ (i d : Nat), vC var 1125899906842624 d (deepC i) = decide (i + 1 ≤ d) := by
  intro i
  induction i with
  | zero =>
    intro d
    cases d with
    | zero => rfl
    | succ d =>
      rw [decide_eq_true (by omega)]
      have e : vC var 1125899906842624 (d + 1) (deepC 0) = (vE var 1125899906842624 30 (deepE 0) && vE var 1125899906842624 30 (deepE 0)) := by
        show vC var 1125899906842624 (d + 1) (.mk 1 (deepE 0) (deepE 0) []) = _
        simp [vC]
      rw [e, vE_deep]
      rfl
  | succ i ih =>
    intro d
    cases d with
    | zero => rfl
    | succ d =>
      have e : vC var 1125899906842624 (d + 1) (deepC (i + 1)) = vC var 1125899906842624 d (deepC i) := by
        show vC var 1125899906842624 (d + 1) (.mk 5 nilX nilX [deepC i]) = _
        simp [vC, opsC, nilX, zX]
      rw [e, ih d]
      simp

theorem vS_deep (ex : Int) : ∀ (i d : Nat), vSs var 1125899906842624 ex d [deepS i] = decide (i + 1 ≤ d) := by
  have hc : vC var 1125899906842624 30 (deepC 0) = true := by rw [vC_deep]; rfl
  intro i
  induction i with
  | zero =>
    intro d
    cases d with
    | zero => rfl
    | succ d =>
      rw [decide_eq_true (by omega)]
      have e : vSs var 1125899906842624 ex (d + 1) [deepS 0] = vC var 1125899906842624 30 (deepC 0) := by
        show (false || (true && true && (vSt var 1125899906842624 ex (vSs var 1125899906842624 ex d) (.mk 10 0 0 [] [] [] nilX (deepC 0) [] [] [] []) && true))) = _
        simp only [Bool.false_or, Bool.true_and, Bool.and_true]
        show (true && (true && true && true) && true && vC var 1125899906842624 30 (deepC 0) && (true && true && true) && (true && true && true) && true && true) = _
        simp
      rw [e, hc]
  | succ i ih =>
    intro d
    cases d with
    | zero => rfl
    | succ d =>
      have e : vSs var 1125899906842624 ex (d + 1) [deepS (i + 1)] = (vC var 1125899906842624 30 (deepC 0) && vSs var 1125899906842624 ex d [deepS i]) := by
        show (false || (true && true && (vSt var 1125899906842624 ex (vSs var 1125899906842624 ex d) (.mk 9 0 0 [] [] [] nilX (deepC 0) [] [] [deepS i] []) && true))) = _
        simp only [Bool.false_or, Bool.true_and, Bool.and_true]
        show (true && (true && true && true) && true && vC var 1125899906842624 30 (deepC 0) && (true && true && true) && (true && true && true) && vSs var 1125899906842624 ex d [deepS i] && true) = _
        simp
      rw [e, hc, ih d]
      simp

theorem vF_deep (i : Nat) : vF var 1125899906842624 100 ⟨[], [⟨3, deepE i, deepE 0⟩], []⟩ = decide (i + 1 ≤ 30) := by
  have h0 : vE var 1125899906842624 30 (deepE 0) = true := by rw [vE_deep]; rfl
  have e : vF var 1125899906842624 100 ⟨[], [⟨3, deepE i, deepE 0⟩], []⟩ = (vE var 1125899906842624 30 (deepE i) && vE var 1125899906842624 30 (deepE 0)) := by
    unfold vF
    simp [vAt]
  rw [e, h0, vE_deep, Bool.and_true]
end

/-! where they lie -/
abbrev pairC (A : Option Addr) (i : Nat) : Array Value := #[.int .i64 1, .int .i64 (-3), .string ⟨#[]⟩, .slice none 0 0, .int .i64 (eK i), .int .i64 0, .string ⟨#[]⟩, .slice A (eN i) (eN i)]
abbrev cnC (A : Option Addr) (i : Nat) : Array Value := #[.int .i64 (cK i), .int .i64 (cA i), .int .i64 0, .string ⟨#[]⟩, .slice none 0 0, .int .i64 (cA i), .int .i64 0, .string ⟨#[]⟩, .slice none 0 0, .slice A (cN i) (cN i)]
abbrev exC (A : Option Addr) (i : Nat) : Array Value := #[.int .i64 (eK i), .int .i64 0, .string ⟨#[]⟩, .slice A (eN i) (eN i)]

inductive ChE (L : Nat) (w : World) : Nat → Option Addr → Prop
  | zero : ChE L w 0 none
  | succ (i b : Nat) (A : Option Addr) (h : ChE L w i A) (hL : L ≤ b) (hb : b < w.heap.size) (hg : w.heap[b]? = some (.cells (pairC A i) 24 (0, 0))) : ChE L w (i + 1) (some ⟨b, 0, none⟩)

inductive ChC (L : Nat) (w : World) : Nat → Option Addr → Prop
  | zero : ChC L w 0 none
  | succ (i b : Nat) (A : Option Addr) (h : ChC L w i A) (hL : L ≤ b) (hb : b < w.heap.size) (hg : w.heap[b]? = some (.cells (cnC A i) 27 (0, 0))) : ChC L w (i + 1) (some ⟨b, 0, none⟩)

inductive ChS (L : Nat) (w : World) : Nat → Option Addr → Prop
  | zero (b : Nat) (hL : L ≤ b) (hb : b < w.heap.size) (hg : w.heap[b]? = some (.cells (stCs (sAd none 0) (deepS 0)) 67 (0, 0))) : ChS L w 0 (some ⟨b, 0, none⟩)
  | succ (i b : Nat) (A : Option Addr) (h : ChS L w i A) (hL : L ≤ b) (hb : b < w.heap.size) (hg : w.heap[b]? = some (.cells (stCs (sAd A 1) (deepS (i + 1))) 67 (0, 0))) : ChS L w (i + 1) (some ⟨b, 0, none⟩)

theorem ChE.keep {L : Nat} {w w' : World} (hk : ∀ b, L ≤ b → b < w.heap.size → w'.heap[b]? = w.heap[b]?) (hs : w.heap.size ≤ w'.heap.size) {i : Nat} {A : Option Addr} (h : ChE L w i A) : ChE L w' i A := by
  induction h with
  | zero => exact .zero
  | succ i b A h hL hb hg ih => exact .succ i b A ih hL (Nat.lt_of_lt_of_le hb hs) ((hk b hL hb).trans hg)
theorem ChC.keep {L : Nat} {w w' : World} (hk : ∀ b, L ≤ b → b < w.heap.size → w'.heap[b]? = w.heap[b]?) (hs : w.heap.size ≤ w'.heap.size) {i : Nat} {A : Option Addr} (h : ChC L w i A) : ChC L w' i A := by
  induction h with
  | zero => exact .zero
  | succ i b A h hL hb hg ih => exact .succ i b A ih hL (Nat.lt_of_lt_of_le hb hs) ((hk b hL hb).trans hg)
theorem ChS.keep {L : Nat} {w w' : World} (hk : ∀ b, L ≤ b → b < w.heap.size → w'.heap[b]? = w.heap[b]?) (hs : w.heap.size ≤ w'.heap.size) {i : Nat} {A : Option Addr} (h : ChS L w i A) : ChS L w' i A := by
  induction h with
  | zero b hL hb hg => exact .zero b hL (Nat.lt_of_lt_of_le hb hs) ((hk b hL hb).trans hg)
  | succ i b A h hL hb hg ih => exact .succ i b A ih hL (Nat.lt_of_lt_of_le hb hs) ((hk b hL hb).trans hg)

theorem ChE.row {L : Nat} {w : World} {i : Nat} {A : Option Addr} (h : ChE L w i A) : ExRow w w.heap.size (kidsE i) A := by
  induction h with
  | zero => exact .nil _
  | succ i b A h hL hb hg ih =>
    have hg' : w.heap[b]? = some (.cells #[.int .i64 1, .int .i64 (-3), .string ⟨([] : List UInt8).toArray⟩, .slice none ([] : List Ex).length 0, .int .i64 (eK i), .int .i64 0, .string ⟨([] : List UInt8).toArray⟩, .slice A (kidsE i).length (eN i)] 24 (0, 0)) := by
      rw [kidsE_len]
      exact hg
    exact pair_row hg' (Nat.zero_le _) (Nat.zero_le _) (Nat.zero_le _) (by rw [kidsE_len]; unfold eN; split <;> decide) (.nil _) ih

theorem one_cond {W : World} {g : Nat} {k2 ak an : Int} {sa : List UInt8} {al : List Ex} {bk bn : Int} {sb : List UInt8} {bl : List Ex} {l2 : List Cn} {Aa : Option Addr} {ca : Nat} {Ab : Option Addr} {cb : Nat} {Al : Option Addr} {cl : Nat} (hg : W.heap[g]? = some (condC2 k2 ak an ⟨sa.toArray⟩ (.slice Aa al.length ca) bk bn ⟨sb.toArray⟩ (.slice Ab bl.length cb) (.slice Al l2.length cl)))
    (h1 : sa.length ≤ maxLen) (h2 : al.length ≤ maxLen) (h3 : sb.length ≤ maxLen) (h4 : bl.length ≤ maxLen) (h5 : l2.length ≤ maxLen) (ra : ExRow W W.heap.size al Aa) (rb : ExRow W W.heap.size bl Ab) (rl : CnRow W W.heap.size l2 Al) : CnRow W W.heap.size [.mk k2 (.mk ak an sa al) (.mk bk bn sb bl) l2] (some ⟨g, 0, none⟩) := by
  refine .row _ _ (fun _ => Aa) (fun _ => Ab) (fun _ => Al) (fun _ => ca) (fun _ => cb) (fun _ => cl) (Array.getElem?_eq_some_iff.1 hg).1 (fun i k ak an sa al bk bn sb bl l hi => ?_) (fun i k ak an sa al bk bn sb bl l hi => ?_)
  · match i, hi with
    | 0, hi =>
      injection hi with hi; injection hi with e1 e2 e3 e4
      injection e2 with f1 f2 f3 f4
      injection e3 with g1 g2 g3 g4
      subst e1 e4 f1 f2 f3 f4 g1 g2 g3 g4
      exact ⟨⟨by simp only [add_block0]; exact cell_of_block hg 0 rfl, by simp only [add_block0]; exact cell_of_block hg 1 rfl, by simp only [add_block0]; exact cell_of_block hg 2 rfl, by simp only [add_block0]; exact cell_of_block hg 3 rfl, by simp only [add_block0]; exact cell_of_block hg 4 rfl, by simp only [add_block0]; exact cell_of_block hg 5 rfl, by simp only [add_block0]; exact cell_of_block hg 6 rfl, by simp only [add_block0]; exact cell_of_block hg 7 rfl, by simp only [add_block0]; exact cell_of_block hg 8 rfl, by simp only [add_block0]; exact cell_of_block hg 9 rfl⟩, h1, h2, h3, h4, h5, ra, rb⟩
    | i + 1, hi => simp at hi
  · match i, hi with
    | 0, hi => injection hi with hi; injection hi with e1 e2 e3 e4; subst e4; exact rl
    | i + 1, hi => simp at hi

theorem ChC.row {L : Nat} {w : World} {i : Nat} {A : Option Addr} (h : ChC L w i A) : CnRow w w.heap.size (kidsC i) A := by
  induction h with
  | zero => exact .nil _
  | succ i b A h hL hb hg ih =>
    have hg' : w.heap[b]? = some (condC2 (cK i) (cA i) 0 ⟨([] : List UInt8).toArray⟩ (.slice none ([] : List Ex).length 0) (cA i) 0 ⟨([] : List UInt8).toArray⟩ (.slice none ([] : List Ex).length 0) (.slice A (kidsC i).length (cN i))) := by
      rw [kidsC_len]
      exact hg
    exact one_cond hg' (Nat.zero_le _) (Nat.zero_le _) (Nat.zero_le _) (Nat.zero_le _) (by rw [kidsC_len]; unfold cN; split <;> decide) (.nil _) (.nil _) ih

theorem one_stmt {W : World} {g : Nat} {s : St} {d : SAd} (hg : W.heap[g]? = some (.cells (stCs d s) 67 (0, 0))) (own : StOwn W W.heap.size d s) (r1 : StRow W W.heap.size s.body d.s) (r2 : StRow W W.heap.size s.els d.t) : StRow W W.heap.size [s] (some ⟨g, 0, none⟩) := by
  refine .row _ _ (fun _ => d) (Array.getElem?_eq_some_iff.1 hg).1 (fun i x hi => ?_) (fun i x hi => ?_) (fun i x hi => ?_)
  all_goals
    match i, hi with
    | 0, hi =>
      injection hi with hi
      subst hi
      first
        | exact r1
        | exact r2
        | exact ⟨fun j v hv => by rw [show (⟨g, 0, none⟩ : Addr).add (0 * 24) = ⟨g, 0, none⟩ by simp [Addr.add], add_block0]; exact cell_of_block hg j hv, own⟩
    | i + 1, hi => simp at hi

theorem deepS_own (w : World) (A : Option Addr) (n i : Nat) : StOwn w w.heap.size (sAd A n) (deepS i) := by
  have hm : ∀ n : Nat, n ≤ 1 → n ≤ maxLen := fun n h => Nat.le_trans h (by decide)
  cases i with
  | zero => exact ⟨⟨hm _ (by decide), hm _ (by decide), hm _ (by decide), hm _ (by decide), hm _ (by decide), hm _ (by decide), hm _ (by decide), hm _ (by decide), hm _ (by decide), hm _ (by decide), hm _ (by decide), hm _ (by decide), hm _ (Nat.zero_le _), hm _ (Nat.zero_le _)⟩, .nil _, .nil _, .nil _, .nil _, .nil _, .nil _⟩
  | succ i => exact ⟨⟨hm _ (by decide), hm _ (by decide), hm _ (by decide), hm _ (by decide), hm _ (by decide), hm _ (by decide), hm _ (by decide), hm _ (by decide), hm _ (by decide), hm _ (by decide), hm _ (by decide), hm _ (by decide), hm _ (Nat.le_refl _), hm _ (Nat.zero_le _)⟩, .nil _, .nil _, .nil _, .nil _, .nil _, .nil _⟩

theorem ChS.row {L : Nat} {w : World} {i : Nat} {A : Option Addr} (h : ChS L w i A) : StRow w w.heap.size [deepS i] A := by
  induction h with
  | zero b hL hb hg => exact one_stmt hg (deepS_own w none 0 0) (.nil _) (.nil _)
  | succ i b A h hL hb hg ih => exact one_stmt hg (deepS_own w A 1 (i + 1)) ih (.nil _)

/-- What the loop has built behind i rounds; N is the block of its first variable. -/
structure DeepAt (N : Nat) (w0 : World) (i : Nat) (A : Option Addr) (w : World) : Prop where
  below : Below N w0 w
  lt : N + 3 ≤ w.heap.size
  be : ∃ Ae, w.heap[N]? = some (.cells (exC Ae i) 24 (0, 0)) ∧ ChE (N + 3) w i Ae
  bc : w.heap[N + 1]? = some (.cells (cnC none 0) 27 (0, 0))
  bd : ∃ Ad, w.heap[N + 2]? = some (.cells (cnC Ad i) 27 (0, 0)) ∧ ChC (N + 3) w i Ad
  st : ChS (N + 3) w i A

theorem size_setRow (w : World) (g : Nat) (cs : Array Value) : (w.setRow g cs).heap.size = w.heap.size := by simp [World.setRow]

theorem setRow_off {w : World} {g k : Nat} {cs : Array Value} (h : k ≠ g) : (w.setRow g cs).heap[k]? = w.heap[k]? := by
  simp only [World.setRow, Array.getElem?_modify]
  rw [if_neg (by omega)]

theorem deep_step {N : Nat} {w0 : World} {i : Nat} {A Ae Ad : Option Addr} {w : World} (h : DeepAt N w0 i A w) (he : w.heap[N]? = some (.cells (exC Ae i) 24 (0, 0))) (hce : ChE (N + 3) w i Ae) (hd : w.heap[N + 2]? = some (.cells (cnC Ad i) 27 (0, 0))) (hcd : ChC (N + 3) w i Ad)
    (sv : Array Value) (hsv : sv = stCs (sAd A 1) (deepS (i + 1))) (W : World)
    (hW : W = ((((w.alloc (.cells (pairC Ae i) 24)).setRow N (exC (some ⟨w.heap.size, 0, none⟩) (i + 1))).alloc (.cells (cnC Ad i) 27)).setRow (N + 2) (cnC (some ⟨w.heap.size + 1, 0, none⟩) (i + 1)))) :
    DeepAt N w0 (i + 1) (some ⟨w.heap.size + 2, 0, none⟩) (W.alloc (.cells sv 67)) := by
  have hlt := h.lt
  have hz : W.heap.size = w.heap.size + 2 := by rw [hW, size_setRow, size_of_alloc, size_setRow, size_of_alloc]
  have hold : ∀ b, b < w.heap.size → b ≠ N → b ≠ N + 2 → (W.alloc (.cells sv 67)).heap[b]? = w.heap[b]? := fun b hb h1 h2 => by
    rw [Below.heap_alloc _ _ b (by rw [hz]; omega), hW, setRow_off h2, Below.heap_alloc _ _ b (by rw [size_setRow, size_of_alloc]; omega), setRow_off h1, Below.heap_alloc _ _ b hb]
  have hkeep : ∀ b, N + 3 ≤ b → b < w.heap.size → (W.alloc (.cells sv 67)).heap[b]? = w.heap[b]? := fun b h1 h2 => hold b h2 (by omega) (by omega)
  have hsz : (W.alloc (.cells sv 67)).heap.size = w.heap.size + 3 := by rw [size_of_alloc, hz]
  have hs : w.heap.size ≤ (W.alloc (.cells sv 67)).heap.size := by omega
  have hp : (W.alloc (.cells sv 67)).heap[w.heap.size]? = some (.cells (pairC Ae i) 24 (0, 0)) := by
    rw [Below.heap_alloc _ _ _ (by rw [hz]; omega), hW, setRow_off (by omega), Below.heap_alloc _ _ _ (by rw [size_setRow, size_of_alloc]; omega), setRow_off (by omega)]
    exact heap_of_alloc w _
  have hq : (W.alloc (.cells sv 67)).heap[w.heap.size + 1]? = some (.cells (cnC Ad i) 27 (0, 0)) := by
    rw [Below.heap_alloc _ _ _ (by rw [hz]; omega), hW, setRow_off (by omega)]
    have := heap_of_alloc ((w.alloc (.cells (pairC Ae i) 24)).setRow N (exC (some ⟨w.heap.size, 0, none⟩) (i + 1))) (.cells (cnC Ad i) 27)
    rwa [size_setRow, size_of_alloc] at this
  have hr : (W.alloc (.cells sv 67)).heap[w.heap.size + 2]? = some (.cells sv 67 (0, 0)) := by
    have := heap_of_alloc W (.cells sv 67)
    rwa [hz] at this
  refine ⟨?_, by omega, ⟨some ⟨w.heap.size, 0, none⟩, ?_, .succ i _ Ae (hce.keep hkeep hs) (by omega) (by omega) hp⟩, ?_, ⟨some ⟨w.heap.size + 1, 0, none⟩, ?_, .succ i _ Ad (hcd.keep hkeep hs) (by omega) (by omega) hq⟩, ?_⟩
  · rw [hW]
    have b1 : Below N w0 (w.alloc (.cells (pairC Ae i) 24)) := h.below.alloc (by omega) _
    have b2 := below_setRow b1 (Nat.le_refl N) (exC (some ⟨w.heap.size, 0, none⟩) (i + 1))
    have b3 := b2.alloc (by rw [size_setRow, size_of_alloc]; omega) (.cells (cnC Ad i) 27)
    have b4 := below_setRow b3 (show N ≤ N + 2 by omega) (cnC (some ⟨w.heap.size + 1, 0, none⟩) (i + 1))
    exact b4.alloc (by rw [size_setRow, size_of_alloc, size_setRow, size_of_alloc]; omega) _
  · rw [Below.heap_alloc _ _ _ (by rw [hz]; omega), hW, setRow_off (by omega), Below.heap_alloc _ _ _ (by rw [size_setRow, size_of_alloc]; omega)]
    exact setRow_heap _ _ _ _ _ _ (heap_keep he)
  · rw [hold _ (by omega) (by omega) (by omega)]
    exact h.bc
  · rw [Below.heap_alloc _ _ _ (by rw [hz]; omega), hW]
    have h4 : ((w.alloc (.cells (pairC Ae i) 24)).setRow N (exC (some ⟨w.heap.size, 0, none⟩) (i + 1))).heap[N + 2]? = some (.cells (cnC Ad i) 27 (0, 0)) := (setRow_off (by omega)).trans (heap_keep hd)
    exact setRow_heap _ _ _ _ _ _ (heap_keep h4)
  · refine .succ i _ A (h.st.keep hkeep hs) (by omega) (by omega) ?_
    rw [hr, hsv]

end Go.Proofs.YtkjfgbcbeabpgaaGreatDoor

namespace Go.Proofs.YtkjfgbcbeabpgaaGreatDoor
open Go.RowKit

theorem parts_laid {W : World} (h : laidMetH Tryz.prog Rows.treeDeepRow.laid W) : PartsAt W := by
  intro r hr
  rw [MakeChecks.laidMetH_plain _ _ _ (by kernel_rfl)] at h
  obtain ⟨ps, ⟨_, _, _, _, _, q0, _, _, _, _, ⟨g, t, cs, fuel, p, q, hg, ht, hv, hd, _, _⟩, _⟩, _, _⟩ := h
  obtain rfl := Option.some.inj ((show Tryz.prog.globalNamed "sepal/tree.partsOf" = some 0 by kernel_rfl).symm.trans hg)
  obtain rfl := Option.some.inj ((show (Tryz.prog.globals[0]?).map (·.type) = some 211 by kernel_rfl).symm.trans ht)
  obtain ⟨xs, m, _, ex, _, hl, hel⟩ := DataW.trod_array Tryz.underlying211 hd
  have c5 : Tryz.prog.cellsOf 210 = 1 := by kernel_rfl
  have hE := hel r hr
  rw [c5, Nat.mul_one, List.getElem?_eq_getElem (by omega)] at hE
  obtain ⟨z, e1, e2, _⟩ := DataW.trod_int Tryz.underlying210 hE
  have hlen : partsL.length = 13 := rfl
  have e3 : (xs.map (·.1)) = partsL.map fun n => (DataW.lit (.int .i64 n) : DataW Unit) := (DataW.agg.inj (Prod.mk.inj ex).1).symm
  have e4 : (xs.map (·.1))[r]? = (partsL.map fun n => (DataW.lit (.int .i64 n) : DataW Unit))[r]? := by rw [e3]
  rw [List.getElem?_map, List.getElem?_map, List.getElem?_eq_getElem (by omega : r < xs.length), List.getElem?_eq_getElem (by omega : r < partsL.length), e2] at e4
  have hz : z = partsL.getD r 0 := by
    simp only [Option.map_some, Option.some.injEq, DataW.lit.injEq, Lit.int.injEq, true_and] at e4
    rw [e4, List.getD, List.getElem?_eq_getElem (by omega : r < partsL.length)]; rfl
  rw [World.var?_cell hg hv r, ← hz]
  have : cs.toList[r]? = some (.int .i64 z) := by
    have h0 : ((cs.toList.drop r).take 1)[0]? = some (.int .i64 z) := by rw [e1]; rfl
    simpa using h0
  simpa using this

theorem wpList_value {P : Program} {ops : Array Oper} {rest : List Oper} {o : Oper} {a : Act} {w : World} {Q : Exit → Act → World → Prop} (d : Nat) (_hd : o.dst = some d) (hg : o.guard = none) (v : Value) (hrun : (execOp a.eval o).run P w = .ok (.value v) w)
    (hK : wpList P ops Q rest (a.put o.dst v) w) : wpList P ops Q (o :: rest) a w := wpList_plain hg fun K hK' => by
  unfold Oper.wp
  rw [hrun]
  exact hK' _ _ hK

/-- A slice literal of one statement. -/
theorem wpList_srow {ops : Array Oper} {rest : List Oper} {o : Oper} {a : Act} {w : World} {Q : Exit → Act → World → Prop} (d : Nat) (hd : o.dst = some d) (hg : o.guard = none) (x : Operand) (ho : o.op = .buildSlice 42 1 #[(0, x)]) (sv : Array Value) (h24 : sv.size = 24) (hx : a.eval x = .agg sv)
    (h : wpList Tryz.prog ops Q rest (a.put (some d) (.slice (some ⟨w.heap.size, 0, none⟩) 1 1)) (w.alloc (.cells sv 67))) : wpList Tryz.prog ops Q (o :: rest) a w := by
  obtain ⟨i0, hi, hiz, his, hib⟩ := info_parts infoStmt
  rw [← hd] at h
  refine wpList_buildSlice hg 42 67 1 _ ho sv i0 _ Tryz.underlying42 hi hiz (by rw [his]; omega) (by rw [his]; omega) ?_ h
  have e : (#[(0, x)].map fun (i, x) => (i, a.eval x)).toList = (([sv].map Value.agg).zipIdx 0).map fun x => (x.2, x.1) := by simp [hx]
  rw [e, fill_rows i0.size his _ [sv] (fun c hc => by rw [List.mem_singleton.1 hc]; exact h24) (by simp [his])]
  simp [flatC]

theorem deep_start (w0 : World) (sv : Array Value) (hsv : sv = stCs (sAd none 0) (deepS 0)) (A : Option Addr) (hA : A = some ⟨w0.heap.size + 3, 0, none⟩) :
    DeepAt w0.heap.size w0 0 A ((((w0.alloc (.cells (exC none 0) 24)).alloc (.cells (cnC none 0) 27)).alloc (.cells (cnC none 0) 27)).alloc (.cells sv 67)) := by
  have g0 := heap_keep (o := .cells sv 67) (heap_keep (o := .cells (cnC none 0) 27) (heap_keep (o := .cells (cnC none 0) 27) (heap_of_alloc w0 (.cells (exC none 0) 24))))
  have g1 := heap_keep (o := .cells sv 67) (heap_keep (o := .cells (cnC none 0) 27) (heap_of_alloc (w0.alloc (.cells (exC none 0) 24)) (.cells (cnC none 0) 27)))
  have g2 := heap_keep (o := .cells sv 67) (heap_of_alloc ((w0.alloc (.cells (exC none 0) 24)).alloc (.cells (cnC none 0) 27)) (.cells (cnC none 0) 27))
  have g3 := heap_of_alloc (((w0.alloc (.cells (exC none 0) 24)).alloc (.cells (cnC none 0) 27)).alloc (.cells (cnC none 0) 27)) (.cells sv 67)
  simp only [size_of_alloc] at g1 g2 g3
  subst hA
  refine ⟨(((below_alloc _ _).chain (below_alloc _ _)).chain (below_alloc _ _)).chain (below_alloc _ _), by simp only [size_of_alloc]; omega, ⟨none, g0, .zero⟩, g1, ⟨none, g2, .zero⟩, .zero _ (Nat.le_refl _) (by simp only [size_of_alloc]; omega) (by rw [← hsv]; exact g3)⟩

theorem cn_cells {W : World} {n i : Nat} {A : Option Addr} (h : W.heap[n + 2]? = some (.cells (cnC A i) 27 (0, 0))) :
    W.cell? ⟨n + 1 + 1, 0, none⟩ = some (.int .i64 (cK i)) ∧ W.cell? ⟨n + 1 + 1, 1, none⟩ = some (.int .i64 (cA i)) ∧ W.cell? ⟨n + 1 + 1, 2, none⟩ = some (.int .i64 0) ∧ W.cell? ⟨n + 1 + 1, 3, none⟩ = some (.string ⟨#[]⟩) ∧ W.cell? ⟨n + 1 + 1, 4, none⟩ = some (.slice none 0 0) ∧
      W.cell? ⟨n + 1 + 1, 5, none⟩ = some (.int .i64 (cA i)) ∧ W.cell? ⟨n + 1 + 1, 6, none⟩ = some (.int .i64 0) ∧ W.cell? ⟨n + 1 + 1, 7, none⟩ = some (.string ⟨#[]⟩) ∧ W.cell? ⟨n + 1 + 1, 8, none⟩ = some (.slice none 0 0) ∧ W.cell? ⟨n + 1 + 1, 9, none⟩ = some (.slice A (cN i) (cN i)) :=
  ⟨cell_of_block h 0 rfl, cell_of_block h 1 rfl, cell_of_block h 2 rfl, cell_of_block h 3 rfl, cell_of_block h 4 rfl, cell_of_block h 5 rfl, cell_of_block h 6 rfl, cell_of_block h 7 rfl, cell_of_block h 8 rfl, cell_of_block h 9 rfl⟩

set_option maxRecDepth 100000 in
set_option maxHeartbeats 8000000 in
theorem deep_law (x0 : Int) (h0 : 0 ≤ x0 ∧ x0 ≤ 255) (w : World) (hp : PartsAt w) : Calls Tryz.prog 8 #[.int .u8 x0] w fun e w' => e = .returned (.bool true) ∧ Below w.heap.size w w' := by
  have HAw : Hid (∀ W, Calls Tryz.prog 9 #[] W fun e w' => e = .returned (.bool true) ∧ Below W.heap.size W w') := Lib.hid awake_any
  have HP := Lib.hid hp
  obtain ⟨sv0, hsv0⟩ : ∃ sv, sv = stCs (sAd none 0) (deepS 0) := ⟨_, rfl⟩
  have h24 : sv0.size = 24 := by rw [hsv0]; exact stCs_size _ _
  have HS0 := Lib.hid hsv0
  obtain ⟨hx0, hx1⟩ := h0
  clear hp hsv0
  go_enter Tryz.func8, Tryz.ntmps8
  go_wp2_with (first
    | (go_at_call 9; refine (HAw.out _).mono ?_; rintro e w2 ⟨rfl, hb2⟩; have HB2 := Lib.hid hb2; clear hb2)
    | (refine wpList_value 21 rfl rfl (.agg sv0) (by rw [HS0.out]; kernel_rfl) ?_)
    | (refine wpList_srow 22 rfl rfl (.tmp 21) rfl sv0 h24 rfl ?_))
  obtain ⟨kk, hkk⟩ : ∃ kk : Nat, x0 % 60 = kk := ⟨(x0 % 60).toNat, by omega⟩
  have hk60 : kk < 60 := by omega
  rw [hkk]
  clear hkk
  go_loopg [7, 24] kk (fun m sl j wr => ∃ (i : Nat) (A : Option Addr), m = kk - i ∧ i ≤ kk ∧ j = .int .i64 i ∧ sl = .slice A 1 1 ∧ Hid (DeepAt w2.heap.size w2 i A wr))
  case atStart => exact ⟨0, _, rfl, Nat.zero_le _, rfl, rfl, Lib.hid (deep_start w2 sv0 HS0.out _ rfl)⟩
  case round =>
    obtain ⟨i, A, rfl, hi, rfl, rfl, HI⟩ := hrel
    obtain ⟨Ae, he, hce⟩ := HI.out.be
    obtain ⟨Ad, hd, hcd⟩ := HI.out.bd
    have hbc := HI.out.bc
    have hlt3 := HI.out.lt
    by_cases hlt : i < kk
    · have hki : (i : Int) < kk := by omega
      obtain ⟨sv, hsv⟩ : ∃ sv, sv = stCs (sAd A 1) (deepS (i + 1)) := ⟨_, rfl⟩
      have h24s : sv.size = 24 := by rw [hsv]; exact stCs_size _ _
      have HS1 := Lib.hid hsv
      have HC := Lib.hid (And.intro he (And.intro hce (And.intro hd (And.intro hcd hbc))))
      have HLT := Lib.hid (And.intro trivial hlt)
      clear hsv hce hcd he hd hbc
      go_wp2_with (first
        | (refine wpList_load_row rfl 24 (.tmp 4) rfl w2.heap.size rfl 24 (exC Ae i) (0, 0) _ HC.out.1 Tryz.underlying24 rfl (by kernel_rfl) ?_)
        | (refine wpList_store_row rfl 24 (.tmp 4) (.tmp 29) rfl w2.heap.size (exC (some ⟨wr.heap.size, 0, none⟩) (i + 1)) rfl rfl 24 (exC Ae i) (heap_keep HC.out.1) (by kernel_rfl) rfl (by kernel_rfl) ?_)
        | (refine wpList_load_row rfl 27 (.tmp 6) rfl (w2.heap.size + 2) rfl 27 (cnC Ad i) (0, 0) _ ((setRow_off (by omega)).trans (heap_keep HC.out.2.2.1)) Tryz.underlying27 rfl (by kernel_rfl) ?_)
        | (refine wpList_store_row rfl 27 (.tmp 6) (.tmp 32) rfl (w2.heap.size + 2) (cnC (some ⟨wr.heap.size + 1, 0, none⟩) (i + 1)) rfl rfl 27 (cnC Ad i) (heap_keep ((setRow_off (by omega)).trans (heap_keep HC.out.2.2.1))) (by kernel_rfl) rfl (by kernel_rfl) ?_)
        | (refine wpList_load_row rfl 27 (.tmp 5) rfl (w2.heap.size + 1) rfl 27 (cnC none 0) (0, 0) _ ((setRow_off (by omega)).trans (heap_keep ((setRow_off (by omega)).trans (heap_keep HC.out.2.2.2.2)))) Tryz.underlying27 rfl (by kernel_rfl) ?_)
        | (refine wpList_value 35 rfl rfl (.agg sv) (by rw [HS1.out]; kernel_rfl) ?_)
        | (refine wpList_srow 36 rfl rfl (.tmp 35) rfl sv h24s rfl ?_))
      go_roundg (kk - (i + 1))
      case measure => have := HLT.out.2; omega
      case rel => exact ⟨i + 1, _, rfl, (by have := HLT.out.2; omega), by go_num, rfl, Lib.hid (deep_step HI.out HC.out.1 HC.out.2.1 HC.out.2.2.1 HC.out.2.2.2.1 sv HS1.out _ rfl)⟩
    · obtain rfl : i = kk := by omega
      have hbelow := HI.out.below
      have HEx : Hid (∀ W, Below wr.heap.size wr W → Calls Tryz.prog 12 #[.agg (exC Ae i)] W fun e w' => e = .returned (.bool (decide (i + 1 ≤ 30))) ∧ Below W.heap.size W w') := Lib.hid (fun W hb => by
        have := texpr_any (eK i) 0 [] (kidsE i) Ae (eN i) W (hce.row.on hb) (Nat.zero_le _) (by rw [kidsE_len]; unfold eN; split <;> decide)
        rw [kidsE_len, show vE varB 1125899906842624 30 (.mk (eK i) 0 [] (kidsE i)) = decide (i + 1 ≤ 30) from vE_deep i 30] at this
        exact this)
      have HCn : Hid (∀ W, Below wr.heap.size wr W → Calls Tryz.prog 14 #[.agg (cnC Ad i)] W fun e w' => e = .returned (.bool (decide (i + 1 ≤ 30))) ∧ Below W.heap.size W w') := Lib.hid (fun W hb => by
        have := tcond_any (cK i) (cA i) 0 [] [] (cA i) 0 [] [] (kidsC i) none 0 none 0 Ad (cN i) W (.nil _) (.nil _) (hcd.row.on hb) (Nat.zero_le _) (Nat.zero_le _) (Nat.zero_le _) (Nat.zero_le _) (by rw [kidsC_len]; unfold cN; split <;> decide)
        rw [kidsC_len, show vC varB 1125899906842624 30 (.mk (cK i) (.mk (cA i) 0 [] []) (.mk (cA i) 0 [] []) (kidsC i)) = decide (i + 1 ≤ 30) from vC_deep i 30] at this
        exact this)
      have HSt : Hid (∀ W, Below wr.heap.size wr W → Calls Tryz.prog 20 #[.slice A 1 1] W fun e w' => e = .returned (.bool (decide (i + 1 ≤ 30))) ∧ Below W.heap.size W w') := Lib.hid (fun W hb => by
        have := tstmts_any [deepS i] A 1 W ((HP.out.on (HB2.out.chain hbelow)).on hb) (HI.out.st.row.on hb) (show 1 ≤ maxLen by decide)
        rw [vS_deep] at this
        exact this)
      obtain ⟨Wf, hWf⟩ : ∃ Wf, Wf = (wr.alloc (.cells #[.int .i64 3, .int .i64 (eK i), .int .i64 0, .string ⟨#[]⟩, .slice Ae (eN i) (eN i), .int .i64 3, .int .i64 0, .string ⟨#[]⟩, .slice none 0 0] 69)).alloc (.cells #[.slice none 0 0, .slice (some ⟨wr.heap.size, 0, none⟩) 1 1, .slice none 0 0] 38) := ⟨_, rfl⟩
      have hbf : Below wr.heap.size wr Wf := by rw [hWf]; exact (below_alloc _ _).chain (below_alloc _ _)
      have hat : Wf.heap[wr.heap.size]? = some (.cells #[.int .i64 3, .int .i64 (eK i), .int .i64 0, .string ⟨#[]⟩, .slice Ae (eN i) (eN i), .int .i64 3, .int .i64 0, .string ⟨#[]⟩, .slice none 0 0] 69 (0, 0)) := by rw [hWf]; exact heap_keep (heap_of_alloc wr _)
      have hfm : Wf.heap[wr.heap.size + 1]? = some (.cells #[.slice none 0 0, .slice (some ⟨wr.heap.size, 0, none⟩) 1 1, .slice none 0 0] 38 (0, 0)) := by
        rw [hWf]
        have := heap_of_alloc (wr.alloc (.cells #[.int .i64 3, .int .i64 (eK i), .int .i64 0, .string ⟨#[]⟩, .slice Ae (eN i) (eN i), .int .i64 3, .int .i64 0, .string ⟨#[]⟩, .slice none 0 0] 69)) (.cells #[.slice none 0 0, .slice (some ⟨wr.heap.size, 0, none⟩) 1 1, .slice none 0 0] 38)
        rwa [size_of_alloc] at this
      have HFm : Hid (∀ W, Below Wf.heap.size Wf W → Calls Tryz.prog 17 #[formulaV (.slice none 0 0) (.slice (some ⟨wr.heap.size, 0, none⟩) 1 1) (.slice none 0 0)] W fun e w' => e = .returned (.bool (decide (i + 1 ≤ 30))) ∧ Below W.heap.size W w') := Lib.hid (fun W hb => by
        have hat2 := kept_box hb hat
        have ra : AtRow W W.heap.size [⟨3, deepE i, deepE 0⟩] (some ⟨wr.heap.size, 0, none⟩) := by
          refine .row _ _ (Array.getElem?_eq_some_iff.1 hat2).1 (fun j x hj => ?_)
          match j, hj with
          | 0, hj =>
            injection hj with hj
            subst hj
            refine ⟨eK i, 0, [], kidsE i, 3, 0, [], [], Ae, eN i, none, 0, rfl, rfl, ?_, ⟨Nat.zero_le _, by rw [kidsE_len]; unfold eN; split <;> decide, Nat.zero_le _, Nat.zero_le _⟩, hce.row.on (hbf.chain hb), .nil _⟩
            rw [kidsE_len, show (⟨wr.heap.size, 0, none⟩ : Addr).add (0 * 9) = ⟨wr.heap.size, 0, none⟩ by simp [Addr.add]]
            exact ⟨cell_of_block hat2 0 rfl, by rw [add_block0]; exact cell_of_block hat2 1 rfl, by rw [add_block0]; exact cell_of_block hat2 2 rfl, by rw [add_block0]; exact cell_of_block hat2 3 rfl, by rw [add_block0]; exact cell_of_block hat2 4 rfl, by rw [add_block0]; exact cell_of_block hat2 5 rfl, by rw [add_block0]; exact cell_of_block hat2 6 rfl, by rw [add_block0]; exact cell_of_block hat2 7 rfl, by rw [add_block0]; exact cell_of_block hat2 8 rfl⟩
          | j + 1, hj => simp at hj
        have := tformula_any ⟨[], [⟨3, deepE i, deepE 0⟩], []⟩ none 0 (some ⟨wr.heap.size, 0, none⟩) 1 none 0 W (Nat.zero_le _) (show 1 ≤ maxLen by decide) (Nat.zero_le _) (.nil _) ra (.nil _)
        rw [vF_deep] at this
        exact this)
      have HBf := Lib.hid (And.intro hbf (HB2.out.chain (hbelow.chain hbf)))
      have HQ := Lib.hid (And.intro he (And.intro (kept_box hbf he) (And.intro (kept_box hbf hd) hfm)))
      rw [hWf] at HQ
      clear he hce hd hcd hbc hlt3 hbelow hbf hat hfm HI
      obtain ⟨b, hb⟩ : ∃ b, b = decide (i + 1 ≤ 30) := ⟨_, rfl⟩
      rw [← hb] at HEx HCn HSt HFm
      have hcase : (b = true ∧ (i : Int) + 1 ≤ 30) ∨ (b = false ∧ ¬ (i : Int) + 1 ≤ 30) := by
        by_cases h : i + 1 ≤ 30
        · exact Or.inl ⟨by rw [hb]; exact decide_eq_true h, by omega⟩
        · exact Or.inr ⟨by rw [hb]; exact decide_eq_false h, by omega⟩
      clear hb
      rcases hcase with ⟨rfl, hle⟩ | ⟨rfl, hle⟩
      all_goals
        go_wp2_with (first
        | (refine wpList_load_row rfl 24 (.tmp 4) rfl w2.heap.size rfl 24 (exC Ae i) (0, 0) _ HQ.out.1 Tryz.underlying24 rfl (by kernel_rfl) ?_)
        | (refine wpList_load_row rfl 24 (.tmp 4) rfl w2.heap.size rfl 24 (exC Ae i) (0, 0) _ HQ.out.2.1 Tryz.underlying24 rfl (by kernel_rfl) ?_)
        | (go_at_call 12; rw [← hWf]; refine (HEx.out _ HBf.out.1).mono ?_; rintro e w5 ⟨rfl, hb5⟩; rw [← hWf] at HQ; clear hWf; have HB5 := Lib.hid hb5; obtain ⟨t0, t1, t2, t3, t4, t5, t6, t7, t8, t9⟩ := cn_cells (kept_box hb5 HQ.out.2.2.1); clear hb5)
        | (go_at_call 14; refine (HCn.out _ (HBf.out.1.chain HB5.out)).mono ?_; rintro e w6 ⟨rfl, hb6⟩; have HB6 := Lib.hid (HB5.out.chain hb6); clear hb6)
        | (go_at_call 20; refine (HSt.out _ (HBf.out.1.chain HB6.out)).mono ?_; rintro e w7 ⟨rfl, hb7⟩; have HB7 := Lib.hid (HB6.out.chain hb7); obtain ⟨u0, u1, u2⟩ := box3f (kept_box HB7.out HQ.out.2.2.2); clear hb7)
        | (go_at_call 17; refine (HFm.out _ HB7.out).mono ?_; rintro e w8 ⟨rfl, hb8⟩; have HB8 := Lib.hid (HB7.out.chain hb8); clear hb8))
      all_goals go_ret
      all_goals exact ⟨rfl, HBf.out.2.chain HB8.out⟩

end Go.Proofs.YtkjfgbcbeabpgaaGreatDoor
