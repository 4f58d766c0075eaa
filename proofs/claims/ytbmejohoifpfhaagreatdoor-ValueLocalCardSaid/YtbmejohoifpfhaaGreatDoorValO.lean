/-
  Rows of bindings that a call owns.
-/
import Derived.Test.YtbmejohoifpfhaaGreatDoorValE
import Derived.Test.YtbmejohoifpfhaaGreatDoorMemIg
import Derived.WalkSpells
import Derived.Outline
namespace Go.Proofs.YtbmejohoifpfhaaGreatDoor
open Go.RowKit

theorem infoBd : (Tryz.prog.info? 38).map (fun i => (i.zero, i.size, i.bytes)) = some (some (.agg #[.string ⟨#[]⟩, .int .i64 0]), 2, 24) := by kernel_rfl

def cells2 (x : Bd) : List Value := [.string ⟨x.n.toArray⟩, .int .i64 x.v]

def cellsB (L : List Bd) : List Value := L.flatMap cells2

theorem cellsB_nil : cellsB [] = [] := rfl
theorem cellsB_cons (p : Bd) (L : List Bd) : cellsB (p :: L) = cells2 p ++ cellsB L := rfl
theorem cellsB_append (L M : List Bd) : cellsB (L ++ M) = cellsB L ++ cellsB M := List.flatMap_append ..

theorem cellsB_len : ∀ (L : List Bd), (cellsB L).length = L.length * 2
  | [] => rfl
  | p :: L => by
    rw [cellsB_cons, List.length_append, cellsB_len L, List.length_cons, show (cells2 p).length = 2 from rfl]
    omega

theorem cellsB_take : ∀ (k : Nat) (L : List Bd), (cellsB L).take (k * 2) = cellsB (L.take k)
  | 0, L => by simp [cellsB]
  | k + 1, [] => by simp [cellsB]
  | k + 1, p :: L => by
    rw [cellsB_cons, List.take_succ_cons, cellsB_cons, List.take_append, ← cellsB_take k L, show (cells2 p).length = 2 from rfl, show (k + 1) * 2 - 2 = k * 2 by omega]
    rw [List.take_of_length_le (by rw [show (cells2 p).length = 2 from rfl]; omega)]

theorem cellsB_drop : ∀ (k : Nat) (L : List Bd), (cellsB L).drop (k * 2) = cellsB (L.drop k)
  | 0, L => by simp
  | k + 1, [] => by simp [cellsB]
  | k + 1, p :: L => by
    rw [cellsB_cons, List.drop_succ_cons, List.drop_append, ← cellsB_drop k L, show (cells2 p).length = 2 from rfl, show (k + 1) * 2 - 2 = k * 2 by omega]
    rw [List.drop_of_length_le (by rw [show (cells2 p).length = 2 from rfl]; omega), List.nil_append]

theorem cellsB_get {L : List Bd} {k : Nat} {p : Bd} (h : L[k]? = some p) (j : Nat) (hj : j < 2) : (cellsB L)[k * 2 + j]? = (cells2 p)[j]? := by
  have h1 : (cellsB L)[k * 2 + j]? = ((cellsB L).drop (k * 2))[j]? := by rw [List.getElem?_drop]
  rw [h1, cellsB_drop]
  have hk := (List.getElem?_eq_some_iff.1 h).1
  have h2 : L.drop k = p :: L.drop (k + 1) := by
    rw [List.drop_eq_getElem_cons hk]
    congr 1
    exact (List.getElem?_eq_some_iff.1 h).2
  rw [h2, cellsB_cons, List.getElem?_append_left (by rw [show (cells2 p).length = 2 from rfl]; exact hj)]

theorem cells2_one (p : Bd) : ∀ u ∈ cells2 p, u.oneCell' = true := by
  intro u hu
  simp only [cells2, List.mem_cons, List.not_mem_nil, or_false] at hu
  rcases hu with rfl | rfl <;> rfl

theorem cellsB_one (L : List Bd) : ∀ u ∈ cellsB L, u.oneCell' = true := by
  intro u hu
  obtain ⟨p, _, hp⟩ := List.mem_flatMap.1 hu
  exact cells2_one p u hp

/-- A store into the value of the binding at index k. -/
theorem cellsB_set (L : List Bd) (k : Nat) (hk : k < L.length) (v : Int) : (cellsB L).set (k * 2 + 1) (.int .i64 v) = cellsB (L.take k ++ ⟨(L[k]).n, v⟩ :: L.drop (k + 1)) := by
  have hl : (L.take k).length = k := by rw [List.length_take]; omega
  have hc : (cellsB (L.take k)).length = k * 2 := by rw [cellsB_len, hl]
  have e : cellsB L = cellsB (L.take k) ++ (.string ⟨(L[k]).n.toArray⟩ :: .int .i64 (L[k]).v :: cellsB (L.drop (k + 1))) := by
    conv => lhs; rw [← List.take_append_drop k L, List.drop_eq_getElem_cons hk]
    rw [cellsB_append, cellsB_cons]; rfl
  rw [e, cellsB_append, cellsB_cons, ← hc]
  simp [cells2]

/-- Row v of the call's own holds these bindings. -/
def OwnB (w : World) (B0 : Nat) (v : Value) (L : List Bd) : Prop := w.ownsRow B0 38 2 v L.length (cellsB L) ∧ ∀ x ∈ L, x.n.length ≤ maxLen

theorem OwnB.form {w : World} {B0 : Nat} {v : Value} {L : List Bd} (h : OwnB w B0 v L) : ∃ A c, v = .slice A L.length c := by
  rcases h.1.2 with ⟨hv, hn⟩ | ⟨g, cap, cur, hv, _⟩
  · exact ⟨none, 0, by rw [hv, hn]⟩
  · exact ⟨_, _, hv⟩

theorem OwnB.later {w w' : World} {B0 : Nat} {v : Value} {L : List Bd} (h : OwnB w B0 v L) (hb : Below w.heap.size w w') : OwnB w' B0 v L :=
  ⟨own_below h.1 hb (fun g hg => (own_lt h.1 g hg).2), h.2⟩

theorem OwnB.row {w : World} {B0 : Nat} {A : Option Addr} {c : Nat} {L : List Bd} (h : OwnB w B0 (.slice A L.length c) L) : BdRow w w.heap.size L A := by
  have hr := Reads.of_own h.1
  cases L with
  | nil => exact .nil _
  | cons y L0 =>
    obtain ⟨ad, rfl, hb, hc⟩ := hr.2 (by simp)
    refine .row ad _ hb (fun i x hi => ?_)
    exact ⟨hc (i * 2) _ (by rw [show i * 2 = i * 2 + 0 by omega, cellsB_get hi 0 (by omega)]; rfl), by rw [add_of_add]; exact hc _ _ (by rw [cellsB_get hi 1 (by omega)]; rfl), h.2 x (List.mem_of_getElem? hi)⟩

theorem bd_reads {w : World} {B : Nat} {A : Option Addr} {L : List Bd} (h : BdRow w B L A) : Reads w B 2 A L.length (cellsB L) := by
  refine ⟨cellsB_len L, fun h0 => ?_⟩
  cases h with
  | nil => simp at h0
  | row a es hb cells =>
    refine ⟨a, rfl, hb, fun j u hu => ?_⟩
    have hj : j < L.length * 2 := by
      have := (List.getElem?_eq_some_iff.1 hu).1
      rwa [cellsB_len] at this
    have hk : j / 2 < L.length := by omega
    obtain ⟨x, hx⟩ := bd_ex hk
    obtain ⟨k0, k1, _⟩ := cells (j / 2) _ hx
    have hg := cellsB_get hx (j % 2) (by omega)
    rw [show j / 2 * 2 + j % 2 = j by omega, hu] at hg
    have h3 : j % 2 < 2 := by omega
    match hm : j % 2, h3, hg with
    | 0, _, hg => obtain rfl := Option.some.inj hg; rw [show j = j / 2 * 2 by omega]; exact k0
    | 1, _, hg => obtain rfl := Option.some.inj hg; rw [show j = j / 2 * 2 + 1 by omega, ← add_of_add]; exact k1

theorem bd_lens {w : World} {B : Nat} {A : Option Addr} {L : List Bd} (h : BdRow w B L A) : ∀ x ∈ L, x.n.length ≤ maxLen := by
  intro x hx
  obtain ⟨i, hi⟩ := List.getElem?_of_mem hx
  obtain ⟨a, _, _, _, _, h3⟩ := h.at_ hi
  exact h3

/-- Behind a function that returns a row of its own. -/
def RowPost (B0 : Nat) (L : List Bd) (w : World) (e : Ending) (w' : World) : Prop := ∃ v, e = .returned v ∧ OwnB w' B0 v L ∧ Below B0 w w'

set_option maxRecDepth 100000 in
set_option maxHeartbeats 1000000 in
theorem cloneB_any (A : Option Addr) (c n : Nat) (L : List Bd) (hn : n = L.length) (hb : n ≤ 1000) (w : World) (hA : BdRow w w.heap.size L A) :
    Calls Tryz.prog 21 #[.slice A n c] w (RowPost w.heap.size L w) := by
  have HF := Lib.hid (And.intro hA (And.intro hn hb))
  clear hA hn hb
  cases A with
  | none =>
    have h0 : L = [] := by
      cases h : L with
      | nil => rfl
      | cons y L0 =>
        obtain ⟨a, ha, _⟩ := HF.out.1.at_ (i := 0) (x := y) (by rw [h]; rfl)
        cases ha
    obtain rfl : n = 0 := by have := HF.out.2.1; rw [h0] at this; exact this
    have hq := Lib.run_eql_slice_nil (P := Tryz.prog) w 22 38 none 0 c 0 0 Tryz.underlying22
    go_enter Tryz.func21, Tryz.ntmps21
    go_wp2
    go_ret
    exact ⟨.slice none 0 0, rfl, by rw [h0]; exact ⟨World.ownsRow_nil _ _ _ 2, fun x hx => (by cases hx)⟩, Below.refl _ _⟩
  | some a =>
    obtain ⟨i0, hi, hiz, his, hib⟩ := info_parts infoBd
    have HR := Lib.hid (And.intro (World.ownsRow_made w #[] 0 (base := w.heap.size) (e := 38) (size := 2) (Nat.le_refl _) (by unfold maxLen; omega) rfl) ((bd_reads HF.out.1).alloc (Nat.le_refl _) (.cells #[] 38)))
    have HI := Lib.hid (And.intro hi (And.intro hiz (And.intro his hib)))
    clear hi hiz his hib
    have hq := Lib.run_eql_slice_nil (P := Tryz.prog) w 22 38 (some a) n c 0 0 Tryz.underlying22
    go_enter Tryz.func21, Tryz.ntmps21
    go_wp2_with (at_builtin; refine wpList_append_any _ rfl _ _ 22 rfl w.heap.size 38 i0 _ 2 24 Tryz.underlying22 HI.out.1 HI.out.2.1 HI.out.2.2.1 HI.out.2.2.2 rfl (by decide) _ 0 [] rfl HR.out.1 w.heap.size (some a) n c (cellsB L) rfl (HF.out.2.1 ▸ HR.out.2) (cellsB_one L) (by have := HF.out.2.2; unfold maxLen; omega) (by have := HF.out.2.2; omega) (by rw [size_of_alloc]; omega) ?_; intro v' w2 hown hgrow hat; have HO := Lib.hid (And.intro hown (And.intro hgrow hat)); clear hown hgrow hat)
    go_ret
    have hb : Below w.heap.size w w2 := ((below_alloc w _).trans (below_grown HR.out.1 HO.out.2.1 (by rw [size_of_alloc]; omega)))
    exact ⟨_, rfl, ⟨by have := HO.out.1; rw [Nat.zero_add, List.nil_append, HF.out.2.1] at this; exact this, bd_lens HF.out.1⟩, hb⟩

end Go.Proofs.YtbmejohoifpfhaaGreatDoor
