/-
  Arguments of type []api.Block and []int, opened: their blocks, and what they weigh.
-/
import Derived.Test.YtbmejohoifpfhaaMemP
import Derived.Deep.Slices
import Derived.ChangeSame
import Derived.ChangeSlices
import GoSem.ClaimJoined
namespace Go.Proofs.Ytbmejohoifpfhaa
open Go.RowKit Go.ChangeShapes Go.WideShapes Go.Deep

variable {H : Type} {enc : TypeId × Value → H} {w : World} {base : Nat} {spare : Nat → Bool} {held : Bool}

theorem cell_ltG {w : World} {a : Addr} {v : Value} (h : w.cell? a = some v) : a.block < w.heap.size := World.block_lt_of_cell? w a h

theorem addr_zero (a : Addr) : a.add 0 = a := by simp [Addr.add]

/-- Nothing of a datum is out of reach. -/
def InReach {H : Type} (t : TypeId) (d : DataW H) : Prop := (d.weights Try.prog t).all (fun n => decide (n ≤ reachBytes)) = true

theorem weightsAll_mem {e : TypeId} : ∀ {l : List (DataW H)}, (DataW.weightsAll Try.prog e l).all (fun n => decide (n ≤ reachBytes)) = true → ∀ d ∈ l, InReach e d
  | [], _, d, hd => by cases hd
  | x :: l, h, d, hd => by
    rw [DataW.weightsAll, List.all_append, Bool.and_eq_true] at h
    rcases List.mem_cons.1 hd with rfl | hd
    · exact h.1
    · exact weightsAll_mem h.2 d hd

theorem bytes_int : Try.prog.bytesOf 3 = 8 := by kernel_rfl
theorem bytes_bk : Try.prog.bytesOf 42 = 48 := by kernel_rfl

set_option maxRecDepth 100000 in
theorem open_fields {fuel : Nat} {cs : List Value} {x : DataW H × List MemPlace} (h : DataW.trod enc Try.prog w base spare held fuel 23 cs = some x) :
    ∃ (F : Option Addr) (c : Nat) (f : List Int), cs = [.slice F f.length c] ∧ f.length ≤ maxLen ∧ FieldsAt w w.heap.size F f ∧ (InReach 23 x.1 → f.length * 8 ≤ reachBytes) := by
  rcases open_ints Try.underlying23 Try.underlying3 (by kernel_rfl) h with ⟨e0, _⟩ | ⟨a, len, cap, zs, e0, hb, hl, hm, hz, hx, hc, hwf⟩
  · exact ⟨none, 0, [], e0, Nat.zero_le _, fun i v hi => by simp at hi, fun _ => Nat.zero_le _⟩
  · have hlz : len ≤ zs.length := by rw [hz]; split <;> omega
    have hlen : (zs.take len).length = len := by rw [List.length_take]; omega
    refine ⟨some a, cap, zs.take len, by rw [hlen]; exact e0, by rw [hlen]; omega, fun i v hi => ?_, fun hr => ?_⟩
    · have hi' : i < len := by have := (List.getElem?_eq_some_iff.1 hi).1; omega
      have hci := hc i (by omega)
      rw [List.getElem?_take_of_lt hi'] at hi
      rw [List.getD_eq_getElem?_getD, hi] at hci
      exact ⟨a, rfl, by have := cell_ltG hci; rwa [blk_add] at this, hci⟩
    · rw [hlen]
      unfold InReach at hr
      rw [hx] at hr
      simp only [DataW.weights, Try.underlying23, bytes_int, List.all_cons, Bool.and_eq_true, decide_eq_true_eq] at hr
      have h1 := hr.1
      simp only [lits, List.length_map, List.length_take, List.length_drop] at h1
      omega

set_option maxRecDepth 100000 in
theorem open_bk {fuel : Nat} {cs : List Value} {x : DataW H × List MemPlace} (h : DataW.trod enc Try.prog w base spare held fuel 42 cs = some x) :
    ∃ p : Bx, cs = cells3 p ∧ BkLen p.x ∧ FieldsAt w w.heap.size p.F p.x.f ∧ (InReach 42 x.1 → p.x.f.length * 8 ≤ reachBytes) := by
  obtain ⟨ys, n, _, hx, hlen, hyl, hf⟩ := DataW.trod_struct (fs := _) Try.underlying42 h
  have hlen2 : cs.length = 3 := hlen.trans (by kernel_rfl)
  have e0 := hf 0 _ rfl
  have e1 := hf 1 _ rfl
  have e2 := hf 2 _ rfl
  match cs, hlen2 with
  | [u0, u1, u2], _ =>
    match ys, hyl with
    | [y0, y1, y2], _ =>
      have k1 : Try.prog.cellsOf 3 = 1 := by kernel_rfl
      have k2 : Try.prog.cellsOf 9 = 1 := by kernel_rfl
      have k3 : Try.prog.cellsOf 23 = 1 := by kernel_rfl
      obtain ⟨a, ha, _⟩ := DataW.trod_int (x := y0) (cs := [u0]) Try.underlying3 (by simpa [k1] using e0)
      obtain ⟨s, hs, _, hz⟩ := DataW.trod_string (x := y1) (cs := [u1]) Try.underlying9 (by simpa [k2] using e1)
      obtain ⟨F, c, f, hfc, hfl, hff, hfr⟩ := open_fields (x := y2) (cs := [u2]) (by simpa [k3] using e2)
      injection ha with ha; injection hs with hs; injection hfc with hfc
      refine ⟨⟨⟨a, s.data.toList, f⟩, F, c⟩, by rw [ha, hs, hfc]; rfl, ⟨hz, hfl⟩, hff, fun hr => hfr ?_⟩
      unfold InReach at hr ⊢
      rw [hx] at hr
      simp only [DataW.weights, Try.underlying42, List.map_cons, List.map_nil] at hr
      simp only [DataW.weightsEach, List.all_append, Bool.and_eq_true] at hr
      exact hr.2.2.1

set_option maxRecDepth 100000 in
/-- A []api.Block that came in. -/
theorem open_blocks {b0 : Nat} {v : Value} {d : DataW H} {p : List MemPlace} (hv : Value.okWide Try.prog w .any b0 22 v) (h : DataW.Trod enc Try.prog w base spare held 22 v d p) :
    ∃ (A : Option Addr) (c : Nat) (l : List Bk), v = .slice A l.length c ∧ MemAt w w.heap.size A l ∧ l.length ≤ maxLen ∧ (l.length ≤ c ∧ c ≤ maxLen ∧ (A = none → c = 0)) ∧ (InReach 22 d → l.length * 48 ≤ reachBytes ∧ ∀ x ∈ l, x.f.length * 8 ≤ reachBytes) := by
  obtain ⟨A, n0, c0, rfl⟩ := okWide_slice Try.underlying22 hv
  obtain ⟨fuel, hf⟩ := h
  have hf : DataW.trod enc Try.prog w base spare held fuel 22 [.slice A n0 c0] = some (d, p) := by simpa [Value.cells] using hf
  rcases open_slice Try.underlying22 hf with ⟨e0, _⟩ | ⟨a, len, cap, m, n, D, Pl, e0, hb, hl, hm, hmm, hx, hi⟩
  · injection e0 with e0
    exact ⟨none, 0, [], e0, MemAt.nil _ _ _, Nat.zero_le _, ⟨Nat.le_refl _, Nat.zero_le _, fun _ => rfl⟩, fun _ => ⟨Nat.zero_le _, fun x hx => by cases hx⟩⟩
  · have hlm : len ≤ m := by rw [hmm]; split <;> omega
    have k3 : Try.prog.cellsOf 42 = 3 := by kernel_rfl
    have hq : ∀ i, i < len → ∃ p : Bx, w.cells? base (a.add (i * 3)) 3 = some (cells3 p) ∧ BkLen p.x ∧ FieldsAt w w.heap.size p.F p.x.f ∧ (InReach 42 (D i) → p.x.f.length * 8 ≤ reachBytes) := fun i hi' => by
      obtain ⟨cs', h1, h2⟩ := hi i (by omega)
      obtain ⟨p, rfl, h3⟩ := open_bk h2
      rw [k3] at h1
      exact ⟨p, h1, h3⟩
    have : Inhabited Bx := ⟨Bx.zero⟩
    obtain ⟨f, hF⟩ := choose_lt hq
    have hlen : ((List.range len).map fun i => (f i).x).length = len := by simp
    have hget : ∀ (k : Nat) x, ((List.range len).map fun i => (f i).x)[k]? = some x → k < len ∧ (f k).x = x := fun k x h => by
      have hk := (List.getElem?_eq_some_iff.1 h).1
      rw [hlen] at hk
      rw [List.getElem?_map, List.getElem?_range hk] at h
      exact ⟨hk, Option.some.inj h⟩
    have hcell : ∀ k, k < len → ∀ j, j < 3 → w.cell? ((a.add (k * 3)).add j) = (cells3 (f k))[j]? := fun k hk j hj => (World.cells?_some (hF k hk).1).2.2 j hj
    injection e0 with e0
    refine ⟨some a, cap, (List.range len).map fun i => (f i).x, by rw [hlen]; exact e0, fun k x hk => ?_, by rw [hlen]; omega, ⟨by rw [hlen]; omega, by omega, fun h => by cases h⟩, fun hr => ?_⟩
    · obtain ⟨hk', rfl⟩ := hget k x hk
      have c0 := hcell k hk' 0 (by omega)
      rw [addr_zero] at c0
      have hlt := cell_ltG c0
      rw [blk_add] at hlt
      exact ⟨a, (f k).F, (f k).c, rfl, hlt, c0, hcell k hk' 1 (by omega), hcell k hk' 2 (by omega), (hF k hk').2.1, (hF k hk').2.2.1⟩
    · unfold InReach at hr
      rw [show d = _ from congrArg Prod.fst hx] at hr
      simp only [DataW.weights, Try.underlying22, bytes_bk, List.all_cons, List.all_append, Bool.and_eq_true, decide_eq_true_eq, List.length_map, List.length_range] at hr
      refine ⟨by rw [hlen]; omega, fun x hx => ?_⟩
      obtain ⟨k, hk, rfl⟩ := List.mem_map.1 hx
      have hk' := List.mem_range.1 hk
      exact (hF k hk').2.2.2 (weightsAll_mem hr.2.1 _ (List.mem_map.2 ⟨k, hk, rfl⟩))

set_option maxRecDepth 100000 in
/-- A []int that came in. -/
theorem open_intsA {b0 : Nat} {v : Value} {d : DataW H} {p : List MemPlace} (hv : Value.okWide Try.prog w .any b0 23 v) (h : DataW.Trod enc Try.prog w base spare held 23 v d p) :
    ∃ (A : Option Addr) (c : Nat) (l : List Int), v = .slice A l.length c ∧ FieldsAt w w.heap.size A l ∧ l.length ≤ maxLen := by
  obtain ⟨A, n0, c0, rfl⟩ := okWide_slice Try.underlying23 hv
  obtain ⟨fuel, hf⟩ := h
  have hf : DataW.trod enc Try.prog w base spare held fuel 23 [.slice A n0 c0] = some (d, p) := by simpa [Value.cells] using hf
  obtain ⟨F, c, f, e, h1, h2, _⟩ := open_fields hf
  injection e with e _
  exact ⟨F, c, f, e, h2, h1⟩

set_option maxRecDepth 100000 in
/-- .. and what its capacity is at least. -/
theorem open_intsC {b0 : Nat} {v : Value} {d : DataW H} {p : List MemPlace} (hv : Value.okWide Try.prog w .any b0 23 v) (h : DataW.Trod enc Try.prog w base spare held 23 v d p) :
    ∃ (A : Option Addr) (c : Nat) (l : List Int), v = .slice A l.length c ∧ FieldsAt w w.heap.size A l ∧ l.length ≤ maxLen ∧ l.length ≤ c := by
  obtain ⟨A, c, l, rfl, h1, h2⟩ := open_intsA hv h
  refine ⟨A, c, l, rfl, h1, h2, ?_⟩
  obtain ⟨fuel, hf⟩ := h
  have hf : DataW.trod enc Try.prog w base spare held fuel 23 [.slice A l.length c] = some (d, p) := by simpa [Value.cells] using hf
  rcases open_slice Try.underlying23 hf with ⟨e0, _⟩ | ⟨a, len, cap, m, n, D, Pl, e0, hb, hl, hm, hmm, hx, hi⟩
  · injection e0 with e0; injection e0 with _ e1 e2; omega
  · injection e0 with e0; injection e0 with _ e1 e2; omega

end Go.Proofs.Ytbmejohoifpfhaa
