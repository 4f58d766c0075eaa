/-
  slices.SortFunc at blocks by memory.Join's comparison.
-/
import Derived.Test.YtbmejohoifpfhaaMemSw
import Derived.Test.YtbmejohoifpfhaaMemB
import Derived.Test.YtbmejohoifpfhaaSort
import Derived.Shelf.SlSortCmp.WholeK
namespace Go.Proofs.Ytbmejohoifpfhaa
open Go.RowKit Go.Lib Go.Sort

set_option maxRecDepth 100000 in
set_option maxHeartbeats 1000000 in
theorem joincmp_any (x y : Bx) (W : World) : Calls Try.prog 23 #[.agg (cells3 x).toArray, .agg (cells3 y).toArray] W fun e w' => e = .returned (.int .i64 (cmpI x.x.a y.x.a)) ∧ ∃ q os', w' = grow (W.drewN q) os' := by
  have HC : Hid (∀ W', Calls Try.prog 24 #[.int .i64 x.x.a, .int .i64 y.x.a] W' fun e w' => e = .returned (.int .i64 (cmpI x.x.a y.x.a)) ∧ W' = w') := Lib.hid (fun W' => compare_any _ _ W')
  unfold cells3
  obtain ⟨⟨xa, xr, xf⟩, xF, xc⟩ := x
  obtain ⟨⟨ya, yr, yf⟩, yF, yc⟩ := y
  simp only at HC ⊢
  generalize cmpI xa ya = z at HC ⊢
  generalize xf.length = xn
  generalize yf.length = yn
  go_enter Try.func23, Try.ntmps23
  go_wp2_with (go_at_call 24; refine (HC.out _).mono ?_; rintro e w' ⟨rfl, rfl⟩)
  go_ret
  exact ⟨rfl, 0, _, by rw [alloc_eq_grow, alloc_eq_grow, grow_grow]; rfl⟩

theorem lt_cmp (x y : Bx) : ltOf (fun x y : Bx => cmpI x.x.a y.x.a) x y = decide (x.x.a < y.x.a) := by
  unfold ltOf cmpI
  by_cases h1 : x.x.a < y.x.a
  · simp [h1]
  · by_cases h2 : y.x.a < x.x.a <;> simp [h1, h2]

theorem swo_cmp : SWO (ltOf (fun x y : Bx => cmpI x.x.a y.x.a)) where
  irrefl x := by rw [lt_cmp]; simp
  trans x y z h1 h2 := by rw [lt_cmp] at *; simp at *; omega
  ntrans x y z h1 h2 := by rw [lt_cmp] at *; simp at *; omega

/-- The blocks of a row, in the order of their addresses. -/
def Ordered (M : List Bx) : Prop := ∀ (i j : Nat) (p q : Bx), i < j → M[i]? = some p → M[j]? = some q → p.x.a ≤ q.x.a

/-- Behind the sort of a memory of one's own. -/
def SortPost (B0 g n : Nat) (L : List Bx) (w : World) (e : Ending) (w' : World) : Prop :=
  ∃ M, e = .returned (.tuple #[]) ∧ M.Perm L ∧ Ordered M ∧ OwnMem w' B0 (.slice (some ⟨g, 0, none⟩) n n) M ∧ Below B0 w w'

set_option maxHeartbeats 1000000 in
theorem sort_any (B0 g n : Nat) (L : List Bx) (hL : L.length = n) (hn : n ≤ 1000) (w : World) (hB : B0 ≤ w.heap.size) (hown : OwnMem w B0 (.slice (some ⟨g, 0, none⟩) n n) L) :
    Calls Try.prog 22 #[.slice (some ⟨g, 0, none⟩) n n, .func (.func 23) #[] #[]] w (SortPost B0 g n L w) := by
  have eg : ∀ args w, (callFunc 23 args).run Try.prog w = .ok (.enter 23 args) w := Go.Proofs.enters_of Try.func23 (by kernel_rfl) rfl
  have hsz : L.toArray.size = n := by simpa using hL
  have hc : Go.Proofs.CmpLays Try.prog 23 #[] cells3 3 (fun x y : Bx => cmpI x.x.a y.x.a) g 0 L.toArray.size w := fun _ _ _ _ x y => joincmp_any x y _
  have hcon := Go.Proofs.AnyQ.slices_SortFunc Try.sortBk 3 Try.isAgg42 Try.sizeOf42 cells3 (fun _ => rfl) (fun p => cells3_one p) (fun x y : Bx => cmpI x.x.a y.x.a) swo_cmp 23 #[] g 0 n L.toArray w eg hc (holds_row hL hown.1) (own_lt hown.1 g rfl).2 (by omega)
  rw [hsz] at hcon
  change Calls Try.prog 22 _ _ _ at hcon
  refine hcon.mono ?_
  rintro e w' ⟨rfl, d', k, os, ⟨hs, _, hp⟩, ho, rfl⟩
  have hd : d'.toList.toArray = d' := by simp
  have hdl : d'.toList.length = n := by rw [Array.length_toList, hs, hsz]
  have hperm : d'.toList.Perm L := by
    have h1 : d'.extract 0 n = d' := by rw [show n = d'.size by rw [hs, hsz]]; simp
    have h2 : L.toArray.extract 0 n = L.toArray := by rw [← hsz]; simp
    rw [h1, h2] at hp
    simpa using hp
  refine ⟨d'.toList, rfl, hperm, ?_, ?_, ?_⟩
  · intro i j p q hij hi hj
    have hjl := (List.getElem?_eq_some_iff.1 hj).1
    have hlt := ho i j (Nat.zero_le _) hij (by omega)
    rw [lt_cmp] at hlt
    have e1 : d'[i]! = p := by
      rw [Array.getElem?_toList] at hi
      rw [getElem!_def, hi]
    have e2 : d'[j]! = q := by
      rw [Array.getElem?_toList] at hj
      rw [getElem!_def, hj]
    rw [e1, e2] at hlt
    have := of_decide_eq_false hlt
    omega
  · have := sw_own (m := k) (os := os) hL hperm hown
    rwa [hd] at this
  · have := sw_below (m := k) (M := d'.toList) (os := os) hown.1 hB
    rwa [hd] at this

end Go.Proofs.Ytbmejohoifpfhaa
