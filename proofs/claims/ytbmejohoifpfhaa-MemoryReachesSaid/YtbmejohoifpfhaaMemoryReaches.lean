/-
  Contract of slices.Contains at []int; the body of the law MemoryReaches.
-/
import Derived.Test.YtbmejohoifpfhaaMemA
import Derived.Test.YtbmejohoifpfhaaMemFm
import Derived.Test.YtbmejohoifpfhaaMemRr
import Derived.Test.YtbmejohoifpfhaaMemEq
namespace Go.Proofs.Ytbmejohoifpfhaa
open Go.RowKit Go.Lib

set_option maxRecDepth 100000 in
set_option maxHeartbeats 2000000 in
theorem sindex_any (F : Option Addr) (c n : Nat) (f : List Int) (hn : n = f.length) (hl : n ≤ maxLen) (t : Int) (w : World) (hf : FieldsAt w w.heap.size F f) :
    Calls Try.prog 35 #[.slice F n c, .int .i64 t] w fun e w' => ∃ q : Int, e = .returned (.int .i64 q) ∧ (0 ≤ q ↔ t ∈ f) ∧ w = w' := by
  have HH := Lib.hid (And.intro hf hn)
  unfold maxLen at hl
  clear hf hn
  go_enter Try.func35, Try.ntmps35
  go_wp2
  go_loopg [8] n (fun mm j wr => ∃ k : Nat, mm = n - k ∧ k ≤ n ∧ j = .int .i64 k ∧ Hid (wr = w ∧ ∀ (i : Nat) x, i < k → f[i]? = some x → x ≠ t))
  case atStart => exact ⟨0, rfl, Nat.zero_le _, rfl, Lib.hid ⟨rfl, fun i x hi => absurd hi (Nat.not_lt_zero i)⟩⟩
  case round =>
    obtain ⟨k, rfl, hk, rfl, HA⟩ := hrel
    have hw : w = wr := HA.out.1.symm
    subst hw
    have hk0 : (0 : Int) ≤ k := by omega
    by_cases hlt : k < n
    · have hlt' : (k : Int) < n := by omega
      obtain ⟨x, hx⟩ : ∃ x, f[k]? = some x := ⟨f[k]'(by rw [← HH.out.2]; exact hlt), List.getElem?_eq_getElem _⟩
      obtain ⟨ad, rfl, _, hca⟩ := HH.out.1 k x hx
      have HX := Lib.hid hx
      clear hx
      by_cases he : t = x
      · subst he
        go_wp2
        go_ret
        exact ⟨k, rfl, ⟨fun _ => List.mem_of_getElem? HX.out, fun _ => by omega⟩, rfl⟩
      · have he' : (t == x) = false := beq_eq_false_iff_ne.2 he
        have HE := Lib.hid he
        clear he
        go_wp2
        go_roundg (n - (k + 1))
        case measure => omega
        case rel =>
          refine ⟨k + 1, rfl, by omega, by go_num, Lib.hid ⟨rfl, fun i y hi hy => ?_⟩⟩
          by_cases hik : i = k
          · subst hik
            have : y = x := Option.some.inj (hy.symm.trans HX.out)
            rw [this]; exact fun e => HE.out e.symm
          · exact HA.out.2 i y (by omega) hy
    · have hlt' : ¬ (k : Int) < n := by omega
      go_wp2
      go_ret
      refine ⟨-1, rfl, ⟨fun h => absurd h (by decide), fun h => ?_⟩, rfl⟩
      obtain ⟨i, hi⟩ := List.getElem?_of_mem h
      exact absurd rfl (HA.out.2 i t (by have := (List.getElem?_eq_some_iff.1 hi).1; have := HH.out.2; omega) hi)

set_option maxHeartbeats 400000 in
theorem scontains_any (F : Option Addr) (c n : Nat) (f : List Int) (hn : n = f.length) (hl : n ≤ maxLen) (t : Int) (w : World) (hf : FieldsAt w w.heap.size F f) (ht : t ∈ f) :
    Calls Try.prog 16 #[.slice F n c, .int .i64 t] w fun e w' => e = .returned (.bool true) ∧ w = w' := by
  have HI := Lib.hid (sindex_any F c n f hn hl t w hf)
  have HT := Lib.hid ht
  clear hn hf ht
  go_enter Try.func16, Try.ntmps16
  go_wp2_with fail
  refine HI.out.mono ?_
  rintro e w1 ⟨q, rfl, hq, rfl⟩
  have h0 : 0 ≤ q := hq.2 HT.out
  clear hq
  go_wp2
  go_ret
  exact ⟨by simp [h0], rfl⟩

theorem part_okR {l : List Bk} (h : MemOk l) (p : Bk → Bool) : MemOk (l.filter p) :=
  .of (Nat.le_trans (List.length_filter_le p l) h.1) (fun _ hx => h.all (List.mem_filter.1 hx).1) (.of_pairwise (h.asc.pairwise.sublist List.filter_sublist))

theorem take_fields {w : World} {B : Nat} {F : Option Addr} {f : List Int} (h : FieldsAt w B F f) (k : Nat) : FieldsAt w B F (f.take k) := by
  intro i v hi
  rw [List.getElem?_take] at hi
  split at hi
  · exact h i v hi
  · cases hi

theorem reach_ok {l : List Bk} {f g : List Int} (h : (MemOk l ∧ IsReach l f g) ∨ (¬ MemOk l ∧ g = [])) (hok : MemOk l) : IsReach l f g := by
  rcases h with h | h
  · exact h.2
  · exact absurd hok h.1

theorem pick_reach {l : List Bk} {f g : List Int} {i o : List Bk} {e : Int} (h : PickIs l g i o e) (hok : MemOk l) (hg : IsReach l f g) : e = 0 ∧ i = pickIn g l := by
  rcases h with ⟨h1, _⟩ | ⟨_, ⟨t, ht, hno⟩, _⟩ | ⟨_, _, h1, _, h3⟩
  · exact absurd hok h1
  · obtain ⟨q, hq⟩ := dom_has.1 ((hg.2 t).1 ht).dom
    exact (noAt_has hno hq).elim
  · exact ⟨h3, h1⟩

set_option maxRecDepth 100000 in
set_option maxHeartbeats 16000000 in
theorem reaches_law (A F : Option Addr) (ca cf : Nat) (l : List Bk) (f : List Int) (hl : l.length ≤ maxLen) (hcf : f.length ≤ cf) (w : World) (hm : MemAt w w.heap.size A l) (hF : FieldsAt w w.heap.size F f) :
    Calls Try.prog 4 #[.slice A l.length ca, .slice F f.length cf] w fun e w' => e = .returned (.bool true) ∧ Below w.heap.size w w' := by
  obtain ⟨n, hn⟩ : ∃ n, n = l.length := ⟨_, rfl⟩
  obtain ⟨nf, hnf⟩ : ∃ n, n = f.length := ⟨_, rfl⟩
  rw [← hn] at hl ⊢
  rw [← hnf] at hcf ⊢
  by_cases h100 : nf ≤ 100
  rotate_left
  · have h100' : (100 : Int) < nf := by omega
    clear hm hl hn hnf hF h100 hcf
    go_enter Try.func4, Try.ntmps4
    go_wp2_with fail
    refine (awake_any _).mono ?_
    rintro e w1 ⟨rfl, hb⟩
    have B0_1 := Lib.hid (hb)
    clear hb
    go_wp2
    go_ret
    exact ⟨rfl, B0_1.out⟩
  have h100' : ¬ (100 : Int) < nf := by omega
  obtain ⟨r, hr⟩ := says (MemOk l)
  have HRe : Hid (∀ W, Below w.heap.size w W → Calls Try.prog 12 #[.slice A n ca, .slice F nf cf] W (ReachPost l f W)) := Lib.hid (fun W hb => reach_any A F ca cf n nf l f hn hnf hl (by omega) W (hm.later hb) (hF.later hb))
  have HRv : Hid (∀ W, Below w.heap.size w W → Calls Try.prog 13 #[.slice A n ca] W fun e w' => e = .returned (.bool r) ∧ Below W.heap.size W w') := Lib.hid (fun W hb => rvalid_any _ _ _ l hn hl _ (hm.later hb) _ hr)
  have HRR : Hid (MemOk l → ∀ W, Below w.heap.size w W → Calls Try.prog 15 #[.slice A n ca, .slice F nf cf] W (ReachPost l f W)) := Lib.hid (fun hok W hb => rreach_any A F ca cf n nf l f hn hnf hok (by omega) W (hm.later hb) (hF.later hb))
  have HM := Lib.hid (And.intro hm (And.intro hF (And.intro hn (And.intro hnf (And.intro hr (And.intro hl hcf))))))
  have hcf1 : (nf : Int) ≤ cf := by omega
  clear hm hl hn hnf hF hr h100 hcf
  cases r
  · go_enter Try.func4, Try.ntmps4
    go_wp2_with fail
    refine (awake_any _).mono ?_
    rintro e w1 ⟨rfl, hb⟩
    have B1 := Lib.hid hb
    clear hb
    go_wp2_with fail
    refine (HRe.out _ B1.out).mono ?_
    rintro e w2 ⟨B2, cb, g, rfl, hg, hb, hg1, hres⟩
    obtain rfl : g = [] := by
      rcases hres with h | h
      · exact absurd h.1 HM.out.2.2.2.2.1.f
      · exact h.2
    have B2 := Lib.hid (B1.out.next hb)
    clear hb hg hg1 hres
    go_wp2_with fail
    refine (HRv.out _ B2.out).mono ?_
    rintro e w3 ⟨rfl, hb⟩
    have B3 := Lib.hid (B2.out.next hb)
    clear hb
    go_wp2
    go_ret
    exact ⟨rfl, B3.out⟩
  have HOk : Hid (MemOk l) := Lib.hid HM.out.2.2.2.2.1.t
  obtain ⟨h2, hh2⟩ : ∃ h2, h2 = nf / 2 := ⟨_, rfl⟩
  have hq1 : (nf : Int).tdiv 2 = (h2 : Int) := by rw [Int.tdiv_eq_ediv_of_nonneg (by omega), hh2]; omega
  have hq4 : wrap64 (h2 : Int) = (h2 : Int) := by unfold wrap64; omega
  have hF0 : Option.map (fun x : Addr => x.add 0) F = F := by cases F <;> simp [Addr.add]
  have hq2 : (h2 : Int) ≤ cf := by omega
  have hq3 : (0 : Int) ≤ h2 := by omega
  have HH2 := Lib.hid hh2
  clear hh2
  go_enter Try.func4, Try.ntmps4
  go_wp2_with fail
  refine (awake_any _).mono ?_
  rintro e w1 ⟨rfl, hb⟩
  have B1 := Lib.hid hb
  clear hb
  go_wp2_with fail
  refine (HRe.out _ B1.out).mono ?_
  rintro e w2 ⟨G, cg, g, rfl, hg, hb, hg1, hres⟩
  obtain ⟨z, hz⟩ : ∃ z, z = g.length := ⟨_, rfl⟩
  have HG := Lib.hid (And.intro hg (And.intro hz (reach_ok hres HOk.out)))
  have hz1 : z ≤ 100 := by omega
  have B2 := Lib.hid (B1.out.next hb)
  rw [← hz]
  clear hb hg hg1 hres hz
  have HEq : Hid (∀ W (G' : Option Addr) (c' : Nat), Below w2.heap.size w2 W → FieldsAt W W.heap.size G' g → Calls Try.prog 14 #[.slice G z cg, .slice G' z c'] W fun e w' => e = .returned (.bool true) ∧ Below W.heap.size W w') := Lib.hid (fun W G' c' hb h => equalInts_any G G' cg c' z z g g HG.out.2.1 HG.out.2.1 (by unfold maxLen; omega) W (HG.out.1.later hb) h true ⟨fun _ => rfl, fun _ => rfl⟩)
  have HEq2 : Hid (∀ W (G' : Option Addr) (c' : Nat), Below w2.heap.size w2 W → FieldsAt W W.heap.size G' g → Calls Try.prog 14 #[.slice G' z c', .slice G z cg] W fun e w' => e = .returned (.bool true) ∧ Below W.heap.size W w') := Lib.hid (fun W G' c' hb h => equalInts_any G' G c' cg z z g g HG.out.2.1 HG.out.2.1 (by unfold maxLen; omega) W h (HG.out.1.later hb) true ⟨fun _ => rfl, fun _ => rfl⟩)
  go_wp2_with fail
  refine (HRv.out _ B2.out).mono ?_
  rintro e w3 ⟨rfl, hb⟩
  have B3 := Lib.hid (And.intro (B2.out.next hb) hb)
  clear hb
  go_wp2_with fail
  refine (HRR.out HOk.out _ B3.out.1).mono ?_
  rintro e w4 ⟨G4, c4, g4, rfl, hg, hb, _, hres⟩
  obtain rfl : g4 = g := (reach_ok hres HOk.out).uniq HG.out.2.2
  have B4 := Lib.hid (And.intro (B3.out.1.next hb) (And.intro (B3.out.2.next hb) hg))
  rw [← HG.out.2.1]
  clear hb hg hres
  go_wp2_with fail
  refine (HEq.out _ G4 c4 B4.out.2.1 B4.out.2.2).mono ?_
  rintro e w5 ⟨rfl, hb⟩
  have B5 := Lib.hid (And.intro (B4.out.1.next hb) (B4.out.2.1.next hb))
  clear hb
  go_wp2_with fail
  refine (pick_any A G ca cg n z l g4 HM.out.2.2.1 HG.out.2.1 HM.out.2.2.2.2.2.1 (by omega) _ (HM.out.1.later B5.out.1) (HG.out.1.later B5.out.2)).mono ?_
  rintro e w6 ⟨A6, c6, A7, c7, i, o, er, rfl, hp, hm6, _, hb⟩
  obtain ⟨rfl, hi⟩ := pick_reach hp HOk.out HG.out.2.2
  obtain ⟨zi, hzi⟩ : ∃ z, z = i.length := ⟨_, rfl⟩
  have B6 := Lib.hid (And.intro (B5.out.1.next hb) (And.intro (B5.out.2.next hb) (And.intro hm6 (And.intro hi hzi))))
  have hzi1 : zi ≤ 100 := by
    rw [hzi, hi]
    exact Nat.le_trans (List.length_filter_le _ l) HOk.out.1
  rw [← hzi]
  clear hb hp hm6 hi hzi
  go_wp2_with fail
  refine (reach_any A6 F c6 cf zi nf i f B6.out.2.2.2.2 HM.out.2.2.2.1 (by unfold maxLen; omega) (by omega) _ B6.out.2.2.1 (HM.out.2.1.later B6.out.1)).mono ?_
  rintro e w7 ⟨G7, c7', g7, rfl, hg, hb, _, hres⟩
  have hok7 : MemOk i := by rw [B6.out.2.2.2.1]; exact part_okR HOk.out _
  obtain rfl : g7 = g4 := by
    have h1 := reach_ok hres hok7
    rw [B6.out.2.2.2.1] at h1
    exact h1.uniq HG.out.2.2.part
  have B7 := Lib.hid (And.intro (B6.out.1.next hb) (And.intro (B6.out.2.1.next hb) hg))
  rw [← HG.out.2.1]
  clear hb hg hres hok7
  go_wp2_with fail
  refine (HEq2.out _ G7 c7' B7.out.2.1 B7.out.2.2).mono ?_
  rintro e w8 ⟨rfl, hb⟩
  have B8 := Lib.hid (And.intro (B7.out.1.next hb) (B7.out.2.1.next hb))
  clear hb
  have HHalf : Hid (∀ W, Below w.heap.size w W → Calls Try.prog 12 #[.slice A n ca, .slice F h2 cf] W (ReachPost l (f.take h2) W)) := Lib.hid (fun W hb => reach_any A F ca cf n h2 l (f.take h2) HM.out.2.2.1 (by rw [List.length_take]; have := HM.out.2.2.2.1; have := HH2.out; omega) HM.out.2.2.2.2.2.1 (by have := HH2.out; omega) W (HM.out.1.later hb) (take_fields (HM.out.2.1.later hb) h2))
  go_wp2_with fail
  refine (HHalf.out _ B8.out.1).mono ?_
  rintro e w9 ⟨G9, c9, g9, rfl, hg, hb, hg1, hres⟩
  have hsub : ∀ t ∈ g9, t ∈ g7 := fun t ht => (HG.out.2.2.2 t).2 ((((reach_ok hres HOk.out).2 t).1 ht).mono (fun u hu => List.mem_of_mem_take hu))
  obtain ⟨z9, hz9⟩ : ∃ z, z = g9.length := ⟨_, rfl⟩
  have hz91 : z9 ≤ 100 := by omega
  have B9 := Lib.hid (And.intro (B8.out.1.next hb) (And.intro (B8.out.2.next hb) (And.intro hg (And.intro hsub hz9))))
  rw [← hz9]
  clear hb hg hg1 hres hsub hz9 hq1 hq2 hq3 hq4 hF0
  go_wp2
  go_loopg [56] z9 (fun mm j wr => ∃ k : Nat, mm = z9 - k ∧ k ≤ z9 ∧ j = .int .i64 k ∧ Hid (wr = w9))
  case atStart => exact ⟨0, rfl, Nat.zero_le _, rfl, Lib.hid rfl⟩
  case round =>
    obtain ⟨k, rfl, hk, rfl, HI⟩ := hrel
    have hw : w9 = wr := HI.out.symm
    subst hw
    have hk0 : (0 : Int) ≤ k := by omega
    by_cases hlt : k < z9
    · have hlt' : (k : Int) < z9 := by omega
      obtain ⟨t, ht⟩ : ∃ t, g9[k]? = some t := ⟨g9[k]'(by rw [← B9.out.2.2.2.2]; exact hlt), List.getElem?_eq_getElem _⟩
      obtain ⟨ad, rfl, _, hca⟩ := B9.out.2.2.1 k t ht
      have HC : Hid (Calls Try.prog 16 #[.slice G z cg, .int .i64 t] w9 fun e w' => e = .returned (.bool true) ∧ w9 = w') := Lib.hid (scontains_any G cg z g7 HG.out.2.1 (by unfold maxLen; omega) t w9 (HG.out.1.later B9.out.2.1) (B9.out.2.2.2.1 t (List.mem_of_getElem? ht)))
      clear ht
      go_wp2_with fail
      refine HC.out.mono ?_
      rintro e w10 ⟨rfl, rfl⟩
      go_wp2
      go_roundg (z9 - (k + 1))
      case measure => omega
      case rel => exact ⟨k + 1, rfl, by omega, by go_num, Lib.hid rfl⟩
    · have hlt' : ¬ (k : Int) < z9 := by omega
      go_wp2_with fail
      refine (reach_any A G ca cg n z l g7 HM.out.2.2.1 HG.out.2.1 HM.out.2.2.2.2.2.1 (by omega) _ (HM.out.1.later B9.out.1) (HG.out.1.later B9.out.2.1)).mono ?_
      rintro e w11 ⟨G11, c11, g11, rfl, hg, hb, _, hres⟩
      obtain rfl : g11 = g7 := (reach_ok hres HOk.out).uniq HG.out.2.2.again
      have B11 := Lib.hid (And.intro (B9.out.1.next hb) (And.intro (B9.out.2.1.next hb) hg))
      rw [← HG.out.2.1]
      clear hb hg hres
      go_wp2_with fail
      refine (HEq2.out _ G11 c11 B11.out.2.1 B11.out.2.2).mono ?_
      rintro e w12 ⟨rfl, hb⟩
      have B12 := Lib.hid (B11.out.1.next hb)
      clear hb
      go_wp2
      go_ret
      exact ⟨rfl, B12.out⟩

end Go.Proofs.Ytbmejohoifpfhaa
