/-
  Contract of memory.New.
-/
import Derived.Test.YtbmejohoifpfhaaMemI
import Derived.Test.YtbmejohoifpfhaaMemU
import Derived.Test.YtbmejohoifpfhaaMemV
import Derived.Deep.RegionWith
namespace Go.Proofs.Ytbmejohoifpfhaa
open Go.RowKit Go.Lib

/-- The number that a choice says. -/
def kOf (ch : Int) : Nat := (ch % 4).toNat

theorem kOf_le (ch : Int) : kOf ch ≤ 3 := by unfold kOf; omega

theorem choice_eq (ch : Int) : (wrap64 (ch.tmod 4 + 4)).tmod 4 = (kOf ch : Int) := by
  have h1 : ch.tmod 4 = ch - 4 * ch.tdiv 4 := by have := Int.tmod_add_mul_tdiv ch 4; omega
  have h2 : -4 < ch.tmod 4 ∧ ch.tmod 4 < 4 := ⟨by have := Int.lt_tmod_of_pos ch (b := 4) (by decide); omega, Int.tmod_lt_of_pos ch (by decide)⟩
  have h0 : wrap64 (ch.tmod 4 + 4) = ch.tmod 4 + 4 := by unfold wrap64; omega
  have h3 : (ch.tmod 4 + 4).tmod 4 = (ch.tmod 4 + 4) % 4 := Int.tmod_eq_emod_of_nonneg (by omega)
  unfold kOf
  rw [h0, h3]
  omega

/-- The memory with a new block. -/
def NewOk (l : List Bk) (ch : Int) (rc : List UInt8) (nf : Int) (l' : List Bk) (a : Int) : Prop :=
  MemOk l ∧ nameL rc = true ∧ (1 ≤ nf ∧ nf ≤ 8) ∧ l.length ≠ 100 ∧ IsFree l (kOf ch) a ∧ ∃ i, IsLb l a i ∧ l' = l.take i ++ ⟨a, rc, List.replicate nf.toNat 0⟩ :: l.drop i

/-- What New answers. -/
def NewIs (l : List Bk) (ch : Int) (rc : List UInt8) (nf : Int) (l' : List Bk) (a e : Int) : Prop :=
  (¬ MemOk l ∧ l' = [] ∧ a = 0 ∧ e = 1) ∨ (MemOk l ∧ nameL rc = false ∧ l' = [] ∧ a = 0 ∧ e = 3) ∨ (MemOk l ∧ nameL rc = true ∧ (nf < 1 ∨ 8 < nf) ∧ l' = [] ∧ a = 0 ∧ e = 2) ∨
  (MemOk l ∧ nameL rc = true ∧ (1 ≤ nf ∧ nf ≤ 8) ∧ l.length = 100 ∧ l' = [] ∧ a = 0 ∧ e = 5) ∨ (NewOk l ch rc nf l' a ∧ e = 0)

theorem OwnMem.base {w : World} {B0 B1 : Nat} {v : Value} {L : List Bx} (h : OwnMem w B0 v L) (hb : B1 ≤ B0) : OwnMem w B1 v L :=
  ⟨ownsRow_mono h.1 hb, fun p hp => ⟨(h.2 p hp).1, (h.2 p hp).2.base hb⟩⟩

/-- Behind New. -/
def NewPost (l : List Bk) (ch : Int) (rc : List UInt8) (nf : Int) (w : World) (e : Ending) (w' : World) : Prop :=
  ∃ A L c a er, e = .returned (.tuple #[.slice A L.length c, .int .i64 a, .int .i64 er]) ∧ NewIs l ch rc nf (blocksOf L) a er ∧ OwnMem w' w.heap.size (.slice A L.length c) L ∧ Below w.heap.size w w'

theorem new_none {l : List Bk} {ch : Int} {rc : List UInt8} {nf er : Int} {w w' : World} (h : NewIs l ch rc nf [] 0 er) (hb : Below w.heap.size w w') : NewPost l ch rc nf w (.returned (.tuple #[.slice none 0 0, .int .i64 0, .int .i64 er])) w' :=
  ⟨none, [], 0, 0, er, rfl, h, OwnMem.nil _ _, hb⟩

theorem zeros_reads {w : World} {B0 m : Nat} {v : Value} (h : w.ownsRow B0 3 1 v m (madeCells #[.int .i64 0] m).toList) : w.ownsRow B0 3 1 v (List.replicate m (0 : Int)).length (intVals (List.replicate m 0)) := by
  rw [List.length_replicate]
  have e : (madeCells #[Value.int .i64 0] m).toList = intVals (List.replicate m 0) := by
    rw [toList_madeCells_one]
    unfold intVals
    rw [List.map_replicate]
  rwa [e] at h

set_option maxRecDepth 100000 in
set_option maxHeartbeats 4000000 in
theorem new_any (A : Option Addr) (c n : Nat) (l : List Bk) (hn : n = l.length) (hl : n ≤ maxLen) (ch : Int) (hch : -9223372036854775808 ≤ ch ∧ ch ≤ 9223372036854775807) (rc : List UInt8) (hrc : rc.length ≤ maxLen) (nf : Int) (w : World) (hm : MemAt w w.heap.size A l) :
    Calls Try.prog 17 #[.slice A n c, .int .i64 ch, .string ⟨rc.toArray⟩, .int .i64 nf] w (NewPost l ch rc nf w) := by
  obtain ⟨r, hr⟩ := says (MemOk l)
  have HM := Lib.hid (And.intro hm (And.intro hn (And.intro hl hr)))
  have HV : Hid (Calls Try.prog 18 #[.slice A n c] w fun e w' => e = .returned (.bool r) ∧ Below w.heap.size w w') := Lib.hid (valid_any _ _ _ l hn hl _ hm _ hr)
  obtain ⟨nb, hnb⟩ : ∃ b, b = nameL rc := ⟨_, rfl⟩
  have HN : Hid (∀ W, Calls Try.prog 36 #[.string ⟨rc.toArray⟩] W fun e w' => e = .returned (.bool nb) ∧ Below W.heap.size W w') := Lib.hid (fun W => by rw [hnb]; exact name_any rc W hrc)
  have HB := Lib.hid (And.intro hnb (And.intro hrc (And.intro trivial hch)))
  unfold maxLen at hl
  clear hm hr hnb hrc hch hn
  cases r
  · have hno := HM.out.2.2.2.f
    go_enter Try.func17, Try.ntmps17
    go_wp2_with (go_at_call 18; refine HV.out.mono ?_; rintro e w1 ⟨rfl, hb⟩; have H1 := Lib.hid hb; clear hb)
    go_ret3
    exact new_none (.inl ⟨hno, rfl, rfl, rfl⟩) H1.out
  cases nb
  · go_enter Try.func17, Try.ntmps17
    go_wp2_with (first
      | (go_at_call 18; refine HV.out.mono ?_; rintro e w1 ⟨rfl, hb⟩; have H1 := Lib.hid hb; clear hb)
      | (go_at_call 36; refine (HN.out _).mono ?_; rintro e w2 ⟨rfl, hb⟩; have H2 := Lib.hid (H1.out.next hb); clear hb))
    go_ret3
    exact new_none (.inr (.inl ⟨HM.out.2.2.2.t, HB.out.1.symm, rfl, rfl, rfl⟩)) H2.out
  by_cases hf : nf < 1 ∨ 8 < nf
  · have HF := Lib.hid hf
    rcases hf with hf | hf
    · go_enter Try.func17, Try.ntmps17
      go_wp2_with (first
        | (go_at_call 18; refine HV.out.mono ?_; rintro e w1 ⟨rfl, hb⟩; have H1 := Lib.hid hb; clear hb)
        | (go_at_call 36; refine (HN.out _).mono ?_; rintro e w2 ⟨rfl, hb⟩; have H2 := Lib.hid (H1.out.next hb); clear hb))
      go_ret3
      exact new_none (.inr (.inr (.inl ⟨HM.out.2.2.2.t, HB.out.1.symm, HF.out, rfl, rfl, rfl⟩))) H2.out
    · have hf1 : ¬ nf < 1 := by omega
      go_enter Try.func17, Try.ntmps17
      go_wp2_with (first
        | (go_at_call 18; refine HV.out.mono ?_; rintro e w1 ⟨rfl, hb⟩; have H1 := Lib.hid hb; clear hb)
        | (go_at_call 36; refine (HN.out _).mono ?_; rintro e w2 ⟨rfl, hb⟩; have H2 := Lib.hid (H1.out.next hb); clear hb))
      go_ret3
      exact new_none (.inr (.inr (.inl ⟨HM.out.2.2.2.t, HB.out.1.symm, HF.out, rfl, rfl, rfl⟩))) H2.out
  have hf1 : ¬ nf < 1 := by omega
  have hf2 : ¬ 8 < nf := by omega
  by_cases h100 : n = 100
  · subst h100
    go_enter Try.func17, Try.ntmps17
    go_wp2_with (first
      | (go_at_call 18; refine HV.out.mono ?_; rintro e w1 ⟨rfl, hb⟩; have H1 := Lib.hid hb; clear hb)
      | (go_at_call 36; refine (HN.out _).mono ?_; rintro e w2 ⟨rfl, hb⟩; have H2 := Lib.hid (H1.out.next hb); clear hb))
    go_ret3
    exact new_none (.inr (.inr (.inr (.inl ⟨HM.out.2.2.2.t, HB.out.1.symm, by omega, HM.out.2.1.symm, rfl, rfl, rfl⟩)))) H2.out
  have hn100 : n ≤ 100 := by have := HM.out.2.2.2.t.1; have := HM.out.2.1; omega
  have h100' : ((n : Int) == 100) = false := beq_eq_false_iff_ne.2 (by omega)
  obtain ⟨m, rfl⟩ := Int.eq_ofNat_of_zero_le (show 0 ≤ nf by omega)
  have hm8 : m ≤ 8 := by omega
  have hm1 : 1 ≤ m := by omega
  obtain ⟨i0, hi, hiz, his, hib⟩ := info_parts infoInt
  have HI := Lib.hid (And.intro hi (And.intro hiz (And.intro his hib)))
  have H100 := Lib.hid (And.intro trivial h100)
  have HK := Lib.hid (choice_eq ch)
  have HU : Hid (∀ W, Below w.heap.size w W → Calls Try.prog 37 #[.slice A n c, .int .i64 (kOf ch)] W (FreePost l (kOf ch) W)) := Lib.hid (fun W hW => unallocated_any A c n l HM.out.2.1 (kOf ch) (kOf_le ch) W HM.out.2.2.2.t (HM.out.1.later hW))
  clear hi hiz his hib h100 hf
  obtain ⟨k, hk⟩ : ∃ k, k = kOf ch := ⟨_, rfl⟩
  rw [← hk] at HU HK
  have HKE := Lib.hid hk
  clear hk
  go_enter Try.func17, Try.ntmps17
  go_wp2_with (first
    | (go_at_call 18; refine HV.out.mono ?_; rintro e w1 ⟨rfl, hb⟩; have H1 := Lib.hid hb; clear hb)
    | (go_at_call 36; refine (HN.out _).mono ?_; rintro e w2 ⟨rfl, hb⟩; have H2 := Lib.hid (H1.out.next hb); clear hb))
  rw [HK.out]
  refine (HU.out _ H2.out).mono ?_
  rintro e w3 ⟨a, rfl, hfree, hb3⟩
  have H3 := Lib.hid (And.intro hfree (H2.out.next hb3))
  clear hfree hb3
  go_wp2_with (first
    | (go_at_call 19; refine (find_any _ _ _ l HM.out.2.1 a _ HM.out.2.2.2.t (HM.out.1.later H3.out.2)).mono ?_; rintro e w4 ⟨i, ok, rfl, g1, g2, g3⟩; have H4 := Lib.hid (And.intro g1 (And.intro g2 (H3.out.2.next g3))); clear g1 g2 g3)
    | (at_make; refine wpList_make_full _ rfl _ _ 23 rfl w4.heap.size 3 i0 _ 1 Try.underlying23 HI.out.1 HI.out.2.1 HI.out.2.2.1 _ _ _ _ m rfl rfl rfl rfl ?b2 ?b3 (Nat.le_refl _) ?_))
  case b2 => rw [HI.out.2.2.2]; omega
  case b3 => unfold maxLen; omega
  intro w5 hown hgrow
  have H5 := Lib.hid (And.intro (zeros_reads hown) hgrow)
  clear hown hgrow
  go_wp2
  obtain ⟨W6, hW6⟩ : ∃ W6, W6 = w5.alloc (.cells #[.int .i64 a, .string ⟨rc.toArray⟩, .slice (some ⟨w4.heap.size, 0, none⟩) m m] 42) := ⟨_, rfl⟩
  obtain ⟨N4, hN4⟩ : ∃ N4, N4 = w4.heap.size := ⟨_, rfl⟩
  obtain ⟨N5, hN5⟩ : ∃ N5, N5 = w5.heap.size := ⟨_, rfl⟩
  have h45 : Below w4.heap.size w4 w5 := ⟨H5.out.2.os, H5.out.2.tape, H5.out.2.output, H5.out.2.size, fun b hb => H5.out.2.block b hb (by simp)⟩
  have HB6 : Hid (Below w.heap.size w W6) := Lib.hid (by rw [hW6]; exact (H4.out.2.2.next h45).next (below_alloc _ _))
  have HX6 : Hid (W6.heap[N5]? = some (.cells #[.int .i64 a, .string ⟨rc.toArray⟩, .slice (some ⟨N4, 0, none⟩) m m] 42 (0, 0))) := Lib.hid (by rw [hW6, hN5, hN4]; exact heap_of_alloc w5 _)
  have HF6 : Hid (FieldsOwn W6 w.heap.size none (some ⟨N4, 0, none⟩) (List.replicate m 0) ∧ N4 < W6.heap.size) := Lib.hid (by
    obtain ⟨F, c', hv, hF⟩ := fieldsOwn_row H5.out.1
    injection hv with hv1 _ _
    have hlt := (own_lt H5.out.1 w4.heap.size rfl).2
    rw [hN4, hW6]
    refine ⟨?_, by rw [size_of_alloc]; omega⟩
    rw [hv1]
    exact (hF.keep (by rw [size_of_alloc]; exact Nat.le_succ _) (fun b _ hb _ => (below_alloc w5 _).block b hb)).base H4.out.2.2.size)
  rw [← hN4, ← hN5]
  rw [← hN4] at hW6
  rw [← hW6]
  clear hW6 hN4 hN5 h45
  have HC : Hid (∀ W, Below W6.heap.size W6 W → Calls Try.prog 20 #[.slice A n c] W (CopyAllPost l n W)) := Lib.hid (fun W hW => copyAll_any A c n l HM.out.2.1 (by omega) (fun x hx => by
    obtain ⟨q, hq⟩ := List.getElem?_of_mem hx
    have := (HM.out.2.2.2.t.2 q x hq).1.2.2.1.2
    omega) W (HM.out.1.later (HB6.out.next hW)))
  have HBX : Hid (∀ W, Below W6.heap.size W6 W → W.cell? ⟨N5, 0, none⟩ = some (.int .i64 a) ∧ W.cell? ⟨N5, 1, none⟩ = some (.string ⟨rc.toArray⟩) ∧ W.cell? ⟨N5, 2, none⟩ = some (.slice (some ⟨N4, 0, none⟩) m m)) := Lib.hid (fun W hW => by
    have h := (hW.block N5 (Array.getElem?_eq_some_iff.1 HX6.out).1).trans HX6.out
    exact ⟨(cell_free h 0 _ rfl).1, (cell_free h 1 _ rfl).1, (cell_free h 2 _ rfl).1⟩)
  have HIns : Hid (∀ (W : World) (L : List Bx) (g vb : Nat), blocksOf L = l → L.length = n → OwnMem W w.heap.size (.slice (some ⟨g, 0, none⟩) n n) L → W6.heap.size ≤ g → W.heap[vb]? = some (.cells #[.int .i64 a, .string ⟨rc.toArray⟩, .slice (some ⟨N4, 0, none⟩) m m] 42 (0, 0)) → Below W6.heap.size W6 W →
      Calls Try.prog 38 #[.slice (some ⟨g, 0, none⟩) n n, .int .i64 i, .slice (some ⟨vb, 0, none⟩) 1 1] W (InsPost w.heap.size (L.take i ++ ⟨⟨a, rc, List.replicate m 0⟩, some ⟨N4, 0, none⟩, m⟩ :: L.drop i) W)) :=
    Lib.hid (fun W L g vb h1 h2 h3 h4 h5 h6 => by
      have hcells : ∀ j u, (cells3 ⟨⟨a, rc, List.replicate m 0⟩, some ⟨N4, 0, none⟩, m⟩)[j]? = some u → W.cell? ((⟨vb, 0, none⟩ : Addr).add j) = some u := fun j u hj => by
        rw [Addr.add_lit, Nat.zero_add]
        refine (cell_free h5 j u ?_).1
        unfold cells3 at hj
        simp only [List.length_replicate] at hj
        rw [← hj]; simp
      have hpl : BkLen ⟨a, rc, List.replicate m 0⟩ := ⟨HB.out.2.1, by show (List.replicate m (0 : Int)).length ≤ maxLen; rw [List.length_replicate]; unfold maxLen; omega⟩
      have hpf : FieldsOwn W w.heap.size (some g) (some ⟨N4, 0, none⟩) (List.replicate m 0) := (HF6.out.1.avoid (fun b _ hb _ e => by have := Option.some.inj e; omega)).keep h6.size (fun b _ hb _ => h6.block b hb)
      have hsz : w.heap.size ≤ W.heap.size := Nat.le_trans HB6.out.size h6.size
      have hvb : vb < W.heap.size := (Array.getElem?_eq_some_iff.1 h5).1
      have hin : i ≤ n := by have := H4.out.1.1; have := HM.out.2.1; omega
      rcases Nat.lt_or_eq_of_le hin with hlt | rfl
      · exact insert_mid w.heap.size g vb n i 1 L _ h2 hlt (by omega) W hsz h3 hvb hcells hpl hpf
      · rw [List.take_of_length_le (by omega), List.drop_of_length_le (by omega)]
        exact insert_end w.heap.size g vb _ 1 L _ h2 (by omega) W hsz h3 hvb hcells hpl hpf)
  have HS6 : Hid ((World.drew (World.alloc W6 (.cells #[.int .i64 a, .string ⟨rc.toArray⟩, .slice (some ⟨N4, 0, none⟩) m m] 42))).heap.size = W6.heap.size + 1) := Lib.hid (size_of_alloc _ _)
  obtain ⟨d0, d1, d2⟩ := HBX.out W6 (Below.refl _ _)
  go_region_with (first
    | (go_at_call 20; refine (HC.out _ (by first | exact (Below.refl _ _).drew1 | exact ((Below.refl _ _).al _).drew1)).mono ?_; rintro e w7 ⟨L, rfl, q1, q2, q3, q4⟩; (try rw [HS6.out] at q3); have H7 := Lib.hid (And.intro q1 (And.intro q2 (And.intro q3 q4))); clear q1 q2 q3 q4; obtain ⟨f0, f1, f2⟩ := HBX.out w7 (by first | exact (Below.refl _ _).drew1.next H7.out.2.2.2 | exact ((Below.refl _ _).al _).drew1.next H7.out.2.2.2))
    | (go_at_call 38; refine (HIns.out _ _ _ _ H7.out.1 H7.out.2.1 (by first | exact (H7.out.2.2.1.base (Nat.le_trans HB6.out.size (Nat.le_refl _))).later (below_alloc _ _) | exact H7.out.2.2.1.base (Nat.le_trans HB6.out.size (Nat.le_succ _))) (by first | exact Nat.le_refl _ | exact Nat.le_succ _) (by first | exact heap_of_alloc w7 _ | exact (H7.out.2.2.2.block _ (by show W6.heap.size < (W6.alloc _).heap.size; rw [size_of_alloc]; exact Nat.lt_succ_self _)).trans (heap_of_alloc W6 _)) (by first | exact ((Below.refl _ _).drew1.next H7.out.2.2.2).al _ | exact ((Below.refl _ _).al _).drew1.next H7.out.2.2.2)).mono ?_; rintro e w8 ⟨v, rfl, i1, i2⟩; have H8 := Lib.hid (And.intro i1 i2); clear i1 i2))
  all_goals
    obtain ⟨A8, c8, hv8⟩ := H8.out.1.form
    subst hv8
    go_wp2
    go_ret3
    refine ⟨A8, _, c8, a, 0, rfl, .inr (.inr (.inr (.inr ⟨⟨HM.out.2.2.2.t, HB.out.1.symm, ⟨by omega, by omega⟩, by have := H100.out.2; have := HM.out.2.1; omega, HKE.out ▸ H3.out.1, i, H4.out.1, ?_⟩, rfl⟩))), H8.out.1, HB6.out.trans ?_⟩
    · have h1 := H7.out.1
      unfold blocksOf at h1 ⊢
      rw [List.map_append, List.map_cons, List.map_take, List.map_drop, h1]
      simp
    · first
        | exact (((((Below.refl W6.heap.size W6).drew1).next H7.out.2.2.2).al _).mono HB6.out.size).trans H8.out.2
        | exact (((((Below.refl W6.heap.size W6).al _).drew1).next H7.out.2.2.2).mono HB6.out.size).trans H8.out.2

end Go.Proofs.Ytbmejohoifpfhaa
