/-
  Contract of memory.Pick: the addresses that are chosen are kept in a map.
-/
import Derived.Test.YtbmejohoifpfhaaMemRP
import Derived.Test.YtbmejohoifpfhaaMemV
import Derived.Maps.OwnOps
import Derived.Maps.Views
namespace Go.Proofs.Ytbmejohoifpfhaa
open Go.RowKit Go.Lib
open Go.Maps (Keyed setOf)

theorem atKey_fold (u : DataW Unit) (k : Lit) (z : DataW Unit) : ∀ (acc : List Lit) (m : DataW Unit), Go.Maps.IsMap m → (∀ x ∈ acc, Go.WideAt.IsKeyLit x) → (k ∈ acc → (acc.foldl (fun m x => m.put x u) m).atKey k z = u) ∧ (k ∉ acc → (acc.foldl (fun m x => m.put x u) m).atKey k z = m.atKey k z)
  | [], m, _, _ => ⟨fun h => (by cases h), fun _ => rfl⟩
  | x :: r, m, hm, h => by
    have ih := atKey_fold u k z r (m.put x u) (hm.put x u) (fun y hy => h y (by simp [hy]))
    rw [List.foldl_cons]
    refine ⟨fun hk => ?_, fun hk => ?_⟩
    · by_cases hr : k ∈ r
      · exact ih.1 hr
      · obtain rfl : k = x := by
          rcases List.mem_cons.1 hk with e | e
          · exact e
          · exact absurd e hr
        rw [ih.2 hr, Go.Maps.atKey_put_same hm (h k (by simp))]
    · rw [ih.2 (fun hr => hk (List.mem_cons_of_mem _ hr)), Go.Maps.atKey_put_other (fun e => hk (by rw [e]; exact List.mem_cons_self))]

/-- The set of these integers. -/
abbrev intD (f : List Int) : DataW Unit := setOf (DataW.lit (.bool true)) (f.map fun t => Lit.int .i64 t)

theorem intD_succ (f : List Int) (k : Nat) (t : Int) (h : f[k]? = some t) : intD (f.take (k + 1)) = (intD (f.take k)).put (.int .i64 t) (.lit (.bool true)) := by
  unfold intD
  rw [List.take_add_one, h, List.map_append, show (Option.some t).toList.map (fun x => Lit.int .i64 x) = [Lit.int .i64 t] from rfl, Go.Maps.setOf_snoc]

theorem intD_at (f : List Int) (t : Int) (r : Bool) (hr : Tells r (t ∈ f)) : (intD f).atKey (.int .i64 t) (.lit (.bool false)) = .lit (.bool r) := by
  unfold intD setOf
  have key := atKey_fold (DataW.lit (.bool true)) (.int .i64 t) (.lit (.bool false)) (f.map fun t => Lit.int .i64 t) (.map []) ⟨_, rfl⟩ (fun x hx => by obtain ⟨s, _, rfl⟩ := List.mem_map.1 hx; trivial)
  have hm : Lit.int .i64 t ∈ f.map (fun t => Lit.int .i64 t) ↔ t ∈ f := by
    rw [List.mem_map]
    exact ⟨fun ⟨s, hs, e⟩ => by injection e with _ e; exact e ▸ hs, fun h => ⟨t, h, rfl⟩⟩
  cases r
  · exact key.2 (fun h => hr.f (hm.1 h))
  · exact key.1 (hm.2 hr.t)

abbrev IntsAt (w : World) (b n : Nat) (D : DataW Unit) : Prop := w.ownsMap Try.prog 3 (plainElem (H := Unit) Try.prog 4) b n D

theorem IntsAt.later {w w' : World} {b n : Nat} {D : DataW Unit} (h : IntsAt w b n D) (hb : Below w.heap.size w w') : IntsAt w' b n D := by
  have hlt := World.ownsMap.lt h
  obtain ⟨es, clock, h1, F, hs, hD⟩ := h
  exact ⟨es, clock, (hb.block b hlt).trans h1, F, hs, hD⟩

theorem below_grownP {B b : Nat} {W W' : World} (hg : W.grownBy W' (some b)) (hb : B ≤ b) (hB : B ≤ W.heap.size) : Below B W W' :=
  ⟨hg.os, hg.tape, hg.output, hg.size, fun k hk => hg.block k (by omega) (fun e => by have := Option.some.inj e; omega)⟩

theorem int_wf {t : Int} (h : 1 ≤ t ∧ t ≤ 1048576) : (Lit.int .i64 t).wf = true := by
  simp [Lit.wf, IntKind.min, IntKind.max, IntKind.signed, IntKind.bits]
  omega

set_option maxRecDepth 100000 in
set_option maxHeartbeats 16000000 in
theorem pick_any (A F : Option Addr) (c cf n nf : Nat) (l : List Bk) (f : List Int) (hn : n = l.length) (hnf : nf = f.length) (hl : n ≤ maxLen) (hlf : nf ≤ 1000) (w : World) (hA : MemAt w w.heap.size A l) (hF : FieldsAt w w.heap.size F f) :
    Calls Try.prog 8 #[.slice A n c, .slice F nf cf] w (PickPost l f w) := by
  obtain ⟨r, hr⟩ := says (MemOk l)
  have HV : Hid (Calls Try.prog 18 #[.slice A n c] w fun e w' => e = .returned (.bool r) ∧ Below w.heap.size w w') := Lib.hid (valid_any _ _ _ l hn hl _ hA _ hr)
  have HM := Lib.hid (And.intro hA (And.intro hF (And.intro hn (And.intro hnf (And.intro hr (And.intro hl hlf))))))
  unfold maxLen at hl
  clear hA hF hn hnf hr
  cases r
  · go_enter Try.func8, Try.ntmps8
    go_wp2_with fail
    refine HV.out.mono ?_
    rintro e w1 ⟨rfl, hb⟩
    have H1 := Lib.hid hb
    clear hb
    go_wp2
    go_ret3
    exact pick_none (.inl ⟨HM.out.2.2.2.2.1.f, rfl, rfl, rfl⟩) H1.out
  have h100 : n ≤ 100 := by have := HM.out.2.2.2.2.1.t.1; have := HM.out.2.2.1; omega
  obtain ⟨i0, hi, hiz, his, hib⟩ := info_parts infoBk
  have HI0 := Lib.hid (And.intro hi (And.intro hiz (And.intro his hib)))
  have hmm := @run_makeMap Try.prog
  have HK := Lib.hid (Go.Maps.int_keyed (P := Try.prog) Try.underlying3)
  have HZ0 : Hid (∀ w : World, (zeroValue 4).run Try.prog w = .ok (.bool false) w) := Lib.hid (fun w => by kernel_rfl)
  clear hi hiz his hib
  go_enter Try.func8, Try.ntmps8
  go_wp2_with fail
  refine HV.out.mono ?_
  rintro e w1 ⟨rfl, hb⟩
  have H1 := Lib.hid hb
  have HA1 := Lib.hid (HM.out.1.later hb)
  have HF1 := Lib.hid (HM.out.2.1.later hb)
  clear hb
  have HO0 := Lib.hid (World.ownsMap_made w1 Try.prog 3 (plainElem (H := Unit) Try.prog 4))
  have HB0 := Lib.hid (below_alloc w1 (.map #[] 0))
  go_wp2
  go_loopg [4, 5, 20] nf (fun mm v4 v5 j wr => ∃ k : Nat, mm = nf - k ∧ k ≤ nf ∧ v4 = .slice none 0 0 ∧ v5 = .slice none 0 0 ∧ j = .int .i64 k ∧ Hid (IntsAt wr w1.heap.size k (intD (f.take k)) ∧ Below w1.heap.size w1 wr ∧ ∀ (i : Nat) t, i < k → f[i]? = some t → ∃ q, HasAt l t q))
  case atStart => exact ⟨0, rfl, Nat.zero_le _, rfl, rfl, rfl, Lib.hid ⟨HO0.out, HB0.out, fun i t hi => absurd hi (Nat.not_lt_zero i)⟩⟩
  case round =>
    obtain ⟨k, rfl, hk, rfl, rfl, rfl, HI⟩ := hrel
    have hk0 : (0 : Int) ≤ k := by omega
    by_cases hlt : k < nf
    · have hlt' : (k : Int) < nf := by omega
      obtain ⟨t, ht⟩ : ∃ t, f[k]? = some t := ⟨f[k]'(by rw [← HM.out.2.2.2.1]; exact hlt), List.getElem?_eq_getElem _⟩
      obtain ⟨a, rfl, _, hca⟩ := (HF1.out.later HI.out.2.1) k t ht
      have HX := Lib.hid ht
      clear ht
      rcases at_or_not l t with ⟨i', hat⟩ | hno
      · have HT := Lib.hid hat
        have HWf : Hid ((Lit.int .i64 t).wf = true) := Lib.hid (by
          obtain ⟨x, hx, rfl⟩ := hat
          exact int_wf (HM.out.2.2.2.2.1.t.2 i' x hx).1.1)
        have HKy := Lib.hid (Go.Maps.keyOf_int_mk (P := Try.prog) Try.underlying3 HWf.out)
        have HS := Lib.hid (And.intro trivial (intD_succ f k t HX.out))
        have HKN : Hid (k < maxLen) := Lib.hid (by unfold maxLen; have := HM.out.2.2.2.2.2.2; omega)
        clear hat
        go_wp2_with fail
        refine (find_any _ _ _ l HM.out.2.2.1 _ _ HM.out.2.2.2.2.1.t (HA1.out.later HI.out.2.1)).mono ?_
        rintro e w5 ⟨q, ok, rfl, g1, g2, g3⟩
        obtain rfl : ok = true := by
          refine g2.yes ?_
          have := g1.uniq (HT.out.lb HM.out.2.2.2.2.1.t)
          rw [this]
          exact HT.out
        have H5 := Lib.hid (And.intro (IntsAt.later HI.out.1 g3) (HI.out.2.1.next g3))
        clear g1 g2 g3
        go_wp2_with (at_mapUpdate; refine wpList_mapUpdate_own _ rfl _ _ _ 54 rfl 3 4 HK.out Try.underlying54 _ w1.heap.size _ _ rfl H5.out.1 HKN.out _ _ _ rfl rfl HKy.out _ _ (Go.plainElem_bool Try.underlying4 true) ?_; intro wk hown hgr; have H6 := Lib.hid (And.intro hown (H5.out.2.trans (below_grownP hgr (Nat.le_refl _) H5.out.2.size))); clear hown hgr)
        go_roundg (nf - (k + 1))
        case measure => omega
        case rel =>
          refine ⟨k + 1, rfl, by omega, rfl, rfl, by go_num, Lib.hid ⟨by rw [HS.out.2]; exact H6.out.1, H6.out.2, fun i v hi hv => ?_⟩⟩
          by_cases e : i = k
          · subst e
            obtain rfl : t = v := Option.some.inj (HX.out.symm.trans hv)
            exact ⟨_, HT.out⟩
          · exact HI.out.2.2 i v (by omega) hv
      · have HT := Lib.hid hno
        clear hno
        go_wp2_with fail
        refine (find_any _ _ _ l HM.out.2.2.1 _ _ HM.out.2.2.2.2.1.t (HA1.out.later HI.out.2.1)).mono ?_
        rintro e w5 ⟨q, ok, rfl, g1, g2, g3⟩
        obtain rfl : ok = false := g2.no (fun hc => noAt_has HT.out hc)
        have H5 := Lib.hid (HI.out.2.1.next g3)
        clear g1 g2 g3
        go_wp2
        go_ret3
        exact pick_none (.inr (.inl ⟨HM.out.2.2.2.2.1.t, ⟨t, List.mem_of_getElem? HX.out, HT.out⟩, rfl, rfl, rfl⟩)) (H1.out.next H5.out)
    · have hlt' : ¬ (k : Int) < nf := by omega
      have HAll : Hid (∀ t ∈ f, ∃ q, HasAt l t q) := Lib.hid (fun t ht => by
        obtain ⟨i, hi⟩ := List.getElem?_of_mem ht
        exact HI.out.2.2 i t (by have := (List.getElem?_eq_some_iff.1 hi).1; have := HM.out.2.2.2.1; omega) hi)
      have HD : Hid (IntsAt wr w1.heap.size k (intD f)) := Lib.hid (by
        have := HI.out.1
        rwa [List.take_of_length_le (by rw [← HM.out.2.2.2.1]; omega)] at this)
      have hf8 : ∀ y ∈ l, y.f.length * 8 ≤ 140737488355328 := fun y hy => by
        obtain ⟨q, hq⟩ := List.getElem?_of_mem hy
        have := (HM.out.2.2.2.2.1.t.2 q y hq).1.2.2.1.2
        omega
      have HF8 := Lib.hid hf8
      clear hf8
      go_wp2_with fail
      refine (copyAll_two _ _ _ l HM.out.2.2.1 (by omega) HF8.out _ (HA1.out.later HI.out.2.1)).mono ?_
      rintro e w6 ⟨LC, rfl, q1, q2, q3, q4, _⟩
      have HA6 : Hid (MemAt w6 w6.heap.size (some ⟨wr.heap.size, 0, none⟩) l) := Lib.hid (by
        have := (q2 ▸ q3 : OwnMem w6 wr.heap.size (.slice (some ⟨wr.heap.size, 0, none⟩) LC.length LC.length) LC).mem
        rwa [q1] at this)
      have HO6 := Lib.hid (IntsAt.later HD.out q4)
      have H6 := Lib.hid (HI.out.2.1.next q4)
      clear q1 q2 q3 q4
      generalize wr.heap.size = g6 at *
      go_wp2
      go_loopg [4, 5, 38] n (fun mm v8 v9 j wq => ∃ (i : Nat) (I O : List Bx), mm = n - i ∧ i ≤ n ∧ j = .int .i64 i ∧ Hid (Two w6 v8 v9 I O wq ∧ blocksOf I = pickIn f (l.take i) ∧ blocksOf O = pickOut f (l.take i) ∧ I.length ≤ i ∧ O.length ≤ i))
      case atStart => exact ⟨0, [], [], rfl, Nat.zero_le _, rfl, Lib.hid ⟨Two.start _, rfl, rfl, Nat.le_refl _, Nat.le_refl _⟩⟩
      case round =>
        obtain ⟨j, I, O, rfl, hj, rfl, HJ⟩ := hrel
        have hj0 : (0 : Int) ≤ j := by omega
        by_cases hjn : j < n
        · have hjn' : (j : Int) < n := by omega
          obtain ⟨x, hx⟩ := mem_ex (l := l) (i := j) (by rw [← HM.out.2.2.1]; exact hjn)
          obtain ⟨a, Fx, c', ha, hBx⟩ := HA6.out j x hx
          obtain rfl := Option.some.inj ha
          obtain ⟨xa, hxa⟩ : ∃ xa, xa = x.a := ⟨_, rfl⟩
          obtain ⟨xr, hxr⟩ : ∃ xr, xr = x.r := ⟨_, rfl⟩
          obtain ⟨xn, hxn⟩ : ∃ xn, xn = x.f.length := ⟨_, rfl⟩
          have HE := Lib.hid (And.intro hxa (And.intro hxr hxn))
          have HCl : Hid (wr.cell? ⟨g6, j * 3, none⟩ = some (.int .i64 xa) ∧ wr.cell? ⟨g6, j * 3 + 1, none⟩ = some (.string ⟨xr.toArray⟩) ∧ wr.cell? ⟨g6, j * 3 + 2, none⟩ = some (.slice Fx xn c')) := Lib.hid (by
            have hW := HJ.out.1.bel
            have he : (⟨g6, 0, none⟩ : Addr).add (j * 3) = ⟨g6, j * 3, none⟩ := by rw [Addr.add_lit, Nat.zero_add]
            have hlt := hBx.lt
            have k0 := hBx.c0
            have k1 := hBx.c1
            have k2 := hBx.c2
            rw [he] at k0 k1 k2
            rw [hxa, hxr, hxn]
            exact ⟨(hW.cell (p := ⟨g6, j * 3, none⟩) hlt).trans k0, (hW.cell (p := ⟨g6, j * 3 + 1, none⟩) hlt).trans k1, (hW.cell (p := ⟨g6, j * 3 + 2, none⟩) hlt).trans k2⟩)
          have HX := Lib.hid (And.intro hx (And.intro trivial (And.intro hBx.len hBx.flds)))
          have HWf : Hid ((Lit.int .i64 xa).wf = true) := Lib.hid (by rw [hxa]; exact int_wf (HM.out.2.2.2.2.1.t.2 j x hx).1.1)
          have HKy := Lib.hid (Go.Maps.keyOf_int_mk (P := Try.prog) Try.underlying3 HWf.out)
          obtain ⟨b, hb⟩ := says (xa ∈ f)
          have HB := Lib.hid (And.intro hb (intD_at f xa b hb))
          obtain ⟨c0, c1, c2⟩ := HCl.out
          have HB1 := Lib.hid (below_alloc wr (.cells #[.int .i64 xa, .string ⟨xr.toArray⟩, .slice Fx xn c'] 42))
          have H5 := Lib.hid (HJ.out.1.later HB1.out)
          have HM5 := Lib.hid (IntsAt.later HO6.out H5.out.bel)
          have H5A := Lib.hid (H5.out.later (below_alloc (wr.alloc (.cells #[.int .i64 xa, .string ⟨xr.toArray⟩, .slice Fx xn c'] 42)) (.cells #[.int .i64 xa, .string ⟨xr.toArray⟩, .slice Fx xn c'] 42)))
          clear hx hBx hxa hxr hxn hb
          have HNW := Lib.hid (news_cells (w := wr.alloc (.cells #[.int .i64 xa, .string ⟨xr.toArray⟩, .slice Fx xn c'] 42)) xa xr Fx xn c' 42)
          rw [size_of_alloc] at HNW
          cases b
          · go_wp2_with (first
              | (refine wpList_lookup_bool _ rfl _ _ 54 rfl 3 4 HK.out Try.underlying54 Try.underlying4 (HZ0.out _) w1.heap.size k _ rfl HM5.out _ _ rfl HKy.out false HB.out.2 ?_)
              | (at_builtin; refine wpList_append_own_at (o := ⟨some 53, _, _, _, _, _⟩) _ rfl _ _ 22 rfl w6.heap.size 42 i0 _ 3 48 Try.underlying22 HI0.out.1 HI0.out.2.1 HI0.out.2.2.1 HI0.out.2.2.2 rfl (by decide) _ O.length (cellsL O) rfl H5A.out.r9 ⟨wr.heap.size + 1, 0, none⟩ 1 1 [.int .i64 xa, .string ⟨xr.toArray⟩, .slice Fx xn c'] rfl rfl HNW.out (news_one _ _ _ _ _) (by have := HJ.out.2.2.2; unfold maxLen; omega) (by have := HJ.out.2.2.2; omega) H5A.out.bel.size ?_; intro v' w7 hown hgrow _ hat; have H6 := Lib.hid (H5A.out.symm.put (p := ⟨x, Fx, c'⟩) HX.out.2.2 (by rw [show cells3 ⟨x, Fx, c'⟩ = [.int .i64 xa, .string ⟨xr.toArray⟩, .slice Fx xn c'] from by rw [HE.out.1, HE.out.2.1, HE.out.2.2]; rfl]; exact hown) hgrow hat); clear hown hgrow hat))
            go_roundg (n - (j + 1))
            case measure => omega
            case rel => exact ⟨j + 1, I, O ++ [⟨x, Fx, c'⟩], rfl, by omega, by go_num, Lib.hid ⟨H6.out.symm, by
              have hn : ¬ x.a ∈ f := by rw [← HE.out.1]; exact HB.out.1.f
              rw [pickIn_next HX.out.1, if_neg hn, List.append_nil, HJ.out.2.1], by
              have hn : ¬ x.a ∈ f := by rw [← HE.out.1]; exact HB.out.1.f
              have := HJ.out.2.2.1
              unfold blocksOf at this ⊢
              rw [pickOut_next HX.out.1, if_neg hn, List.map_append, this]; rfl, by have := HJ.out.2.2.2; omega, by have := HJ.out.2.2.2; rw [List.length_append, List.length_singleton]; omega⟩⟩
          · go_wp2_with (first
              | (refine wpList_lookup_bool _ rfl _ _ 54 rfl 3 4 HK.out Try.underlying54 Try.underlying4 (HZ0.out _) w1.heap.size k _ rfl HM5.out _ _ rfl HKy.out true HB.out.2 ?_)
              | (at_builtin; refine wpList_append_own_at (o := ⟨some 49, _, _, _, _, _⟩) _ rfl _ _ 22 rfl w6.heap.size 42 i0 _ 3 48 Try.underlying22 HI0.out.1 HI0.out.2.1 HI0.out.2.2.1 HI0.out.2.2.2 rfl (by decide) _ I.length (cellsL I) rfl H5A.out.r8 ⟨wr.heap.size + 1, 0, none⟩ 1 1 [.int .i64 xa, .string ⟨xr.toArray⟩, .slice Fx xn c'] rfl rfl HNW.out (news_one _ _ _ _ _) (by have := HJ.out.2.2.2; unfold maxLen; omega) (by have := HJ.out.2.2.2; omega) H5A.out.bel.size ?_; intro v' w7 hown hgrow _ hat; have H6 := Lib.hid (H5A.out.put (p := ⟨x, Fx, c'⟩) HX.out.2.2 (by rw [show cells3 ⟨x, Fx, c'⟩ = [.int .i64 xa, .string ⟨xr.toArray⟩, .slice Fx xn c'] from by rw [HE.out.1, HE.out.2.1, HE.out.2.2]; rfl]; exact hown) hgrow hat); clear hown hgrow hat))
            go_roundg (n - (j + 1))
            case measure => omega
            case rel => exact ⟨j + 1, I ++ [⟨x, Fx, c'⟩], O, rfl, by omega, by go_num, Lib.hid ⟨H6.out, by
              have hn : x.a ∈ f := by rw [← HE.out.1]; exact HB.out.1.t
              have := HJ.out.2.1
              unfold blocksOf at this ⊢
              rw [pickIn_next HX.out.1, if_pos hn, List.map_append, this]; rfl, by
              have hn : x.a ∈ f := by rw [← HE.out.1]; exact HB.out.1.t
              rw [pickOut_next HX.out.1, if_pos hn, List.append_nil, HJ.out.2.2.1], by have := HJ.out.2.2.2; rw [List.length_append, List.length_singleton]; omega, by have := HJ.out.2.2.2; omega⟩⟩
        · have hjn' : ¬ (j : Int) < n := by omega
          obtain ⟨A1, c1, rfl, m1⟩ := HJ.out.1.mem
          obtain ⟨A2, c2, rfl, m2⟩ := HJ.out.1.symm.mem
          have htk : l.take j = l := List.take_of_length_le (by rw [← HM.out.2.2.1]; omega)
          have HZ := Lib.hid (And.intro m1 (And.intro m2 htk))
          clear m1 m2 htk
          go_wp2
          go_ret3
          refine ⟨A1, c1, A2, c2, blocksOf I, blocksOf O, 0, by rw [blocksOf_len, blocksOf_len]; rfl, .inr (.inr ⟨HM.out.2.2.2.2.1.t, HAll.out, by rw [HJ.out.2.1, HZ.out.2.2], by rw [HJ.out.2.2.1, HZ.out.2.2], rfl⟩), HZ.out.1, HZ.out.2.1, H1.out.next (H6.out.next HJ.out.1.bel)⟩

end Go.Proofs.Ytbmejohoifpfhaa
