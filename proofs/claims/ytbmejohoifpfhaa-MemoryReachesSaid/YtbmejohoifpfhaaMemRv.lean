/-
  Contract of memory.Reach: marking from an address on, by a closure that calls itself; the marks are kept in a map, its keys sorted.
-/
import Derived.Test.YtbmejohoifpfhaaMemRm
import Derived.Test.YtbmejohoifpfhaaMemPk
import Derived.Test.YtbmejohoifpfhaaMemV
import Derived.Test.YtbmejohoifpfhaaIter
import Derived.Deep.RegionHeld3
import Derived.OwnWalkIn
import Derived.Laws.EntriesVeiled
import Derived.TacticsInMore
namespace Go.Proofs.Ytbmejohoifpfhaa
open Go.RowKit Go.Lib
open Go.Maps (Keyed setOf)

/-- A guarded lookup in a map of truth values, where its guard holds. -/
theorem wpList_lookup_boolG {H : Type} {P : Program} (w : World) {ops : Array Oper} {rest : List Oper} {o : Oper} {a : Act} {Q : Exit → Act → World → Prop}
    (hw : Region.wanted o (yielded ops a.tmps) = true) (m x : Operand) (t : TypeId) (hop : o.op = Op.lookup t m x false)
    (k e : TypeId) (K : Keyed P k) (ht : P.underlying t = some (.map k e)) (he : P.underlying e = some .bool) (hz : (zeroValue e).run P w = .ok (.bool false) w) (b n : Nat) (D : DataW H)
    (hm : a.eval m = .map (some b)) (hown : w.ownsMap P k (plainElem P e) b n D) (key : Value) (kl : Lit) (hx : a.eval x = key) (hkey : keyOf P k key = some kl) (r : Bool) (hat : D.atKey kl (.lit (.bool false)) = .lit (.bool r))
    (hK : wpList P ops Q rest (a.put o.dst (.bool r)) w) :
    wpList P ops Q (o :: rest) a w := by
  unfold wpList
  rw [if_pos hw]
  refine .inl ?_
  obtain ⟨v, ps, hrun, hv⟩ := hown.lookup K ht hz (plainElem_bool he false) hkey
  rw [hat] at hv
  obtain rfl := plainElem_bool_inv he hv
  unfold Oper.wp
  simp [execOp, hop, hm, hx, hrun, Result.andThen]
  exact hK

/-- The closure with its three variables. -/
abbrev visV (b2 b5 b6 : Nat) : Value := .func (.func 31) #[] #[.pointer (some ⟨b2, 0, none⟩), .pointer (some ⟨b5, 0, none⟩), .pointer (some ⟨b6, 0, none⟩)]

/-- What lies ready for the closure, with what is marked. -/
structure Vs (w0 : World) (A : Option Addr) (c n : Nat) (l : List Bk) (b2 b5 b6 bm : Nat) (W : World) (vs : List Int) : Prop where
  bel : Below w0.heap.size w0 W
  c2 : W.heap[b2]? = some (.cells #[.slice A n c] 22 (0, 0))
  c5 : W.heap[b5]? = some (.cells #[.map (some bm)] 54 (0, 0))
  c6 : W.heap[b6]? = some (.cells #[visV b2 b5 b6] 57 (0, 0))
  ne : b2 ≠ bm ∧ b5 ≠ bm ∧ b6 ≠ bm
  hm : w0.heap.size ≤ bm
  map : IntsAt W bm vs.length (intD vs)
  nd : vs.Nodup
  dom : ∀ t ∈ vs, Dom l t

theorem Vs.later {w0 : World} {A : Option Addr} {c n : Nat} {l : List Bk} {b2 b5 b6 bm : Nat} {W W' : World} {vs : List Int} (h : Vs w0 A c n l b2 b5 b6 bm W vs) (hb : Below W.heap.size W W') : Vs w0 A c n l b2 b5 b6 bm W' vs :=
  ⟨h.bel.next hb, (hb.block _ (Array.getElem?_eq_some_iff.1 h.c2).1).trans h.c2, (hb.block _ (Array.getElem?_eq_some_iff.1 h.c5).1).trans h.c5, (hb.block _ (Array.getElem?_eq_some_iff.1 h.c6).1).trans h.c6, h.ne, h.hm, IntsAt.later h.map hb, h.nd, h.dom⟩

theorem Vs.drew {w0 : World} {A : Option Addr} {c n : Nat} {l : List Bk} {b2 b5 b6 bm : Nat} {W : World} {vs : List Int} (h : Vs w0 A c n l b2 b5 b6 bm W vs) : Vs w0 A c n l b2 b5 b6 bm W.drew vs := h.later ((Below.refl _ _).drew1)

theorem Vs.put {w0 : World} {A : Option Addr} {c n : Nat} {l : List Bk} {b2 b5 b6 bm : Nat} {W W' : World} {vs : List Int} (h : Vs w0 A c n l b2 b5 b6 bm W vs) {t : Int} (ht : t ∉ vs) (hd : Dom l t) (hg : W.grownBy W' (some bm))
    (hmap : IntsAt W' bm (vs.length + 1) ((intD vs).put (.int .i64 t) (.lit (.bool true)))) : Vs w0 A c n l b2 b5 b6 bm W' (vs ++ [t]) := by
  have hk : ∀ b o, W.heap[b]? = some o → b ≠ bm → W'.heap[b]? = some o := fun b o hb hne => (hg.block b (Array.getElem?_eq_some_iff.1 hb).1 (fun e => hne (Option.some.inj e))).trans hb
  refine ⟨h.bel.trans (below_grownP hg h.hm h.bel.size), hk _ _ h.c2 h.ne.1, hk _ _ h.c5 h.ne.2.1, hk _ _ h.c6 h.ne.2.2, h.ne, h.hm, ?_, ?_, fun u hu => ?_⟩
  · have e : intD (vs ++ [t]) = (intD vs).put (.int .i64 t) (.lit (.bool true)) := by
      unfold intD
      rw [List.map_append, show [t].map (fun x => Lit.int .i64 x) = [Lit.int .i64 t] from rfl, Go.Maps.setOf_snoc]
    rw [e, List.length_append]
    exact hmap
  · rw [List.nodup_append]
    refine ⟨h.nd, List.nodup_cons.2 ⟨by simp, List.nodup_nil⟩, fun a ha b hb => ?_⟩
    obtain rfl := List.mem_singleton.1 hb
    exact fun e => ht (e ▸ ha)
  · rcases List.mem_append.1 hu with hu | hu
    · exact h.dom u hu
    · obtain rfl := List.mem_singleton.1 hu
      exact hd

/-- Behind a visit. -/
def VisPost (w0 : World) (A : Option Addr) (c n : Nat) (l : List Bk) (b2 b5 b6 bm : Nat) (f vs : List Int) (e : Ending) (w' : World) : Prop :=
  e = .returned (.tuple #[]) ∧ ∃ v2, Vs w0 A c n l b2 b5 b6 bm w' v2 ∧ VisIs l f vs v2 ∧ vs.length ≤ v2.length

set_option maxRecDepth 100000 in
set_option maxHeartbeats 8000000 in
theorem visit_by (w0 : World) (A : Option Addr) (c n : Nat) (l : List Bk) (hn : n = l.length) (hl : MemOk l) (hA : MemAt w0 w0.heap.size A l) (b2 b5 b6 bm : Nat) :
    ∀ (M : Nat) (f vs : List Int) (F : Option Addr) (nf cf : Nat) (W : World), nf = f.length → nf ≤ 1000 → FieldsAt w0 w0.heap.size F f → Vs w0 A c n l b2 b5 b6 bm W vs → l.length < vs.length + M →
      Calls Try.prog 31 #[.slice F nf cf, .pointer (some ⟨b2, 0, none⟩), .pointer (some ⟨b5, 0, none⟩), .pointer (some ⟨b6, 0, none⟩)] W (VisPost w0 A c n l b2 b5 b6 bm f vs) := by
  intro M
  induction M with
  | zero =>
    intro f vs F nf cf W _ _ _ hV hM
    have := marked_len hV.nd hV.dom
    omega
  | succ M ih =>
    intro f vs F nf cf W hnf hlf hF hV hM
    have HM := Lib.hid (And.intro hA (And.intro hF (And.intro hn (And.intro hnf (And.intro hl (And.intro hM ih))))))
    have HV := Lib.hid hV
    have HK := Lib.hid (Go.Maps.int_keyed (P := Try.prog) Try.underlying3)
    have HZ0 : Hid (∀ w : World, (zeroValue 4).run Try.prog w = .ok (.bool false) w) := Lib.hid (fun w => by kernel_rfl)
    clear hA hF hn hnf hl hM ih hV
    go_enter Try.func31, Try.ntmps31
    go_wp2
    go_loopg [11] nf (fun mm j wr => ∃ (k : Nat) (vk : List Int), mm = nf - k ∧ k ≤ nf ∧ j = .int .i64 k ∧ Hid (Vs w0 A c n l b2 b5 b6 bm wr vk ∧ VisIs l (f.take k) vs vk ∧ vs.length ≤ vk.length))
    case atStart => exact ⟨0, vs, rfl, Nat.zero_le _, rfl, Lib.hid ⟨HV.out, VisIs.nil l vs, Nat.le_refl _⟩⟩
    case round =>
      obtain ⟨k, vk, rfl, hk, rfl, HI⟩ := hrel
      have hk0 : (0 : Int) ≤ k := by omega
      by_cases hlt : k < nf
      · have hlt' : (k : Int) < nf := by omega
        obtain ⟨t, ht⟩ : ∃ t, f[k]? = some t := ⟨f[k]'(by rw [← HM.out.2.2.2.1]; exact hlt), List.getElem?_eq_getElem _⟩
        obtain ⟨ad, rfl, _, hca⟩ := (HM.out.2.1.later HI.out.1.bel) k t ht
        have HT := Lib.hid ht
        clear ht
        have q2 := (cell_free HI.out.1.c2 0 _ rfl).1
        rcases at_or_not l t with ⟨i', hat⟩ | hno
        · obtain ⟨x, hx, hxt⟩ := hat
          have HD := Lib.hid (And.intro hx (And.intro hxt (show Dom l t from ⟨x, List.mem_of_getElem? hx, hxt⟩)))
          have HWf : Hid ((Lit.int .i64 t).wf = true) := Lib.hid (by rw [← hxt]; exact int_wf (HM.out.2.2.2.2.1.2 i' x hx).1.1)
          have HKy := Lib.hid (Go.Maps.keyOf_int_mk (P := Try.prog) Try.underlying3 HWf.out)
          obtain ⟨r, hr⟩ := says (t ∈ vk)
          have HB := Lib.hid (And.intro hr (intD_at vk t r hr))
          clear hx hxt hr
          cases r
          · have HIn : Hid (i' < n) := Lib.hid (by have := (List.getElem?_eq_some_iff.1 HD.out.1).1; have := HM.out.2.2.1; omega)
            have HLm : Hid (vk.length < maxLen) := Lib.hid (by unfold maxLen; have := marked_len HI.out.1.nd HI.out.1.dom; have := HM.out.2.2.2.2.1.1; omega)
            obtain ⟨xa, Fx, cx, hxa, hBx⟩ := HM.out.1 i' x HD.out.1
            obtain rfl := hxa
            obtain ⟨xn, hxn⟩ : ∃ xn, xn = x.f.length := ⟨_, rfl⟩
            have HFc : Hid (∀ W, Below w0.heap.size w0 W → W.cell? ⟨(xa.add (i' * 3)).block, (xa.add (i' * 3)).off + 2, none⟩ = some (.slice Fx xn cx)) := Lib.hid (fun W hb => by
              rw [hxn]
              exact (hb.cell (p := (xa.add (i' * 3)).add 2) (by rw [blk_add, blk_add]; exact hBx.lt)).trans hBx.c2)
            have HXf := Lib.hid (And.intro hxn (And.intro hBx.flds (show xn ≤ 1000 by rw [hxn]; have := (HM.out.2.2.2.2.1.2 i' x HD.out.1).1.2.2.1.2; omega)))
            clear hBx hxn
            go_wp2_with fail
            refine (find_any _ _ _ l HM.out.2.2.1 _ _ HM.out.2.2.2.2.1 (HM.out.1.later HI.out.1.bel)).mono ?_
            rintro e w5 ⟨q, ok, rfl, g1, g2, g3⟩
            obtain rfl : q = i' := g1.uniq (HasAt.lb ⟨x, HD.out.1, HD.out.2.1⟩ HM.out.2.2.2.2.1)
            obtain rfl : ok = true := g2.yes ⟨x, HD.out.1, HD.out.2.1⟩
            have H5 := Lib.hid (HI.out.1.later g3)
            clear g1 g2 g3 q2
            have q5 := (cell_free H5.out.c5 0 _ rfl).1
            have hqn : (q : Int) < n := by have := HIn.out; omega
            have hq0 : (0 : Int) ≤ q := by omega
            have hvb : bm = bm := rfl
            go_wp2_with (first
              | (refine wpList_lookup_boolG _ (by first | rfl | kernel_rfl) _ _ 54 rfl 3 4 HK.out Try.underlying54 Try.underlying4 (HZ0.out _) bm vk.length _ rfl H5.out.map _ _ rfl HKy.out false HB.out.2 ?_)
              | (at_mapUpdate; refine wpList_mapUpdate_own _ rfl _ _ _ 54 rfl 3 4 HK.out Try.underlying54 _ bm _ _ rfl H5.out.map HLm.out _ _ _ rfl rfl HKy.out _ _ (Go.plainElem_bool Try.underlying4 true) ?_; intro wk hown hgr; have H6 := Lib.hid (H5.out.put HB.out.1.f HD.out.2.2 hgr hown); clear hown hgr; have f1 := (cell_free H6.out.c6 0 _ rfl).1; have f2 := (cell_free H6.out.c2 0 _ rfl).1; have f3 := HFc.out _ H6.out.bel))
            go_region_held3 (fun W => W.cell? ⟨b6, 0, none⟩ = some (visV b2 b5 b6) ∧ W.cell? ⟨b2, 0, none⟩ = some (.slice (some xa) n c) ∧ W.cell? ⟨(xa.add (q * 3)).block, (xa.add (q * 3)).off + 2, none⟩ = some (.slice Fx xn cx))
              (first | go_keep | (trace_state; fail))
              (first
                | (go_at_call 31; refine (HM.out.2.2.2.2.2.2 x.f (vk ++ [t]) Fx xn cx _ HXf.out.1 HXf.out.2.2 HXf.out.2.1 H6.out.drew (by have := HM.out.2.2.2.2.2.1; have := HI.out.2.2; rw [List.length_append, List.length_singleton]; omega)).mono ?_; rintro e w8 ⟨rfl, v2, hV, hvis, hlen⟩; have H8 := Lib.hid (And.intro hV (And.intro hvis hlen)); clear hV hvis hlen; have f1 := (cell_free H8.out.1.c6 0 _ rfl).1; have f2 := (cell_free H8.out.1.c2 0 _ rfl).1; have f3 := HFc.out _ H8.out.1.bel))
            go_wp2
            go_roundg (nf - (k + 1))
            case measure => omega
            case rel =>
              refine ⟨k + 1, v2, rfl, by omega, by go_num, Lib.hid ⟨H8.out.1, ?_, by have := H8.out.2.2; have := HI.out.2.2; rw [List.length_append, List.length_singleton] at *; omega⟩⟩
              have hx := HD.out.2.1
              have h1 := HT.out
              have h2 := H8.out.2.1
              rw [← hx] at h1 h2
              exact VisIs.mark HM.out.2.2.2.2.1 HI.out.2.1 h1 (List.mem_of_getElem? HD.out.1) h2
          · go_wp2_with fail
            refine (find_any _ _ _ l HM.out.2.2.1 _ _ HM.out.2.2.2.2.1 (HM.out.1.later HI.out.1.bel)).mono ?_
            rintro e w5 ⟨q, ok, rfl, g1, g2, g3⟩
            obtain rfl : q = i' := g1.uniq (HasAt.lb ⟨x, HD.out.1, HD.out.2.1⟩ HM.out.2.2.2.2.1)
            obtain rfl : ok = true := g2.yes ⟨x, HD.out.1, HD.out.2.1⟩
            have H5 := Lib.hid (HI.out.1.later g3)
            clear g1 g2 g3 q2
            have q5 := (cell_free H5.out.c5 0 _ rfl).1
            go_wp2_with (refine wpList_lookup_boolG _ (by first | rfl | kernel_rfl) _ _ 54 rfl 3 4 HK.out Try.underlying54 Try.underlying4 (HZ0.out _) bm vk.length _ rfl H5.out.map _ _ rfl HKy.out true HB.out.2 ?_)
            go_roundg (nf - (k + 1))
            case measure => omega
            case rel => exact ⟨k + 1, vk, rfl, by omega, by go_num, Lib.hid ⟨H5.out, HI.out.2.1.skip HT.out (.inr HB.out.1.t), HI.out.2.2⟩⟩
        · have HNo := Lib.hid hno
          clear hno
          go_wp2_with fail
          refine (find_any _ _ _ l HM.out.2.2.1 _ _ HM.out.2.2.2.2.1 (HM.out.1.later HI.out.1.bel)).mono ?_
          rintro e w5 ⟨q, ok, rfl, g1, g2, g3⟩
          obtain rfl : ok = false := g2.no (fun hc => noAt_has HNo.out hc)
          have H5 := Lib.hid (HI.out.1.later g3)
          clear g1 g2 g3 q2
          go_wp2
          go_roundg (nf - (k + 1))
          case measure => omega
          case rel => exact ⟨k + 1, vk, rfl, by omega, by go_num, Lib.hid ⟨H5.out, HI.out.2.1.skip HT.out (.inl (fun hd => by obtain ⟨i, hi⟩ := dom_has.1 hd; exact noAt_has HNo.out hi)), HI.out.2.2⟩⟩
      · have hlt' : ¬ (k : Int) < nf := by omega
        have htk : f.take k = f := List.take_of_length_le (by rw [← HM.out.2.2.2.1]; omega)
        have HTk := Lib.hid htk
        clear htk
        go_wp2
        exact bodyPost_end (results_none rfl _ _ _) rfl ⟨rfl, vk, HI.out.1, by have := HI.out.2.1; rwa [HTk.out] at this, HI.out.2.2⟩

/-- Behind Reach. -/
def ReachPost (l : List Bk) (f : List Int) (w : World) (e : Ending) (w' : World) : Prop :=
  ∃ B cb g, e = .returned (.slice B g.length cb) ∧ FieldsAt w' w'.heap.size B g ∧ Below w.heap.size w w' ∧ g.length ≤ 100 ∧ ((MemOk l ∧ IsReach l f g) ∨ (¬ MemOk l ∧ g = []))

theorem addKey_le : ∀ (xs L : List Lit), (xs.foldl Go.Maps.addKey L).length ≤ L.length + xs.length
  | [], L => Nat.le_refl _
  | x :: r, L => by
    have h := addKey_le r (Go.Maps.addKey L x)
    have h2 : (Go.Maps.addKey L x).length ≤ L.length + 1 := by unfold Go.Maps.addKey; split <;> simp
    rw [List.foldl_cons, List.length_cons]
    omega

theorem intD_keys (v2 : List Int) : ∀ x ∈ v2.map (fun t => Lit.int .i64 t), Go.WideAt.IsKeyLit x := by
  intro x hx
  obtain ⟨s, _, rfl⟩ := List.mem_map.1 hx
  trivial

theorem intD_size (v2 : List Int) : Go.Maps.size (intD v2) ≤ v2.length := by
  unfold intD
  rw [Go.Maps.size_setOf _ _ (intD_keys v2)]
  have := addKey_le (v2.map fun t => Lit.int .i64 t) []
  simpa using this

theorem intD_has (v2 : List Int) (t : Int) : Go.Maps.has (intD v2) (.int .i64 t) = true ↔ t ∈ v2 := by
  unfold intD
  rw [Go.Maps.has_setOf _ _ _ (intD_keys v2), List.any_eq_true]
  constructor
  · rintro ⟨x, hx, h⟩
    obtain ⟨s, hs, rfl⟩ := List.mem_map.1 hx
    have : s = t := by simpa [Lit.sameKey] using h
    exact this ▸ hs
  · intro h
    exact ⟨_, List.mem_map.2 ⟨t, h, rfl⟩, by simp [Lit.sameKey]⟩

/-- The sorted keys are what is reached. -/
theorem sorted_reach {l : List Bk} {f v2 ss : List Int} {W : World} {bm : Nat} (hp : ss.Perm (Go.intKeys (intD v2))) (hown : IntsAt W bm v2.length (intD v2)) (hnd : v2.Nodup) (hd : ∀ t ∈ v2, Dom l t) (hv : VisIs l f [] v2) : IsReach l f (ss.mergeSort (fun x y => decide (x ≤ y))) ∧ ss.length = v2.length := by
  have hc : Go.CollectedI (intD v2) (fun _ => false) v2 := ⟨hnd, fun x => by rw [intD_has]; simp⟩
  have hp2 : v2.Perm (Go.intKeys (intD v2)) := hc.perm hown (Go.Maps.int_keyed (P := Try.prog) Try.underlying3) Try.underlying3 (fun _ => rfl)
  have hp3 : ss.Perm v2 := hp.trans hp2.symm
  refine ⟨⟨?_, fun t => ?_⟩, hp3.length_eq⟩
  · have tr : ∀ a b c : Int, decide (a ≤ b) = true → decide (b ≤ c) = true → decide (a ≤ c) = true := fun a b c h1 h2 => by simp only [decide_eq_true_eq] at *; omega
    have tot : ∀ a b : Int, (decide (a ≤ b) || decide (b ≤ a)) = true := fun a b => by simp only [Bool.or_eq_true, decide_eq_true_eq]; omega
    have h1 := List.pairwise_mergeSort (le := fun x y : Int => decide (x ≤ y)) tr tot ss
    have h2 : (ss.mergeSort (fun x y => decide (x ≤ y))).Nodup := ((List.mergeSort_perm ss _).trans hp3).nodup_iff.2 hnd
    refine (h1.and h2).imp (fun {a b} h => ?_)
    have h3 := of_decide_eq_true h.1
    have h4 := h.2
    omega
  · rw [((List.mergeSort_perm ss _).trans hp3).mem_iff]
    exact hv.reach hd t

set_option maxRecDepth 100000 in
set_option maxHeartbeats 8000000 in
theorem reach_any (A F : Option Addr) (c cf n nf : Nat) (l : List Bk) (f : List Int) (hn : n = l.length) (hnf : nf = f.length) (hl : n ≤ maxLen) (hlf : nf ≤ 1000) (w : World) (hA : MemAt w w.heap.size A l) (hF : FieldsAt w w.heap.size F f) :
    Calls Try.prog 12 #[.slice A n c, .slice F nf cf] w (ReachPost l f w) := by
  obtain ⟨r, hr⟩ := says (MemOk l)
  have hb0 := below_alloc w (.cells #[.slice A n c] 22)
  have HB0 := Lib.hid hb0
  have HV : Hid (Calls Try.prog 18 #[.slice A n c] (w.alloc (.cells #[.slice A n c] 22)) fun e w' => e = .returned (.bool r) ∧ Below (w.alloc (.cells #[.slice A n c] 22)).heap.size (w.alloc (.cells #[.slice A n c] 22)) w') := Lib.hid (valid_any _ _ _ l hn hl _ (hA.later hb0) _ hr)
  have HQ : Hid ((w.alloc (.cells #[.slice A n c] 22)).heap[w.heap.size]? = some (.cells #[.slice A n c] 22 (0, 0))) := Lib.hid (heap_of_alloc w _)
  have HM := Lib.hid (And.intro hA (And.intro hF (And.intro hn (And.intro hnf (And.intro hr hlf)))))
  clear hA hF hn hnf hr hb0
  cases r
  · go_enter Try.func12, Try.ntmps12
    go_wp2_with fail
    refine HV.out.mono ?_
    rintro e w1 ⟨rfl, hb⟩
    have H1 := Lib.hid (HB0.out.next hb)
    clear hb
    go_wp2
    go_ret
    exact ⟨none, 0, [], rfl, fun i v hi => (by cases hi), H1.out, Nat.zero_le _, .inr ⟨HM.out.2.2.2.2.1.f, rfl⟩⟩
  have hmm := @run_makeMap Try.prog
  go_enter Try.func12, Try.ntmps12
  go_wp2_with fail
  refine HV.out.mono ?_
  rintro e w1 ⟨rfl, hb⟩
  have H1 := Lib.hid (And.intro (HB0.out.next hb) ((hb.block _ (by rw [size_of_alloc]; omega)).trans HQ.out))
  have hsz : w.heap.size + 1 ≤ w1.heap.size := by have := hb.size; rw [size_of_alloc] at this; omega
  have HSz := Lib.hid hsz
  clear hb hsz
  obtain ⟨W4, hW4⟩ : ∃ W4, W4 = ((w1.alloc (.map #[] 0)).alloc (.cells #[.map (some w1.heap.size)] 54)).alloc (.cells #[visV w.heap.size (w1.heap.size + 1) (w1.heap.size + 1 + 1)] 57) := ⟨_, rfl⟩
  have HVs : Hid (Vs w A c n l w.heap.size (w1.heap.size + 1) (w1.heap.size + 1 + 1) w1.heap.size W4 []) := Lib.hid (by
    have h1 := below_alloc w1 (.map #[] 0)
    have h2 := below_alloc (w1.alloc (.map #[] 0)) (.cells #[.map (some w1.heap.size)] 54)
    have h3 := below_alloc ((w1.alloc (.map #[] 0)).alloc (.cells #[.map (some w1.heap.size)] 54)) (.cells #[visV w.heap.size (w1.heap.size + 1) (w1.heap.size + 1 + 1)] 57)
    have k5 := heap_of_alloc (w1.alloc (.map #[] 0)) (.cells #[.map (some w1.heap.size)] 54)
    have k6 := heap_of_alloc ((w1.alloc (.map #[] 0)).alloc (.cells #[.map (some w1.heap.size)] 54)) (.cells #[visV w.heap.size (w1.heap.size + 1) (w1.heap.size + 1 + 1)] 57)
    rw [size_of_alloc] at k5
    rw [size_of_alloc, size_of_alloc] at k6
    have hlt := HSz.out
    rw [hW4]
    refine ⟨H1.out.1.next (h1.chain (h2.chain h3)), ?_, ?_, k6, ⟨by omega, by omega, by omega⟩, by omega, ?_, List.nodup_nil, fun t ht => (by cases ht)⟩
    · exact ((h1.chain (h2.chain h3)).block _ (by omega)).trans H1.out.2
    · exact (h3.block _ (by rw [size_of_alloc, size_of_alloc]; omega)).trans k5
    · exact IntsAt.later (World.ownsMap_made w1 Try.prog 3 (plainElem (H := Unit) Try.prog 4)) (h2.chain h3))
  go_wp2_with fail
  rw [← hW4]
  clear hW4
  refine (visit_by w A c n l HM.out.2.2.1 HM.out.2.2.2.2.1.t HM.out.1 w.heap.size (w1.heap.size + 1) (w1.heap.size + 1 + 1) w1.heap.size (l.length + 1) f [] F nf cf W4 HM.out.2.2.2.1 HM.out.2.2.2.2.2 HM.out.2.1 HVs.out (by simp)).mono ?_
  rintro e w5 ⟨rfl, v2, hV, hvis, _⟩
  have H5 := Lib.hid (And.intro hV hvis)
  clear hV hvis
  have q5 := (cell_free H5.out.1.c5 0 _ rfl).1
  have HLn : Hid (v2.length ≤ 100) := Lib.hid (by have := marked_len H5.out.1.nd H5.out.1.dom; have := HM.out.2.2.2.2.1.t.1; omega)
  have HKe : Hid (∀ mb W, Calls Try.prog 33 #[.map mb] W fun e w' => e = .returned (.func (.func 49) #[] #[.pointer (some ⟨W.heap.size, 0, none⟩)]) ∧ w' = W.alloc (.cells #[.map mb] 54)) := Lib.hid (fun mb W => callsIn_wide.1 (Try.maps_Keys_33 mb W))
  have HSo := Lib.hid (callsIn_wide.1 (Try.slices_Sorted_keys_32_33 w1.heap.size v2.length (intD v2) _ w5 H5.out.1.map (by have := intD_size v2; have := HLn.out; unfold maxLen; omega) (by have := intD_size v2; have := HLn.out; omega)))
  go_wp2_with fail
  refine (HKe.out _ _).mono ?_
  rintro e w6 ⟨rfl, rfl⟩
  go_wp2_with fail
  refine HSo.out.mono ?_
  rintro e w7 ⟨v, ss, rfl, hp, hrow, _, hb⟩
  have H7 := Lib.hid (And.intro hp (And.intro hrow hb))
  clear hp hrow hb
  go_wp2
  go_ret
  obtain ⟨hreach, hlen⟩ := sorted_reach H7.out.1 H5.out.1.map H5.out.1.nd H5.out.1.dom H5.out.2
  have hml : (ss.mergeSort (fun x y => decide (x ≤ y))).length = ss.length := List.length_mergeSort _
  obtain ⟨B, cb, hv, hfl⟩ := fieldsOwn_row (f := ss.mergeSort (fun x y => decide (x ≤ y))) (by have := H7.out.2.1; rw [← hml] at this; exact this)
  refine ⟨B, cb, _, by rw [← hv]; rfl, hfl.at_, (H5.out.1.bel.al _).next H7.out.2.2, by rw [hml, hlen]; exact HLn.out, .inl ⟨HM.out.2.2.2.2.1.t, hreach⟩⟩

end Go.Proofs.Ytbmejohoifpfhaa
