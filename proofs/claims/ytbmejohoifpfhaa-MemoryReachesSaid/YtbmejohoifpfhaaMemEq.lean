/-
  Equality of memories by the code: slices.Equal at []int, equalBlocks, slices.EqualFunc, memory.Equal.
-/
import Derived.Test.YtbmejohoifpfhaaMemE
import Derived.Test.YtbmejohoifpfhaaMemV
import Derived.Test.YtbmejohoifpfhaaMemC
namespace Go.Proofs.Ytbmejohoifpfhaa
open Go.RowKit

set_option maxRecDepth 100000 in
set_option maxHeartbeats 2000000 in
theorem equalInts_any (F G : Option Addr) (c d n n2 : Nat) (f g : List Int) (hn : n = f.length) (hn2 : n2 = g.length) (hl : n ≤ maxLen) (w : World) (hf : FieldsAt w w.heap.size F f) (hg : FieldsAt w w.heap.size G g) (r : Bool) (hr : Tells r (f = g)) :
    Calls Try.prog 14 #[.slice F n c, .slice G n2 d] w fun e w' => e = .returned (.bool r) ∧ Below w.heap.size w w' := by
  have HH := Lib.hid (And.intro hf (And.intro hg (And.intro hr (And.intro hn hn2))))
  unfold maxLen at hl
  clear hf hg hr hn hn2
  by_cases hlen : n = n2
  · subst hlen
    go_enter Try.func14, Try.ntmps14
    go_wp2
    go_loopg [13] n (fun mm j wr => ∃ k : Nat, mm = n - k ∧ k ≤ n ∧ j = .int .i64 k ∧ Hid ((∃ q, wr = w.drewN q) ∧ ∀ i, i < k → f[i]? = g[i]?))
    case atStart => exact ⟨0, rfl, Nat.zero_le _, rfl, Lib.hid ⟨⟨0, rfl⟩, fun i hi => absurd hi (Nat.not_lt_zero i)⟩⟩
    case round =>
      obtain ⟨k, rfl, hk, rfl, HI⟩ := hrel
      obtain ⟨q, rfl⟩ := HI.out.1
      by_cases hlt : k < n
      · have hlt' : (k : Int) < n := by omega
        obtain ⟨x, hx⟩ : ∃ x, f[k]? = some x := ⟨f[k]'(by rw [← HH.out.2.2.2.1]; exact hlt), List.getElem?_eq_getElem _⟩
        obtain ⟨y, hy⟩ : ∃ y, g[k]? = some y := ⟨g[k]'(by rw [← HH.out.2.2.2.2]; exact hlt), List.getElem?_eq_getElem _⟩
        obtain ⟨a, rfl, _, hca⟩ := HH.out.1 k x hx
        obtain ⟨b, rfl, _, hcb⟩ := HH.out.2.1 k y hy
        have HX := Lib.hid (And.intro hx hy)
        clear hx hy
        have hk0 : (0 : Int) ≤ k := by omega
        by_cases he : x = y
        · subst he
          go_wp2
          go_quiet (fail)
          go_wp2
          go_roundg (n - (k + 1))
          case measure => omega
          case rel => exact ⟨k + 1, rfl, by omega, by go_num, Lib.hid ⟨⟨_, rfl⟩, upto_next HI.out.2 HX.out.1 HX.out.2⟩⟩
        · have he' : (x == y) = false := beq_eq_false_iff_ne.2 he
          have he'' : (x != y) = true := by rw [bne_iff_ne]; exact he
          have HE := Lib.hid he
          clear he
          go_wp2
          go_quiet (fail)
          go_wp2
          go_ret
          exact ⟨ret_no HH.out.2.2.1 (ne_at HX.out.1 HX.out.2 HE.out), ((Below.refl _ _).dn _).dn _⟩
      · have hlt' : ¬ (k : Int) < n := by omega
        go_wp2
        go_ret
        exact ⟨ret_yes HH.out.2.2.1 (eq_upto HI.out.2 (by rw [← HH.out.2.2.2.1]; omega) (by rw [← HH.out.2.2.2.2]; omega)), (Below.refl _ _).dn _⟩
  · have hne : ((n : Int) == n2) = false := beq_eq_false_iff_ne.2 (by omega)
    have hne' : ((n : Int) != n2) = true := by rw [bne_iff_ne]; omega
    have HE := Lib.hid (And.intro trivial hlen)
    clear hlen
    go_enter Try.func14, Try.ntmps14
    go_wp2
    go_ret
    exact ⟨ret_no HH.out.2.2.1 (fun h => HE.out.2 (by rw [HH.out.2.2.2.1, HH.out.2.2.2.2, h])), Below.refl _ _⟩


set_option maxRecDepth 100000 in
set_option maxHeartbeats 2000000 in
theorem equalBlocks_any (x y : Bk) (F G : Option Addr) (c d : Nat) (w : World) (hx : BkLen x) (hF : FieldsAt w w.heap.size F x.f) (hG : FieldsAt w w.heap.size G y.f) (r : Bool) (hr : Tells r (x = y)) :
    Calls Try.prog 30 #[.agg #[.int .i64 x.a, .string ⟨x.r.toArray⟩, .slice F x.f.length c], .agg #[.int .i64 y.a, .string ⟨y.r.toArray⟩, .slice G y.f.length d]] w fun e w' => e = .returned (.bool r) ∧ Below w.heap.size w w' := by
  obtain ⟨nf, hnf⟩ := says (x.f = y.f)
  obtain ⟨xn, hxn⟩ : ∃ xn, xn = x.f.length := ⟨_, rfl⟩
  obtain ⟨yn, hyn⟩ : ∃ yn, yn = y.f.length := ⟨_, rfl⟩
  have HN : Hid (∀ W, Below w.heap.size w W → Calls Try.prog 14 #[.slice F xn c, .slice G yn d] W fun e w' => e = .returned (.bool nf) ∧ Below W.heap.size W w') :=
    Lib.hid (fun W hW => equalInts_any F G c d xn yn x.f y.f hxn hyn (by rw [hxn]; exact hx.2) W (hF.later hW) (hG.later hW) nf hnf)
  obtain ⟨xa, hxa⟩ : ∃ xa, xa = x.a := ⟨_, rfl⟩
  obtain ⟨xr, hxr⟩ : ∃ xr, xr = x.r := ⟨_, rfl⟩
  obtain ⟨ya, hya⟩ : ∃ ya, ya = y.a := ⟨_, rfl⟩
  obtain ⟨yr, hyr⟩ : ∃ yr, yr = y.r := ⟨_, rfl⟩
  have HE := Lib.hid (And.intro hxa (And.intro hxr (And.intro hya (And.intro hyr (And.intro hnf hr)))))
  have HJ := Lib.hid ((below_alloc w (.cells #[.int .i64 xa, .string ⟨xr.toArray⟩, .slice F xn c] 42)).al (.cells #[.int .i64 ya, .string ⟨yr.toArray⟩, .slice G yn d] 42))
  rw [← hxa, ← hxr, ← hxn, ← hya, ← hyr, ← hyn]
  clear hxa hxr hxn hya hyr hyn hx hF hG hr hnf
  by_cases he : xa = ya
  case neg =>
    have he' : (xa == ya) = false := beq_eq_false_iff_ne.2 he
    have HD := Lib.hid he
    clear he
    go_enter Try.func30, Try.ntmps30
    go_wp2
    go_ret
    exact ⟨ret_no HE.out.2.2.2.2.2 (fun h => HD.out (by rw [HE.out.1, HE.out.2.2.1, h])), HJ.out⟩
  subst he
  by_cases hs : xr = yr
  case neg =>
    have hs' : (xr == yr) = false := beq_eq_false_iff_ne.2 hs
    have HD := Lib.hid hs
    clear hs
    go_enter Try.func30, Try.ntmps30
    go_wp2
    go_ret
    exact ⟨ret_no HE.out.2.2.2.2.2 (fun h => HD.out (by rw [HE.out.2.1, HE.out.2.2.2.1, h])), HJ.out⟩
  subst hs
  have hs' : (xr == xr) = true := by simp
  have HR : Hid (Tells nf (x = y)) := Lib.hid ⟨fun h => bk_eq (by rw [← HE.out.1, ← HE.out.2.2.1]) (by rw [← HE.out.2.1, ← HE.out.2.2.2.1]) (HE.out.2.2.2.2.1.1 h), fun h => HE.out.2.2.2.2.1.2 (by rw [h])⟩
  have HRR : Hid (nf = r) := Lib.hid (by
    have h1 := HE.out.2.2.2.2.2
    cases nf
    · exact (h1.no HR.out.f).symm
    · exact (h1.yes HR.out.t).symm)
  go_enter Try.func30, Try.ntmps30
  go_wp2_with (go_at_call 14; refine (HN.out _ HJ.out).mono ?_; rintro e w2 ⟨rfl, hb⟩; have HB := Lib.hid (HJ.out.next hb); clear hb)
  go_ret
  exact ⟨by rw [HRR.out]; rfl, HB.out⟩

set_option maxRecDepth 100000 in
set_option maxHeartbeats 4000000 in
theorem equalFunc_any (A B : Option Addr) (ca cb n n2 : Nat) (l m : List Bk) (hn : n = l.length) (hn2 : n2 = m.length) (hl : n ≤ maxLen) (w : World) (hA : MemAt w w.heap.size A l) (hB : MemAt w w.heap.size B m) (r : Bool) (hr : Tells r (l = m)) :
    Calls Try.prog 29 #[.slice A n ca, .slice B n2 cb, .func (.func 30) #[] #[]] w fun e w' => e = .returned (.bool r) ∧ Below w.heap.size w w' := by
  have HH := Lib.hid (And.intro hA (And.intro hB (And.intro hr (And.intro hn hn2))))
  unfold maxLen at hl
  clear hA hB hr hn hn2
  by_cases hlen : n = n2
  case neg =>
    have hne : ((n : Int) == n2) = false := beq_eq_false_iff_ne.2 (by omega)
    have hne' : ((n : Int) != n2) = true := by rw [bne_iff_ne]; omega
    have HE := Lib.hid (And.intro trivial hlen)
    clear hlen
    go_enter Try.func29, Try.ntmps29
    go_wp2
    go_ret
    exact ⟨ret_no HH.out.2.2.1 (fun h => HE.out.2 (by rw [HH.out.2.2.2.1, HH.out.2.2.2.2, h])), Below.refl _ _⟩
  subst hlen
  go_enter Try.func29, Try.ntmps29
  go_wp2
  go_loopg [17] n (fun mm j wr => ∃ k : Nat, mm = n - k ∧ k ≤ n ∧ j = .int .i64 k ∧ Hid (Below w.heap.size w wr ∧ ∀ i, i < k → l[i]? = m[i]?))
  case atStart => exact ⟨0, rfl, Nat.zero_le _, rfl, Lib.hid ⟨Below.refl _ _, fun i hi => absurd hi (Nat.not_lt_zero i)⟩⟩
  case round =>
    obtain ⟨k, rfl, hk, rfl, HI⟩ := hrel
    by_cases hlt : k < n
    · have hlt' : (k : Int) < n := by omega
      obtain ⟨x, hx⟩ := mem_ex (l := l) (i := k) (by rw [← HH.out.2.2.2.1]; exact hlt)
      obtain ⟨y, hy⟩ := mem_ex (l := m) (i := k) (by rw [← HH.out.2.2.2.2]; exact hlt)
      obtain ⟨a, F, c, rfl, hBx⟩ := (HH.out.1.later HI.out.1) k x hx
      obtain ⟨b, G, d, rfl, hBy⟩ := (HH.out.2.1.later HI.out.1) k y hy
      have hk0 : (0 : Int) ≤ k := by omega
      obtain ⟨q, hq⟩ := says (x = y)
      have HN : Hid (∀ W, Below wr.heap.size wr W → Calls Try.prog 30 #[.agg #[.int .i64 x.a, .string ⟨x.r.toArray⟩, .slice F x.f.length c], .agg #[.int .i64 y.a, .string ⟨y.r.toArray⟩, .slice G y.f.length d]] W fun e w' => e = .returned (.bool q) ∧ Below W.heap.size W w') :=
        Lib.hid (fun W hW => equalBlocks_any x y F G c d W hBx.len (hBx.flds.later hW) (hBy.flds.later hW) q hq)
      have HX := Lib.hid (And.intro hx (And.intro hy hq))
      obtain ⟨xn, hxn⟩ : ∃ xn, xn = x.f.length := ⟨_, rfl⟩
      obtain ⟨yn, hyn⟩ : ∃ yn, yn = y.f.length := ⟨_, rfl⟩
      obtain ⟨xa, hxa⟩ : ∃ xa, xa = x.a := ⟨_, rfl⟩
      obtain ⟨xr, hxr⟩ : ∃ xr, xr = x.r := ⟨_, rfl⟩
      obtain ⟨ya, hya⟩ : ∃ ya, ya = y.a := ⟨_, rfl⟩
      obtain ⟨yr, hyr⟩ : ∃ yr, yr = y.r := ⟨_, rfl⟩
      rw [← hxa, ← hxr, ← hxn, ← hya, ← hyr, ← hyn] at HN
      have HB1 := Lib.hid (below_alloc wr (.cells #[.int .i64 xa, .string ⟨xr.toArray⟩, .slice F xn c] 42))
      have HJ := Lib.hid (HB1.out.al (.cells #[.int .i64 ya, .string ⟨yr.toArray⟩, .slice G yn d] 42))
      have c0 : wr.cell? (a.add (k * 3)) = some (.int .i64 xa) := by rw [hxa]; exact hBx.c0
      have c1 : wr.cell? ⟨(a.add (k * 3)).block, (a.add (k * 3)).off + 1, none⟩ = some (.string ⟨xr.toArray⟩) := by rw [hxr]; exact hBx.c1
      have c2 : wr.cell? ⟨(a.add (k * 3)).block, (a.add (k * 3)).off + 2, none⟩ = some (.slice F xn c) := by rw [hxn]; exact hBx.c2
      have d0 : (wr.alloc (.cells #[.int .i64 xa, .string ⟨xr.toArray⟩, .slice F xn c] 42)).cell? (b.add (k * 3)) = some (.int .i64 ya) := by rw [hya]; exact (HB1.out.cell (by rw [blk_add]; exact hBy.lt)).trans hBy.c0
      have d1 : (wr.alloc (.cells #[.int .i64 xa, .string ⟨xr.toArray⟩, .slice F xn c] 42)).cell? ⟨(b.add (k * 3)).block, (b.add (k * 3)).off + 1, none⟩ = some (.string ⟨yr.toArray⟩) := by rw [hyr]; exact (HB1.out.cell (p := (b.add (k * 3)).add 1) (by rw [blk_add, blk_add]; exact hBy.lt)).trans hBy.c1
      have d2 : (wr.alloc (.cells #[.int .i64 xa, .string ⟨xr.toArray⟩, .slice F xn c] 42)).cell? ⟨(b.add (k * 3)).block, (b.add (k * 3)).off + 2, none⟩ = some (.slice G yn d) := by rw [hyn]; exact (HB1.out.cell (p := (b.add (k * 3)).add 2) (by rw [blk_add, blk_add]; exact hBy.lt)).trans hBy.c2
      have b0 : wr.cell? (b.add (k * 3)) = some (.int .i64 ya) := by rw [hya]; exact hBy.c0
      have b1 : wr.cell? ⟨(b.add (k * 3)).block, (b.add (k * 3)).off + 1, none⟩ = some (.string ⟨yr.toArray⟩) := by rw [hyr]; exact hBy.c1
      have b2 : wr.cell? ⟨(b.add (k * 3)).block, (b.add (k * 3)).off + 2, none⟩ = some (.slice G yn d) := by rw [hyn]; exact hBy.c2
      clear hx hy hq hBx hBy hxa hxr hxn hya hyr hyn
      cases q
      · go_wp2_with (go_at_call 30; refine (HN.out _ HJ.out).mono ?_; rintro e w2 ⟨rfl, hb⟩; have HB := Lib.hid (HI.out.1.next (HJ.out.next hb)); clear hb)
        go_ret
        exact ⟨ret_no HH.out.2.2.1 (ne_at HX.out.1 HX.out.2.1 HX.out.2.2.f), HB.out⟩
      · go_wp2_with (go_at_call 30; refine (HN.out _ HJ.out).mono ?_; rintro e w2 ⟨rfl, hb⟩; have HB := Lib.hid (HI.out.1.next (HJ.out.next hb)); clear hb)
        go_roundg (n - (k + 1))
        case measure => omega
        case rel => exact ⟨k + 1, rfl, by omega, by go_num, Lib.hid ⟨HB.out, upto_next HI.out.2 HX.out.1 (HX.out.2.2.t ▸ HX.out.2.1)⟩⟩
    · have hlt' : ¬ (k : Int) < n := by omega
      go_wp2
      go_ret
      exact ⟨ret_yes HH.out.2.2.1 (eq_upto HI.out.2 (by rw [← HH.out.2.2.2.1]; omega) (by rw [← HH.out.2.2.2.2]; omega)), HI.out.1⟩

set_option maxRecDepth 100000 in
set_option maxHeartbeats 2000000 in
theorem mequal_any (A B : Option Addr) (ca cb n n2 : Nat) (l m : List Bk) (hn : n = l.length) (hn2 : n2 = m.length) (hl : n ≤ maxLen) (hl2 : n2 ≤ maxLen) (w : World) (hA : MemAt w w.heap.size A l) (hB : MemAt w w.heap.size B m) (r : Bool) (hr : Tells r (MemOk l ∧ MemOk m ∧ l = m)) :
    Calls Try.prog 11 #[.slice A n ca, .slice B n2 cb] w fun e w' => e = .returned (.bool r) ∧ Below w.heap.size w w' := by
  obtain ⟨ra, hra⟩ := says (MemOk l)
  obtain ⟨rb, hrb⟩ := says (MemOk m)
  obtain ⟨re, hre⟩ := says (l = m)
  have HVa : Hid (∀ W, Below w.heap.size w W → Calls Try.prog 18 #[.slice A n ca] W fun e w' => e = .returned (.bool ra) ∧ Below W.heap.size W w') := Lib.hid (fun W hW => valid_any _ _ _ l hn hl W (hA.later hW) _ hra)
  have HVb : Hid (∀ W, Below w.heap.size w W → Calls Try.prog 18 #[.slice B n2 cb] W fun e w' => e = .returned (.bool rb) ∧ Below W.heap.size W w') := Lib.hid (fun W hW => valid_any _ _ _ m hn2 hl2 W (hB.later hW) _ hrb)
  have HF : Hid (∀ W, Below w.heap.size w W → Calls Try.prog 29 #[.slice A n ca, .slice B n2 cb, .func (.func 30) #[] #[]] W fun e w' => e = .returned (.bool re) ∧ Below W.heap.size W w') := Lib.hid (fun W hW => equalFunc_any A B ca cb n n2 l m hn hn2 hl W (hA.later hW) (hB.later hW) re hre)
  have HR := Lib.hid (And.intro hr (And.intro hra (And.intro hrb hre)))
  clear hr hra hrb hre hA hB hn hn2 hl hl2
  cases ra
  · go_enter Try.func11, Try.ntmps11
    go_wp2_with (go_at_call 18; refine (HVa.out _ (Below.refl _ _)).mono ?_; rintro e w1 ⟨rfl, hb⟩; have H1 := Lib.hid hb; clear hb)
    go_ret
    exact ⟨ret_no HR.out.1 (fun h => HR.out.2.1.f h.1), H1.out⟩
  cases rb
  · go_enter Try.func11, Try.ntmps11
    go_wp2_with fail
    refine (HVa.out _ (Below.refl _ _)).mono ?_
    rintro e w1 ⟨rfl, hb⟩
    have H1 := Lib.hid hb
    clear hb
    go_wp2_with (refine (HVb.out _ H1.out).mono ?_; rintro e w2 ⟨rfl, hb⟩; have H2 := Lib.hid (H1.out.next hb); clear hb)
    go_ret
    exact ⟨ret_no HR.out.1 (fun h => HR.out.2.2.1.f h.2.1), H2.out⟩
  have HRR : Hid (re = r) := Lib.hid (by
    have h1 := HR.out.1
    cases re
    · exact (h1.no (fun h => HR.out.2.2.2.f h.2.2)).symm
    · exact (h1.yes ⟨HR.out.2.1.t, HR.out.2.2.1.t, HR.out.2.2.2.t⟩).symm)
  go_enter Try.func11, Try.ntmps11
  go_wp2_with fail
  refine (HVa.out _ (Below.refl _ _)).mono ?_
  rintro e w1 ⟨rfl, hb⟩
  have H1 := Lib.hid hb
  clear hb
  go_wp2_with fail
  refine (HVb.out _ H1.out).mono ?_
  rintro e w2 ⟨rfl, hb⟩
  have H2 := Lib.hid (H1.out.next hb)
  clear hb
  go_wp2_with (refine (HF.out _ H2.out).mono ?_; rintro e w3 ⟨rfl, hb⟩; have H3 := Lib.hid (H2.out.next hb); clear hb)
  go_ret
  exact ⟨by rw [HRR.out]; rfl, H3.out⟩

end Go.Proofs.Ytbmejohoifpfhaa
