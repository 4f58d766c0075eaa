/-
  Contract of memory.Join.
-/
import Derived.Test.YtbmejohoifpfhaaMemJm
import Derived.Test.YtbmejohoifpfhaaMemCo
import Derived.Test.YtbmejohoifpfhaaMemSo
import Derived.Test.YtbmejohoifpfhaaMemF
import Derived.Test.YtbmejohoifpfhaaMemV
namespace Go.Proofs.Ytbmejohoifpfhaa
open Go.RowKit Go.Lib

/-- Behind Join. -/
def JoinPost (l m : List Bk) (w : World) (e : Ending) (w' : World) : Prop :=
  ∃ A L c er, e = .returned (.tuple #[.slice A L.length c, .int .i64 er]) ∧ JoinIs l m (blocksOf L) er ∧ OwnMem w' w.heap.size (.slice A L.length c) L ∧ Below w.heap.size w w'

theorem join_none {l m : List Bk} {er : Int} {w w' : World} (h : JoinIs l m [] er) (hb : Below w.heap.size w w') : JoinPost l m w (.returned (.tuple #[.slice none 0 0, .int .i64 er])) w' := ⟨none, [], 0, er, rfl, h, OwnMem.nil _ _, hb⟩

theorem not_meets {l m : List Bk} {k : Nat} (h : ∀ (i : Nat) x, i < k → l[i]? = some x → NoAt m x.a) (hk : l.length ≤ k) : ¬ Meets l m := by
  rintro ⟨x, hx, y, hy, e⟩
  obtain ⟨i, hi⟩ := List.getElem?_of_mem hx
  obtain ⟨j, hj⟩ := List.getElem?_of_mem hy
  exact h i x (by have := (List.getElem?_eq_some_iff.1 hi).1; omega) hi j y hj e.symm

theorem ordered_asc {M : List Bx} {l m : List Bk} (h : Ordered M) (hp : (blocksOf M).Perm (l ++ m)) (hl : MemOk l) (hm : MemOk m) (hn : ¬ Meets l m) : Asc (blocksOf M) := by
  have one : ∀ {q : List Bk}, MemOk q → q.Pairwise (fun x y => x.a ≠ y.a) := fun hq => List.pairwise_iff_getElem.2 fun i j hi hj hij => by
    have := hq.lt hij (List.getElem?_eq_getElem hi) (List.getElem?_eq_getElem hj)
    omega
  have h1 : (l ++ m).Pairwise (fun x y => x.a ≠ y.a) := List.pairwise_append.2 ⟨one hl, one hm, fun x hx y hy e => hn ⟨x, hx, y, hy, e⟩⟩
  have h2 : (blocksOf M).Pairwise (fun x y => x.a ≠ y.a) := (hp.pairwise_iff (fun h e => h e.symm)).2 h1
  intro i j x y hij hx hy
  obtain ⟨p, hp1, rfl⟩ := blocks_at rfl hx
  obtain ⟨q, hq1, rfl⟩ := blocks_at rfl hy
  have h3 := h i j p q hij hp1 hq1
  have hi := (List.getElem?_eq_some_iff.1 hx)
  have hj := (List.getElem?_eq_some_iff.1 hy)
  have h4 := List.pairwise_iff_getElem.1 h2 i j hi.1 hj.1 hij
  rw [hi.2, hj.2] at h4
  omega

set_option maxRecDepth 100000 in
set_option maxHeartbeats 4000000 in
theorem join_any (A B : Option Addr) (ca cb n n2 : Nat) (l m : List Bk) (hn : n = l.length) (hn2 : n2 = m.length) (hl : n ≤ maxLen) (hl2 : n2 ≤ maxLen) (w : World) (hA : MemAt w w.heap.size A l) (hB : MemAt w w.heap.size B m) :
    Calls Try.prog 6 #[.slice A n ca, .slice B n2 cb] w (JoinPost l m w) := by
  obtain ⟨ra, hra⟩ := says (MemOk l)
  obtain ⟨rb, hrb⟩ := says (MemOk m)
  have HVa : Hid (∀ W, Below w.heap.size w W → Calls Try.prog 18 #[.slice A n ca] W fun e w' => e = .returned (.bool ra) ∧ Below W.heap.size W w') := Lib.hid (fun W hW => valid_any _ _ _ l hn hl W (hA.later hW) _ hra)
  have HVb : Hid (∀ W, Below w.heap.size w W → Calls Try.prog 18 #[.slice B n2 cb] W fun e w' => e = .returned (.bool rb) ∧ Below W.heap.size W w') := Lib.hid (fun W hW => valid_any _ _ _ m hn2 hl2 W (hB.later hW) _ hrb)
  have HM := Lib.hid (And.intro hA (And.intro hB (And.intro hn (And.intro hn2 (And.intro hra hrb)))))
  unfold maxLen at hl hl2
  clear hA hB hn hn2 hra hrb
  cases ra
  · go_enter Try.func6, Try.ntmps6
    go_wp2_with (go_at_call 18; refine (HVa.out _ (Below.refl _ _)).mono ?_; rintro e w1 ⟨rfl, hb⟩; have H1 := Lib.hid hb; clear hb)
    go_ret2
    exact join_none (.inl ⟨fun h => HM.out.2.2.2.2.1.f h.1, rfl, rfl⟩) H1.out
  cases rb
  · go_enter Try.func6, Try.ntmps6
    go_wp2_with fail
    refine (HVa.out _ (Below.refl _ _)).mono ?_
    rintro e w1 ⟨rfl, hb⟩
    have H1 := Lib.hid hb
    clear hb
    go_wp2_with (refine (HVb.out _ H1.out).mono ?_; rintro e w2 ⟨rfl, hb⟩; have H2 := Lib.hid (H1.out.next hb); clear hb)
    go_ret2
    exact join_none (.inl ⟨fun h => HM.out.2.2.2.2.2.f h.2, rfl, rfl⟩) H2.out
  have h100 : n ≤ 100 := by have := HM.out.2.2.2.2.1.t.1; have := HM.out.2.2.1; omega
  have h100' : n2 ≤ 100 := by have := HM.out.2.2.2.2.2.t.1; have := HM.out.2.2.2.1; omega
  go_enter Try.func6, Try.ntmps6
  go_wp2_with fail
  refine (HVa.out _ (Below.refl _ _)).mono ?_
  rintro e w1 ⟨rfl, hb⟩
  have H1 := Lib.hid hb
  clear hb
  go_wp2_with fail
  refine (HVb.out _ H1.out).mono ?_
  rintro e w2 ⟨rfl, hb⟩
  have H2 := Lib.hid (H1.out.next hb)
  clear hb
  go_wp2
  go_loopg [21] n (fun mm j wr => ∃ k : Nat, mm = n - k ∧ k ≤ n ∧ j = .int .i64 k ∧ Hid (Below w.heap.size w wr ∧ ∀ (i : Nat) x, i < k → l[i]? = some x → NoAt m x.a))
  case atStart => exact ⟨0, rfl, Nat.zero_le _, rfl, Lib.hid ⟨H2.out, fun i x hi => absurd hi (Nat.not_lt_zero i)⟩⟩
  case round =>
    obtain ⟨k, rfl, hk, rfl, HI⟩ := hrel
    have hk0 : (0 : Int) ≤ k := by omega
    by_cases hlt : k < n
    · have hlt' : (k : Int) < n := by omega
      obtain ⟨x, hx⟩ := mem_ex (l := l) (i := k) (by rw [← HM.out.2.2.1]; exact hlt)
      obtain ⟨a, F, c', rfl, hBx⟩ := (HM.out.1.later HI.out.1) k x hx
      have c0 := hBx.c0
      have c1 : wr.cell? ⟨(a.add (k * 3)).block, (a.add (k * 3)).off + 1, none⟩ = _ := hBx.c1
      have c2 : wr.cell? ⟨(a.add (k * 3)).block, (a.add (k * 3)).off + 2, none⟩ = _ := hBx.c2
      obtain ⟨xa, hxa⟩ : ∃ xa, xa = x.a := ⟨_, rfl⟩
      obtain ⟨xr, hxr⟩ : ∃ xr, xr = x.r := ⟨_, rfl⟩
      obtain ⟨xn, hxn⟩ : ∃ xn, xn = x.f.length := ⟨_, rfl⟩
      rw [← hxa] at c0
      rw [← hxr] at c1
      rw [← hxn] at c2
      have HX := Lib.hid (And.intro hx hxa)
      have HJ := Lib.hid (below_alloc wr (.cells #[.int .i64 xa, .string ⟨xr.toArray⟩, .slice F xn c'] 42))
      clear hx hBx hxa hxr hxn
      rcases at_or_not m xa with hat | hno
      · have HT := Lib.hid hat
        clear hat
        go_wp2_with (go_at_call 19; refine (find_any _ _ _ m HM.out.2.2.2.1 _ _ HM.out.2.2.2.2.2.t (HM.out.2.1.later (HI.out.1.next HJ.out))).mono ?_; rintro e w5 ⟨q, ok, rfl, g1, g2, g3⟩; obtain ⟨q', hq'⟩ := HT.out; obtain rfl : q = q' := g1.uniq (hq'.lb HM.out.2.2.2.2.2.t); obtain rfl : ok = true := g2.yes hq'; have H5 := Lib.hid (And.intro hq' ((HI.out.1.next HJ.out).next g3)); clear g1 g2 g3 hq')
        go_ret2
        refine join_none (.inr (.inl ⟨HM.out.2.2.2.2.1.t, HM.out.2.2.2.2.2.t, ?_, rfl, rfl⟩)) H5.out.2
        obtain ⟨y, hy, hya⟩ := H5.out.1
        exact ⟨x, List.mem_of_getElem? HX.out.1, y, List.mem_of_getElem? hy, by rw [hya, HX.out.2]⟩
      · have HT := Lib.hid hno
        clear hno
        go_wp2_with (go_at_call 19; refine (find_any _ _ _ m HM.out.2.2.2.1 _ _ HM.out.2.2.2.2.2.t (HM.out.2.1.later (HI.out.1.next HJ.out))).mono ?_; rintro e w5 ⟨q, ok, rfl, g1, g2, g3⟩; obtain rfl : ok = false := g2.no (fun hc => noAt_has HT.out hc); have H5 := Lib.hid ((HI.out.1.next HJ.out).next g3); clear g1 g2 g3)
        go_roundg (n - (k + 1))
        case measure => omega
        case rel =>
          refine ⟨k + 1, rfl, by omega, by go_num, Lib.hid ⟨H5.out, fun i y hi hy => ?_⟩⟩
          by_cases e : i = k
          · subst e
            obtain rfl : x = y := Option.some.inj (HX.out.1.symm.trans hy)
            rw [← HX.out.2]
            exact HT.out
          · exact HI.out.2 i y (by omega) hy
    · have hlt' : ¬ (k : Int) < n := by omega
      have hsum : IntKind.i64.wrap ((n : Int) + n2) = (n : Int) + n2 := by rw [IntKind.wrap_i64]; omega
      have HNm : Hid (¬ Meets l m) := Lib.hid (not_meets HI.out.2 (by rw [← HM.out.2.2.1]; omega))
      by_cases hbig : 100 < n + n2
      · have hbig' : (100 : Int) < (n : Int) + n2 := by omega
        go_wp2
        go_ret2
        exact join_none (.inr (.inr (.inl ⟨HM.out.2.2.2.2.1.t, HM.out.2.2.2.2.2.t, HNm.out, by rw [← HM.out.2.2.1, ← HM.out.2.2.2.1]; exact hbig, rfl, rfl⟩))) HI.out.1
      · have hbig' : ¬ (100 : Int) < (n : Int) + n2 := by omega
        have HW0 := below_alloc wr (.cells #[.slice A n ca, .slice B n2 cb] 22)
        obtain ⟨L, hLl, hLr, hLf⟩ := ((HM.out.1.later HI.out.1).later HW0).places
        obtain ⟨M, hMl, hMr, hMf⟩ := ((HM.out.2.1.later HI.out.1).later HW0).places
        have hLn : L.length = n := by rw [HM.out.2.2.1, ← hLl, blocksOf_len]
        have hMn : M.length = n2 := by rw [HM.out.2.2.2.1, ← hMl, blocksOf_len]
        rw [hLn] at hLr
        rw [hMn] at hMr
        have hbl : blocksOf (L ++ M) = l ++ m := by unfold blocksOf at hLl hMl ⊢; rw [List.map_append, hLl, hMl]
        have hf8 : ∀ y ∈ l ++ m, y.f.length * 8 ≤ 140737488355328 := fun y hy => by
          rcases List.mem_append.1 hy with hy | hy
          · obtain ⟨q, hq⟩ := List.getElem?_of_mem hy
            have := (HM.out.2.2.2.2.1.t.2 q y hq).1.2.2.1.2
            omega
          · obtain ⟨q, hq⟩ := List.getElem?_of_mem hy
            have := (HM.out.2.2.2.2.2.t.2 q y hq).1.2.2.1.2
            omega
        have HL := Lib.hid (And.intro hLr (And.intro hMr (And.intro hLf (And.intro hMf (And.intro hLn (And.intro hMn (And.intro hbl (And.intro hf8 HW0))))))))
        clear hLr hMr hLf hMf hLn hMn hbl hf8 HW0 hLl hMl
        go_wp2_with (first
          | (go_at_call 21; refine (concat_any A B n n2 ca cb wr.heap.size L M h100 h100' _ HL.out.1 HL.out.2.1 (cell_free (heap_of_alloc wr _) 0 _ rfl).1 (cell_free (heap_of_alloc wr _) 1 _ rfl).1 (by rw [size_of_alloc]; exact Nat.lt_succ_self _)).mono ?_; rintro e w5 ⟨v5, rfl, q1, q2⟩; rw [← cellsL_append] at q1; obtain ⟨A5, c5, rfl, hm5⟩ := row_mem (by rw [List.length_append, HL.out.2.2.2.2.1, HL.out.2.2.2.2.2.1]) q1 (fun p hp => by rcases List.mem_append.1 hp with hp | hp; exact ⟨(HL.out.2.2.1 p hp).1, (HL.out.2.2.1 p hp).2.later q2⟩; exact ⟨(HL.out.2.2.2.1 p hp).1, (HL.out.2.2.2.1 p hp).2.later q2⟩); rw [HL.out.2.2.2.2.2.2.1] at hm5; have H5 := Lib.hid (And.intro hm5 (HI.out.1.next (HL.out.2.2.2.2.2.2.2.2.next q2))); clear hm5 q1 q2)
          | (go_at_call 20; refine (copyAll_two A5 c5 (n + n2) (l ++ m) (by rw [List.length_append, ← HM.out.2.2.1, ← HM.out.2.2.2.1]) (by omega) HL.out.2.2.2.2.2.2.2.1 _ H5.out.1).mono ?_; rintro e w6 ⟨LC, rfl, q1, q2, q3, q4, _⟩; have H6 := Lib.hid (And.intro q1 (And.intro q2 (And.intro q3 q4))); clear q1 q2 q3 q4)
          | (go_at_call 22; refine (sort_any w5.heap.size w5.heap.size (n + n2) LC H6.out.2.1 (by omega) _ H6.out.2.2.2.size H6.out.2.2.1).mono ?_; rintro e w7 ⟨MM, rfl, q1, q2, q3, q4⟩; have H7 := Lib.hid (And.intro q1 (And.intro q2 (And.intro q3 (H5.out.2.next (H6.out.2.2.2.trans q4))))); clear q1 q2 q3 q4))
        go_ret2
        have hpl : (blocksOf MM).Perm (l ++ m) := by have := H7.out.1.map (fun p : Bx => p.x); have h2 := H6.out.1; unfold blocksOf at h2 ⊢; rwa [h2] at this
        refine ⟨some ⟨w5.heap.size, 0, none⟩, MM, n + n2, 0, (by rw [H7.out.1.length_eq, H6.out.2.1]; rfl), .inr (.inr (.inr ⟨HM.out.2.2.2.2.1.t, HM.out.2.2.2.2.2.t, HNm.out, by rw [← HM.out.2.2.1, ← HM.out.2.2.2.1]; omega, hpl, ordered_asc H7.out.2.1 hpl HM.out.2.2.2.2.1.t HM.out.2.2.2.2.2.t HNm.out, rfl⟩)), ?_, H7.out.2.2.2⟩
        rw [H7.out.1.length_eq, H6.out.2.1]
        exact H7.out.2.2.1.base H5.out.2.size

end Go.Proofs.Ytbmejohoifpfhaa
