/-
  sepallaw01.LexPlaces returns true, whatever the text is.
-/
import Derived.Test.YtjbbelmmnlohlaaDoorLexParts
import Derived.Test.YtjbbelmmnlohlaaDoorLexM9
namespace Go.Proofs.YtjbbelmmnlohlaaDoor
open Go.RowKit

theorem lines_call (l : List UInt8) (w : World) (h : MaxAt w) (hl : l.length ≤ 60000) :
    Calls Tryd.prog 30 #[.string ⟨l.toArray⟩, .string ⟨#[10]⟩] w (RowOf (segsA [] l) w) := by
  obtain ⟨hg, m, hm⟩ := h
  obtain ⟨e1, e2⟩ := lines_eq l.length l (Nat.le_refl _)
  have hc : Lib.countB ⟨l.toArray⟩ ⟨#[10]⟩ + 1 = (segsA [] l).length := by
    show Lib.count l.toArray.toList [10] + 1 = _
    rw [List.toList_toArray]; exact e2
  have hv : ((Lib.splitB ⟨#[10]⟩ 0 (Lib.countB ⟨l.toArray⟩ ⟨#[10]⟩) ⟨l.toArray⟩).map Value.string).toArray = strVals (segsA [] l) := by
    have hd := Lib.splitB_data ⟨#[10]⟩ 0 (Lib.countB ⟨l.toArray⟩ ⟨#[10]⟩) ⟨l.toArray⟩
    have e3 : Lib.splitK (⟨#[10]⟩ : ByteArray).data.toList 0 (Lib.countB ⟨l.toArray⟩ ⟨#[10]⟩) (⟨l.toArray⟩ : ByteArray).data.toList = segsA [] l := by
      show Lib.splitK [10] 0 (Lib.count l.toArray.toList [10]) l.toArray.toList = _
      rw [List.toList_toArray]; exact e1
    rw [e3] at hd
    unfold strVals
    rw [← hd, List.map_map]
    exact congrArg List.toArray (List.map_congr_left fun b _ => congrArg Value.string (str_list b).symm)
  have h := Tryd.strings_Split ⟨l.toArray⟩ ⟨#[10]⟩ m w (by show l.length < _; omega) hm (by decide)
  rw [hv, hc] at h
  exact h.mono fun e w' ⟨he, hw⟩ => by subst he hw; exact rowOf_alloc (segsA [] l) w _

theorem segsA_le (acc l : List UInt8) (i : Nat) : ((segsA acc l).getD i []).length ≤ acc.length + l.length := by
  induction l generalizing acc i with
  | nil => cases i <;> simp [segsA]
  | cons c r ih =>
    unfold segsA
    by_cases h : c = 10
    · rw [if_pos h]
      cases i with
      | zero => simp
      | succ i =>
        rw [List.getD_cons_succ]
        have := ih [] i
        simp only [List.length_nil, List.length_cons] at this ⊢
        omega
    · rw [if_neg h]
      have := ih (acc ++ [c]) i
      simp only [List.length_append, List.length_cons, List.length_nil] at this ⊢
      omega

set_option maxHeartbeats 400000 in
theorem places_long (s : ByteArray) (m : Int) (w : World) (hs : s.size ≤ maxLen) (hg : 0 < w.heap.size) (hm : w.cell? ⟨0, 0, none⟩ = some (.int .i64 m)) (h : 2000 < s.size) :
    Calls Tryd.prog 6 #[.string s] w fun e w' => e = .returned (.bool true) ∧ Below w.heap.size w w' := by
  have HA := Lib.hid (awake_any m w hg hm)
  clear hm
  unfold maxLen at hs
  have h2 : (2000 : Int) < s.size := by omega
  go_enter Tryd.func6, Tryd.ntmps6
  go_wp2_with (first
    | (go_at_call 11; refine HA.out.mono ?_; rintro e w1 ⟨rfl, hb⟩; have HB := Lib.hid hb; clear hb))
  go_ret
  exact ⟨rfl, HB.out⟩

/-- A place in the lines of a text, in natural numbers. -/
theorem At.nat {s : List UInt8} {l c : Int} {t : List UInt8} (h : At s l c t) : ∃ i j : Nat, l = i + 1 ∧ c = j + 1 ∧ i < (segsA [] s).length ∧ j + t.length ≤ ((segsA [] s).getD i []).length ∧ t.isPrefixOf (((segsA [] s).getD i []).drop j) = true := by
  obtain ⟨h1, h2, h3, h4, h5⟩ := h
  refine ⟨(l - 1).toNat, (c - 1).toNat, by omega, by omega, by omega, by omega, h5⟩

set_option maxRecDepth 100000 in
set_option maxHeartbeats 4000000 in
theorem places_err (s : List UInt8) (w : World) (hM : MaxAt w) (hs : s.length ≤ 2000) (hE : (splitN [] s (1, 1)).e ≠ 0) :
    Calls Tryd.prog 6 #[.string ⟨s.toArray⟩] w fun e w' => e = .returned (.bool true) ∧ Below w.heap.size w w' := by
  have HM := Lib.hid hM
  have HA : Hid (Calls Tryd.prog 11 #[] w fun e w' => e = .returned (.bool true) ∧ Below w.heap.size w w') := Lib.hid (by obtain ⟨hg, m, hm⟩ := hM; exact awake_any m w hg hm)
  have HS1 : Hid (∀ W, MaxAt W → Calls Tryd.prog 12 #[.string ⟨s.toArray⟩] W fun r w' => ∃ x c, r = .returned (.tuple #[.slice x 0 c, .agg #[.int .i64 (splitN [] s (1, 1)).l, .int .i64 (splitN [] s (1, 1)).c], .int .i64 (splitN [] s (1, 1)).e]) ∧ Below W.heap.size W w') := Lib.hid (fun W h => by
    have hr := split_row s (by omega) W h
    rw [(splitN_err_toks s.length [] s (1, 1) (Nat.le_refl _)).1 hE] at hr
    exact hr.mono fun r w' ⟨x, c, hr, _, hb⟩ => ⟨x, c, hr, hb⟩)
  have HL : Hid (∀ W, MaxAt W → Calls Tryd.prog 30 #[.string ⟨s.toArray⟩, .string ⟨#[10]⟩] W (RowOf (segsA [] s) W)) := Lib.hid (fun W h => lines_call s W h (by omega))
  obtain ⟨c0, hat⟩ := (split_places s.length s [] s (1, 1) (Nat.le_refl _) ⟨⟨[], rfl, rfl⟩, trivial, fun y hy => by cases hy⟩).2 hE
  have hE2 : ((splitN [] s (1, 1)).e != 0) = true := bne_iff_ne.2 hE
  have hns : (segsA [] s).length ≤ 2001 := by rw [segsA_length]; have := List.count_le_length (a := 10) (l := s); omega
  obtain ⟨i, j, hl, hc, hi, hj, _⟩ := hat.nat
  clear hM hE hat
  generalize splitN [] s (1, 1) = R1 at *
  obtain ⟨t1, l1, c1, e1⟩ := R1
  simp only at hE2 hl hc
  subst hl hc
  generalize hls : segsA [] s = ls at *
  clear hls
  have hjl : j + 1 ≤ (ls.getD i []).length := hj
  clear hj
  have h1 : ¬ (2000 : Int) < s.length := by omega
  go_enter Tryd.func6, Tryd.ntmps6
  go_wp2_with (first
    | (go_at_call 11; refine HA.out.mono ?_; rintro e w1 ⟨rfl, hb⟩; have HB := Lib.hid (And.intro hb (HM.out.next hb)); clear hb)
    | (go_at_call 12; (with_reducible refine (HS1.out _ HB.out.2).mono ?_); rintro e w2 ⟨x1, k1, rfl, hb⟩; have HB2 := Lib.hid (And.intro (HB.out.1.chain (hb.chain (below_alloc w2 (.cells #[.int .i64 ((i : Int) + 1), .int .i64 ((j : Int) + 1)] 25)))) (HB.out.2.next (hb.chain (below_alloc w2 (.cells #[.int .i64 ((i : Int) + 1), .int .i64 ((j : Int) + 1)] 25))))); clear hb)
    | (go_at_call 30; (with_reducible refine (HL.out _ HB2.out.2).mono ?_); rintro e w3 ⟨n, hn, rfl, hr, hb, hlt⟩; obtain ⟨hp0, hp1, hz0, hz1⟩ := cells_of2 ((hb.block w2.heap.size (by rw [size_of_alloc]; omega)).trans (heap_of_alloc w2 (.cells #[.int .i64 ((i : Int) + 1), .int .i64 ((j : Int) + 1)] 25))); have hcell := hr i hi; have HB3 := Lib.hid (HB2.out.1.chain hb); clear hr hb hn hlt))
  generalize ls.getD i [] = line at *
  have g1 : IntKind.i64.wrap ((i : Int) + 1 - 1) = i := by rw [show (i : Int) + 1 - 1 = i by omega]; exact IntWalk.i64_in _ (by omega)
  have g2 : (1 : Int) ≤ (i : Int) + 1 := by omega
  have g3 : (i : Int) + 1 ≤ ls.length := by omega
  have g4 : (1 : Int) ≤ (j : Int) + 1 := by omega
  have g5 : (j : Int) + 1 ≤ line.length := by omega
  have g6 : (i : Int) < ls.length := by omega
  have g7 : (0 : Int) ≤ i := by omega
  go_quiet (fail)
  go_wp2
  go_ret
  exact ⟨rfl, below_drewN HB3.out _⟩

/-- The world in LexPlaces' loop: the tokens, the lines, the place that Split gave, and the last place. -/
structure PlacesAt (g : Nat) (l : List Tok) (n : Nat) (ls : List (List UInt8)) (P Q : Nat) (ll lc : Int) (w0 W : World) : Prop where
  below : Below w0.heap.size w0 W
  toks : 0 < l.length → TokCells W g l
  lines : StrRow W n ls
  pos : W.heap[P]? = some (.cells #[.int .i64 0, .int .i64 0] 25 (0, 0))
  last : W.heap[Q]? = some (.cells #[.int .i64 ll, .int .i64 lc] 25 (0, 0))
  lt : w0.heap.size ≤ Q ∧ (0 < l.length → g < Q) ∧ n < Q ∧ P < Q

theorem TokCells.later {W W' : World} {g : Nat} {l : List Tok} (h : TokCells W g l) {B : Nat} (hB : g < B) (hb : Below B W W') (hs : W.heap.size ≤ W'.heap.size) : TokCells W' g l :=
  ⟨Nat.lt_of_lt_of_le h.lt hs, fun k hk => (hb.cell (p := ⟨g, k * 4, none⟩) hB).trans (h.c0 k hk), fun k hk => (hb.cell (p := ⟨g, k * 4 + 1, none⟩) hB).trans (h.c1 k hk),
    fun k hk => (hb.cell (p := ⟨g, k * 4 + 2, none⟩) hB).trans (h.c2 k hk), fun k hk => (hb.cell (p := ⟨g, k * 4 + 3, none⟩) hB).trans (h.c3 k hk)⟩

/-- What lies below the last place's block stays; that block holds a new place. -/
theorem PlacesAt.next {g n P Q : Nat} {l : List Tok} {ls : List (List UInt8)} {ll lc l' c' : Int} {w0 W W' : World} (h : PlacesAt g l n ls P Q ll lc w0 W) (hb : Below Q W W') (hs : W.heap.size ≤ W'.heap.size) (hq : W'.heap[Q]? = some (.cells #[.int .i64 l', .int .i64 c'] 25 (0, 0))) : PlacesAt g l n ls P Q l' c' w0 W' :=
  ⟨h.below.trans (hb.mono h.lt.1), fun hl => (h.toks hl).later (h.lt.2.1 hl) hb hs, h.lines.later h.lt.2.2.1 hb, (hb.block P h.lt.2.2.2).trans h.pos, hq, h.lt⟩

theorem places_start {w w2 w3 : World} {x : Option Addr} {k1 n B : Nat} {l : List Tok} {ls : List (List UInt8)} (h2 : Below w.heap.size w (w2.alloc (.cells #[.int .i64 0, .int .i64 0] 25))) (ho : w2.ownsRow B 38 4 (.slice x l.length k1) l.length (toksVals l))
    (hr : StrRow w3 n ls) (hb : Below (w2.alloc (.cells #[.int .i64 0, .int .i64 0] 25)).heap.size (w2.alloc (.cells #[.int .i64 0, .int .i64 0] 25)) w3) (hn : n < w3.heap.size) :
    ∃ g, (0 < l.length → x = some ⟨g, 0, none⟩) ∧ PlacesAt g l n ls w2.heap.size w3.heap.size 1 0 w (w3.alloc (.cells #[.int .i64 1, .int .i64 0] 25)) := by
  have hsz := size_of_alloc w2 (.cells #[.int .i64 0, .int .i64 0] 25)
  have hs := hb.size
  have ht : TokRead (w2.alloc (.cells #[.int .i64 0, .int .i64 0] 25)) x l := tokRead_of_own (ho.alloc _)
  have hb2 := hb.trans ((below_alloc w3 (.cells #[.int .i64 1, .int .i64 0] 25)).mono hs)
  by_cases hl : 0 < l.length
  · obtain ⟨g, hx, hc⟩ := ht hl
    have hg : g < (w2.alloc (.cells #[.int .i64 0, .int .i64 0] 25)).heap.size := hc.lt
    refine ⟨g, fun _ => hx, ⟨h2.chain hb2, fun _ => hc.later hg hb2 hb2.size, hr.later hn (below_alloc _ _), ?_, heap_of_alloc _ _, ?_⟩⟩
    · exact (hb2.block w2.heap.size (by omega)).trans (heap_of_alloc _ _)
    · have := h2.size; exact ⟨by omega, fun _ => by omega, hn, by omega⟩
  · refine ⟨0, fun h => absurd h hl, ⟨h2.chain hb2, fun h => absurd h hl, hr.later hn (below_alloc _ _), ?_, heap_of_alloc _ _, ?_⟩⟩
    · exact (hb2.block w2.heap.size (by omega)).trans (heap_of_alloc _ _)
    · have := h2.size; exact ⟨by omega, fun h => absurd h hl, hn, by omega⟩

/-- A round: a new block, draws, and a new last place. -/
theorem places_round {g n P Q : Nat} {l : List Tok} {ls : List (List UInt8)} {ll lc : Int} {w0 W : World} (h : PlacesAt g l n ls P Q ll lc w0 W) (o : Obj) (q : Nat) (l' c' : Int) :
    PlacesAt g l n ls P Q l' c' w0 ((((W.alloc o).drewN q).setCell ⟨Q, 0, none⟩ (.int .i64 l')).setCell ⟨Q, 1, none⟩ (.int .i64 c')) := by
  have hQ := lt_of_block h.last
  have hb0 := below_drewN (below_alloc W o) q
  have hb := ((hb0.mono (Nat.le_of_lt hQ)).setCell (p := ⟨Q, 0, none⟩) (Nat.le_refl _) (.int .i64 l')).setCell (p := ⟨Q, 1, none⟩) (Nat.le_refl _) (.int .i64 c')
  exact h.next hb hb.size (heap_setCell2 ((hb0.block Q hQ).trans h.last))

set_option maxRecDepth 100000 in
set_option maxHeartbeats 4000000 in
theorem places_ok (s : List UInt8) (w : World) (hM : MaxAt w) (hs : s.length ≤ 2000) (hE : (splitN [] s (1, 1)).e = 0) :
    Calls Tryd.prog 6 #[.string ⟨s.toArray⟩] w fun e w' => e = .returned (.bool true) ∧ Below w.heap.size w w' := by
  have HM := Lib.hid hM
  have HA : Hid (Calls Tryd.prog 11 #[] w fun e w' => e = .returned (.bool true) ∧ Below w.heap.size w w') := Lib.hid (by obtain ⟨hg, m, hm⟩ := hM; exact awake_any m w hg hm)
  have HS1 := Lib.hid (split_row s (by omega))
  have HL : Hid (∀ W, MaxAt W → Calls Tryd.prog 30 #[.string ⟨s.toArray⟩, .string ⟨#[10]⟩] W (RowOf (segsA [] s) W)) := Lib.hid (fun W h => lines_call s W h (by omega))
  have hgood := (split_places s.length s [] s (1, 1) (Nat.le_refl _) ⟨⟨[], rfl, rfl⟩, trivial, fun y hy => by cases hy⟩).1 hE
  have hz := (splitN_err_toks s.length [] s (1, 1) (Nat.le_refl _)).2 hE
  have hcnt := splitN_count s.length [] s (1, 1) (Nat.le_refl _)
  have hns : (segsA [] s).length ≤ 2001 := by rw [segsA_length]; have := List.count_le_length (a := 10) (l := s); omega
  clear hM
  generalize splitN [] s (1, 1) = R1 at *
  obtain ⟨t1, l1, c1, e1⟩ := R1
  simp only at hE hz hgood hcnt
  obtain ⟨rfl, rfl⟩ := hz
  subst hE
  have hl1 : t1.length ≤ 2000 := by simp at hcnt; omega
  clear hcnt
  have HG := Lib.hid hgood
  clear hgood
  have h1 : ¬ (2000 : Int) < s.length := by omega
  go_enter Tryd.func6, Tryd.ntmps6
  go_wp2_with (first
    | (go_at_call 11; refine HA.out.mono ?_; rintro e w1 ⟨rfl, hb⟩; have HB := Lib.hid (And.intro hb (HM.out.next hb)); clear hb)
    | (go_at_call 12; (with_reducible refine (HS1.out _ HB.out.2).mono ?_); rintro e w2 ⟨x1, k1, rfl, ho, hb⟩; have HO := Lib.hid ho; have HB2 := Lib.hid (And.intro (HB.out.1.chain (hb.chain (below_alloc w2 (.cells #[.int .i64 0, .int .i64 0] 25)))) (HB.out.2.next (hb.chain (below_alloc w2 (.cells #[.int .i64 0, .int .i64 0] 25))))); clear hb ho)
    | (go_at_call 30; (with_reducible refine (HL.out _ HB2.out.2).mono ?_); rintro e w3 ⟨n, hn, rfl, hr, hb, hlt⟩; have HP0 := Lib.hid (places_start HB2.out.1 HO.out hr hb hlt); clear hr hb hn hlt))
  obtain ⟨g, hx, hP0⟩ := HP0.out
  have HP1 := Lib.hid hP0
  have HX := Lib.hid hx
  clear HP0 hP0 hx HO HB HB2
  generalize w3.alloc (.cells #[.int .i64 1, .int .i64 0] 25) = W0 at *
  generalize w3.heap.size = Q at *
  generalize w2.heap.size = P at *
  generalize hls : segsA [] s = ls at *
  have HLs := Lib.hid hls
  clear hls
  go_loopg [61] t1.length (fun nn j wr => ∃ (k : Nat) (ll lc : Int), nn = t1.length - k ∧ k ≤ t1.length ∧ j = .int .i64 k ∧ Hid (GoodAll s (ll, lc) (t1.drop k)) ∧ PlacesAt g t1 n ls P Q ll lc w wr)
  case atStart => exact ⟨0, 1, 0, rfl, Nat.zero_le _, rfl, HG.out, HP1.out⟩
  case round =>
    clear HP1 HG
    obtain ⟨k, ll, lc, rfl, hk, rfl, HG, hP⟩ := hrel
    by_cases hlt : k < t1.length
    · obtain rfl := HX.out (by omega)
      have hdr : t1.drop k = t1.getD k ⟨0, [], 0, 0⟩ :: t1.drop (k + 1) := by
        rw [List.drop_eq_getElem_cons hlt, List.getD_eq_getElem?_getD, List.getElem?_eq_getElem hlt]; rfl
      have hg2 := HG.out
      rw [hdr] at hg2
      obtain ⟨hasc, hat, hne, hrest⟩ := hg2
      have hT := hP.toks (by omega)
      have p0 := hT.c0 k hlt
      have p1 := hT.c1 k hlt
      have p2 := hT.c2 k hlt
      have p3 := hT.c3 k hlt
      have hglt := hT.lt
      clear hT hdr
      generalize t1.getD k ⟨0, [], 0, 0⟩ = x at *
      obtain ⟨kx, tx, lx, cx⟩ := x
      simp only at hat hasc hne p0 p1 p2 p3 hrest
      obtain ⟨i, j, rfl, rfl, hi, hj, hpre⟩ := hat.nat
      rw [HLs.out] at hi hj hpre
      have hcell := hP.lines i hi
      have hln : (ls.getD i []).length ≤ 2000 := by
        have := segsA_le [] s i
        rw [HLs.out] at this
        simp at this
        simp
        omega
      generalize ls.getD i [] = line at *
      have HRest := Lib.hid hrest
      have HPre : Hid (∀ W, Calls Tryd.prog 31 #[.string ((⟨line.toArray⟩ : ByteArray).extract j line.length), .string ⟨tx.toArray⟩] W fun e w' => e = .returned (.bool true) ∧ w' = W) := Lib.hid (fun W => by
        have h := Tryd.strings_HasPrefix ((⟨line.toArray⟩ : ByteArray).extract j line.length) ⟨tx.toArray⟩ W
        rw [tail_list, List.toList_toArray, List.toList_toArray] at h
        rw [show Lib.hasPrefix (line.drop j) tx = true from hpre] at h
        rw [tail_list]
        exact h)
      have htl : 0 < tx.length := List.length_pos_iff.2 hne
      have hte : tx.isEmpty = false := by cases tx with | nil => exact absurd rfl hne | cons _ _ => rfl
      obtain ⟨hq0, hq1, hf0, hf1⟩ := cells_of2 hP.last
      have hQlt := lt_of_block hP.last
      have hnlt : n < wr.heap.size := by have := hP.lt; omega
      have HPl := Lib.hid hP
      clear hrest hpre hat hne HG hP
      have g1 : IntKind.i64.wrap ((j : Int) + 1 - 1) = j := by rw [show (j : Int) + 1 - 1 = j by omega]; exact IntWalk.i64_in _ (by omega)
      have a1 : ¬ (i : Int) + 1 < ll := by rcases hasc with h | ⟨h, _⟩ <;> omega
      have a3 : ¬ (ls.length : Int) < (i : Int) + 1 := by omega
      have a4 : ¬ (j : Int) + 1 < 1 := by omega
      have a5 : ¬ (line.length : Int) < (j : Int) + 1 := by omega
      have a6 : (0 : Int) ≤ j := by omega
      have a7 : (j : Int) ≤ line.length := by omega
      have a8 : j ≤ line.length := by omega
      have g1b : IntKind.i64.wrap (j : Int) = j := IntWalk.i64_in _ (by omega)
      by_cases hll : ll = (i : Int) + 1
      · subst hll
        have a2 : ¬ (j : Int) + 1 ≤ lc := by rcases hasc with h | ⟨_, h⟩ <;> omega
        clear hasc
        go_wp2
        go_quiet ((go_at_call 31; exact Calls.quiet_of_same (HPre.out _)))
        go_wp2
        go_roundg (t1.length - (k + 1))
        case measure => omega
        case rel => exact ⟨k + 1, _, _, rfl, by omega, by go_num, HRest, places_round HPl.out _ _ _ _⟩
      · have a2 : ((i : Int) + 1 == ll) = false := by rw [beq_eq_false_iff_ne]; omega
        clear hasc hll
        go_wp2
        go_quiet ((go_at_call 31; exact Calls.quiet_of_same (HPre.out _)))
        go_wp2
        go_roundg (t1.length - (k + 1))
        case measure => omega
        case rel => exact ⟨k + 1, _, _, rfl, by omega, by go_num, HRest, places_round HPl.out _ _ _ _⟩
    · obtain rfl : k = t1.length := by omega
      obtain ⟨hq0, hq1, hf0, hf1⟩ := cells_of2 hP.pos
      have HB := Lib.hid hP.below
      clear hP HG HX
      go_wp2
      go_ret
      exact ⟨rfl, HB.out⟩

theorem places_any (s : ByteArray) (m : Int) (w : World) (hs : s.size ≤ maxLen) (hg : 0 < w.heap.size) (hm : w.cell? ⟨0, 0, none⟩ = some (.int .i64 m)) :
    Calls Tryd.prog 6 #[.string s] w fun e w' => e = .returned (.bool true) ∧ Below w.heap.size w w' := by
  by_cases h : 2000 < s.size
  · exact places_long s m w hs hg hm h
  · have hl : s.data.toList.length ≤ 2000 := by rw [size_list]; omega
    have key : Calls Tryd.prog 6 #[.string ⟨s.data.toList.toArray⟩] w fun e w' => e = .returned (.bool true) ∧ Below w.heap.size w w' := by
      by_cases h1 : (splitN [] s.data.toList (1, 1)).e = 0
      · exact places_ok _ w ⟨hg, m, hm⟩ hl h1
      · exact places_err _ w ⟨hg, m, hm⟩ hl h1
    rw [str_list] at key
    exact key

end Go.Proofs.YtjbbelmmnlohlaaDoor
