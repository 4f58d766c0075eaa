/-
  The body of the law ValueSums.
-/
import Derived.Test.YtkmpjjpohgjdjaaDoorValAw
import Derived.LoopN
namespace Go.Proofs.YtkmpjjpohgjdjaaDoor
open Go.RowKit

set_option maxRecDepth 100000 in
theorem lnumber_any (m : Int) (w : World) : Calls Tryd.prog 30 #[.int .i64 m] w fun e w' => e = .returned (exprV 1 m ⟨#[]⟩ (.slice none 0 0)) ∧ Below w.heap.size w w' := by
  go_enter Tryd.func30, Tryd.ntmps30
  go_wp2
  refine bodyPost_ret (results_cell_row rfl _ _ w.heap.size 37 #[.int .i64 1, .int .i64 m, .string ⟨#[]⟩, .slice none 0 0] (0, 0) _ rfl (heap_of_alloc _ _) Tryd.underlying37 rfl (by kernel_rfl)) rfl ?_
  exact ⟨rfl, below_alloc _ _⟩

def sumS (a b : Int) : List Bd := [⟨[97], a⟩, ⟨[98], b⟩]

theorem sumS_ok {a b : Int} (ha : InR a) (hb : InR b) : StOk (sumS a b) := pair_stOk ⟨(by decide : ([97] : List UInt8) ≠ []), ha⟩ ⟨(by decide : ([98] : List UInt8) ≠ []), hb⟩ rfl

theorem inR_nuP {n : Int} (h : InR n) : inR nuP n = true := by
  unfold InR at h
  unfold inR nuP
  rw [decide_eq_true (by omega), decide_eq_true (by omega)]
  rfl

theorem ev_a (a b : Int) (d : Nat) : ev (sumS a b) (d + 1) (nmE [97]) = (a, 0) := by
  rw [nmE, ev, if_neg (by decide), if_pos rfl]
  simp [sumS, getS]

theorem ev_b (a b : Int) (d : Nat) : ev (sumS a b) (d + 1) (nmE [98]) = (b, 0) := by
  rw [nmE, ev, if_neg (by decide), if_pos rfl]
  simp [sumS, getS]

theorem xr1 (a b : Int) : xr true (sumS a b) (.mk 4 0 [] [nmE [97], nmE [98]]) = bnd (a + b) := by
  rw [xr, show vE varR nuP 30 (.mk 4 0 [] [nmE [97], nmE [98]]) = true from by decide +kernel]
  show ev (sumS a b) (29 + 1) _ = _
  rw [ev, if_neg (by decide), if_neg (by decide), if_pos (.inl rfl)]
  simp only [List.map_cons, List.map_nil]
  rw [ev_a a b 28, ev_b a b 28]
  rfl

theorem xr2 (a b : Int) : xr true (sumS a b) (.mk 5 0 [] [nmE [97], nmE [98]]) = bnd (a - b) := by
  rw [xr, show vE varR nuP 30 (.mk 5 0 [] [nmE [97], nmE [98]]) = true from by decide +kernel]
  show ev (sumS a b) (29 + 1) _ = _
  rw [ev, if_neg (by decide), if_neg (by decide), if_pos (.inr rfl)]
  simp only [List.map_cons, List.map_nil]
  rw [ev_a a b 28, ev_b a b 28]
  rfl

theorem xr3 (a b n : Int) (hn : InR n) : xr true (sumS a b) (.mk 6 n [] [nmE [97]]) = bnd (n * a) := by
  rw [xr, show vE varR nuP 30 (.mk 6 n [] [nmE [97]]) = true from by
    show vE varR nuP (29 + 1) _ = true
    rw [vE, if_neg (by decide), if_neg (by decide), if_neg (by decide), if_neg (by decide), if_pos rfl, inR_nuP hn, show opsB 1 [nmE [97]] (vE varR nuP 29) = true from by decide +kernel]
    rfl]
  show ev (sumS a b) (29 + 1) _ = _
  rw [ev, if_neg (by decide), if_neg (by decide), if_neg (by decide), if_pos rfl]
  simp only [List.map_cons, List.map_nil]
  rw [ev_a a b 28]
  show ev1 n (a, 0) = _
  rw [ev1, if_pos rfl, (inB_tells n).2 hn]
  rfl

theorem xr4 (a b : Int) : xr true (sumS a b) (.mk 3 0 [] []) = bnd 0 := by
  rw [xr, show vE varR nuP 30 (.mk 3 0 [] []) = true from by decide +kernel]
  show ev (sumS a b) (29 + 1) _ = _
  rw [ev, if_neg (by decide), if_neg (by decide), if_neg (by decide), if_neg (by decide)]
  rfl

theorem xr5 (a b n : Int) (hn : InR n) : xr true (sumS a b) (.mk 1 n [] []) = bnd n := by
  rw [xr, show vE varR nuP 30 (.mk 1 n [] []) = true from by
    show vE varR nuP (29 + 1) _ = true
    rw [vE, if_pos rfl, inR_nuP hn]
    rfl]
  show ev (sumS a b) (29 + 1) _ = _
  rw [ev, if_pos rfl]

/-- The sides of a round: a value is the number, or too big. -/
theorem bnd_cases (q : Int) : (inB q = true ∧ bnd q = (q, 0)) ∨ (inB q = false ∧ bnd q = (0, 10)) := by
  unfold bnd
  cases inB q
  · exact .inr ⟨rfl, rfl⟩
  · exact .inl ⟨rfl, rfl⟩

abbrev sumCells (a b n : Int) (g3 g5 g6 : Nat) : Obj := .cells #[.int .i64 4, .int .i64 0, .string ⟨#[]⟩, .slice (some ⟨g3, 0, none⟩) 2 2, .int .i64 (a + b), .int .i64 5, .int .i64 0, .string ⟨#[]⟩, .slice (some ⟨g5, 0, none⟩) 2 2, .int .i64 (a - b), .int .i64 6, .int .i64 n, .string ⟨#[]⟩, .slice (some ⟨g6, 0, none⟩) 1 1, .int .i64 (n * a), .int .i64 3, .int .i64 0, .string ⟨#[]⟩, .slice none 0 0, .int .i64 0, .int .i64 1, .int .i64 n, .string ⟨#[]⟩, .slice none 0 0, .int .i64 n] 61

/-- What the rounds find in memory. -/
structure Sum5 (W : World) (a b n : Int) (gS g3 g5 g6 gE : Nat) : Prop where
  st : BdRow W W.heap.size (sumS a b) (some ⟨gS, 0, none⟩)
  r3 : ExRow W W.heap.size [nmE [97], nmE [98]] (some ⟨g3, 0, none⟩)
  r5 : ExRow W W.heap.size [nmE [97], nmE [98]] (some ⟨g5, 0, none⟩)
  r6 : ExRow W W.heap.size [nmE [97]] (some ⟨g6, 0, none⟩)
  hp : W.heap[gE]? = some (sumCells a b n g3 g5 g6)

theorem Sum5.on {W W' : World} {a b n : Int} {gS g3 g5 g6 gE : Nat} (h : Sum5 W a b n gS g3 g5 g6 gE) (hb : Below W.heap.size W W') : Sum5 W' a b n gS g3 g5 g6 gE :=
  ⟨bd_later h.st hb, h.r3.on hb, h.r5.on hb, h.r6.on hb, kept_box hb h.hp⟩

theorem pair_ab (w : World) : ExRow (w.alloc (nmO2 [97] [98])) (w.alloc (nmO2 [97] [98])).heap.size [nmE [97], nmE [98]] (some ⟨w.heap.size, 0, none⟩) :=
  pair_row (sa := [97]) (al := []) (Ca := 0) (sb := [98]) (bl := []) (Cb := 0) (ak := 2) (an := 0) (bk := 2) (bn := 0) (Aa := none) (Ab := none) (heap_of_alloc w (nmO2 [97] [98])) (len_ok1 _) len_ok0 (len_ok1 _) len_ok0 (.nil _) (.nil _)

theorem one_a (w : World) : ExRow (w.alloc (nmO [97])) (w.alloc (nmO [97])).heap.size [nmE [97]] (some ⟨w.heap.size, 0, none⟩) :=
  single_row (s := [97]) (l := []) (A := none) (c := 0) (heap_of_alloc w (nmO [97])) (len_ok1 _) len_ok0 (.nil _)

set_option maxRecDepth 100000 in
set_option maxHeartbeats 32000000 in
theorem sums_law (a b n : Int) (w : World) : Calls Tryd.prog 8 #[.int .i64 a, .int .i64 b, .int .i64 n] w fun e w' => e = .returned (.bool true) ∧ Below w.heap.size w w' := by
  obtain ⟨ia, hia⟩ : ∃ x, x = inB a := ⟨_, rfl⟩
  obtain ⟨ib, hib⟩ : ∃ x, x = inB b := ⟨_, rfl⟩
  obtain ⟨ic, hic⟩ : ∃ x, x = inB n := ⟨_, rfl⟩
  have HIa : Hid (∀ W', Calls Tryd.prog 17 #[.int .i64 a] W' fun e w' => e = .returned (.bool ia) ∧ W' = w') := Lib.hid (hia ▸ rin_any a)
  have HIb : Hid (∀ W', Calls Tryd.prog 17 #[.int .i64 b] W' fun e w' => e = .returned (.bool ib) ∧ W' = w') := Lib.hid (hib ▸ rin_any b)
  have HIc : Hid (∀ W', Calls Tryd.prog 17 #[.int .i64 n] W' fun e w' => e = .returned (.bool ic) ∧ W' = w') := Lib.hid (hic ▸ rin_any n)
  have HE := Lib.hid (And.intro hia (And.intro hib hic))
  clear hia hib hic
  cases ia
  · go_enter Tryd.func8, Tryd.ntmps8
    go_wp2_with fail
    refine (awake_any _).mono ?_
    rintro e w1 ⟨rfl, hb⟩
    have H1 := Lib.hid hb
    clear hb
    go_wp2_with fail
    refine (HIa.out _).mono ?_
    rintro e u1 ⟨rfl, rfl⟩
    go_wp2_with fail
    refine (awake_any _).mono ?_
    rintro e w9 ⟨rfl, hb⟩
    have H9 := Lib.hid (H1.out.next hb)
    clear hb
    go_wp2
    go_ret
    exact ⟨rfl, H9.out⟩
  cases ib
  · go_enter Tryd.func8, Tryd.ntmps8
    go_wp2_with fail
    refine (awake_any _).mono ?_
    rintro e w1 ⟨rfl, hb⟩
    have H1 := Lib.hid hb
    clear hb
    go_wp2_with fail
    refine (HIa.out _).mono ?_
    rintro e u1 ⟨rfl, rfl⟩
    go_wp2_with fail
    refine (HIb.out _).mono ?_
    rintro e u2 ⟨rfl, rfl⟩
    go_wp2_with fail
    refine (awake_any _).mono ?_
    rintro e w9 ⟨rfl, hb⟩
    have H9 := Lib.hid (H1.out.next hb)
    clear hb
    go_wp2
    go_ret
    exact ⟨rfl, H9.out⟩
  cases ic
  · go_enter Tryd.func8, Tryd.ntmps8
    go_wp2_with fail
    refine (awake_any _).mono ?_
    rintro e w1 ⟨rfl, hb⟩
    have H1 := Lib.hid hb
    clear hb
    go_wp2_with fail
    refine (HIa.out _).mono ?_
    rintro e u1 ⟨rfl, rfl⟩
    go_wp2_with fail
    refine (HIb.out _).mono ?_
    rintro e u2 ⟨rfl, rfl⟩
    go_wp2_with fail
    refine (HIc.out _).mono ?_
    rintro e u3 ⟨rfl, rfl⟩
    go_wp2_with fail
    refine (awake_any _).mono ?_
    rintro e w9 ⟨rfl, hb⟩
    have H9 := Lib.hid (H1.out.next hb)
    clear hb
    go_wp2
    go_ret
    exact ⟨rfl, H9.out⟩
  have ha : InR a := (inB_tells a).1 HE.out.1.symm
  have hb' : InR b := (inB_tells b).1 HE.out.2.1.symm
  have hn : InR n := (inB_tells n).1 HE.out.2.2.symm
  have hw1 := add_small ha hb'
  have hw2 := sub_small ha hb'
  have hw3 := mul_small hn ha
  have HS := Lib.hid (sumS_ok ha hb')
  have HX : Hid (∀ (A : Option Addr) (k m : Int) (l : List Ex) (B : Option Addr) (cB : Nat) (q : Int) (W : World), xr true (sumS a b) (.mk k m [] l) = bnd q → BdRow W W.heap.size (sumS a b) A → ExRow W W.heap.size l B → l.length ≤ maxLen →
      Calls Tryd.prog 20 #[.slice A 2 2, exprV k m ⟨#[]⟩ (.slice B l.length cB)] W fun e w' => e = .returned (.tuple #[.int .i64 (bnd q).1, .int .i64 (bnd q).2]) ∧ Below W.heap.size W w') := Lib.hid (fun A k m l B cB q W hq hA hB hl => by
    have := vExpr_any A 2 2 (sumS a b) rfl (by decide) k m [] l B cB W hA hB len_ok0 hl true ⟨fun _ => HS.out, fun _ => rfl⟩
    rwa [hq] at this)
  have HR3 := Lib.hid (xr3 a b n hn)
  have HR5 := Lib.hid (xr5 a b n hn)
  have HIn : Hid (∀ m W', Calls Tryd.prog 17 #[.int .i64 m] W' fun e w' => e = .returned (.bool (inB m)) ∧ W' = w') := Lib.hid rin_any
  have HN : Hid (∀ s W, Calls Tryd.prog 29 #[.string s] W fun e w' => e = .returned (exprV 2 0 s (.slice none 0 0)) ∧ Below W.heap.size W w') := Lib.hid lname_any
  have HNu : Hid (∀ m W, Calls Tryd.prog 30 #[.int .i64 m] W fun e w' => e = .returned (exprV 1 m ⟨#[]⟩ (.slice none 0 0)) ∧ Below W.heap.size W w') := Lib.hid lnumber_any
  clear ha hb' hn
  go_enter Tryd.func8, Tryd.ntmps8
  go_wp2_with fail
  refine (awake_any _).mono ?_
  rintro e w1 ⟨rfl, hb⟩
  have H1 := Lib.hid hb
  clear hb
  go_wp2_with fail
  refine (HIa.out _).mono ?_
  rintro e u1 ⟨rfl, rfl⟩
  go_wp2_with fail
  refine (HIb.out _).mono ?_
  rintro e u2 ⟨rfl, rfl⟩
  go_wp2_with fail
  refine (HIc.out _).mono ?_
  rintro e u3 ⟨rfl, rfl⟩
  go_wp2_with fail
  obtain ⟨W1, hW1⟩ : ∃ W1, W1 = w1.alloc (.cells #[.string ⟨#[97]⟩, .int .i64 a, .string ⟨#[98]⟩, .int .i64 b] 30) := ⟨_, rfl⟩
  rw [← hW1]
  have HJ : Hid (Below w.heap.size w W1) := Lib.hid (by rw [hW1]; exact H1.out.al _)
  have HSt : Hid (BdRow W1 W1.heap.size (sumS a b) (some ⟨w1.heap.size, 0, none⟩)) := Lib.hid (by rw [hW1]; exact pair_store (x := ⟨[97], a⟩) (y := ⟨[98], b⟩) (heap_of_alloc w1 _) (len_ok1 _) (len_ok1 _))
  clear hW1
  have St_1 := HSt
  refine (HN.out _ _).mono ?_
  rintro e w2 ⟨rfl, hb⟩
  have G2 := Lib.hid (hb)
  have St_2 := Lib.hid (bd_later St_1.out hb)
  clear hb
  go_wp2_with fail
  refine (HN.out _ _).mono ?_
  rintro e w3 ⟨rfl, hb⟩
  have G3 := Lib.hid (G2.out.next hb)
  have St_3 := Lib.hid (bd_later St_2.out hb)
  clear hb
  go_wp2_with fail
  obtain ⟨w4, hw4⟩ : ∃ W, W = w3.alloc (nmO2 [97] [98]) := ⟨_, rfl⟩
  rw [← hw4]
  have hb : Below w3.heap.size w3 w4 := by rw [hw4]; exact below_alloc _ _
  have G4 := Lib.hid (G3.out.next hb)
  have St_4 := Lib.hid (bd_later St_3.out hb)
  have A_4 := Lib.hid (pair_ab w3)
  rw [← hw4] at A_4
  clear hb hw4
  refine (HN.out _ _).mono ?_
  rintro e w5 ⟨rfl, hb⟩
  have G5 := Lib.hid (G4.out.next hb)
  have St_5 := Lib.hid (bd_later St_4.out hb)
  have A_5 := Lib.hid (A_4.out.on hb)
  clear hb
  go_wp2_with fail
  refine (HN.out _ _).mono ?_
  rintro e w6 ⟨rfl, hb⟩
  have G6 := Lib.hid (G5.out.next hb)
  have St_6 := Lib.hid (bd_later St_5.out hb)
  have A_6 := Lib.hid (A_5.out.on hb)
  clear hb
  go_wp2_with fail
  obtain ⟨w7, hw7⟩ : ∃ W, W = w6.alloc (nmO2 [97] [98]) := ⟨_, rfl⟩
  rw [← hw7]
  have hb : Below w6.heap.size w6 w7 := by rw [hw7]; exact below_alloc _ _
  have G7 := Lib.hid (G6.out.next hb)
  have St_7 := Lib.hid (bd_later St_6.out hb)
  have A_7 := Lib.hid (A_6.out.on hb)
  have B_7 := Lib.hid (pair_ab w6)
  rw [← hw7] at B_7
  clear hb hw7
  refine (HN.out _ _).mono ?_
  rintro e w8 ⟨rfl, hb⟩
  have G8 := Lib.hid (G7.out.next hb)
  have St_8 := Lib.hid (bd_later St_7.out hb)
  have A_8 := Lib.hid (A_7.out.on hb)
  have B_8 := Lib.hid (B_7.out.on hb)
  clear hb
  go_wp2_with fail
  obtain ⟨w9, hw9⟩ : ∃ W, W = w8.alloc (nmO [97]) := ⟨_, rfl⟩
  rw [← hw9]
  have hb : Below w8.heap.size w8 w9 := by rw [hw9]; exact below_alloc _ _
  have G9 := Lib.hid (G8.out.next hb)
  have St_9 := Lib.hid (bd_later St_8.out hb)
  have A_9 := Lib.hid (A_8.out.on hb)
  have B_9 := Lib.hid (B_8.out.on hb)
  have C_9 := Lib.hid (one_a w8)
  rw [← hw9] at C_9
  clear hb hw9
  refine (HNu.out _ _).mono ?_
  rintro e w10 ⟨rfl, hb⟩
  have G10 := Lib.hid (G9.out.next hb)
  have St_10 := Lib.hid (bd_later St_9.out hb)
  have A_10 := Lib.hid (A_9.out.on hb)
  have B_10 := Lib.hid (B_9.out.on hb)
  have C_10 := Lib.hid (C_9.out.on hb)
  clear hb
  go_wp2
  obtain ⟨w11, hw11⟩ : ∃ W, W = w10.alloc (sumCells a b n w3.heap.size w6.heap.size w8.heap.size) := ⟨_, rfl⟩
  rw [← hw11]
  have hb : Below w10.heap.size w10 w11 := by rw [hw11]; exact below_alloc _ _
  have G11 := Lib.hid (G10.out.next hb)
  have S11 : Hid (Sum5 w11 a b n w1.heap.size w3.heap.size w6.heap.size w8.heap.size w10.heap.size) := Lib.hid ⟨bd_later St_10.out hb, A_10.out.on hb, B_10.out.on hb, C_10.out.on hb, by rw [hw11]; exact heap_of_alloc _ _⟩
  clear hb hw11
  generalize w1.heap.size = gS at *
  generalize w3.heap.size = g3 at *
  generalize w6.heap.size = g5 at *
  generalize w8.heap.size = g6 at *
  generalize w10.heap.size = gE at *
  have G0 := Lib.hid (HJ.out.next G11.out)
  go_loopg [67] 5 (fun mm j wr => ∃ i : Nat, mm = 5 - i ∧ i ≤ 5 ∧ j = .int .i64 i ∧ Hid (Below w.heap.size w wr ∧ Sum5 wr a b n gS g3 g5 g6 gE))
  case atStart => exact ⟨0, rfl, by decide, rfl, Lib.hid ⟨G0.out, S11.out⟩⟩
  case round =>
    obtain ⟨i, rfl, hi, rfl, HI⟩ := hrel
    by_cases h5 : i = 5
    · subst h5
      go_wp2
      go_ret
      exact ⟨rfl, HI.out.1⟩
    obtain rfl | rfl | rfl | rfl | rfl : i = 0 ∨ i = 1 ∨ i = 2 ∨ i = 3 ∨ i = 4 := by omega
    · have c0 := cell_of_block HI.out.2.hp 0 rfl
      have c1 := cell_of_block HI.out.2.hp 1 rfl
      have c2 := cell_of_block HI.out.2.hp 2 rfl
      have c3 := cell_of_block HI.out.2.hp 3 rfl
      have c4 := cell_of_block HI.out.2.hp 4 rfl
      have HV : Hid (Calls Tryd.prog 20 #[.slice (some ⟨gS, 0, none⟩) 2 2, exprV 4 (0) ⟨#[]⟩ (.slice (some ⟨g3, 0, none⟩) 2 2)] (wr.alloc (.cells #[.int .i64 4, .int .i64 0, .string ⟨#[]⟩, .slice (some ⟨g3, 0, none⟩) 2 2, .int .i64 (a + b)] 61)) fun e w' => e = .returned (.tuple #[.int .i64 (bnd (a + b)).1, .int .i64 (bnd (a + b)).2]) ∧ Below (wr.alloc (.cells #[.int .i64 4, .int .i64 0, .string ⟨#[]⟩, .slice (some ⟨g3, 0, none⟩) 2 2, .int .i64 (a + b)] 61)).heap.size (wr.alloc (.cells #[.int .i64 4, .int .i64 0, .string ⟨#[]⟩, .slice (some ⟨g3, 0, none⟩) 2 2, .int .i64 (a + b)] 61)) w') :=
        Lib.hid (HX.out (some ⟨gS, 0, none⟩) 4 (0) [nmE [97], nmE [98]] (some ⟨g3, 0, none⟩) 2 (a + b) _ (xr1 a b) (bd_later HI.out.2.st (below_alloc _ _)) (HI.out.2.r3.on (below_alloc _ _)) (len_ok2 _ _))
      have HQ := Lib.hid (HIn.out (a + b))
      rcases bnd_cases (a + b) with ⟨hi1, hi2⟩ | ⟨hi1, hi2⟩
      all_goals
        rw [hi1] at HQ
        rw [hi2] at HV
        clear hi1 hi2
        go_wp2_with fail
        refine HV.out.mono ?_
        rintro e v1 ⟨rfl, hb⟩
        have z4 := box_at hb 4 _ rfl
        have HV1 := Lib.hid ((below_alloc _ _).next hb)
        clear hb
        go_wp2_with fail
        refine (HQ.out _).mono ?_
        rintro e v2 ⟨rfl, rfl⟩
        go_wp2_with fail
        refine (HQ.out _).mono ?_
        rintro e v3 ⟨rfl, rfl⟩
        go_wp2
        go_roundg (5 - 1)
        case measure => decide
        case rel => exact ⟨1, rfl, by decide, rfl, Lib.hid ⟨HI.out.1.next HV1.out, HI.out.2.on HV1.out⟩⟩
    · have c0 := cell_of_block HI.out.2.hp 5 rfl
      have c1 := cell_of_block HI.out.2.hp 6 rfl
      have c2 := cell_of_block HI.out.2.hp 7 rfl
      have c3 := cell_of_block HI.out.2.hp 8 rfl
      have c4 := cell_of_block HI.out.2.hp 9 rfl
      have HV : Hid (Calls Tryd.prog 20 #[.slice (some ⟨gS, 0, none⟩) 2 2, exprV 5 (0) ⟨#[]⟩ (.slice (some ⟨g5, 0, none⟩) 2 2)] (wr.alloc (.cells #[.int .i64 5, .int .i64 0, .string ⟨#[]⟩, .slice (some ⟨g5, 0, none⟩) 2 2, .int .i64 (a - b)] 61)) fun e w' => e = .returned (.tuple #[.int .i64 (bnd (a - b)).1, .int .i64 (bnd (a - b)).2]) ∧ Below (wr.alloc (.cells #[.int .i64 5, .int .i64 0, .string ⟨#[]⟩, .slice (some ⟨g5, 0, none⟩) 2 2, .int .i64 (a - b)] 61)).heap.size (wr.alloc (.cells #[.int .i64 5, .int .i64 0, .string ⟨#[]⟩, .slice (some ⟨g5, 0, none⟩) 2 2, .int .i64 (a - b)] 61)) w') :=
        Lib.hid (HX.out (some ⟨gS, 0, none⟩) 5 (0) [nmE [97], nmE [98]] (some ⟨g5, 0, none⟩) 2 (a - b) _ (xr2 a b) (bd_later HI.out.2.st (below_alloc _ _)) (HI.out.2.r5.on (below_alloc _ _)) (len_ok2 _ _))
      have HQ := Lib.hid (HIn.out (a - b))
      rcases bnd_cases (a - b) with ⟨hi1, hi2⟩ | ⟨hi1, hi2⟩
      all_goals
        rw [hi1] at HQ
        rw [hi2] at HV
        clear hi1 hi2
        go_wp2_with fail
        refine HV.out.mono ?_
        rintro e v1 ⟨rfl, hb⟩
        have z4 := box_at hb 4 _ rfl
        have HV1 := Lib.hid ((below_alloc _ _).next hb)
        clear hb
        go_wp2_with fail
        refine (HQ.out _).mono ?_
        rintro e v2 ⟨rfl, rfl⟩
        go_wp2_with fail
        refine (HQ.out _).mono ?_
        rintro e v3 ⟨rfl, rfl⟩
        go_wp2
        go_roundg (5 - 2)
        case measure => decide
        case rel => exact ⟨2, rfl, by decide, rfl, Lib.hid ⟨HI.out.1.next HV1.out, HI.out.2.on HV1.out⟩⟩
    · have c0 := cell_of_block HI.out.2.hp 10 rfl
      have c1 := cell_of_block HI.out.2.hp 11 rfl
      have c2 := cell_of_block HI.out.2.hp 12 rfl
      have c3 := cell_of_block HI.out.2.hp 13 rfl
      have c4 := cell_of_block HI.out.2.hp 14 rfl
      have HV : Hid (Calls Tryd.prog 20 #[.slice (some ⟨gS, 0, none⟩) 2 2, exprV 6 (n) ⟨#[]⟩ (.slice (some ⟨g6, 0, none⟩) 1 1)] (wr.alloc (.cells #[.int .i64 6, .int .i64 n, .string ⟨#[]⟩, .slice (some ⟨g6, 0, none⟩) 1 1, .int .i64 (n * a)] 61)) fun e w' => e = .returned (.tuple #[.int .i64 (bnd (n * a)).1, .int .i64 (bnd (n * a)).2]) ∧ Below (wr.alloc (.cells #[.int .i64 6, .int .i64 n, .string ⟨#[]⟩, .slice (some ⟨g6, 0, none⟩) 1 1, .int .i64 (n * a)] 61)).heap.size (wr.alloc (.cells #[.int .i64 6, .int .i64 n, .string ⟨#[]⟩, .slice (some ⟨g6, 0, none⟩) 1 1, .int .i64 (n * a)] 61)) w') :=
        Lib.hid (HX.out (some ⟨gS, 0, none⟩) 6 (n) [nmE [97]] (some ⟨g6, 0, none⟩) 1 (n * a) _ (HR3.out) (bd_later HI.out.2.st (below_alloc _ _)) (HI.out.2.r6.on (below_alloc _ _)) (len_oke _))
      have HQ := Lib.hid (HIn.out (n * a))
      rcases bnd_cases (n * a) with ⟨hi1, hi2⟩ | ⟨hi1, hi2⟩
      all_goals
        rw [hi1] at HQ
        rw [hi2] at HV
        clear hi1 hi2
        go_wp2_with fail
        refine HV.out.mono ?_
        rintro e v1 ⟨rfl, hb⟩
        have z4 := box_at hb 4 _ rfl
        have HV1 := Lib.hid ((below_alloc _ _).next hb)
        clear hb
        go_wp2_with fail
        refine (HQ.out _).mono ?_
        rintro e v2 ⟨rfl, rfl⟩
        go_wp2_with fail
        refine (HQ.out _).mono ?_
        rintro e v3 ⟨rfl, rfl⟩
        go_wp2
        go_roundg (5 - 3)
        case measure => decide
        case rel => exact ⟨3, rfl, by decide, rfl, Lib.hid ⟨HI.out.1.next HV1.out, HI.out.2.on HV1.out⟩⟩
    · have c0 := cell_of_block HI.out.2.hp 15 rfl
      have c1 := cell_of_block HI.out.2.hp 16 rfl
      have c2 := cell_of_block HI.out.2.hp 17 rfl
      have c3 := cell_of_block HI.out.2.hp 18 rfl
      have c4 := cell_of_block HI.out.2.hp 19 rfl
      have HV : Hid (Calls Tryd.prog 20 #[.slice (some ⟨gS, 0, none⟩) 2 2, exprV 3 (0) ⟨#[]⟩ (.slice (none) 0 0)] (wr.alloc (.cells #[.int .i64 3, .int .i64 0, .string ⟨#[]⟩, .slice (none) 0 0, .int .i64 (0)] 61)) fun e w' => e = .returned (.tuple #[.int .i64 (bnd (0)).1, .int .i64 (bnd (0)).2]) ∧ Below (wr.alloc (.cells #[.int .i64 3, .int .i64 0, .string ⟨#[]⟩, .slice (none) 0 0, .int .i64 (0)] 61)).heap.size (wr.alloc (.cells #[.int .i64 3, .int .i64 0, .string ⟨#[]⟩, .slice (none) 0 0, .int .i64 (0)] 61)) w') :=
        Lib.hid (HX.out (some ⟨gS, 0, none⟩) 3 (0) [] (none) 0 (0) _ (xr4 a b) (bd_later HI.out.2.st (below_alloc _ _)) (.nil _) (len_ok0))
      have HQ := Lib.hid (HIn.out (0))
      rcases bnd_cases (0) with ⟨hi1, hi2⟩ | ⟨hi1, hi2⟩
      all_goals
        rw [hi1] at HQ
        rw [hi2] at HV
        clear hi1 hi2
        go_wp2_with fail
        refine HV.out.mono ?_
        rintro e v1 ⟨rfl, hb⟩
        have z4 := box_at hb 4 _ rfl
        have HV1 := Lib.hid ((below_alloc _ _).next hb)
        clear hb
        go_wp2_with fail
        refine (HQ.out _).mono ?_
        rintro e v2 ⟨rfl, rfl⟩
        go_wp2_with fail
        refine (HQ.out _).mono ?_
        rintro e v3 ⟨rfl, rfl⟩
        go_wp2
        go_roundg (5 - 4)
        case measure => decide
        case rel => exact ⟨4, rfl, by decide, rfl, Lib.hid ⟨HI.out.1.next HV1.out, HI.out.2.on HV1.out⟩⟩
    · have c0 := cell_of_block HI.out.2.hp 20 rfl
      have c1 := cell_of_block HI.out.2.hp 21 rfl
      have c2 := cell_of_block HI.out.2.hp 22 rfl
      have c3 := cell_of_block HI.out.2.hp 23 rfl
      have c4 := cell_of_block HI.out.2.hp 24 rfl
      have HV : Hid (Calls Tryd.prog 20 #[.slice (some ⟨gS, 0, none⟩) 2 2, exprV 1 (n) ⟨#[]⟩ (.slice (none) 0 0)] (wr.alloc (.cells #[.int .i64 1, .int .i64 n, .string ⟨#[]⟩, .slice (none) 0 0, .int .i64 (n)] 61)) fun e w' => e = .returned (.tuple #[.int .i64 (bnd (n)).1, .int .i64 (bnd (n)).2]) ∧ Below (wr.alloc (.cells #[.int .i64 1, .int .i64 n, .string ⟨#[]⟩, .slice (none) 0 0, .int .i64 (n)] 61)).heap.size (wr.alloc (.cells #[.int .i64 1, .int .i64 n, .string ⟨#[]⟩, .slice (none) 0 0, .int .i64 (n)] 61)) w') :=
        Lib.hid (HX.out (some ⟨gS, 0, none⟩) 1 (n) [] (none) 0 (n) _ (HR5.out) (bd_later HI.out.2.st (below_alloc _ _)) (.nil _) (len_ok0))
      have HQ := Lib.hid (HIn.out (n))
      rcases bnd_cases (n) with ⟨hi1, hi2⟩ | ⟨hi1, hi2⟩
      all_goals
        rw [hi1] at HQ
        rw [hi2] at HV
        clear hi1 hi2
        go_wp2_with fail
        refine HV.out.mono ?_
        rintro e v1 ⟨rfl, hb⟩
        have z4 := box_at hb 4 _ rfl
        have HV1 := Lib.hid ((below_alloc _ _).next hb)
        clear hb
        go_wp2_with fail
        refine (HQ.out _).mono ?_
        rintro e v2 ⟨rfl, rfl⟩
        go_wp2_with fail
        refine (HQ.out _).mono ?_
        rintro e v3 ⟨rfl, rfl⟩
        go_wp2
        go_roundg (5 - 5)
        case measure => decide
        case rel => exact ⟨5, rfl, by decide, rfl, Lib.hid ⟨HI.out.1.next HV1.out, HI.out.2.on HV1.out⟩⟩

end Go.Proofs.YtkmpjjpohgjdjaaDoor
