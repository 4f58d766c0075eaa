/-
  Contract of lex.Split: the tokens of a text in new memory, or the place of the first wrong one and what is wrong with it.
-/
import Derived.Test.YtjdcohfdanenlaaDoorLexZ
import Derived.Test.YtjdcohfdanenlaaDoorLexD
import Derived.Test.YtjdcohfdanenlaaDoorLexF
import Derived.Deep.LoopGhost
import Derived.Deep.DeepCutAuto
import Derived.Deep.DeepFit
import Derived.Deep.DeepMust
namespace Go.Proofs.YtjdcohfdanenlaaDoor
open Go.RowKit

def tokVals (x : Tok) : List Value := [.int .i64 x.k, .string ⟨x.t.toArray⟩, .int .i64 x.l, .int .i64 x.c]
def toksVals (l : List Tok) : List Value := l.flatMap tokVals

/-- What Split leaves: a row of tokens of its own, a place, an error. -/
def SplitIs (R : Res) (w : World) (e : Ending) (w' : World) : Prop := ∃ sv, e = .returned (.tuple #[sv, .agg #[.int .i64 R.l, .int .i64 R.c], .int .i64 R.e]) ∧ w'.ownsRow w.heap.size 28 4 sv R.toks.length (toksVals R.toks) ∧ Below w.heap.size w w'

/-- The state at the head of Split's loop: the result's place at N, the next token's place at A, the takers behind N, the tokens behind A. -/
structure SpAt (N A : Nat) (sv : Value) (acc : List Tok) (l c : Int) (w0 W : World) : Prop where
  below : Below N w0 W
  res : W.heap[N]? = some (.cells #[.int .i64 0, .int .i64 0] 26 (0, 0))
  pos : W.heap[A]? = some (.cells #[.int .i64 l, .int .i64 c] 26 (0, 0))
  take : TakerAt W (N + 1)
  own : W.ownsRow (A + 1) 28 4 sv acc.length (toksVals acc)
  le : N + 11 ≤ A

theorem SpAt.later {N A : Nat} {sv : Value} {acc : List Tok} {l c : Int} {w0 W W' : World} (h : SpAt N A sv acc l c w0 W) (hb : Below W.heap.size W W') : SpAt N A sv acc l c w0 W' where
  below := h.below.trans (hb.mono (Nat.le_of_lt (lt_of_block h.res)))
  res := (hb.block N (lt_of_block h.res)).trans h.res
  pos := (hb.block A (lt_of_block h.pos)).trans h.pos
  take := h.take.later (B := W.heap.size) (by have := lt_of_block h.pos; have := h.le; omega) hb
  own := h.own.kept (grown_of_below hb) (by cases hv : sv.ownBlock <;> simp)
  le := h.le

theorem SpAt.store {N A : Nat} {sv : Value} {acc : List Tok} {l c : Int} {w0 W : World} (h : SpAt N A sv acc l c w0 W) (l' c' : Int) : SpAt N A sv acc l' c' w0 ((W.setCell ⟨A, 0, none⟩ (.int .i64 l')).setCell ⟨A, 1, none⟩ (.int .i64 c')) := by
  have hN := h.le
  have hA := ((Below.refl A W).setCell (p := ⟨A, 0, none⟩) (Nat.le_refl _) (.int .i64 l')).setCell (p := ⟨A, 1, none⟩) (Nat.le_refl _) (.int .i64 c')
  refine ⟨h.below.trans (hA.mono (by omega)), (hA.block N (by omega)).trans h.res, heap_setCell2 h.pos, h.take.later (B := A) (by omega) hA, ?_, hN⟩
  exact ownsRow_setCell_below (ownsRow_setCell_below h.own (a := ⟨A, 0, none⟩) (Nat.lt_succ_self A) _) (a := ⟨A, 1, none⟩) (Nat.lt_succ_self A) _

/-- Behind the store of the result's place. -/
theorem SpAt.done {N A : Nat} {sv : Value} {acc : List Tok} {l c : Int} {w0 W : World} (h : SpAt N A sv acc l c w0 W) (x y : Value) :
    ((W.setCell ⟨N, 0, none⟩ x).setCell ⟨N, 1, none⟩ y).ownsRow N 28 4 sv acc.length (toksVals acc) ∧ Below N w0 ((W.setCell ⟨N, 0, none⟩ x).setCell ⟨N, 1, none⟩ y) ∧ ((W.setCell ⟨N, 0, none⟩ x).setCell ⟨N, 1, none⟩ y).heap[N]? = some (.cells #[x, y] 26 (0, 0)) := by
  have hN := h.le
  have hB := ((Below.refl N W).setCell (p := ⟨N, 0, none⟩) (Nat.le_refl _) x).setCell (p := ⟨N, 1, none⟩) (Nat.le_refl _) y
  refine ⟨?_, h.below.trans hB, heap_setCell2 h.res⟩
  exact ownsRow_mono (ownsRow_setCell_below (ownsRow_setCell_below h.own (a := ⟨N, 0, none⟩) (by show N < A + 1; omega) _) (a := ⟨N, 1, none⟩) (by show N < A + 1; omega) _) (by omega)

theorem SpAt.append {N A : Nat} {sv sv' : Value} {acc : List Tok} {x : Tok} {l c : Int} {w0 W W' : World} {o : Obj} (h : SpAt N A sv acc l c w0 W) (hown : W'.ownsRow (A + 1) 28 4 sv' (acc.length + 1) (toksVals acc ++ tokVals x)) (hg : (W.alloc o).grownBy W' sv.ownBlock) : SpAt N A sv' (acc ++ [x]) l c w0 W' := by
  have hN := h.le
  have hA := lt_of_block h.pos
  have hB : Below (A + 1) W W' := (below_alloc W o |>.mono (by omega)).trans ⟨hg.os, hg.tape, hg.output, hg.size, fun k hk => hg.block k (by rw [size_of_alloc]; omega) (fun e => by have := (h.own.lt k e.symm).1; omega)⟩
  refine ⟨h.below.trans (hB.mono (by omega)), (hB.block N (by omega)).trans h.res, (hB.block A (by omega)).trans h.pos, h.take.later (B := A + 1) (by omega) hB, ?_, hN⟩
  have e : toksVals (acc ++ [x]) = toksVals acc ++ tokVals x := by unfold toksVals; rw [List.flatMap_append]; simp
  rw [e, List.length_append]
  exact hown

set_option maxHeartbeats 1000000 in
theorem split_full (s : ByteArray) (w : World) (hs : s.size ≤ maxLen) (h : 65536 < s.size) :
    Calls Tryd.prog 11 #[.string s] w (SplitIs ⟨[], 0, 0, 5⟩ w) := by
  unfold maxLen at hs
  have h' : (65536 : Int) < s.size := by omega
  go_enter Tryd.func11, Tryd.ntmps11
  go_wp2
  refine bodyPost_ret (v := .tuple #[.slice none 0 0, .agg #[.int .i64 0, .int .i64 0], .int .i64 5]) (by simp [results, Tryd.results11, go_sem]) rfl ⟨_, rfl, World.ownsRow_nil _ _ _ _, ?_⟩
  repeat (first | exact Below.refl _ _ | refine Below.drew ?_ | refine Below.setCell ?_ (by dsimp only; omega) _ | refine Below.alloc ?_ (by simp) _)

theorem infoTok : (Tryd.prog.info? 28).map (fun i => (i.zero, i.size, i.bytes)) = some (some (.agg #[.int .i64 0, .string ⟨#[]⟩, .int .i64 0, .int .i64 0]), 4, 40) := by kernel_rfl

theorem tok_cells (W : World) (x : Tok) (t : TypeId) : ∀ (j : Nat) (u : Value), (tokVals x)[j]? = some u → (W.alloc (.cells #[.int .i64 x.k, .string ⟨x.t.toArray⟩, .int .i64 x.l, .int .i64 x.c] t)).cell? ((⟨W.heap.size, 0, none⟩ : Addr).add j) = some u := by
  intro j u hj
  have hb : (W.alloc (.cells #[.int .i64 x.k, .string ⟨x.t.toArray⟩, .int .i64 x.l, .int .i64 x.c] t)).heap[W.heap.size]? = some (.cells #[.int .i64 x.k, .string ⟨x.t.toArray⟩, .int .i64 x.l, .int .i64 x.c] t (0, 0)) := heap_of_alloc _ _
  have e : (#[Value.int .i64 x.k, .string ⟨x.t.toArray⟩, .int .i64 x.l, .int .i64 x.c])[j]? = some u := by
    rw [← hj]; unfold tokVals; simp
  have ea : (⟨W.heap.size, 0, none⟩ : Addr).add j = ⟨W.heap.size, j, none⟩ := by
    unfold Addr.add
    split
    · rename_i h; rw [h]
    · rw [Nat.zero_add]
  rw [ea]
  unfold World.cell?
  simp only [hb]
  exact e

theorem tok_one (x : Tok) : ∀ u ∈ tokVals x, u.oneCell' = true := by
  intro u hu
  unfold tokVals at hu
  simp at hu
  rcases hu with rfl | rfl | rfl | rfl <;> rfl

theorem tail_list (l : List UInt8) (a : Nat) : (⟨l.toArray⟩ : ByteArray).extract a l.length = ⟨(l.drop a).toArray⟩ := by
  rw [ByteArray.extract_mk]
  congr 1
  show (List.take (l.length - a) (List.drop a l)).toArray = (List.drop a l).toArray
  congr 1
  exact List.take_of_length_le (by rw [List.length_drop]; omega)

/-- What stands at the head of a round: k bytes are still to be read. -/
def SpRel (N A S : Nat) (R : Res) (w0 : World) (k : Nat) (v0 v5 : Value) (W : World) : Prop :=
  ∃ (t : List UInt8) (acc : List Tok) (l c : Int) (f : Nat), k = t.length ∧ v0 = .string ⟨t.toArray⟩ ∧ t.length ≤ f ∧ splitF (f + 1) acc t (l, c) = R ∧ acc.length + t.length ≤ S ∧ 1 ≤ l ∧ l + t.length ≤ S + 1 ∧ 1 ≤ c ∧ c + t.length ≤ S + 1 ∧ SpAt N A v5 acc l c w0 W

theorem spAt_start (w w1 : World) (hT : TakerAt w1 (w.heap.size + 1)) (hb : Below (w.heap.size + 1) (w.alloc (.cells #[.int .i64 0, .int .i64 0] 26)) w1) (hz : w.heap.size + 1 + 10 ≤ w1.heap.size) :
    SpAt w.heap.size w1.heap.size (.slice none 0 0) [] 1 1 w (w1.alloc (.cells #[.int .i64 1, .int .i64 1] 26)) := by
  have ha := below_alloc w1 (.cells #[.int .i64 1, .int .i64 1] 26)
  refine ⟨?_, ?_, heap_of_alloc _ _, hT.later (B := w1.heap.size) hz ha, World.ownsRow_nil _ _ _ _, by omega⟩
  · exact ((below_alloc w _).trans (hb.mono (by omega))).trans (ha.mono (by omega))
  · exact (ha.block _ (by omega)).trans ((hb.block _ (by omega)).trans (heap_of_alloc _ _))

set_option maxRecDepth 100000 in
set_option maxHeartbeats 1000000 in
theorem split_loop (s : List UInt8) (m : Int) (w : World) (hs : s.length ≤ 65536) (hg : 0 < w.heap.size) (hm : w.cell? ⟨0, 0, none⟩ = some (.int .i64 m)) :
    Calls Tryd.prog 11 #[.string ⟨s.toArray⟩] w (SplitIs (splitF (s.length + 1) [] s (1, 1)) w) := by
  have HM := Lib.hid hm
  clear hm
  generalize hR : splitF (s.length + 1) [] s (1, 1) = R
  have HR := Lib.hid hR
  clear hR
  have h' : ¬ (65536 : Int) < s.length := by omega
  go_enter Tryd.func11, Tryd.ntmps11
  go_wp2_with (first | (go_at_call 19; refine (takeToken_any _).mono ?_; rintro e w1 ⟨rfl, hT, hb, hz⟩; have hS := Lib.hid (spAt_start w w1 (by rw [← size_of_alloc w]; exact hT) (by rw [← size_of_alloc w]; exact hb) (by rw [← size_of_alloc w]; exact hz)); clear hT hb hz))
  clear h'
  generalize hA : w1.heap.size = A at *
  generalize hW : w1.alloc (.cells #[.int .i64 1, .int .i64 1] 26) = W0 at *
  clear hA hW w1
  go_loopg [0, 5] s.length (fun k v0 v5 W => SpRel w.heap.size A s.length R w k v0 v5 W)
  case atStart => exact ⟨s, [], 1, 1, s.length, rfl, rfl, Nat.le_refl _, HR.out, by simp, by omega, by omega, by omega, by omega, hS.out⟩
  case round =>
    clear hS HR
    obtain ⟨t, acc, l, c, f, rfl, rfl, hf, hR, hac, hl1, hl2, hc1, hc2, hS⟩ := hrel
    have HS := Lib.hid hS
    have HR := Lib.hid hR
    have hsk := skip_any t m wr (by omega) (by have := hS.below.size; omega) ((hS.below.cell (p := ⟨0, 0, none⟩) hg).trans HM.out)
    have hle := skip_length t
    have hpa := after_bd (l, c) (t.take (t.length - (skipL t).length))
    have HAf : Hid (∀ W, Calls Tryd.prog 22 #[.agg #[.int .i64 l, .int .i64 c], .string ((⟨t.toArray⟩ : ByteArray).extract 0 (t.length - (skipL t).length))] W (PosIs (nextAt (l, c) t).1 (nextAt (l, c) t).2 W)) := Lib.hid (fun W => by
      have h := after_any l c ⟨(t.take (t.length - (skipL t).length)).toArray⟩ W (by show (t.take (t.length - (skipL t).length)).length ≤ _; rw [List.length_take]; omega) (by omega) (by omega) (by omega) (by omega)
      rw [List.toList_toArray] at h
      rw [slice_list, List.toList_toArray]
      exact h)
    have hnx : Hid (nextAt (l, c) t = afterL (l, c) (t.take (t.length - (skipL t).length))) := rfl
    rw [← hnx.out] at hpa
    rw [List.length_take, Nat.min_eq_left (by omega)] at hpa
    clear hnx
    generalize hrest : skipL t = rest at *
    generalize hl3 : (nextAt (l, c) t).1 = l3 at *
    generalize hc3 : (nextAt (l, c) t).2 = c3 at *
    have HX := Lib.hid (And.intro hrest (And.intro hl3 hc3))
    have HSk := Lib.hid hsk
    clear hS hR hsk hrest hl3 hc3
    go_upto_region 7 with (go_at_call 21; refine HSk.out.mono ?_; rintro e w1 ⟨rfl, hb1⟩; have HS1 := Lib.hid (HS.out.later hb1); clear hb1)
    clear HSk HS
    go_cut [] (fun wx => SpAt w.heap.size A u5 acc l3 c3 w wx)
    case first =>
      have hp := cells_of2 HS1.out.pos
      obtain ⟨hp0, hp1, hz0, hz1⟩ := hp
      have hw2 : (0 : Int) ≤ (t.length : Int) - (rest.length : Int) := by omega
      have hw3 : ((t.length : Int) - (rest.length : Int)).toNat = t.length - rest.length := by omega
      have hw4 : (0 : Int) ≤ (t.length : Int) - (rest.length : Int) ∧ (t.length : Int) - (rest.length : Int) ≤ (t.length : Int) := by omega
      have hw1 : IntKind.i64.wrap ((t.length : Int) - (rest.length : Int)) = (t.length : Int) - (rest.length : Int) := IntWalk.i64_in _ (by omega)
      go_region_with ((go_at_call 22; refine (HAf.out _).mono ?_; rintro e w2 ⟨rfl, hb2⟩; have HS2 := Lib.hid (HS1.out.later ((Below.drew (Below.refl _ w1)).trans hb2)); obtain ⟨hq0, hq1, hq2, hq3⟩ := cells_of2 HS2.out.pos; clear hb2))
      go_wp2_with fail
      go_meet
      exact HS2.out.store l3 c3
    case rest =>
      have HS := Lib.hid hcut
      clear hcut HAf HS1
      by_cases he : rest = []
      · subst he
        have hfin : R = ⟨acc, 0, 0, 0⟩ := by
          rw [← HR.out]; unfold splitF; rw [if_pos HX.out.1]
        have HF := Lib.hid hfin
        obtain ⟨hr0, hr1, hr2, hr3⟩ := cells_of2 HS.out.res
        clear hfin
        have hD := HS.out.done (.int .i64 0) (.int .i64 0)
        obtain ⟨hD1, hD2, hD3⟩ := hD
        have HD := Lib.hid (And.intro hD1 hD2)
        have hx := cells_of2 hD3
        clear hD1 hD2 hD3
        go_wp2
        refine bodyPost_ret (v := .tuple #[u5, .agg #[.int .i64 0, .int .i64 0], .int .i64 0]) (by simp [results, Tryd.results11, go_sem, hx]) rfl ⟨u5, by rw [HF.out], by rw [HF.out]; exact HD.out.1, HD.out.2⟩
      · have he1 : rest.isEmpty = false := by cases rest with | nil => exact absurd rfl he | cons _ _ => rfl
        have hpre := (takeT_prefix rest).length_le
        have hTk := Lib.hid HS.out.take
        by_cases hE : takeE rest = 0
        · have hpos := takeT_pos rest hE
          have HF1 : Hid (∀ n, Calls Tryd.prog 48 #[.string ⟨rest.toArray⟩, .pointer (some ⟨w.heap.size + 1 + 9, 0, none⟩)] (wc.drewN n) (Hit (takeK rest) (takeT rest) 0 (wc.drewN n))) := Lib.hid (fun n => by
            have h := first_any ⟨rest.toArray⟩ (wc.drewN n) (w.heap.size + 1) (hTk.out.drewN n) (by show rest.length ≤ maxLen; unfold maxLen; omega)
            rw [List.toList_toArray, hE] at h
            exact h)
          have hfin : R = splitF f (acc ++ [⟨takeK rest, takeT rest, l3, c3⟩]) (rest.drop (takeT rest).length) (afterL (l3, c3) (takeT rest)) := by
            rw [← HR.out]; conv => lhs; unfold splitF
            rw [HX.out.1, if_neg he, if_pos hE, HX.out.2.1, HX.out.2.2, ← HX.out.2.1, ← HX.out.2.2]
          have HF := Lib.hid hfin
          have hpa2 := after_bd (l3, c3) (takeT rest)
          have HSd : Hid (∀ n, SpAt w.heap.size A u5 acc l3 c3 w (wc.drewN n)) := Lib.hid (fun n => HS.out.later (below_drewN (Below.refl _ wc) n))
          have HAf2 : Hid (∀ W, Calls Tryd.prog 22 #[.agg #[.int .i64 l3, .int .i64 c3], .string ⟨(takeT rest).toArray⟩] W (PosIs (afterL (l3, c3) (takeT rest)).1 (afterL (l3, c3) (takeT rest)).2 W)) := Lib.hid (fun W => by
            have h := after_any l3 c3 ⟨(takeT rest).toArray⟩ W (by show (takeT rest).length ≤ _; omega) (by omega) (by omega) (by omega) (by omega)
            rw [List.toList_toArray] at h
            exact h)
          obtain ⟨hp0, hp1, hz0, hz1⟩ := cells_of2 HS.out.pos
          clear hfin hE he
          generalize takeT rest = tx at *
          generalize takeK rest = kx at *
          generalize hl4 : (afterL (l3, c3) tx).1 = l4 at *
          generalize hc4 : (afterL (l3, c3) tx).2 = c4 at *
          have HX4 := Lib.hid (And.intro hl4 hc4)
          clear hl4 hc4
          obtain ⟨i0, hi, hiz, his, hib⟩ := info_parts infoTok
          go_upto_region 13 with (first
            | (go_at_call 48; refine (HF1.out 0).mono ?_; rintro e w2 ⟨rfl, n2, rfl⟩))
          clear HF1 hTk
          have hox := (HSd.out n2).own
          have HO := Lib.hid hox
          clear hox
          have hAlt := Lib.hid (lt_of_block (HSd.out n2).pos)
          go_wp2_with (first
            | (at_builtin; refine wpList_append_own _ rfl _ _ 22 rfl (A + 1) 28 i0 _ 4 40 Tryd.underlying22 hi hiz his hib rfl (by decide) _ _ _ rfl (HO.out.alloc _) ⟨wc.heap.size, 0, none⟩ 1 1 (tokVals ⟨kx, tx, l3, c3⟩) rfl rfl ?c1 ?c2 ?c3 ?c4 ?c5 ?_))
          case c1 => exact tok_cells (wc.drewN n2) ⟨kx, tx, l3, c3⟩ _
          case c2 => exact tok_one _
          case c3 => unfold maxLen; omega
          case c4 => omega
          case c5 => exact (by have := hAlt.out; rw [size_of_alloc]; omega)
          intro v' w1 hown' hgrow _
          have HS2 := Lib.hid (SpAt.append (x := ⟨kx, tx, l3, c3⟩) (HSd.out n2) hown' hgrow)
          clear hown' hgrow HSd HO hAlt hi hiz his hib hp0 hp1 hz0 hz1
          obtain ⟨hp0, hp1, hz0, hz1⟩ := cells_of2 HS2.out.pos
          go_wp2_with (go_at_call 22; refine (HAf2.out _).mono ?_; rintro e w2 ⟨rfl, hb2⟩; have HS3 := Lib.hid (HS2.out.later hb2); obtain ⟨hq0, hq1, hq2, hq3⟩ := cells_of2 HS3.out.pos; clear hb2)
          go_roundg (rest.length - tx.length)
          case measure => omega
          case rel =>
            have e4 : afterL (l3, c3) tx = (l4, c4) := by rw [← HX4.out.1, ← HX4.out.2]
            have hff : f - 1 + 1 = f := by omega
            have hdl : (rest.drop tx.length).length = rest.length - tx.length := List.length_drop
            have hal : (acc ++ [Tok.mk kx tx l3 c3]).length = acc.length + 1 := by rw [List.length_append]; rfl
            refine ⟨rest.drop tx.length, acc ++ [⟨kx, tx, l3, c3⟩], l4, c4, f - 1, hdl.symm, by rw [tail_list], ?_, ?_, ?_, ?_, ?_, ?_, ?_, HS3.out.store l4 c4⟩
            · rw [hdl]; omega
            · rw [hff, ← e4]; exact HF.out.symm
            all_goals (first | omega | (rw [hdl]; omega) | (rw [hal, hdl]; omega))
        · have hE1 : (takeE rest != 0) = true := by rw [bne_iff_ne]; exact hE
          have HF1 : Hid (∀ n, Calls Tryd.prog 48 #[.string ⟨rest.toArray⟩, .pointer (some ⟨w.heap.size + 1 + 9, 0, none⟩)] (wc.drewN n) (Hit (takeK rest) (takeT rest) (takeE rest) (wc.drewN n))) := Lib.hid (fun n => by
            have h := first_any ⟨rest.toArray⟩ (wc.drewN n) (w.heap.size + 1) (hTk.out.drewN n) (by show rest.length ≤ maxLen; unfold maxLen; omega)
            rw [List.toList_toArray] at h
            exact h)
          have hfin : R = ⟨[], l3, c3, takeE rest⟩ := by
            rw [← HR.out]; unfold splitF; rw [HX.out.1, if_neg he, if_neg hE, HX.out.2.1, HX.out.2.2]
          have HF := Lib.hid hfin
          have HSd : Hid (∀ n, SpAt w.heap.size A u5 acc l3 c3 w (wc.drewN n)) := Lib.hid (fun n => HS.out.later (below_drewN (Below.refl _ wc) n))
          clear hfin hE he
          generalize takeE rest = ex at *
          generalize takeT rest = tx at *
          generalize takeK rest = kx at *
          go_wp2_with (go_at_call 48; refine (HF1.out 0).mono ?_; rintro e w2 ⟨rfl, n2, rfl⟩)
          obtain ⟨hr0, hr1, hr2, hr3⟩ := cells_of2 HS.out.res
          obtain ⟨hp0, hp1, hz0, hz1⟩ := cells_of2 HS.out.pos
          have hD := (HSd.out (n2 + 1)).done (.int .i64 l3) (.int .i64 c3)
          obtain ⟨hD1, hD2, hD3⟩ := hD
          have HD := Lib.hid hD2
          have hx := cells_of2 hD3
          clear hD1 hD2 hD3
          go_region_with (fail)
          go_wp2
          refine bodyPost_ret (v := .tuple #[.slice none 0 0, .agg #[.int .i64 l3, .int .i64 c3], .int .i64 ex]) (by simp [results, Tryd.results11, go_sem, hx]) rfl ⟨.slice none 0 0, by rw [HF.out], by rw [HF.out]; exact World.ownsRow_nil _ _ _ _, HD.out⟩

/-- lex.Split: what it returns for every text; its world: new memory alone. -/
theorem split_any (s : ByteArray) (m : Int) (w : World) (hs : s.size ≤ maxLen) (hg : 0 < w.heap.size) (hm : w.cell? ⟨0, 0, none⟩ = some (.int .i64 m)) :
    Calls Tryd.prog 11 #[.string s] w (SplitIs (splitL s.data.toList) w) := by
  unfold splitL
  by_cases h : 65536 < s.data.toList.length
  · rw [if_pos h]
    exact split_full s w hs h
  · rw [if_neg h]
    have := split_loop s.data.toList m w (by omega) hg hm
    exact this

end Go.Proofs.YtjdcohfdanenlaaDoor
