/-
  LeftStmts, at any row of statements.
-/
import Derived.Test.YtkjfgbcbeabpgaaGreatDoorTreeLf
import Derived.MakeChecks
import Derived.OpenShut
namespace Go.Proofs.YtkjfgbcbeabpgaaGreatDoor
open Go.RowKit

theorem one_condT {W : World} {g : Nat} {k2 ak an : Int} {sa : List UInt8} {al : List Ex} {bk bn : Int} {sb : List UInt8} {bl : List Ex} {l2 : List Cn} {Aa : Option Addr} {ca : Nat} {Ab : Option Addr} {cb : Nat} {Al : Option Addr} {cl : Nat} (hg : W.heap[g]? = some (condC2 k2 ak an ⟨sa.toArray⟩ (.slice Aa al.length ca) bk bn ⟨sb.toArray⟩ (.slice Ab bl.length cb) (.slice Al l2.length cl)))
    (h1 : sa.length ≤ maxLen) (h2 : al.length ≤ maxLen) (h3 : sb.length ≤ maxLen) (h4 : bl.length ≤ maxLen) (h5 : l2.length ≤ maxLen) (ra : ExRow W W.heap.size al Aa) (rb : ExRow W W.heap.size bl Ab) (rl : CnRow W W.heap.size l2 Al) : CnRow W W.heap.size [.mk k2 (.mk ak an sa al) (.mk bk bn sb bl) l2] (some ⟨g, 0, none⟩) := by
  refine .row _ _ (fun _ => Aa) (fun _ => Ab) (fun _ => Al) (fun _ => ca) (fun _ => cb) (fun _ => cl) (Array.getElem?_eq_some_iff.1 hg).1 (fun i k ak an sa al bk bn sb bl l hi => ?_) (fun i k ak an sa al bk bn sb bl l hi => ?_)
  · match i, hi with
    | 0, hi =>
      injection hi with hi; injection hi with e1 e2 e3 e4
      injection e2 with f1 f2 f3 f4
      injection e3 with g1 g2 g3 g4
      subst e1 e4 f1 f2 f3 f4 g1 g2 g3 g4
      exact ⟨⟨by simp only [add_block0]; exact cell_of_block hg 0 rfl, by simp only [add_block0]; exact cell_of_block hg 1 rfl, by simp only [add_block0]; exact cell_of_block hg 2 rfl, by simp only [add_block0]; exact cell_of_block hg 3 rfl, by simp only [add_block0]; exact cell_of_block hg 4 rfl, by simp only [add_block0]; exact cell_of_block hg 5 rfl, by simp only [add_block0]; exact cell_of_block hg 6 rfl, by simp only [add_block0]; exact cell_of_block hg 7 rfl, by simp only [add_block0]; exact cell_of_block hg 8 rfl, by simp only [add_block0]; exact cell_of_block hg 9 rfl⟩, h1, h2, h3, h4, h5, ra, rb⟩
    | i + 1, hi => simp at hi
  · match i, hi with
    | 0, hi => injection hi with hi; injection hi with e1 e2 e3 e4; subst e4; exact rl
    | i + 1, hi => simp at hi

theorem one_expr {W : World} {g : Nat} {k n : Int} {s : List UInt8} {l : List Ex} {A : Option Addr} {c : Nat} (hg : W.heap[g]? = some (.cells #[.int .i64 k, .int .i64 n, .string ⟨s.toArray⟩, .slice A l.length c] 24 (0, 0))) (h1 : s.length ≤ maxLen) (h2 : l.length ≤ maxLen) (hr : ExRow W W.heap.size l A) : ExRow W W.heap.size [.mk k n s l] (some ⟨g, 0, none⟩) := by
  refine .row _ _ (fun _ => A) (fun _ => c) (Array.getElem?_eq_some_iff.1 hg).1 (fun i k n s l hi => ?_) (fun i k n s l hi => ?_)
  · match i, hi with
    | 0, hi =>
      injection hi with hi; injection hi with e1 e2 e3 e4; subst e1 e2 e3 e4
      simp only [add_block0]
      exact ⟨cell_of_block hg 0 rfl, cell_of_block hg 1 rfl, cell_of_block hg 2 rfl, cell_of_block hg 3 rfl, h1, h2⟩
    | i + 1, hi => simp at hi
  · match i, hi with
    | 0, hi => injection hi with hi; injection hi with e1 e2 e3 e4; subst e4; exact hr
    | i + 1, hi => simp at hi

set_option maxRecDepth 100000 in
set_option maxHeartbeats 8000000 in
theorem left_stmts : ∀ (M : Nat) (ss : List St), SizeOf.sizeOf ss < M → ∀ (left : Int) (A : Option Addr) (c : Nat) (w : World), -1 ≤ left → left ≤ 200000 → StRow w w.heap.size ss A → ss.length ≤ maxLen →
    Calls Tryz.prog 19 #[.int .i64 left, .slice A ss.length c] w fun e w' => ∃ r : Int, e = .returned (.int .i64 r) ∧ -1 ≤ r ∧ r ≤ 200000 ∧ Below w.heap.size w w' := by
  intro M
  induction M with
  | zero => intro ss h; omega
  | succ M ih =>
    intro ss hM left A c w h0 h1 hr hn
    obtain ⟨n, hnn⟩ : ∃ n, n = ss.length := ⟨_, rfl⟩
    have HH := Lib.hid (And.intro hr (And.intro ih (And.intro hM hnn)))
    have HB0 := Lib.hid (Below.refl w.heap.size w)
    rw [← hnn] at hn ⊢
    clear hr ih hM hnn
    unfold maxLen at hn
    go_enter Tryz.func19, Tryz.ntmps19
    go_wp2
    go_loopg [0, 5] n (fun m lf j wr => ∃ (k : Nat) (r : Int), m = n - k ∧ k ≤ n ∧ j = .int .i64 k ∧ lf = .int .i64 r ∧ -1 ≤ r ∧ r ≤ 200000 ∧ Hid (Below w.heap.size w wr))
    case atStart => exact ⟨0, left, rfl, Nat.zero_le _, rfl, rfl, h0, h1, HB0⟩
    case round =>
      obtain ⟨k, r, rfl, hk, rfl, rfl, hr0, hr1, HI⟩ := hrel
      by_cases hlt : k < n
      · by_cases hneg : 0 ≤ r
        · have hki : (k : Int) < n := by omega
          obtain ⟨s, hi⟩ : ∃ x, ss[k]? = some x := ⟨ss[k]'(by rw [← HH.out.2.2.2]; exact hlt), List.getElem?_eq_getElem _⟩
          obtain ⟨a, d, rfl, hab, hc, hown, hb1, hb2⟩ := HH.out.1.at_ hi
          obtain ⟨k0, ln, co, nm, fd, fr, ⟨ek, en, es, el⟩, ⟨ck, ⟨ak, an, sa, al⟩, ⟨bk, bn, sb, bl⟩, l⟩, cl, iv, b, o⟩ := s
          obtain ⟨⟨_, _, _, m3, m4, m5, m6, m7, m8, m9, m10, m11, m12, m13⟩, re, ra, rb, rl, rc, ri⟩ := hown
          have hsz : SizeOf.sizeOf b < M ∧ SizeOf.sizeOf o < M := by
            have h1 := HH.out.2.2.1
            have h2 := List.sizeOf_lt_of_mem (List.mem_of_getElem? hi)
            have h3 : SizeOf.sizeOf b < SizeOf.sizeOf (St.mk k0 ln co nm fd fr (.mk ek en es el) (.mk ck (.mk ak an sa al) (.mk bk bn sb bl) l) cl iv b o) := by simp; omega
            have h4 : SizeOf.sizeOf o < SizeOf.sizeOf (St.mk k0 ln co nm fd fr (.mk ek en es el) (.mk ck (.mk ak an sa al) (.mk bk bn sb bl) l) cl iv b o) := by simp; omega
            omega
          have habk : (a.add (k * 24)).block < w.heap.size := by rw [block_adds]; exact hab
          obtain ⟨nc, hnc⟩ : ∃ nc, nc = cl.length := ⟨_, rfl⟩
          have HF : Hid (∀ W, Below w.heap.size w W →
              (W.cell? ⟨(a.add (k * 24)).block, (a.add (k * 24)).off + 6, none⟩ = some (.int .i64 ek) ∧ W.cell? ⟨(a.add (k * 24)).block, (a.add (k * 24)).off + 7, none⟩ = some (.int .i64 en) ∧ W.cell? ⟨(a.add (k * 24)).block, (a.add (k * 24)).off + 8, none⟩ = some (.string ⟨es.toArray⟩) ∧ W.cell? ⟨(a.add (k * 24)).block, (a.add (k * 24)).off + 9, none⟩ = some (.slice d.e el.length d.ne)) ∧
              (W.cell? ⟨(a.add (k * 24)).block, (a.add (k * 24)).off + 10, none⟩ = some (.int .i64 ck) ∧ W.cell? ⟨(a.add (k * 24)).block, (a.add (k * 24)).off + 11, none⟩ = some (.int .i64 ak) ∧ W.cell? ⟨(a.add (k * 24)).block, (a.add (k * 24)).off + 12, none⟩ = some (.int .i64 an) ∧ W.cell? ⟨(a.add (k * 24)).block, (a.add (k * 24)).off + 13, none⟩ = some (.string ⟨sa.toArray⟩) ∧ W.cell? ⟨(a.add (k * 24)).block, (a.add (k * 24)).off + 14, none⟩ = some (.slice d.a al.length d.na) ∧
                W.cell? ⟨(a.add (k * 24)).block, (a.add (k * 24)).off + 15, none⟩ = some (.int .i64 bk) ∧ W.cell? ⟨(a.add (k * 24)).block, (a.add (k * 24)).off + 16, none⟩ = some (.int .i64 bn) ∧ W.cell? ⟨(a.add (k * 24)).block, (a.add (k * 24)).off + 17, none⟩ = some (.string ⟨sb.toArray⟩) ∧ W.cell? ⟨(a.add (k * 24)).block, (a.add (k * 24)).off + 18, none⟩ = some (.slice d.b bl.length d.nb) ∧ W.cell? ⟨(a.add (k * 24)).block, (a.add (k * 24)).off + 19, none⟩ = some (.slice d.l l.length d.nl)) ∧
              W.cell? ⟨(a.add (k * 24)).block, (a.add (k * 24)).off + 20, none⟩ = some (.slice d.c nc d.nc) ∧ W.cell? ⟨(a.add (k * 24)).block, (a.add (k * 24)).off + 21, none⟩ = some (.slice d.i iv.length d.ni) ∧ W.cell? ⟨(a.add (k * 24)).block, (a.add (k * 24)).off + 22, none⟩ = some (.slice d.s b.length d.ns) ∧ W.cell? ⟨(a.add (k * 24)).block, (a.add (k * 24)).off + 23, none⟩ = some (.slice d.t o.length d.nt)) := Lib.hid (fun W hb => by
            rw [hnc]
            have e : ∀ j v, (stCs d (St.mk k0 ln co nm fd fr (.mk ek en es el) (.mk ck (.mk ak an sa al) (.mk bk bn sb bl) l) cl iv b o))[j]? = some v → W.cell? ((a.add (k * 24)).add j) = some v := fun j v hv => (hb.cell (by rw [block_adds]; exact habk)).trans (hc j v hv)
            exact ⟨⟨e 6 _ rfl, e 7 _ rfl, e 8 _ rfl, e 9 _ rfl⟩, ⟨e 10 _ rfl, e 11 _ rfl, e 12 _ rfl, e 13 _ rfl, e 14 _ rfl, e 15 _ rfl, e 16 _ rfl, e 17 _ rfl, e 18 _ rfl, e 19 _ rfl⟩, e 20 _ rfl, e 21 _ rfl, e 22 _ rfl, e 23 _ rfl⟩)
          have HE : Hid (∀ (left : Int) W, Below w.heap.size w W → -1 ≤ left → left ≤ 200000 → Calls Tryz.prog 11 #[.int .i64 left, .slice (some ⟨W.heap.size, 0, none⟩) 1 1] (W.alloc (.cells #[.int .i64 ek, .int .i64 en, .string ⟨es.toArray⟩, .slice d.e el.length d.ne] 24)) fun e w' => ∃ r : Int, e = .returned (.int .i64 r) ∧ -1 ≤ r ∧ r ≤ 200000 ∧ Below W.heap.size W w') := Lib.hid (fun left W hb g0 g1 => by
            have hba := below_alloc W (.cells #[.int .i64 ek, .int .i64 en, .string ⟨es.toArray⟩, .slice d.e el.length d.ne] 24)
            exact (left_exprs _ [.mk ek en es el] (Nat.lt_succ_self _) left (some ⟨W.heap.size, 0, none⟩) 1 _ g0 g1 (one_expr (heap_of_alloc W _) m3 m4 (re.on (hb.chain hba))) (show 1 ≤ maxLen by decide)).mono fun e w' ⟨r', he, q0, q1, hb2⟩ => ⟨r', he, q0, q1, hba.chain hb2⟩)
          have HC : Hid (∀ (left : Int) W, Below w.heap.size w W → -1 ≤ left → left ≤ 200000 → Calls Tryz.prog 10 #[.int .i64 left, .slice (some ⟨W.heap.size, 0, none⟩) 1 1] (W.alloc (condC2 ck ak an ⟨sa.toArray⟩ (.slice d.a al.length d.na) bk bn ⟨sb.toArray⟩ (.slice d.b bl.length d.nb) (.slice d.l l.length d.nl))) fun e w' => ∃ r : Int, e = .returned (.int .i64 r) ∧ -1 ≤ r ∧ r ≤ 200000 ∧ Below W.heap.size W w') := Lib.hid (fun left W hb g0 g1 => by
            have hba := below_alloc W (condC2 ck ak an ⟨sa.toArray⟩ (.slice d.a al.length d.na) bk bn ⟨sb.toArray⟩ (.slice d.b bl.length d.nb) (.slice d.l l.length d.nl))
            exact (left_conds _ [.mk ck (.mk ak an sa al) (.mk bk bn sb bl) l] (Nat.lt_succ_self _) left (some ⟨W.heap.size, 0, none⟩) 1 _ g0 g1 (one_condT (heap_of_alloc W _) m5 m6 m7 m8 m9 (ra.on (hb.chain hba)) (rb.on (hb.chain hba)) (rl.on (hb.chain hba))) (show 1 ≤ maxLen by decide)).mono fun e w' ⟨r', he, q0, q1, hb2⟩ => ⟨r', he, q0, q1, hba.chain hb2⟩)
          have HG : Hid (∀ (left : Int) W, Below w.heap.size w W → -1 ≤ left → left ≤ 200000 → Calls Tryz.prog 16 #[.int .i64 left, .slice d.i iv.length d.ni] W fun e w' => ∃ r : Int, e = .returned (.int .i64 r) ∧ -1 ≤ r ∧ r ≤ 200000 ∧ Below W.heap.size W w') := Lib.hid (fun left W hb g0 g1 => left_formulas iv left d.i d.ni W g0 g1 (ri.on fm_keeps hb) m11)
          have HS1 : Hid (∀ (left : Int) W, Below w.heap.size w W → -1 ≤ left → left ≤ 200000 → Calls Tryz.prog 19 #[.int .i64 left, .slice d.s b.length d.ns] W fun e w' => ∃ r : Int, e = .returned (.int .i64 r) ∧ -1 ≤ r ∧ r ≤ 200000 ∧ Below W.heap.size W w') := Lib.hid (fun left W hb g0 g1 => HH.out.2.1 b hsz.1 left d.s d.ns W g0 g1 (hb1.on hb) m12)
          have HS2 : Hid (∀ (left : Int) W, Below w.heap.size w W → -1 ≤ left → left ≤ 200000 → Calls Tryz.prog 19 #[.int .i64 left, .slice d.t o.length d.nt] W fun e w' => ∃ r : Int, e = .returned (.int .i64 r) ∧ -1 ≤ r ∧ r ≤ 200000 ∧ Below W.heap.size W w') := Lib.hid (fun left W hb g0 g1 => HH.out.2.1 o hsz.2 left d.t d.nt W g0 g1 (hb2.on hb) m13)
          have HR := Lib.hid (And.intro rc (And.intro hnc (And.intro trivial hlt)))
          rw [← hnc] at m10
          unfold maxLen at m3 m4 m5 m6 m7 m8 m9 m10 m11 m12 m13
          generalize el.length = n4 at *
          generalize al.length = n6 at *
          generalize bl.length = n8 at *
          generalize l.length = n9 at *
          generalize iv.length = n11 at *
          generalize b.length = n12 at *
          generalize o.length = n13 at *
          obtain ⟨⟨y6, y7, y8, y9⟩, _⟩ := HF.out _ HI.out
          clear hc re ra rb rl rc ri hi hsz hb1 hb2 hnc habk
          go_wp2_with (first
            | (go_at_call 11; refine (HE.out _ _ HI.out (by omega) (by omega)).mono ?_; rintro e w3 ⟨r3, rfl, p0, p1, hb3⟩; have HB3 := Lib.hid (HI.out.chain hb3); clear hb3; obtain ⟨_, ⟨z10, z11, z12, z13, z14, z15, z16, z17, z18, z19⟩, _⟩ := HF.out _ HB3.out)
            | (go_at_call 10; refine (HC.out _ _ HB3.out p0 p1).mono ?_; rintro e w4 ⟨r4, rfl, p2, p3, hb4⟩; have HB4 := Lib.hid (HB3.out.chain hb4); clear hb4; obtain ⟨_, _, _, x21, _⟩ := HF.out _ HB4.out)
            | (go_at_call 16; refine (HG.out _ _ HB4.out p2 p3).mono ?_; rintro e w5 ⟨r5, rfl, p4, p5, hb5⟩; have HB5 := Lib.hid (HB4.out.chain hb5); clear hb5))
          go_loopg [0, 6] nc (fun m lf j wr2 => ∃ (q : Nat) (r1 : Int), m = nc - q ∧ q ≤ nc ∧ j = .int .i64 q ∧ lf = .int .i64 r1 ∧ -1 ≤ r1 ∧ r1 ≤ 200000 ∧ Hid (Below w.heap.size w wr2))
          case atStart => exact ⟨0, r5, rfl, Nat.zero_le _, rfl, rfl, p4, p5, HB5⟩
          case round =>
            obtain ⟨q, r1, rfl, hq, rfl, rfl, hr2, hr3, HJ⟩ := hrel
            obtain ⟨_, _, x20, _⟩ := HF.out _ HJ.out
            by_cases hqt : q < nc
            · have hqi : (q : Int) < nc := by omega
              obtain ⟨⟨xr, xp, xl⟩, hx⟩ : ∃ x, cl[q]? = some x := ⟨cl[q]'(by rw [← HR.out.2.1]; exact hqt), List.getElem?_eq_getElem _⟩
              obtain ⟨a3, ha3, hab3, Al, cal, e0, e1, e2, hxr, hxp, hll, rxl⟩ := HR.out.1.at_ hx
              simp only at e0 e1 e2 hxr hxp hll rxl
              rw [ha3] at x20
              have c2 : wr.cell? ⟨(a3.add (q * 3)).block, (a3.add (q * 3)).off + 2, none⟩ = some (.slice Al xl.length cal) := (HJ.out.cell (p := (a3.add (q * 3)).add 2) (by rw [block_adds, block_adds]; exact hab3)).trans e2
              have HK := Lib.hid (left_exprs _ xl (Nat.lt_succ_self _) r1 Al cal wr hr2 hr3 (rxl.on HJ.out) hll)
              have HQT := Lib.hid (And.intro trivial hqt)
              clear e0 e1 e2 hxr hxp hll rxl hx ha3
              go_wp2_with (go_at_call 11; refine HK.out.mono ?_; rintro e w6 ⟨r6, rfl, q0, q1, hb⟩; have HB6 := Lib.hid (HJ.out.chain hb); clear hb)
              go_roundg (nc - (q + 1))
              case measure => have := HQT.out.2; omega
              case rel => exact ⟨q + 1, r6, rfl, (by have := HQT.out.2; omega), by go_num, rfl, q0, q1, HB6⟩
            · obtain rfl : q = nc := by omega
              obtain ⟨_, _, _, _, x22, _⟩ := HF.out _ HJ.out
              go_wp2_with (first
                | (go_at_call 19; with_reducible refine (HS1.out _ _ HJ.out hr2 hr3).mono ?_; rintro e w6 ⟨r6, rfl, p6, p7, hb6⟩; have HB6 := Lib.hid (HJ.out.chain hb6); clear hb6; obtain ⟨_, _, _, _, _, x23⟩ := HF.out _ HB6.out)
                | (go_at_call 19; refine (HS2.out _ _ HB6.out p6 p7).mono ?_; rintro e w7 ⟨r7, rfl, p8, p9, hb7⟩; have HB7 := Lib.hid (HB6.out.chain hb7); clear hb7))
              go_roundg (n - (k + 1))
              case measure => have := HR.out.2.2.2; omega
              case rel => exact ⟨k + 1, r7, rfl, (by have := HR.out.2.2.2; omega), by go_num, rfl, p8, p9, HB7⟩
        · have hki : (k : Int) < n := by omega
          go_wp2
          go_ret
          exact ⟨r, rfl, hr0, hr1, HI.out⟩
      · obtain rfl : k = n := by omega
        go_wp2
        go_ret
        exact ⟨r, rfl, hr0, hr1, HI.out⟩

end Go.Proofs.YtkjfgbcbeabpgaaGreatDoor
