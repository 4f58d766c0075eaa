/-
  Negations, conjunctions and disjunctions: mathematics; conditions as values; the law's two closures.
-/
import Derived.Test.YtbmejohoifpfhaaDoorValAw
namespace Go.Proofs.YtbmejohoifpfhaaDoor
open Go.RowKit

def notC (x : Cn) : Cn := .mk 5 zE zE [x]
def twoC (k : Int) (x y : Cn) : Cn := .mk k zE zE [x, y]

theorem vC_not {var : List UInt8 → Bool} {nu : Int} (d : Nat) (x : Cn) : vC var nu (d + 1) (notC x) = vC var nu d x := by
  show vC var nu (d + 1) (.mk 5 zE zE [x]) = _
  rw [vC, if_neg (by decide), if_pos rfl]
  simp [zX, zE, opsC]

theorem vC_two {var : List UInt8 → Bool} {nu : Int} (d : Nat) {k : Int} (hk : k = 6 ∨ k = 7) (x y : Cn) : vC var nu (d + 1) (twoC k x y) = (vC var nu d x && vC var nu d y) := by
  show vC var nu (d + 1) (.mk k zE zE [x, y]) = _
  rw [vC, if_neg (by rcases hk with rfl | rfl <;> decide), if_neg (by rcases hk with rfl | rfl <;> decide), if_pos hk]
  simp [zX, zE, opsC]

theorem ec_not (S : List Bd) (d : Nat) (x : Cn) : ec S (d + 1) (notC x) = ecNot [ec S d x] := by
  show ec S (d + 1) (.mk 5 zE zE [x]) = _
  rw [ec, if_neg (by decide), if_pos rfl]; rfl

theorem ec_two (S : List Bd) (d : Nat) {k : Int} (hk : k = 6 ∨ k = 7) (x y : Cn) : ec S (d + 1) (twoC k x y) = ecTwo k [ec S d x, ec S d y] := by
  show ec S (d + 1) (.mk k zE zE [x, y]) = _
  rw [ec, if_neg (by rcases hk with rfl | rfl <;> decide), if_neg (by rcases hk with rfl | rfl <;> decide)]; rfl

/-- What is valid within a depth is valid within a greater one, and has the same value. -/
theorem vC_more {var : List UInt8 → Bool} {nu : Int} (S : List Bd) : ∀ (d : Nat) (x : Cn), vC var nu d x = true → vC var nu (d + 1) x = true ∧ ec S (d + 1) x = ec S d x
  | 0, _, h => by cases h
  | d + 1, .mk k a b l, h => by
    rcases vC_forms h with ⟨⟨h1, h2⟩, rfl, h3, h4⟩ | ⟨rfl, x, rfl, hx⟩ | ⟨hk, x, y, rfl, hx, hy⟩
    · have hk : (decide (1 ≤ k) && decide (k ≤ 4)) = true := by rw [decide_eq_true h1, decide_eq_true h2]; rfl
      refine ⟨?_, ?_⟩
      · rw [vC, if_pos hk, h3, h4]; rfl
      · rw [ec, if_pos hk, ec, if_pos hk]
    · obtain ⟨g1, g2⟩ := vC_more S d x hx
      rw [vC, if_neg (by decide), if_pos rfl] at h
      refine ⟨?_, ?_⟩
      · rw [vC, if_neg (by decide), if_pos rfl]
        simp only [opsC, List.all_cons, List.all_nil, Bool.and_true, hx, g1] at h ⊢
        exact h
      · rw [ec, if_neg (by decide), if_pos rfl, ec, if_neg (by decide), if_pos rfl, List.map_cons, List.map_nil, List.map_cons, List.map_nil, g2]
    · obtain ⟨g1, g2⟩ := vC_more S d x hx
      obtain ⟨g3, g4⟩ := vC_more S d y hy
      have e1 : ¬ ((decide (1 ≤ k) && decide (k ≤ 4)) = true) := by rcases hk with rfl | rfl <;> decide
      have e2 : ¬ k = 5 := by rcases hk with rfl | rfl <;> decide
      rw [vC, if_neg e1, if_neg e2, if_pos hk] at h
      refine ⟨?_, ?_⟩
      · rw [vC, if_neg e1, if_neg e2, if_pos hk]
        simp only [opsC, List.all_cons, List.all_nil, Bool.and_true, hx, g1, hy, g3] at h ⊢
        exact h
      · rw [ec, if_neg e1, if_neg e2, ec, if_neg e1, if_neg e2]
        simp only [List.map_cons, List.map_nil, g2, g4]

theorem morgan1 (p q : Bool × Int) : ecNot [ecTwo 6 [p, q]] = ecTwo 7 [ecNot [p], ecNot [q]] := by
  obtain ⟨a, e⟩ := p
  obtain ⟨b, f⟩ := q
  by_cases he : e = 0
  · subst he
    cases a <;> simp [ecNot, ecTwo]
  · have : (e == 0) = false := beq_eq_false_iff_ne.2 he
    simp [ecNot, ecTwo, he]

theorem morgan2 {p q : Bool × Int} (hq : COk q) : ecNot [ecTwo 6 [ecNot [p], ecNot [q]]] = ecTwo 7 [p, q] := by
  obtain ⟨a, e⟩ := p
  obtain ⟨b, f⟩ := q
  have h2 : ecNot [ecNot [(b, f)]] = (b, f) := by
    by_cases hf : f = 0
    · subst hf; cases b <;> rfl
    · rcases hq with h | h
      · exact absurd h hf
      · simp only at h
        simp [ecNot, hf, h.1]
  by_cases he : e = 0
  · subst he
    cases a
    · have : ecTwo 6 [ecNot [(false, 0)], ecNot [(b, f)]] = ecNot [(b, f)] := by simp [ecNot, ecTwo]
      rw [this, h2]; simp [ecTwo]
    · simp [ecNot, ecTwo]
  · simp [ecNot, ecTwo, he]

/-- What the law asks. -/
structure Lg (x y z w u v : Bool × Int) : Prop where
  xy : y = x
  zw : w = z
  uv : v.2 = u.2
  fin : (u.2 ≠ 0 ∧ u.1 = false ∧ v.1 = false) ∨ (u.2 = 0 ∧ v.1 = !u.1)

theorem logic_math (rs : Bool) (S : List Bd) (hrs : Tells rs (StOk S)) (a b : Cn) (hB : vC varR nuP 30 (notC (twoC 6 (notC a) (notC b))) = true) :
    Lg (kr rs S (notC (twoC 6 a b))) (kr rs S (twoC 7 (notC a) (notC b))) (kr rs S (notC (twoC 6 (notC a) (notC b)))) (kr rs S (twoC 7 a b)) (kr rs S a) (kr rs S (notC a)) := by
  cases rs
  · exact ⟨rfl, rfl, rfl, .inl ⟨show (1 : Int) ≠ 0 by decide, rfl, rfl⟩⟩
  have hS := hrs.t
  have hB' := hB
  rw [show (30 : Nat) = 27 + 1 + 1 + 1 from rfl, vC_not, vC_two _ (.inl rfl), vC_not, vC_not, Bool.and_eq_true] at hB'
  obtain ⟨ha, hb⟩ := hB'
  obtain ⟨a28, ea28⟩ := vC_more S _ _ ha
  obtain ⟨a29, ea29⟩ := vC_more S _ _ a28
  obtain ⟨a30, ea30⟩ := vC_more S _ _ a29
  obtain ⟨b28, eb28⟩ := vC_more S _ _ hb
  obtain ⟨b29, eb29⟩ := vC_more S _ _ b28
  have k1 : kr true S (notC (twoC 6 a b)) = ecNot [ecTwo 6 [ec S 27 a, ec S 27 b]] := by
    rw [kr, show vC varR nuP 30 (notC (twoC 6 a b)) = true from by rw [show (30 : Nat) = 28 + 1 + 1 from rfl, vC_not, vC_two _ (.inl rfl), a28, b28]; rfl]
    show ec S (28 + 1 + 1) _ = _
    rw [ec_not, ec_two _ _ (.inl rfl), ea28, eb28]
  have k2 : kr true S (twoC 7 (notC a) (notC b)) = ecTwo 7 [ecNot [ec S 27 a], ecNot [ec S 27 b]] := by
    rw [kr, show vC varR nuP 30 (twoC 7 (notC a) (notC b)) = true from by rw [show (30 : Nat) = 28 + 1 + 1 from rfl, vC_two _ (.inr rfl), vC_not, vC_not, a28, b28]; rfl]
    show ec S (28 + 1 + 1) _ = _
    rw [ec_two _ _ (.inr rfl), ec_not, ec_not, ea28, eb28]
  have k3 : kr true S (notC (twoC 6 (notC a) (notC b))) = ecNot [ecTwo 6 [ecNot [ec S 27 a], ecNot [ec S 27 b]]] := by
    rw [kr, hB]
    show ec S (27 + 1 + 1 + 1) _ = _
    rw [ec_not, ec_two _ _ (.inl rfl), ec_not, ec_not]
  have k4 : kr true S (twoC 7 a b) = ecTwo 7 [ec S 27 a, ec S 27 b] := by
    rw [kr, show vC varR nuP 30 (twoC 7 a b) = true from by rw [show (30 : Nat) = 29 + 1 from rfl, vC_two _ (.inr rfl), a29, b29]; rfl]
    show ec S (29 + 1) _ = _
    rw [ec_two _ _ (.inr rfl), ea29, ea28, eb29, eb28]
  have k5 : kr true S a = ec S 27 a := by
    rw [kr, a30]
    show ec S 30 a = _
    rw [ea30, ea29, ea28]
  have k6 : kr true S (notC a) = ecNot [ec S 27 a] := by
    rw [kr, show vC varR nuP 30 (notC a) = true from by rw [show (30 : Nat) = 29 + 1 from rfl, vC_not, a29]]
    show ec S (29 + 1) _ = _
    rw [ec_not, ea29, ea28]
  rw [k1, k2, k3, k4, k5, k6]
  refine ⟨(morgan1 _ _).symm, (morgan2 (ec_ok hS 27 b)).symm, rfl, ?_⟩
  rcases ec_ok hS 27 a with h | ⟨h1, h2⟩
  · exact .inr ⟨h, by simp [ecNot, h]⟩
  · refine .inl ⟨by rcases h2 with h2 | h2 <;> rw [h2] <;> decide, h1, ?_⟩
    rcases h2 with h2 | h2 <;> simp [ecNot, h2]

/-- A condition as a value. -/
def CnVal (W : World) (x : Cn) (v : Value) : Prop :=
  ∃ (k ak an : Int) (sa : List UInt8) (al : List Ex) (bk bn : Int) (sb : List UInt8) (bl : List Ex) (l : List Cn) (Aa : Option Addr) (ca : Nat) (Ab : Option Addr) (cb : Nat) (Al : Option Addr) (cl : Nat),
    v = condV2 k ak an ⟨sa.toArray⟩ (.slice Aa al.length ca) bk bn ⟨sb.toArray⟩ (.slice Ab bl.length cb) (.slice Al l.length cl) ∧ CnOwn W x k ak an sa al bk bn sb bl l Aa Ab Al

theorem CnOwn.on {W W' : World} {x : Cn} {k ak an : Int} {sa : List UInt8} {al : List Ex} {bk bn : Int} {sb : List UInt8} {bl : List Ex} {l : List Cn} {Aa Ab Al : Option Addr} (h : CnOwn W x k ak an sa al bk bn sb bl l Aa Ab Al) (hb : Below W.heap.size W W') : CnOwn W' x k ak an sa al bk bn sb bl l Aa Ab Al :=
  ⟨h.eq, h.len, h.ra.on hb, h.rb.on hb, h.rl.on hb⟩

theorem CnVal.on {W W' : World} {x : Cn} {v : Value} (h : CnVal W x v) (hb : Below W.heap.size W W') : CnVal W' x v := by
  obtain ⟨k, ak, an, sa, al, bk, bn, sb, bl, l, Aa, ca, Ab, cb, Al, cl, e, h⟩ := h
  exact ⟨k, ak, an, sa, al, bk, bn, sb, bl, l, Aa, ca, Ab, cb, Al, cl, e, h.on hb⟩

/-- Behind a function that makes a condition. -/
def MkPost (x : Cn) (w : World) (e : Ending) (w' : World) : Prop := ∃ v, e = .returned v ∧ CnVal w' x v ∧ Below w.heap.size w w'

/-- A condition made of a row. -/
abbrev mkO (k : Int) (g n : Nat) : Obj := condC2 k 0 0 ⟨#[]⟩ (.slice none 0 0) 0 0 ⟨#[]⟩ (.slice none 0 0) (.slice (some ⟨g, 0, none⟩) n n)
abbrev mkV (k : Int) (g n : Nat) : Value := condV2 k 0 0 ⟨#[]⟩ (.slice none 0 0) 0 0 ⟨#[]⟩ (.slice none 0 0) (.slice (some ⟨g, 0, none⟩) n n)

theorem mk_val {W : World} {k : Int} {g : Nat} {l : List Cn} (hl : l.length ≤ maxLen) (h : CnRow W W.heap.size l (some ⟨g, 0, none⟩)) : CnVal W (.mk k zE zE l) (mkV k g l.length) :=
  ⟨k, 0, 0, [], [], 0, 0, [], [], l, none, 0, none, 0, some ⟨g, 0, none⟩, l.length, rfl, rfl, ⟨len_ok0, len_ok0, len_ok0, len_ok0, hl⟩, .nil _, .nil _, h⟩

set_option maxRecDepth 100000 in
set_option maxHeartbeats 2000000 in
theorem not_any (x : Cn) (v : Value) (w : World) (h : CnVal w x v) : Calls Tryd.prog 15 #[v] w (MkPost (notC x) w) := by
  obtain ⟨k, ak, an, sa, al, bk, bn, sb, bl, l, Aa, ca, Ab, cb, Al, cl, rfl, h⟩ := h
  have HO := Lib.hid h
  clear h
  have hbox : (((w.alloc (condC2 k ak an ⟨sa.toArray⟩ (.slice Aa al.length ca) bk bn ⟨sb.toArray⟩ (.slice Ab bl.length cb) (.slice Al l.length cl))).alloc (mkO 5 (w.heap.size + 1 + 1) 1)).alloc (condC2 k ak an ⟨sa.toArray⟩ (.slice Aa al.length ca) bk bn ⟨sb.toArray⟩ (.slice Ab bl.length cb) (.slice Al l.length cl))).heap[w.heap.size + 1]? = some (mkO 5 (w.heap.size + 1 + 1) 1) := by
    refine ((below_alloc _ _).block _ (by rw [size_of_alloc, size_of_alloc]; omega)).trans ?_
    have := heap_of_alloc (w.alloc (condC2 k ak an ⟨sa.toArray⟩ (.slice Aa al.length ca) bk bn ⟨sb.toArray⟩ (.slice Ab bl.length cb) (.slice Al l.length cl))) (mkO 5 (w.heap.size + 1 + 1) 1)
    rwa [size_of_alloc] at this
  have HBx := Lib.hid hbox
  clear hbox
  go_enter Tryd.func15, Tryd.ntmps15
  go_wp2
  refine bodyPost_ret (results_cell_row rfl _ _ (w.heap.size + 1) 39 #[.int .i64 5, .int .i64 0, .int .i64 0, .string ⟨#[]⟩, .slice none 0 0, .int .i64 0, .int .i64 0, .string ⟨#[]⟩, .slice none 0 0, .slice (some ⟨w.heap.size + 1 + 1, 0, none⟩) 1 1] (0, 0) _ rfl HBx.out Tryd.underlying39 rfl (by kernel_rfl)) rfl ?_
  have hb := ((below_alloc w (condC2 k ak an ⟨sa.toArray⟩ (.slice Aa al.length ca) bk bn ⟨sb.toArray⟩ (.slice Ab bl.length cb) (.slice Al l.length cl))).al (mkO 5 (w.heap.size + 1 + 1) 1)).al (condC2 k ak an ⟨sa.toArray⟩ (.slice Aa al.length ca) bk bn ⟨sb.toArray⟩ (.slice Ab bl.length cb) (.slice Al l.length cl))
  refine ⟨_, rfl, mk_val (l := [x]) (len_oke x) (single_cond (ca := ca) (cb := cb) (cl := cl) ?_ (HO.out.on hb)), hb⟩
  have := heap_of_alloc ((w.alloc (condC2 k ak an ⟨sa.toArray⟩ (.slice Aa al.length ca) bk bn ⟨sb.toArray⟩ (.slice Ab bl.length cb) (.slice Al l.length cl))).alloc (mkO 5 (w.heap.size + 1 + 1) 1)) (condC2 k ak an ⟨sa.toArray⟩ (.slice Aa al.length ca) bk bn ⟨sb.toArray⟩ (.slice Ab bl.length cb) (.slice Al l.length cl))
  rwa [size_of_alloc, size_of_alloc] at this

set_option maxRecDepth 100000 in
set_option maxHeartbeats 2000000 in
theorem two_any (kk : Int) (x y : Cn) (v v' : Value) (w : World) (h : CnVal w x v) (h' : CnVal w y v') : Calls Tryd.prog 16 #[.int .i64 kk, v, v'] w (MkPost (twoC kk x y) w) := by
  obtain ⟨k, ak, an, sa, al, bk, bn, sb, bl, l, Aa, ca, Ab, cb, Al, cl, rfl, h⟩ := h
  obtain ⟨k2, ak2, an2, sa2, al2, bk2, bn2, sb2, bl2, l2, Aa2, ca2, Ab2, cb2, Al2, cl2, rfl, h'⟩ := h'
  have HO := Lib.hid (And.intro h h')
  clear h h'
  obtain ⟨W2, hW2⟩ : ∃ W2, W2 = (w.alloc (condC2 k ak an ⟨sa.toArray⟩ (.slice Aa al.length ca) bk bn ⟨sb.toArray⟩ (.slice Ab bl.length cb) (.slice Al l.length cl))).alloc (condC2 k2 ak2 an2 ⟨sa2.toArray⟩ (.slice Aa2 al2.length ca2) bk2 bn2 ⟨sb2.toArray⟩ (.slice Ab2 bl2.length cb2) (.slice Al2 l2.length cl2)) := ⟨_, rfl⟩
  have HJ : Hid (Below w.heap.size w W2 ∧ W2.heap.size = w.heap.size + 1 + 1) := Lib.hid (by rw [hW2]; exact ⟨(below_alloc w _).al _, by rw [size_of_alloc, size_of_alloc]⟩)
  obtain ⟨rowO, hrowO⟩ : ∃ o : Obj, o = .cells #[.int .i64 k, .int .i64 ak, .int .i64 an, .string ⟨sa.toArray⟩, .slice Aa al.length ca, .int .i64 bk, .int .i64 bn, .string ⟨sb.toArray⟩, .slice Ab bl.length cb, .slice Al l.length cl,
      .int .i64 k2, .int .i64 ak2, .int .i64 an2, .string ⟨sa2.toArray⟩, .slice Aa2 al2.length ca2, .int .i64 bk2, .int .i64 bn2, .string ⟨sb2.toArray⟩, .slice Ab2 bl2.length cb2, .slice Al2 l2.length cl2] 39 (0, 0) := ⟨_, rfl⟩
  have HBx : Hid (((W2.alloc (mkO kk (w.heap.size + 1 + 1 + 1) 2)).alloc rowO).heap[w.heap.size + 1 + 1]? = some (mkO kk (w.heap.size + 1 + 1 + 1) 2)) := Lib.hid (by
    refine ((below_alloc _ _).block _ (by rw [size_of_alloc, HJ.out.2]; omega)).trans ?_
    have := heap_of_alloc W2 (mkO kk (w.heap.size + 1 + 1 + 1) 2)
    rwa [HJ.out.2] at this)
  have HRow : Hid (((W2.alloc (mkO kk (w.heap.size + 1 + 1 + 1) 2)).alloc rowO).heap[w.heap.size + 1 + 1 + 1]? = some rowO) := Lib.hid (by
    have := heap_of_alloc (W2.alloc (mkO kk (w.heap.size + 1 + 1 + 1) 2)) rowO
    rwa [size_of_alloc, HJ.out.2] at this)
  go_enter Tryd.func16, Tryd.ntmps16
  go_wp2
  rw [← hW2, ← hrowO]
  clear hW2
  refine bodyPost_ret (results_cell_row rfl _ _ (w.heap.size + 1 + 1) 39 #[.int .i64 kk, .int .i64 0, .int .i64 0, .string ⟨#[]⟩, .slice none 0 0, .int .i64 0, .int .i64 0, .string ⟨#[]⟩, .slice none 0 0, .slice (some ⟨w.heap.size + 1 + 1 + 1, 0, none⟩) 2 2] (0, 0) _ rfl HBx.out Tryd.underlying39 rfl (by kernel_rfl)) rfl ?_
  have hb := (HJ.out.1.al (mkO kk (w.heap.size + 1 + 1 + 1) 2)).al rowO
  refine ⟨_, rfl, mk_val (l := [x, y]) (len_ok2 x y) (pair_cond (ca := ca) (cb := cb) (cl := cl) (ca2 := ca2) (cb2 := cb2) (cl2 := cl2) ?_ (HO.out.1.on hb) (HO.out.2.on hb)), hb⟩
  rw [HRow.out, hrowO]

end Go.Proofs.YtbmejohoifpfhaaDoor
