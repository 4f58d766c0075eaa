/-
  The value of a condition: the code's store.cond.
-/
import Derived.Test.YtbmejohoifpfhaaDoorValG
import Derived.Test.YtbmejohoifpfhaaDoorTreeKc
namespace Go.Proofs.YtbmejohoifpfhaaDoor
open Go.RowKit

theorem opsC_len {m : Int} {l : List Cn} {f : Cn → Bool} (h : opsC m l f = true) : (l.length : Int) = m ∧ l.all f = true := by
  unfold opsC at h
  have h1 := Bool.and_eq_true_iff.1 h
  have h2 := Bool.and_eq_true_iff.1 h1.1
  have h3 := of_decide_eq_true h2.1
  have h4 := of_decide_eq_true h2.2
  exact ⟨by omega, h1.2⟩

theorem lenc1 {l : List Cn} (h : (l.length : Int) = 1) : ∃ a, l = [a] := by
  match l, h with
  | [a], _ => exact ⟨a, rfl⟩
  | [], h => simp at h
  | _ :: _ :: _, h => simp only [List.length_cons] at h; omega
theorem lenc2 {l : List Cn} (h : (l.length : Int) = 2) : ∃ a b, l = [a, b] := by
  match l, h with
  | [a, b], _ => exact ⟨a, b, rfl⟩
  | [], h => simp at h
  | [_], h => simp at h
  | _ :: _ :: _ :: _, h => simp only [List.length_cons] at h; omega

/-- The forms of a valid condition. -/
theorem vC_forms {var : List UInt8 → Bool} {nu : Int} {d : Nat} {k : Int} {a b : Ex} {l : List Cn} (h : vC var nu (d + 1) (.mk k a b l) = true) :
    ((1 ≤ k ∧ k ≤ 4) ∧ l = [] ∧ vE var nu 30 a = true ∧ vE var nu 30 b = true) ∨ (k = 5 ∧ ∃ x, l = [x] ∧ vC var nu d x = true) ∨ ((k = 6 ∨ k = 7) ∧ ∃ x y, l = [x, y] ∧ vC var nu d x = true ∧ vC var nu d y = true) := by
  rw [vC] at h
  split at h
  · next hk =>
    have h1 := Bool.and_eq_true_iff.1 hk
    have h2 := Bool.and_eq_true_iff.1 h
    have h3 := Bool.and_eq_true_iff.1 h2.1
    have h4 : (l.length : Int) = 0 := by simpa using h2.2
    exact .inl ⟨⟨of_decide_eq_true h1.1, of_decide_eq_true h1.2⟩, List.eq_nil_of_length_eq_zero (by omega), h3⟩
  · split at h
    · next hk =>
      obtain ⟨h1, h2⟩ := opsC_len (Bool.and_eq_true_iff.1 h).2
      obtain ⟨a, rfl⟩ := lenc1 h1
      simp only [List.all_cons, List.all_nil, Bool.and_true] at h2
      exact .inr (.inl ⟨hk, a, rfl, h2⟩)
    · split at h
      · next hk =>
        obtain ⟨h1, h2⟩ := opsC_len (Bool.and_eq_true_iff.1 h).2
        obtain ⟨a, b, rfl⟩ := lenc2 h1
        simp only [List.all_cons, List.all_nil, Bool.and_true, Bool.and_eq_true] at h2
        exact .inr (.inr ⟨hk, a, b, rfl, h2⟩)
      · cases h

/-- The cells of the condition at index i, as a walk spells them. -/
theorem cn_cells {w : World} {B : Nat} {cs : List Cn} {A : Option Addr} (h : CnRow w B cs A) {i : Nat} {k ak an : Int} {sa : List UInt8} {al : List Ex} {bk bn : Int} {sb : List UInt8} {bl : List Ex} {l : List Cn} (hi : cs[i]? = some (.mk k (.mk ak an sa al) (.mk bk bn sb bl) l)) :
    ∃ a Aa ca Ab cb Al cl, A = some a ∧ a.block < B ∧ CCells w (a.add (i * 10)) k ak an sa (.slice Aa al.length ca) bk bn sb (.slice Ab bl.length cb) (.slice Al l.length cl) ∧ (sa.length ≤ maxLen ∧ al.length ≤ maxLen ∧ sb.length ≤ maxLen ∧ bl.length ≤ maxLen ∧ l.length ≤ maxLen) ∧ ExRow w B al Aa ∧ ExRow w B bl Ab ∧ CnRow w B l Al := by
  obtain ⟨a, Aa, ca, Ab, cb, Al, cl, h1, h2, h3, h4, h5, h6, h7, h8, h9, h10, h11⟩ := h.at_ hi
  exact ⟨a, Aa, ca, Ab, cb, Al, cl, h1, h2, h3, ⟨h4, h5, h6, h7, h8⟩, h9, h10, h11⟩

theorem CnRow.on {w w' : World} (hb : Below w.heap.size w w') {cs : List Cn} {A : Option Addr} (h : CnRow w w.heap.size cs A) : CnRow w' w'.heap.size cs A := (h.stay hb (Nat.le_refl _)).more hb.size

theorem COk.false_of {r : Bool × Int} (h : COk r) (he : r.2 ≠ 0) : r.1 = false := by
  rcases h with h | h
  · exact absurd h he
  · exact h.1

/-- What store.cond does at depth d. -/
def VcOk (S : List Bd) (d : Nat) : Prop :=
  ∀ (A : Option Addr) (c n : Nat), n = S.length → n ≤ 100 → ∀ (k ak an : Int) (sa : List UInt8) (al : List Ex) (bk bn : Int) (sb : List UInt8) (bl : List Ex) (l : List Cn) (Aa : Option Addr) (ca : Nat) (Ab : Option Addr) (cb : Nat) (Al : Option Addr) (cl : Nat) (W : World), BdRow W W.heap.size S A → ExRow W W.heap.size al Aa ∧ ExRow W W.heap.size bl Ab ∧ CnRow W W.heap.size l Al → (sa.length ≤ maxLen ∧ al.length ≤ maxLen ∧ sb.length ≤ maxLen ∧ bl.length ≤ maxLen ∧ l.length ≤ maxLen) → vC varR nuP d (.mk k (.mk ak an sa al) (.mk bk bn sb bl) l) = true →
    Calls Tryd.prog 28 #[.slice A n c, condV2 k ak an ⟨sa.toArray⟩ (.slice Aa al.length ca) bk bn ⟨sb.toArray⟩ (.slice Ab bl.length cb) (.slice Al l.length cl)] W fun e w' => e = .returned (.tuple #[.bool (ec S d (.mk k (.mk ak an sa al) (.mk bk bn sb bl) l)).1, .int .i64 (ec S d (.mk k (.mk ak an sa al) (.mk bk bn sb bl) l)).2]) ∧ Below W.heap.size W w'

set_option maxRecDepth 100000 in
set_option maxHeartbeats 8000000 in
theorem vc_leaf (S : List Bd) (hS : StOk S) (A : Option Addr) (c n : Nat) (hn : n = S.length) (h100 : n ≤ 100) (k ak an : Int) (sa : List UInt8) (al : List Ex) (bk bn : Int) (sb : List UInt8) (bl : List Ex) (l : List Cn) (Aa : Option Addr) (ca : Nat) (Ab : Option Addr) (cb : Nat) (Al : Option Addr) (cl : Nat) (W : World) (hA : BdRow W W.heap.size S A) (ra : ExRow W W.heap.size al Aa) (rb : ExRow W W.heap.size bl Ab) (b1 : sa.length ≤ maxLen) (b2 : al.length ≤ maxLen) (b3 : sb.length ≤ maxLen) (b4 : bl.length ≤ maxLen) (va : vE varR nuP 30 (.mk ak an sa al) = true) (vb : vE varR nuP 30 (.mk bk bn sb bl) = true) (_hk1 : 1 ≤ k) (hk2 : k ≤ 4) :
    Calls Tryd.prog 28 #[.slice A n c, condV2 k ak an ⟨sa.toArray⟩ (.slice Aa al.length ca) bk bn ⟨sb.toArray⟩ (.slice Ab bl.length cb) (.slice Al l.length cl)] W fun e w' => e = .returned (.tuple #[.bool (cp S k (.mk ak an sa al) (.mk bk bn sb bl)).1, .int .i64 (cp S k (.mk ak an sa al) (.mk bk bn sb bl)).2]) ∧ Below W.heap.size W w' := by
  have HJ := Lib.hid (below_alloc W (condC2 k ak an ⟨sa.toArray⟩ (.slice Aa al.length ca) bk bn ⟨sb.toArray⟩ (.slice Ab bl.length cb) (.slice Al l.length cl)))
  have HC : Hid (∀ W', Below W.heap.size W W' → Calls Tryd.prog 40 #[.slice A n c, .int .i64 k, exprV ak an ⟨sa.toArray⟩ (.slice Aa al.length ca), exprV bk bn ⟨sb.toArray⟩ (.slice Ab bl.length cb)] W' fun e w' => e = .returned (.tuple #[.bool (cp S k (.mk ak an sa al) (.mk bk bn sb bl)).1, .int .i64 (cp S k (.mk ak an sa al) (.mk bk bn sb bl)).2]) ∧ Below W'.heap.size W' w') :=
    Lib.hid (fun W' hb => cm_any A c n S hn h100 hS k ak an sa al bk bn sb bl Aa ca Ab cb W' (bd_later hA hb) (ra.on hb) (rb.on hb) b1 b2 b3 b4 va vb)
  generalize cp S k (.mk ak an sa al) (.mk bk bn sb bl) = r at *
  obtain ⟨r1, r2⟩ := r
  simp only at HC ⊢
  have e5 : (k == 5) = false := beq_eq_false_iff_ne.2 (by omega)
  have e6 : (k == 6) = false := beq_eq_false_iff_ne.2 (by omega)
  have e7 : (k == 7) = false := beq_eq_false_iff_ne.2 (by omega)
  clear hA ra rb hn va vb
  go_enter Tryd.func28, Tryd.ntmps28
  go_wp2_with fail
  refine (HC.out _ HJ.out).mono ?_
  rintro e w1 ⟨rfl, hb⟩
  have H1 := Lib.hid (HJ.out.next hb)
  clear hb
  go_wp2
  go_ret2
  exact ⟨rfl, H1.out⟩

set_option maxRecDepth 100000 in
set_option maxHeartbeats 8000000 in
theorem vc_not (S : List Bd) (hS : StOk S) (d : Nat) (ih : VcOk S d) (A : Option Addr) (c n : Nat) (hn : n = S.length) (h100 : n ≤ 100) (ak an : Int) (sa : List UInt8) (al : List Ex) (bk bn : Int) (sb : List UInt8) (bl : List Ex) (x : Cn) (Aa : Option Addr) (ca : Nat) (Ab : Option Addr) (cb : Nat) (Al : Option Addr) (cl : Nat) (W : World) (hA : BdRow W W.heap.size S A) (hL : CnRow W W.heap.size [x] Al) (hx : vC varR nuP d x = true) (r : Bool × Int) (hr : r = ecNot [ec S d x]) :
    Calls Tryd.prog 28 #[.slice A n c, condV2 5 ak an ⟨sa.toArray⟩ (.slice Aa al.length ca) bk bn ⟨sb.toArray⟩ (.slice Ab bl.length cb) (.slice Al 1 cl)] W fun e w' => e = .returned (.tuple #[.bool r.1, .int .i64 r.2]) ∧ Below W.heap.size W w' := by
  obtain ⟨W0, hW0⟩ : ∃ W0, W0 = W.alloc (condC2 5 ak an ⟨sa.toArray⟩ (.slice Aa al.length ca) bk bn ⟨sb.toArray⟩ (.slice Ab bl.length cb) (.slice Al 1 cl)) := ⟨_, rfl⟩
  have HJ : Hid (Below W.heap.size W W0) := Lib.hid (by rw [hW0]; exact below_alloc W _)
  obtain ⟨k1, ⟨ak1, an1, sa1, al1⟩, ⟨bk1, bn1, sb1, bl1⟩, l1⟩ := x
  obtain ⟨v1, hv1⟩ : ∃ v, v = ec S d (.mk k1 (.mk ak1 an1 sa1 al1) (.mk bk1 bn1 sb1 bl1) l1) := ⟨_, rfl⟩
  rw [← hv1] at hr
  have HO : Hid (COk v1) := Lib.hid (hv1 ▸ ec_ok hS d _)
  have HC1 : Hid (∀ W' Aa1 ca1 Ab1 cb1 Al1 cl1, Below W.heap.size W W' → (sa1.length ≤ maxLen ∧ al1.length ≤ maxLen ∧ sb1.length ≤ maxLen ∧ bl1.length ≤ maxLen ∧ l1.length ≤ maxLen) → (ExRow W' W'.heap.size al1 Aa1 ∧ ExRow W' W'.heap.size bl1 Ab1 ∧ CnRow W' W'.heap.size l1 Al1) → Calls Tryd.prog 28 #[.slice A n c, condV2 k1 ak1 an1 ⟨sa1.toArray⟩ (.slice Aa1 al1.length ca1) bk1 bn1 ⟨sb1.toArray⟩ (.slice Ab1 bl1.length cb1) (.slice Al1 l1.length cl1)] W' fun e w' => e = .returned (.tuple #[.bool v1.1, .int .i64 v1.2]) ∧ Below W'.heap.size W' w') :=
    Lib.hid (fun W' Aa1 ca1 Ab1 cb1 Al1 cl1 hb hl hr => by rw [hv1]; exact ih A c n hn h100 k1 ak1 an1 sa1 al1 bk1 bn1 sb1 bl1 l1 Aa1 ca1 Ab1 cb1 Al1 cl1 W' (bd_later hA hb) hr hl hx)
  obtain ⟨a, _, _, _, _, _, _, ha, hab, _⟩ := cn_cells (i := 0) hL rfl
  subst ha
  have HM : Hid (∀ W', Below W.heap.size W W' → ∃ Aa1 ca1 Ab1 cb1 Al1 cl1, (W'.cell? a = some (.int .i64 k1) ∧ W'.cell? ⟨a.block, a.off + 1, none⟩ = some (.int .i64 ak1) ∧ W'.cell? ⟨a.block, a.off + 2, none⟩ = some (.int .i64 an1) ∧ W'.cell? ⟨a.block, a.off + 3, none⟩ = some (.string ⟨sa1.toArray⟩) ∧ W'.cell? ⟨a.block, a.off + 4, none⟩ = some (.slice Aa1 al1.length ca1) ∧ W'.cell? ⟨a.block, a.off + 5, none⟩ = some (.int .i64 bk1) ∧ W'.cell? ⟨a.block, a.off + 6, none⟩ = some (.int .i64 bn1) ∧ W'.cell? ⟨a.block, a.off + 7, none⟩ = some (.string ⟨sb1.toArray⟩) ∧ W'.cell? ⟨a.block, a.off + 8, none⟩ = some (.slice Ab1 bl1.length cb1) ∧ W'.cell? ⟨a.block, a.off + 9, none⟩ = some (.slice Al1 l1.length cl1)) ∧ (sa1.length ≤ maxLen ∧ al1.length ≤ maxLen ∧ sb1.length ≤ maxLen ∧ bl1.length ≤ maxLen ∧ l1.length ≤ maxLen) ∧ (ExRow W' W'.heap.size al1 Aa1 ∧ ExRow W' W'.heap.size bl1 Ab1 ∧ CnRow W' W'.heap.size l1 Al1)) := Lib.hid (fun W' hb => by
    have hL' := hL.on hb
    obtain ⟨a1, Aa1, ca1, Ab1, cb1, Al1, cl1, e1, _, p, p2, p3⟩ := cn_cells (i := 0) hL' rfl
    obtain rfl := Option.some.inj e1
    rw [show a.add (0 * 10) = a from by simp [Addr.add]] at p
    exact ⟨Aa1, ca1, Ab1, cb1, Al1, cl1, p.flat, p2, p3⟩)
  have HH0 : Hid (W0.heap[W.heap.size]? = some (condC2 5 ak an ⟨sa.toArray⟩ (.slice Aa al.length ca) bk bn ⟨sb.toArray⟩ (.slice Ab bl.length cb) (.slice (some a) 1 cl))) := Lib.hid (by
    rw [hW0]
    exact heap_of_alloc W _)
  obtain ⟨x1, e1⟩ := v1
  simp only at HC1 hr
  have HR := Lib.hid hr
  clear hA hL hn hx hr ih hv1
  obtain ⟨Aa1, ca1, Ab1, cb1, Al1, cl1, ⟨p0, p1, p2, p3, p4, p5, p6, p7, p8, p9⟩, P2, P3⟩ := HM.out W0 HJ.out
  have HX1 : Hid (Calls Tryd.prog 28 #[.slice A n c, condV2 k1 ak1 an1 ⟨sa1.toArray⟩ (.slice Aa1 al1.length ca1) bk1 bn1 ⟨sb1.toArray⟩ (.slice Ab1 bl1.length cb1) (.slice Al1 l1.length cl1)] W0 fun e w' => e = .returned (.tuple #[.bool x1, .int .i64 e1]) ∧ Below W0.heap.size W0 w') := Lib.hid (HC1.out _ Aa1 ca1 Ab1 cb1 Al1 cl1 HJ.out P2 P3)
  clear P2 P3
  subst hW0
  have HRR : Hid (r = (!x1 && (e1 == 0), e1)) := HR
  cases x1
  all_goals
    go_enter Tryd.func28, Tryd.ntmps28
    go_wp2_with fail
    refine HX1.out.mono ?_
    rintro e w1 ⟨rfl, hb⟩
    have H1 := Lib.hid (HJ.out.next hb)
    clear hb
    go_wp2
    go_ret2
    exact ⟨by rw [HRR.out] <;> rfl, H1.out⟩

set_option maxRecDepth 100000 in
set_option maxHeartbeats 8000000 in
theorem vc_two (S : List Bd) (hS : StOk S) (d : Nat) (ih : VcOk S d) (A : Option Addr) (c n : Nat) (hn : n = S.length) (h100 : n ≤ 100) (k ak an : Int) (sa : List UInt8) (al : List Ex) (bk bn : Int) (sb : List UInt8) (bl : List Ex) (x y : Cn) (Aa : Option Addr) (ca : Nat) (Ab : Option Addr) (cb : Nat) (Al : Option Addr) (cl : Nat) (W : World) (hA : BdRow W W.heap.size S A) (hL : CnRow W W.heap.size [x, y] Al) (hx : vC varR nuP d x = true) (hy : vC varR nuP d y = true) (hk : k = 6 ∨ k = 7) (r : Bool × Int) (hr : r = ecTwo k [ec S d x, ec S d y]) :
    Calls Tryd.prog 28 #[.slice A n c, condV2 k ak an ⟨sa.toArray⟩ (.slice Aa al.length ca) bk bn ⟨sb.toArray⟩ (.slice Ab bl.length cb) (.slice Al 2 cl)] W fun e w' => e = .returned (.tuple #[.bool r.1, .int .i64 r.2]) ∧ Below W.heap.size W w' := by
  obtain ⟨W0, hW0⟩ : ∃ W0, W0 = W.alloc (condC2 k ak an ⟨sa.toArray⟩ (.slice Aa al.length ca) bk bn ⟨sb.toArray⟩ (.slice Ab bl.length cb) (.slice Al 2 cl)) := ⟨_, rfl⟩
  have HJ : Hid (Below W.heap.size W W0) := Lib.hid (by rw [hW0]; exact below_alloc W _)
  obtain ⟨k1, ⟨ak1, an1, sa1, al1⟩, ⟨bk1, bn1, sb1, bl1⟩, l1⟩ := x
  obtain ⟨k2, ⟨ak2, an2, sa2, al2⟩, ⟨bk2, bn2, sb2, bl2⟩, l2⟩ := y
  obtain ⟨v1, hv1⟩ : ∃ v, v = ec S d (.mk k1 (.mk ak1 an1 sa1 al1) (.mk bk1 bn1 sb1 bl1) l1) := ⟨_, rfl⟩
  obtain ⟨v2, hv2⟩ : ∃ v, v = ec S d (.mk k2 (.mk ak2 an2 sa2 al2) (.mk bk2 bn2 sb2 bl2) l2) := ⟨_, rfl⟩
  rw [← hv1, ← hv2] at hr
  have HO : Hid (COk v1 ∧ COk v2) := Lib.hid ⟨hv1 ▸ ec_ok hS d _, hv2 ▸ ec_ok hS d _⟩
  have HC1 : Hid (∀ W' Aa1 ca1 Ab1 cb1 Al1 cl1, Below W.heap.size W W' → (sa1.length ≤ maxLen ∧ al1.length ≤ maxLen ∧ sb1.length ≤ maxLen ∧ bl1.length ≤ maxLen ∧ l1.length ≤ maxLen) → (ExRow W' W'.heap.size al1 Aa1 ∧ ExRow W' W'.heap.size bl1 Ab1 ∧ CnRow W' W'.heap.size l1 Al1) → Calls Tryd.prog 28 #[.slice A n c, condV2 k1 ak1 an1 ⟨sa1.toArray⟩ (.slice Aa1 al1.length ca1) bk1 bn1 ⟨sb1.toArray⟩ (.slice Ab1 bl1.length cb1) (.slice Al1 l1.length cl1)] W' fun e w' => e = .returned (.tuple #[.bool v1.1, .int .i64 v1.2]) ∧ Below W'.heap.size W' w') :=
    Lib.hid (fun W' Aa1 ca1 Ab1 cb1 Al1 cl1 hb hl hr => by rw [hv1]; exact ih A c n hn h100 k1 ak1 an1 sa1 al1 bk1 bn1 sb1 bl1 l1 Aa1 ca1 Ab1 cb1 Al1 cl1 W' (bd_later hA hb) hr hl hx)
  have HC2 : Hid (∀ W' Aa2 ca2 Ab2 cb2 Al2 cl2, Below W.heap.size W W' → (sa2.length ≤ maxLen ∧ al2.length ≤ maxLen ∧ sb2.length ≤ maxLen ∧ bl2.length ≤ maxLen ∧ l2.length ≤ maxLen) → (ExRow W' W'.heap.size al2 Aa2 ∧ ExRow W' W'.heap.size bl2 Ab2 ∧ CnRow W' W'.heap.size l2 Al2) → Calls Tryd.prog 28 #[.slice A n c, condV2 k2 ak2 an2 ⟨sa2.toArray⟩ (.slice Aa2 al2.length ca2) bk2 bn2 ⟨sb2.toArray⟩ (.slice Ab2 bl2.length cb2) (.slice Al2 l2.length cl2)] W' fun e w' => e = .returned (.tuple #[.bool v2.1, .int .i64 v2.2]) ∧ Below W'.heap.size W' w') :=
    Lib.hid (fun W' Aa2 ca2 Ab2 cb2 Al2 cl2 hb hl hr => by rw [hv2]; exact ih A c n hn h100 k2 ak2 an2 sa2 al2 bk2 bn2 sb2 bl2 l2 Aa2 ca2 Ab2 cb2 Al2 cl2 W' (bd_later hA hb) hr hl hy)
  obtain ⟨a, _, _, _, _, _, _, ha, hab, _⟩ := cn_cells (i := 0) hL rfl
  subst ha
  have HM : Hid (∀ W', Below W.heap.size W W' → ∃ Aa1 ca1 Ab1 cb1 Al1 cl1 Aa2 ca2 Ab2 cb2 Al2 cl2, (W'.cell? a = some (.int .i64 k1) ∧ W'.cell? ⟨a.block, a.off + 1, none⟩ = some (.int .i64 ak1) ∧ W'.cell? ⟨a.block, a.off + 2, none⟩ = some (.int .i64 an1) ∧ W'.cell? ⟨a.block, a.off + 3, none⟩ = some (.string ⟨sa1.toArray⟩) ∧ W'.cell? ⟨a.block, a.off + 4, none⟩ = some (.slice Aa1 al1.length ca1) ∧ W'.cell? ⟨a.block, a.off + 5, none⟩ = some (.int .i64 bk1) ∧ W'.cell? ⟨a.block, a.off + 6, none⟩ = some (.int .i64 bn1) ∧ W'.cell? ⟨a.block, a.off + 7, none⟩ = some (.string ⟨sb1.toArray⟩) ∧ W'.cell? ⟨a.block, a.off + 8, none⟩ = some (.slice Ab1 bl1.length cb1) ∧ W'.cell? ⟨a.block, a.off + 9, none⟩ = some (.slice Al1 l1.length cl1)) ∧ (sa1.length ≤ maxLen ∧ al1.length ≤ maxLen ∧ sb1.length ≤ maxLen ∧ bl1.length ≤ maxLen ∧ l1.length ≤ maxLen) ∧ (ExRow W' W'.heap.size al1 Aa1 ∧ ExRow W' W'.heap.size bl1 Ab1 ∧ CnRow W' W'.heap.size l1 Al1) ∧ (W'.cell? ⟨a.block, a.off + 10, none⟩ = some (.int .i64 k2) ∧ W'.cell? ⟨a.block, a.off + 10 + 1, none⟩ = some (.int .i64 ak2) ∧ W'.cell? ⟨a.block, a.off + 10 + 2, none⟩ = some (.int .i64 an2) ∧ W'.cell? ⟨a.block, a.off + 10 + 3, none⟩ = some (.string ⟨sa2.toArray⟩) ∧ W'.cell? ⟨a.block, a.off + 10 + 4, none⟩ = some (.slice Aa2 al2.length ca2) ∧ W'.cell? ⟨a.block, a.off + 10 + 5, none⟩ = some (.int .i64 bk2) ∧ W'.cell? ⟨a.block, a.off + 10 + 6, none⟩ = some (.int .i64 bn2) ∧ W'.cell? ⟨a.block, a.off + 10 + 7, none⟩ = some (.string ⟨sb2.toArray⟩) ∧ W'.cell? ⟨a.block, a.off + 10 + 8, none⟩ = some (.slice Ab2 bl2.length cb2) ∧ W'.cell? ⟨a.block, a.off + 10 + 9, none⟩ = some (.slice Al2 l2.length cl2)) ∧ (sa2.length ≤ maxLen ∧ al2.length ≤ maxLen ∧ sb2.length ≤ maxLen ∧ bl2.length ≤ maxLen ∧ l2.length ≤ maxLen) ∧ (ExRow W' W'.heap.size al2 Aa2 ∧ ExRow W' W'.heap.size bl2 Ab2 ∧ CnRow W' W'.heap.size l2 Al2)) := Lib.hid (fun W' hb => by
    have hL' := hL.on hb
    obtain ⟨a1, Aa1, ca1, Ab1, cb1, Al1, cl1, e1, _, p, p2, p3⟩ := cn_cells (i := 0) hL' rfl
    obtain rfl := Option.some.inj e1
    rw [show a.add (0 * 10) = a from by simp [Addr.add]] at p
    obtain ⟨a2, Aa2, ca2, Ab2, cb2, Al2, cl2, e2, _, q, q2, q3⟩ := cn_cells (i := 1) hL' rfl
    obtain rfl := Option.some.inj e2
    exact ⟨Aa1, ca1, Ab1, cb1, Al1, cl1, Aa2, ca2, Ab2, cb2, Al2, cl2, p.flat, p2, p3, q.flat, q2, q3⟩)
  have HH0 : Hid (W0.heap[W.heap.size]? = some (condC2 k ak an ⟨sa.toArray⟩ (.slice Aa al.length ca) bk bn ⟨sb.toArray⟩ (.slice Ab bl.length cb) (.slice (some a) 2 cl))) := Lib.hid (by
    rw [hW0]
    exact heap_of_alloc W _)
  obtain ⟨x1, e1⟩ := v1
  obtain ⟨x2, e2⟩ := v2
  simp only at HC1 HC2 hr
  have HR := Lib.hid hr
  clear hA hL hn hx hy hr ih hv1 hv2
  obtain ⟨Aa1, ca1, Ab1, cb1, Al1, cl1, Aa2, ca2, Ab2, cb2, Al2, cl2, ⟨p0, p1, p2, p3, p4, p5, p6, p7, p8, p9⟩, P2, P3, _⟩ := HM.out W0 HJ.out
  have HX1 : Hid (Calls Tryd.prog 28 #[.slice A n c, condV2 k1 ak1 an1 ⟨sa1.toArray⟩ (.slice Aa1 al1.length ca1) bk1 bn1 ⟨sb1.toArray⟩ (.slice Ab1 bl1.length cb1) (.slice Al1 l1.length cl1)] W0 fun e w' => e = .returned (.tuple #[.bool x1, .int .i64 e1]) ∧ Below W0.heap.size W0 w') := Lib.hid (HC1.out _ Aa1 ca1 Ab1 cb1 Al1 cl1 HJ.out P2 P3)
  clear P2 P3
  subst hW0
  by_cases he1 : e1 = 0
  rotate_left
  · have he1' : (e1 == 0) = false := beq_eq_false_iff_ne.2 he1
    have he1'' : (e1 != 0) = true := by rw [bne_iff_ne]; exact he1
    obtain rfl : x1 = false := HO.out.1.false_of he1
    have HRR : Hid (r = (false, e1)) := Lib.hid (by rw [HR.out, ecTwo, if_neg he1])
    clear he1
    rcases hk with rfl | rfl
    all_goals
      go_enter Tryd.func28, Tryd.ntmps28
      go_wp2_with fail
      refine HX1.out.mono ?_
      rintro e w1 ⟨rfl, hb⟩
      have H1 := Lib.hid (HJ.out.next hb)
      clear hb
      go_wp2
      go_ret2
      exact ⟨by rw [HRR.out] <;> rfl, H1.out⟩
  subst he1
  obtain ⟨sx, hsx⟩ : ∃ b, b = (x1 == (k == 7)) := ⟨_, rfl⟩
  have HSX := Lib.hid hsx
  clear hsx
  cases sx
  · have HRR : Hid (r = (x2, e2)) := Lib.hid (by rw [HR.out, ecTwo, if_pos rfl, if_neg (by have := HSX.out; intro h; simp only at h; rw [h] at this; simp at this)])
    have HX2 : Hid (∀ W' Aa2 ca2 Ab2 cb2 Al2 cl2, Below W.heap.size W W' → (sa2.length ≤ maxLen ∧ al2.length ≤ maxLen ∧ sb2.length ≤ maxLen ∧ bl2.length ≤ maxLen ∧ l2.length ≤ maxLen) → (ExRow W' W'.heap.size al2 Aa2 ∧ ExRow W' W'.heap.size bl2 Ab2 ∧ CnRow W' W'.heap.size l2 Al2) → Calls Tryd.prog 28 #[.slice A n c, condV2 k2 ak2 an2 ⟨sa2.toArray⟩ (.slice Aa2 al2.length ca2) bk2 bn2 ⟨sb2.toArray⟩ (.slice Ab2 bl2.length cb2) (.slice Al2 l2.length cl2)] W' fun e w' => e = .returned (.tuple #[.bool x2, .int .i64 e2]) ∧ Below W'.heap.size W' w') := HC2
    clear HC1 HC2
    rcases hk with rfl | rfl <;> cases x1
    all_goals
      first
        | (exfalso; have := HSX.out; revert this; decide)
        | (
          go_enter Tryd.func28, Tryd.ntmps28
          go_wp2_with fail
          refine HX1.out.mono ?_
          rintro e w1 ⟨rfl, hb⟩
          have H1 := Lib.hid (And.intro (HJ.out.next hb) (kept_box hb HH0.out))
          have z0 := cell_of_block H1.out.2 0 rfl
          have z9 := cell_of_block H1.out.2 9 (v := .slice (some a) 2 cl) rfl
          clear hb
          obtain ⟨Aa1', ca1', Ab1', cb1', Al1', cl1', Aa2', ca2', Ab2', cb2', Al2', cl2', _, _, _, ⟨q0, q1, q2, q3, q4, q5, q6, q7, q8, q9⟩, Q2, Q3⟩ := HM.out w1 H1.out.1
          have HQ := Lib.hid (And.intro Q2 Q3)
          clear Q2 Q3
          go_wp2_with fail
          refine (HX2.out _ Aa2' ca2' Ab2' cb2' Al2' cl2' H1.out.1 HQ.out.1 HQ.out.2).mono ?_
          rintro e w2 ⟨rfl, hb⟩
          have H2 := Lib.hid (H1.out.1.next hb)
          clear hb
          go_wp2
          go_ret2
          exact ⟨by rw [HRR.out] <;> rfl, H2.out⟩)
  · have HRR : Hid (r = (x1, 0)) := Lib.hid (by rw [HR.out, ecTwo, if_pos rfl, if_pos (beq_iff_eq.1 HSX.out.symm)])
    clear HC1 HC2
    rcases hk with rfl | rfl <;> cases x1
    all_goals
      first
        | (exfalso; have := HSX.out; revert this; decide)
        | (
          go_enter Tryd.func28, Tryd.ntmps28
          go_wp2_with fail
          refine HX1.out.mono ?_
          rintro e w1 ⟨rfl, hb⟩
          have H1 := Lib.hid (And.intro (HJ.out.next hb) (kept_box hb HH0.out))
          have z0 := cell_of_block H1.out.2 0 rfl
          have z9 := cell_of_block H1.out.2 9 (v := .slice (some a) 2 cl) rfl
          clear hb
          go_wp2
          go_ret2
          exact ⟨by rw [HRR.out] <;> rfl, H1.out.1⟩)

/-- It says what ec says. -/
theorem vc_any (S : List Bd) (hS : StOk S) : ∀ d : Nat, VcOk S d
  | 0 => fun A c n hn h100 k ak an sa al bk bn sb bl l Aa ca Ab cb Al cl W hA hr hl hv => by
    rw [vC] at hv
    cases hv
  | d + 1 => fun A c n hn h100 k ak an sa al bk bn sb bl l Aa ca Ab cb Al cl W hA hr hl hv => by
    rcases vC_forms hv with ⟨⟨h1, h2⟩, rfl, va, vb⟩ | ⟨rfl, x, rfl, hx⟩ | ⟨hk, x, y, rfl, hx, hy⟩
    · have := vc_leaf S hS A c n hn h100 k ak an sa al bk bn sb bl [] Aa ca Ab cb Al cl W hA hr.1 hr.2.1 hl.1 hl.2.1 hl.2.2.1 hl.2.2.2.1 va vb h1 h2
      rw [ec, if_pos (by simp [h1, h2])]
      exact this
    · exact vc_not S hS d (vc_any S hS d) A c n hn h100 ak an sa al bk bn sb bl x Aa ca Ab cb Al cl W hA hr.2.2 hx _ (by rw [ec, if_neg (by decide), if_pos rfl]; rfl)
    · exact vc_two S hS d (vc_any S hS d) A c n hn h100 k ak an sa al bk bn sb bl x y Aa ca Ab cb Al cl W hA hr.2.2 hx hy hk _ (by rw [ec, if_neg (by rcases hk with rfl | rfl <;> decide), if_neg (by rcases hk with rfl | rfl <;> decide)]; rfl)

end Go.Proofs.YtbmejohoifpfhaaDoor
