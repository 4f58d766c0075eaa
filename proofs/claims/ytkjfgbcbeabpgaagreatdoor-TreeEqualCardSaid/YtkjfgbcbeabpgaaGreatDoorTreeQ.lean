/-
  Equality of trees: the cells of each type, and its rows; statements and programs apart from places.
-/
import Derived.Test.YtkjfgbcbeabpgaaGreatDoorTreeP
import Derived.Test.YtkjfgbcbeabpgaaGreatDoorTreeQ0
namespace Go.Proofs.YtkjfgbcbeabpgaaGreatDoor
open Go.RowKit

-- the cells of each type
def VEx (w : World) (B : Nat) (cs : Array Value) (x : Ex) : Prop :=
  ∃ (k n : Int) (s : List UInt8) (l : List Ex) (A : Option Addr) (c : Nat), x = .mk k n s l ∧ cs = #[.int .i64 k, .int .i64 n, .string ⟨s.toArray⟩, .slice A l.length c] ∧ s.length ≤ maxLen ∧ l.length ≤ maxLen ∧ ExRow w B l A

theorem vex_keeps : KeepsV VEx := by
  rintro w w' B B' cs x hk hB ⟨k, n, s, l, A, c, h1, h2, h3, h4, h5⟩
  exact ⟨k, n, s, l, A, c, h1, h2, h3, h4, h5.keep hk hB⟩

theorem ExRow.rowV {w : World} {B : Nat} {l : List Ex} {A : Option Addr} (h : ExRow w B l A) : RowV VEx 4 w B l A := by
  intro i x hi
  obtain ⟨k, n, s, m⟩ := x
  obtain ⟨a, A', c', rfl, hab, c0, c1, c2, c3, h1, h2, h3⟩ := h.at_ hi
  refine ⟨a, #[.int .i64 k, .int .i64 n, .string ⟨s.toArray⟩, .slice A' m.length c'], rfl, hab, rfl, fun j v hv => ?_, k, n, s, m, A', c', rfl, rfl, h1, h2, h3⟩
  match j, hv with
  | 0, hv => rw [← hv]; simpa [Addr.add] using c0
  | 1, hv => rw [← hv]; exact c1
  | 2, hv => rw [← hv]; exact c2
  | 3, hv => rw [← hv]; exact c3
  | j + 4, hv => simp at hv

def VCn (w : World) (B : Nat) (cs : Array Value) (x : Cn) : Prop :=
  ∃ (k ak an : Int) (sa : List UInt8) (al : List Ex) (bk bn : Int) (sb : List UInt8) (bl : List Ex) (l : List Cn) (Aa : Option Addr) (ca : Nat) (Ab : Option Addr) (cb : Nat) (Al : Option Addr) (cl : Nat), x = .mk k (.mk ak an sa al) (.mk bk bn sb bl) l ∧
    cs = #[.int .i64 k, .int .i64 ak, .int .i64 an, .string ⟨sa.toArray⟩, .slice Aa al.length ca, .int .i64 bk, .int .i64 bn, .string ⟨sb.toArray⟩, .slice Ab bl.length cb, .slice Al l.length cl] ∧
    (sa.length ≤ maxLen ∧ al.length ≤ maxLen ∧ sb.length ≤ maxLen ∧ bl.length ≤ maxLen ∧ l.length ≤ maxLen) ∧ ExRow w B al Aa ∧ ExRow w B bl Ab ∧ CnRow w B l Al

theorem vcn_keeps : KeepsV VCn := by
  rintro w w' B B' cs x hk hB ⟨k, ak, an, sa, al, bk, bn, sb, bl, l, Aa, ca, Ab, cb, Al, cl, h1, h2, h3, h4, h5, h6⟩
  exact ⟨k, ak, an, sa, al, bk, bn, sb, bl, l, Aa, ca, Ab, cb, Al, cl, h1, h2, h3, h4.keep hk hB, h5.keep hk hB, h6.keep hk hB⟩

theorem CnRow.rowV {w : World} {B : Nat} {l : List Cn} {A : Option Addr} (h : CnRow w B l A) : RowV VCn 10 w B l A := by
  intro i x hi
  obtain ⟨k, ⟨ak, an, sa, al⟩, ⟨bk, bn, sb, bl⟩, m⟩ := x
  obtain ⟨a, Aa, Ca, Ab, Cb, Al, Cl, rfl, hab, hc, b1, b2, b3, b4, b5, ra, rb, rl⟩ := h.at_ hi
  refine ⟨a, #[.int .i64 k, .int .i64 ak, .int .i64 an, .string ⟨sa.toArray⟩, .slice Aa al.length Ca, .int .i64 bk, .int .i64 bn, .string ⟨sb.toArray⟩, .slice Ab bl.length Cb, .slice Al m.length Cl], rfl, hab, rfl, fun j v hv => ?_,
    k, ak, an, sa, al, bk, bn, sb, bl, m, Aa, Ca, Ab, Cb, Al, Cl, rfl, rfl, ⟨b1, b2, b3, b4, b5⟩, ra, rb, rl⟩
  match j, hv with
  | 0, hv => rw [← hv]; simpa [Addr.add] using hc.c0
  | 1, hv => rw [← hv]; exact hc.c1
  | 2, hv => rw [← hv]; exact hc.c2
  | 3, hv => rw [← hv]; exact hc.c3
  | 4, hv => rw [← hv]; exact hc.c4
  | 5, hv => rw [← hv]; exact hc.c5
  | 6, hv => rw [← hv]; exact hc.c6
  | 7, hv => rw [← hv]; exact hc.c7
  | 8, hv => rw [← hv]; exact hc.c8
  | 9, hv => rw [← hv]; exact hc.c9
  | j + 10, hv => simp at hv

def VPm (_ : World) (_ : Nat) (cs : Array Value) (x : Pm) : Prop := cs = #[.string ⟨x.t.toArray⟩, .string ⟨x.nm.toArray⟩] ∧ x.t.length ≤ maxLen ∧ x.nm.length ≤ maxLen

theorem vpm_keeps : KeepsV VPm := fun _ _ _ _ _ _ _ _ h => h

theorem pm_rowV {w : World} {B : Nat} {l : List Pm} {A : Option Addr} (h : PmRow w B l A) : RowV VPm 2 w B l A := by
  intro i x hi
  obtain ⟨a, rfl, hab, c0, c1, h1, h2⟩ := h.at_ hi
  refine ⟨a, #[.string ⟨x.t.toArray⟩, .string ⟨x.nm.toArray⟩], rfl, hab, rfl, fun j v hv => ?_, rfl, h1, h2⟩
  match j, hv with
  | 0, hv => rw [← hv]; simpa [Addr.add] using c0
  | 1, hv => rw [← hv]; exact c1
  | j + 2, hv => simp at hv

def VAt (w : World) (B : Nat) (cs : Array Value) (x : At) : Prop :=
  ∃ (ak an : Int) (sa : List UInt8) (al : List Ex) (bk bn : Int) (sb : List UInt8) (bl : List Ex) (Aa : Option Addr) (ca : Nat) (Ab : Option Addr) (cb : Nat), x.a = .mk ak an sa al ∧ x.b = .mk bk bn sb bl ∧
    cs = #[.int .i64 x.k, .int .i64 ak, .int .i64 an, .string ⟨sa.toArray⟩, .slice Aa al.length ca, .int .i64 bk, .int .i64 bn, .string ⟨sb.toArray⟩, .slice Ab bl.length cb] ∧
    (sa.length ≤ maxLen ∧ al.length ≤ maxLen ∧ sb.length ≤ maxLen ∧ bl.length ≤ maxLen) ∧ ExRow w B al Aa ∧ ExRow w B bl Ab

theorem vat_keeps : KeepsV VAt := by
  rintro w w' B B' cs x hk hB ⟨ak, an, sa, al, bk, bn, sb, bl, Aa, ca, Ab, cb, h1, h2, h3, h4, h5, h6⟩
  exact ⟨ak, an, sa, al, bk, bn, sb, bl, Aa, ca, Ab, cb, h1, h2, h3, h4, h5.keep hk hB, h6.keep hk hB⟩

theorem at_rowV {w : World} {B : Nat} {l : List At} {A : Option Addr} (h : AtRow w B l A) : RowV VAt 9 w B l A := by
  intro i x hi
  obtain ⟨a, rfl, hab, ak, an, sa, al, bk, bn, sb, bl, Aa, ca, Ab, cb, h1, h2, hc, h3, h4, h5⟩ := h.at_ hi
  refine ⟨a, #[.int .i64 x.k, .int .i64 ak, .int .i64 an, .string ⟨sa.toArray⟩, .slice Aa al.length ca, .int .i64 bk, .int .i64 bn, .string ⟨sb.toArray⟩, .slice Ab bl.length cb], rfl, hab, rfl, fun j v hv => ?_,
    ak, an, sa, al, bk, bn, sb, bl, Aa, ca, Ab, cb, h1, h2, rfl, h3, h4, h5⟩
  match j, hv with
  | 0, hv => rw [← hv]; simpa [Addr.add] using hc.c0
  | 1, hv => rw [← hv]; exact hc.c1
  | 2, hv => rw [← hv]; exact hc.c2
  | 3, hv => rw [← hv]; exact hc.c3
  | 4, hv => rw [← hv]; exact hc.c4
  | 5, hv => rw [← hv]; exact hc.c5
  | 6, hv => rw [← hv]; exact hc.c6
  | 7, hv => rw [← hv]; exact hc.c7
  | 8, hv => rw [← hv]; exact hc.c8
  | j + 9, hv => simp at hv

def VCl (w : World) (B : Nat) (cs : Array Value) (x : Cl) : Prop :=
  ∃ (A : Option Addr) (c : Nat), cs = #[.int .i64 x.k, .string ⟨x.nm.toArray⟩, .slice A x.l.length c] ∧ x.nm.length ≤ maxLen ∧ x.l.length ≤ maxLen ∧ ExRow w B x.l A

theorem vcl_keeps : KeepsV VCl := by
  rintro w w' B B' cs x hk hB ⟨A, c, h1, h2, h3, h4⟩
  exact ⟨A, c, h1, h2, h3, h4.keep hk hB⟩

theorem cl_rowV {w : World} {B : Nat} {l : List Cl} {A : Option Addr} (h : ClRow w B l A) : RowV VCl 3 w B l A := by
  intro i x hi
  obtain ⟨a, rfl, hab, A', c, c0, c1, c2, h1, h2, h3⟩ := h.at_ hi
  refine ⟨a, #[.int .i64 x.k, .string ⟨x.nm.toArray⟩, .slice A' x.l.length c], rfl, hab, rfl, fun j v hv => ?_, A', c, rfl, h1, h2, h3⟩
  match j, hv with
  | 0, hv => rw [← hv]; simpa [Addr.add] using c0
  | 1, hv => rw [← hv]; exact c1
  | 2, hv => rw [← hv]; exact c2
  | j + 3, hv => simp at hv

def VCal (w : World) (B : Nat) (cs : Array Value) (x : Cal) : Prop :=
  ∃ (A : Option Addr) (c : Nat), cs = #[.string ⟨x.r.toArray⟩, .string ⟨x.p.toArray⟩, .slice A x.l.length c] ∧ x.r.length ≤ maxLen ∧ x.p.length ≤ maxLen ∧ x.l.length ≤ maxLen ∧ ExRow w B x.l A

theorem vcal_keeps : KeepsV VCal := by
  rintro w w' B B' cs x hk hB ⟨A, c, h1, h2, h3, h4, h5⟩
  exact ⟨A, c, h1, h2, h3, h4, h5.keep hk hB⟩

theorem cal_rowV {w : World} {B : Nat} {l : List Cal} {A : Option Addr} (h : CalRow w B l A) : RowV VCal 3 w B l A := by
  intro i x hi
  obtain ⟨a, rfl, hab, A', c, c0, c1, c2, h1, h2, h3, h4⟩ := h.at_ hi
  refine ⟨a, #[.string ⟨x.r.toArray⟩, .string ⟨x.p.toArray⟩, .slice A' x.l.length c], rfl, hab, rfl, fun j v hv => ?_, A', c, rfl, h1, h2, h3, h4⟩
  match j, hv with
  | 0, hv => rw [← hv]; simpa [Addr.add] using c0
  | 1, hv => rw [← hv]; exact c1
  | 2, hv => rw [← hv]; exact c2
  | j + 3, hv => simp at hv

def VFm (w : World) (B : Nat) (cs : Array Value) (x : Fm) : Prop :=
  ∃ d : FAd, cs = #[.slice d.p x.ps.length d.np, .slice d.a x.ats.length d.na, .slice d.c x.cls.length d.nc] ∧ FmOwn w B d x

theorem vfm_keeps : KeepsV VFm := by
  rintro w w' B B' cs x hk hB ⟨d, h1, h2⟩
  exact ⟨d, h1, h2.keep hk hB⟩

theorem fm_rowV {w : World} {B : Nat} {l : List Fm} {A : Option Addr} (h : FmRow w B l A) : RowV VFm 3 w B l A := by
  intro i x hi
  obtain ⟨a, rfl, hab, Ap, cp, Aa, ca, Ac, cc, c0, c1, c2, h1, h2, h3, h4⟩ := h.at_ hi
  refine ⟨a, #[.slice Ap x.ps.length cp, .slice Aa x.ats.length ca, .slice Ac x.cls.length cc], rfl, hab, rfl, fun j v hv => ?_, ⟨Ap, Aa, Ac, cp, ca, cc⟩, rfl, h1, h2, h3, h4⟩
  match j, hv with
  | 0, hv => rw [← hv]; simpa [Addr.add] using c0
  | 1, hv => rw [← hv]; exact c1
  | 2, hv => rw [← hv]; exact c2
  | j + 3, hv => simp at hv

def VSt (w : World) (B : Nat) (cs : Array Value) (x : St) : Prop :=
  ∃ d : SAd, cs = stCs d x ∧ StOwn w B d x ∧ StRow w B x.body d.s ∧ StRow w B x.els d.t

theorem vst_keeps : KeepsV VSt := by
  rintro w w' B B' cs x hk hB ⟨d, h1, h2, h3, h4⟩
  exact ⟨d, h1, h2.keep hk hB, h3.keep hk hB, h4.keep hk hB⟩

theorem StRow.rowV {w : World} {B : Nat} {l : List St} {A : Option Addr} (h : StRow w B l A) : RowV VSt 24 w B l A := by
  intro i x hi
  obtain ⟨a, d, rfl, hab, hc, h1, h2, h3⟩ := h.at_ hi
  exact ⟨a, stCs d x, rfl, hab, stCs_size d x, hc, d, rfl, h1, h2, h3⟩

def VRc (w : World) (B : Nat) (cs : Array Value) (x : Rc) : Prop :=
  ∃ (A : Option Addr) (c : Nat), cs = #[.string ⟨x.nm.toArray⟩, .slice A x.fs.length c] ∧ x.nm.length ≤ maxLen ∧ x.fs.length ≤ maxLen ∧ PmRow w B x.fs A

theorem vrc_keeps : KeepsV VRc := by
  rintro w w' B B' cs x hk hB ⟨A, c, h1, h2, h3, h4⟩
  exact ⟨A, c, h1, h2, h3, h4.keep pm_keeps hk hB⟩

theorem rc_rowV {w : World} {B : Nat} {l : List Rc} {A : Option Addr} (h : RcRow w B l A) : RowV VRc 2 w B l A := by
  intro i x hi
  obtain ⟨a, rfl, hab, A', c, c0, c1, h1, h2, h3⟩ := h.at_ hi
  refine ⟨a, #[.string ⟨x.nm.toArray⟩, .slice A' x.fs.length c], rfl, hab, rfl, fun j v hv => ?_, A', c, rfl, h1, h2, h3⟩
  match j, hv with
  | 0, hv => rw [← hv]; simpa [Addr.add] using c0
  | 1, hv => rw [← hv]; exact c1
  | j + 2, hv => simp at hv

def VLk (w : World) (B : Nat) (cs : Array Value) (x : Lk) : Prop :=
  ∃ (A : Option Addr) (c : Nat), cs = #[.string ⟨x.nm.toArray⟩, .slice A x.iv.length c] ∧ x.nm.length ≤ maxLen ∧ x.iv.length ≤ maxLen ∧ FmRow w B x.iv A

theorem vlk_keeps : KeepsV VLk := by
  rintro w w' B B' cs x hk hB ⟨A, c, h1, h2, h3, h4⟩
  exact ⟨A, c, h1, h2, h3, h4.keep fm_keeps hk hB⟩

theorem lk_rowV {w : World} {B : Nat} {l : List Lk} {A : Option Addr} (h : LkRow w B l A) : RowV VLk 2 w B l A := by
  intro i x hi
  obtain ⟨a, rfl, hab, A', c, c0, c1, h1, h2, h3⟩ := h.at_ hi
  refine ⟨a, #[.string ⟨x.nm.toArray⟩, .slice A' x.iv.length c], rfl, hab, rfl, fun j v hv => ?_, A', c, rfl, h1, h2, h3⟩
  match j, hv with
  | 0, hv => rw [← hv]; simpa [Addr.add] using c0
  | 1, hv => rw [← hv]; exact c1
  | j + 2, hv => simp at hv

def VDf (w : World) (B : Nat) (cs : Array Value) (x : Df) : Prop :=
  ∃ (A : Option Addr) (c : Nat) (A2 : Option Addr) (c2 : Nat), cs = #[.string ⟨x.nm.toArray⟩, .slice A x.ps.length c, .slice A2 x.cs.length c2] ∧ x.nm.length ≤ maxLen ∧ x.ps.length ≤ maxLen ∧ x.cs.length ≤ maxLen ∧ PmRow w B x.ps A ∧ FmRow w B x.cs A2

theorem vdf_keeps : KeepsV VDf := by
  rintro w w' B B' cs x hk hB ⟨A, c, A2, c2, h1, h2, h3, h4, h5, h6⟩
  exact ⟨A, c, A2, c2, h1, h2, h3, h4, h5.keep pm_keeps hk hB, h6.keep fm_keeps hk hB⟩

theorem df_rowV {w : World} {B : Nat} {l : List Df} {A : Option Addr} (h : DfRow w B l A) : RowV VDf 3 w B l A := by
  intro i x hi
  obtain ⟨a, rfl, hab, A', c, A2, e, c0, c1, c2, h1, h2, h3, h4, h5⟩ := h.at_ hi
  refine ⟨a, #[.string ⟨x.nm.toArray⟩, .slice A' x.ps.length c, .slice A2 x.cs.length e], rfl, hab, rfl, fun j v hv => ?_, A', c, A2, e, rfl, h1, h2, h3, h4, h5⟩
  match j, hv with
  | 0, hv => rw [← hv]; simpa [Addr.add] using c0
  | 1, hv => rw [← hv]; exact c1
  | 2, hv => rw [← hv]; exact c2
  | j + 3, hv => simp at hv

def VLm (w : World) (B : Nat) (cs : Array Value) (x : Lm) : Prop :=
  ∃ (A : Option Addr) (c : Nat) (d e : FAd), cs = lmCs A c d e x ∧ x.nm.length ≤ maxLen ∧ x.ps.length ≤ maxLen ∧ PmRow w B x.ps A ∧ FmOwn w B d x.lf ∧ FmOwn w B e x.rt

theorem vlm_keeps : KeepsV VLm := by
  rintro w w' B B' cs x hk hB ⟨A, c, d, e, h1, h2, h3, h4, h5, h6⟩
  exact ⟨A, c, d, e, h1, h2, h3, h4.keep pm_keeps hk hB, h5.keep hk hB, h6.keep hk hB⟩

theorem lm_rowV {w : World} {B : Nat} {l : List Lm} {A : Option Addr} (h : LmRow w B l A) : RowV VLm 8 w B l A := by
  intro i x hi
  obtain ⟨a, rfl, hab, A', c, d, e, hc, h1, h2, h3, h4, h5⟩ := h.at_ hi
  exact ⟨a, lmCs A' c d e x, rfl, hab, rfl, hc, A', c, d, e, rfl, h1, h2, h3, h4, h5⟩

def VPr (w : World) (B : Nat) (cs : Array Value) (x : Pr) : Prop := ∃ d : PAd, cs = prCs d x ∧ PrOwn w B d x

theorem vpr_keeps : KeepsV VPr := by
  rintro w w' B B' cs x hk hB ⟨d, h1, h2⟩
  exact ⟨d, h1, h2.keep hk hB⟩

theorem pr_rowV {w : World} {B : Nat} {l : List Pr} {A : Option Addr} (h : PrRow w B l A) : RowV VPr 12 w B l A := by
  intro i x hi
  obtain ⟨a, rfl, hab, d, hc, h1⟩ := h.at_ hi
  exact ⟨a, prCs d x, rfl, hab, rfl, hc, d, rfl, h1⟩

-- statements and programs, apart from places
inductive SameL : List St → List St → Prop
  | nil : SameL [] []
  | cons (k ln co ln2 co2 : Int) (nm fd fr : List UInt8) (e : Ex) (c : Cn) (cl : List Cal) (iv : List Fm) (b o b2 o2 l m : List St) : SameL b b2 → SameL o o2 → SameL l m → SameL (.mk k ln co nm fd fr e c cl iv b o :: l) (.mk k ln2 co2 nm fd fr e c cl iv b2 o2 :: m)

def SameS : St → St → Prop
  | .mk k _ _ nm fd fr e c cl iv b o, .mk k2 _ _ nm2 fd2 fr2 e2 c2 cl2 iv2 b2 o2 => k = k2 ∧ nm = nm2 ∧ fd = fd2 ∧ fr = fr2 ∧ e = e2 ∧ c = c2 ∧ cl = cl2 ∧ iv = iv2 ∧ SameL b b2 ∧ SameL o o2

theorem sameL_cons (s t : St) (l m : List St) : SameL (s :: l) (t :: m) ↔ SameS s t ∧ SameL l m := by
  obtain ⟨k, ln, co, nm, fd, fr, e, c, cl, iv, b, o⟩ := s
  obtain ⟨k2, ln2, co2, nm2, fd2, fr2, e2, c2, cl2, iv2, b2, o2⟩ := t
  constructor
  · intro h
    cases h with
    | cons _ _ _ _ _ _ _ _ _ _ _ _ _ _ _ _ _ _ h1 h2 h3 => exact ⟨⟨rfl, rfl, rfl, rfl, rfl, rfl, rfl, rfl, h1, h2⟩, h3⟩
  · rintro ⟨⟨rfl, rfl, rfl, rfl, rfl, rfl, rfl, rfl, h1, h2⟩, h3⟩
    exact .cons _ _ _ _ _ _ _ _ _ _ _ _ _ _ _ _ _ _ h1 h2 h3

theorem sameL_all2 : ∀ l m : List St, All2 SameS l m ↔ SameL l m := by
  intro l
  induction l with
  | nil =>
    intro m
    cases m with
    | nil => exact ⟨fun _ => .nil, fun _ => all2_nil _⟩
    | cons t m => exact ⟨fun h => by have := h.1; simp at this, fun h => by cases h⟩
  | cons s l ih =>
    intro m
    cases m with
    | nil => exact ⟨fun h => by have := h.1; simp at this, fun h => by cases h⟩
    | cons t m => rw [all2_cons, sameL_cons, ih m]

def SamePr (x y : Pr) : Prop :=
  x.nm = y.nm ∧ x.rt = y.rt ∧ x.rn = y.rn ∧ x.ct = y.ct ∧ x.ps = y.ps ∧ x.lg = y.lg ∧ x.rq = y.rq ∧ x.es = y.es ∧ x.lo = y.lo ∧ SameL x.bd y.bd

def SamePg (p q : Pg) : Prop := p.rs = q.rs ∧ p.gs = q.gs ∧ p.ks = q.ks ∧ p.ds = q.ds ∧ p.ms = q.ms ∧ All2 SamePr p.xs q.xs

end Go.Proofs.YtkjfgbcbeabpgaaGreatDoor
