/-
  The reference's comparisons of statements and procedures.
-/
import Derived.Test.YtkjfgbcbeabpgaaGreatDoorTreeQo
import Derived.Test.YtkjfgbcbeabpgaaGreatDoorTreeQp
import Derived.Test.YtkjfgbcbeabpgaaGreatDoorTreeQi
namespace Go.Proofs.YtkjfgbcbeabpgaaGreatDoor
open Go.RowKit

theorem sss_any : ∀ (M : Nat) (l m : List St), SizeOf.sizeOf l < M → ∀ (A B : Option Addr) (ca cb : Nat) (w : World), l.length ≤ maxLen → m.length ≤ maxLen → StRow w w.heap.size l A → StRow w w.heap.size m B → ∀ r : Bool, (r = true ↔ SameL l m) →
    Calls Tryz.prog 32 #[.slice A l.length ca, .slice B m.length cb] w fun e w' => e = .returned (.bool r) ∧ Below w.heap.size w w' := by
  intro M
  induction M with
  | zero => intro l m h; omega
  | succ M ih =>
    intro l m hM A B ca cb w hl hm ra rb r hr
    refine sss_walk l m A B ca cb w hl hm ra.rowV rb.rowV r hr (fun x y hx _ cs ds vx vy => ?_)
    have hsx := List.sizeOf_lt_of_mem hx
    obtain ⟨k, ln, co, nm, fd, fr, ⟨ek, en, es, el⟩, ⟨ck, ⟨ak, an, sa, al⟩, ⟨bk, bn, sb, bl⟩, l0⟩, cl, iv, b, o⟩ := x
    obtain ⟨k', ln', co', nm', fd', fr', ⟨ek', en', es', el'⟩, ⟨ck', ⟨ak', an', sa', al'⟩, ⟨bk', bn', sb', bl'⟩, l0'⟩, cl', iv', b', o'⟩ := y
    have h1c : cs.all (·.oneCell') = true := by obtain ⟨d, rfl, _⟩ := vx; exact stCs_one _ _
    have h1d : ds.all (·.oneCell') = true := by obtain ⟨d, rfl, _⟩ := vy; exact stCs_one _ _
    obtain ⟨d, rfl, ⟨⟨m1, m2, m3, m4, m5, m6, m7, m8, m9, m10, m11, m12, m13, m14⟩, re, ra, rb, rl, rc, ri⟩, rs, rt⟩ := vx
    obtain ⟨d', rfl, ⟨⟨m1', m2', m3', m4', m5', m6', m7', m8', m9', m10', m11', m12', m13', m14'⟩, re', ra', rb', rl', rc', ri'⟩, rs', rt'⟩ := vy
    obtain ⟨q1, h1⟩ := boolOf (Ex.mk ek en es el = Ex.mk ek' en' es' el')
    obtain ⟨q2, h2⟩ := boolOf (Cn.mk ck (.mk ak an sa al) (.mk bk bn sb bl) l0 = Cn.mk ck' (.mk ak' an' sa' al') (.mk bk' bn' sb' bl') l0')
    obtain ⟨q3, h3⟩ := boolOf (cl = cl')
    obtain ⟨q4, h4⟩ := boolOf (iv = iv')
    obtain ⟨q5, h5⟩ := boolOf (SameL b b')
    obtain ⟨q6, h6⟩ := boolOf (SameL o o')
    have hs1 : SizeOf.sizeOf b < M := by simp at hsx; omega
    have hs2 : SizeOf.sizeOf o < M := by simp at hsx; omega
    refine ⟨h1c, h1d, k, k', nm, nm', fd, fd', fr, fr', ek, ek', en, en', es, es', .slice d.e el.length d.ne, .slice d'.e el'.length d'.ne, ck, ck', ak, ak', an, an', sa, sa', .slice d.a al.length d.na, .slice d'.a al'.length d'.na,
      bk, bk', bn, bn', sb, sb', .slice d.b bl.length d.nb, .slice d'.b bl'.length d'.nb, .slice d.l l0.length d.nl, .slice d'.l l0'.length d'.nl, .slice d.c cl.length d.nc, .slice d'.c cl'.length d'.nc, .slice d.i iv.length d.ni, .slice d'.i iv'.length d'.ni,
      .slice d.s b.length d.ns, .slice d'.s b'.length d'.ns, .slice d.t o.length d.nt, .slice d'.t o'.length d'.nt, q1, q2, q3, q4, q5, q6, _, _, _, _, _, _,
      ⟨rfl, rfl, rfl, rfl, rfl, rfl, rfl, rfl, rfl, rfl, rfl, rfl, rfl, rfl, rfl, rfl, rfl, rfl, rfl, rfl, rfl, rfl, rfl, rfl, rfl, rfl, rfl, rfl, rfl, rfl, rfl, rfl, rfl, rfl, rfl, rfl, rfl, rfl, rfl, rfl, rfl, rfl, rfl, rfl⟩,
      ⟨fun W hb => ?_, fun W hb => ?_, fun W hb => ?_, fun W hb => ?_, fun W hb => ?_, fun W hb => ?_⟩, ⟨h1, h2, h3, h4, h5, h6⟩, Iff.rfl⟩
    · exact seqe_at _ _ _ _ W q1 ⟨ek, en, es, el, d.e, d.ne, rfl, rfl, m4, m5, re.on hb⟩ ⟨ek', en', es', el', d'.e, d'.ne, rfl, rfl, m4', m5', re'.on hb⟩ h1
    · exact seqc_at _ _ _ _ W q2 ⟨ck, ak, an, sa, al, bk, bn, sb, bl, l0, d.a, d.na, d.b, d.nb, d.l, d.nl, rfl, rfl, ⟨m6, m7, m8, m9, m10⟩, ra.on hb, rb.on hb, rl.on hb⟩ ⟨ck', ak', an', sa', al', bk', bn', sb', bl', l0', d'.a, d'.na, d'.b, d'.nb, d'.l, d'.nl, rfl, rfl, ⟨m6', m7', m8', m9', m10'⟩, ra'.on hb, rb'.on hb, rl'.on hb⟩ h2
    · exact scas_row cl cl' _ _ _ _ W m11 m11' (rc.on cal_keeps hb) (rc'.on cal_keeps hb) q3 h3
    · exact sfs_row iv iv' _ _ _ _ W m12 m12' (ri.on fm_keeps hb) (ri'.on fm_keeps hb) q4 h4
    · exact ih b b' hs1 _ _ _ _ W m13 m13' (rs.on hb) (rs'.on hb) q5 h5
    · exact ih o o' hs2 _ _ _ _ W m14 m14' (rt.on hb) (rt'.on hb) q6 h6

theorem sss_row (l m : List St) (A B : Option Addr) (ca cb : Nat) (w : World) (hl : l.length ≤ maxLen) (hm : m.length ≤ maxLen) (ra : StRow w w.heap.size l A) (rb : StRow w w.heap.size m B) (r : Bool) (hr : r = true ↔ SameL l m) :
    Calls Tryz.prog 32 #[.slice A l.length ca, .slice B m.length cb] w fun e w' => e = .returned (.bool r) ∧ Below w.heap.size w w' :=
  sss_any _ l m (Nat.lt_succ_self _) A B ca cb w hl hm ra rb r hr

theorem seqpr_at (x y : Pr) : EqAt 69 VPr SamePr x y := by
  intro cs ds w r hx hy hr
  obtain ⟨d, rfl, ⟨m1, m2, m3, m4, m5, m6, m7, m8, m9⟩, r1, r2, r3, r4, r5, r6⟩ := hx
  obtain ⟨d', rfl, ⟨m1', m2', m3', m4', m5', m6', m7', m8', m9'⟩, r1', r2', r3', r4', r5', r6'⟩ := hy
  obtain ⟨q1, h1⟩ := boolOf (x.ps = y.ps)
  obtain ⟨q2, h2⟩ := boolOf (x.lg = y.lg)
  obtain ⟨q3, h3⟩ := boolOf (x.rq = y.rq)
  obtain ⟨q4, h4⟩ := boolOf (x.es = y.es)
  obtain ⟨q5, h5⟩ := boolOf (x.lo = y.lo)
  obtain ⟨q6, h6⟩ := boolOf (SameL x.bd y.bd)
  refine seqpr_core _ _ rfl rfl x.nm y.nm (.slice d.p x.ps.length d.np) (.slice d'.p y.ps.length d'.np) (.slice d.g x.lg.length d.ng) (.slice d'.g y.lg.length d'.ng) x.rt y.rt x.rn y.rn x.ct y.ct (.slice d.r x.rq.length d.nr) (.slice d'.r y.rq.length d'.nr)
    (.slice d.e x.es.length d.ne) (.slice d'.e y.es.length d'.ne) (.slice d.l x.lo.length d.nl) (.slice d'.l y.lo.length d'.nl) (.slice d.b x.bd.length d.nb) (.slice d'.b y.bd.length d'.nb)
    rfl rfl rfl rfl rfl rfl rfl rfl rfl rfl rfl rfl rfl rfl rfl rfl rfl rfl rfl rfl q1 q2 q5 q3 q4 q6 w r (fun W hb => ?_) (fun W hb => ?_) (fun W hb => ?_) (fun W hb => ?_) (fun W hb => ?_) (fun W hb => ?_) (hr.trans ?_)
  · exact sps_row _ _ _ _ _ _ W m2 m2' (r1.on pm_keeps hb) (r1'.on pm_keeps hb) q1 h1
  · exact sps_row _ _ _ _ _ _ W m3 m3' (r2.on pm_keeps hb) (r2'.on pm_keeps hb) q2 h2
  · exact sps_row _ _ _ _ _ _ W m8 m8' (r5.on pm_keeps hb) (r5'.on pm_keeps hb) q5 h5
  · exact sfs_row _ _ _ _ _ _ W m6 m6' (r3.on fm_keeps hb) (r3'.on fm_keeps hb) q3 h3
  · exact sfs_row _ _ _ _ _ _ W m7 m7' (r4.on fm_keeps hb) (r4'.on fm_keeps hb) q4 h4
  · exact sss_row _ _ _ _ _ _ W m9 m9' (r6.on hb) (r6'.on hb) q6 h6
  · unfold SamePr
    rw [h1, h2, h3, h4, h5, h6]
    constructor
    · rintro ⟨a1, a2, a3, a4, a5, a6, a7, a8, a9, a10⟩
      exact ⟨a1, ⟨a2, a3⟩, a4, a5, a6, a9, a7, a8, a10⟩
    · rintro ⟨a1, ⟨a2, a3⟩, a4, a5, a6, a9, a7, a8, a10⟩
      exact ⟨a1, a2, a3, a4, a5, a6, a7, a8, a9, a10⟩

end Go.Proofs.YtkjfgbcbeabpgaaGreatDoor
