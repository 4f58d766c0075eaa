/-
  The reference's comparison of programs.
  TreeEqual's body, at any two programs, formulas, and expressions.
-/
import Derived.Test.YtkjfgbcbeabpgaaGreatDoorTreeQu
import Derived.Test.YtkjfgbcbeabpgaaGreatDoorTreeQs
import Derived.Test.YtkjfgbcbeabpgaaGreatDoorTreeQv
import Derived.Test.YtkjfgbcbeabpgaaGreatDoorTreeQg
namespace Go.Proofs.YtkjfgbcbeabpgaaGreatDoor
open Go.RowKit

theorem seqpg_any (p q : Pg) (d d' : GAd) (w : World) (hp : PgOwn w w.heap.size d p) (hq : PgOwn w w.heap.size d' q) (r : Bool) (hr : r = true ↔ SamePg p q) :
    Calls Tryz.prog 26 #[progV d p, progV d' q] w fun e w' => e = .returned (.bool r) ∧ Below w.heap.size w w' := by
  obtain ⟨⟨m1, m2, m3, m4, m5, m6⟩, r1, r2, r3, r4, r5, r6⟩ := hp
  obtain ⟨⟨m1', m2', m3', m4', m5', m6'⟩, r1', r2', r3', r4', r5', r6'⟩ := hq
  obtain ⟨q2, h2⟩ := boolOf (p.gs = q.gs)
  refine seqpg_core _ _ rfl rfl (.slice d.g p.gs.length d.ng) (.slice d'.g q.gs.length d'.ng)
    d.r d'.r p.rs.length q.rs.length d.nr d'.nr p.rs q.rs rfl rfl m1 m1' d.k d'.k p.ks.length q.ks.length d.nk d'.nk p.ks q.ks rfl rfl m3 m3' d.d d'.d p.ds.length q.ds.length d.nd d'.nd p.ds q.ds rfl rfl m4 m4'
    d.m d'.m p.ms.length q.ms.length d.nm d'.nm p.ms q.ms rfl rfl m5 m5' d.x d'.x p.xs.length q.xs.length d.nx d'.nx p.xs q.xs rfl rfl m6 m6'
    rfl rfl rfl rfl rfl rfl rfl rfl rfl rfl rfl rfl q2 w r (rc_rowV r1) (rc_rowV r1') (lk_rowV r3) (lk_rowV r3') (df_rowV r4) (df_rowV r4') (lm_rowV r5) (lm_rowV r5') (pr_rowV r6) (pr_rowV r6') (fun x y _ _ => seqpr_at x y) (fun W hb => ?_) (hr.trans ?_)
  · exact sps_row _ _ _ _ _ _ W m2 m2' (r2.on pm_keeps hb) (r2'.on pm_keeps hb) q2 h2
  · unfold SamePg
    rw [h2, all2_eq, all2_eq, all2_eq, all2_eq]
    constructor
    · rintro ⟨a1, a2, a3, a4, a5, a6⟩
      exact ⟨a2, a1, a3, a4, a5, a6⟩
    · rintro ⟨a2, a1, a3, a4, a5, a6⟩
      exact ⟨a1, a2, a3, a4, a5, a6⟩

end Go.Proofs.YtkjfgbcbeabpgaaGreatDoor

namespace Go.Proofs.YtkjfgbcbeabpgaaGreatDoor
open Go.RowKit

theorem equal_law (p q : Pg) (dp dq : GAd) (f g : Fm) (df dg : FAd) (k1 m1 : Int) (s1 : List UInt8) (l1 : List Ex) (A1 : Option Addr) (c1 : Nat) (k2 m2 : Int) (s2 : List UInt8) (l2 : List Ex) (A2 : Option Addr) (c2 : Nat) (w : World)
    (hp : PgOwn w w.heap.size dp p) (hq : PgOwn w w.heap.size dq q) (hf : FmOwn w w.heap.size df f) (hg : FmOwn w w.heap.size dg g) (r1 : ExRow w w.heap.size l1 A1) (r2 : ExRow w w.heap.size l2 A2) (bs1 : s1.length ≤ maxLen) (bl1 : l1.length ≤ maxLen) (bs2 : s2.length ≤ maxLen) (bl2 : l2.length ≤ maxLen) :
    Calls Tryz.prog 7 #[progV dp p, progV dq q, formulaV (.slice df.p f.ps.length df.np) (.slice df.a f.ats.length df.na) (.slice df.c f.cls.length df.nc), formulaV (.slice dg.p g.ps.length dg.np) (.slice dg.a g.ats.length dg.na) (.slice dg.c g.cls.length dg.nc),
      exprV k1 m1 ⟨s1.toArray⟩ (.slice A1 l1.length c1), exprV k2 m2 ⟨s2.toArray⟩ (.slice A2 l2.length c2)] w fun e w' => e = .returned (.bool true) ∧ Below w.heap.size w w' := by
  obtain ⟨v0, h0⟩ := boolOf (SamePg p q)
  obtain ⟨v1, h1⟩ := boolOf (f = g)
  obtain ⟨v2, h2⟩ := boolOf (Ex.mk k1 m1 s1 l1 = Ex.mk k2 m2 s2 l2)
  refine equal_core (pgCs dp p) (pgCs dq q) rfl rfl dp.x dq.x p.xs.length q.xs.length dp.nx dq.nx rfl rfl df.p df.a df.c dg.p dg.a dg.c f.ps.length f.ats.length f.cls.length g.ps.length g.ats.length g.cls.length df.np df.na df.nc dg.np dg.na dg.nc
    k1 m1 s1 A1 l1.length c1 k2 m2 s2 A2 l2.length c2 v0 v1 v2 w p.xs q.xs rfl rfl hp.1.2.2.2.2.2 hq.1.2.2.2.2.2 hp.2.2.2.2.2.2 hq.2.2.2.2.2.2 (fun x y _ _ => ?_) (fun W hb => ?_) (fun W hb => ?_) (fun W hb => ?_) (fun W hb => ?_) (fun W hb => ?_) (fun W hb => ?_)
    (fun W hb => ?_) (fun W r z0 z1 hb => ?_) (fun W r g' z0 z1 hb hh => ?_) (fun W r g' z0 z1 hb hh => ?_)
  · obtain ⟨v, hv⟩ := boolOf (SameL x.bd y.bd)
    exact ⟨v, fun d1 d2 W hb o1 o2 => ⟨eqss_row x.bd y.bd d1.b d2.b d1.nb d2.nb W o1.1.2.2.2.2.2.2.2.2 o2.1.2.2.2.2.2.2.2.2 (o1.on hb).2.2.2.2.2.2 (o2.on hb).2.2.2.2.2.2 v hv, sss_row x.bd y.bd d1.b d2.b d1.nb d2.nb W o1.1.2.2.2.2.2.2.2.2 o2.1.2.2.2.2.2.2.2.2 (o1.on hb).2.2.2.2.2.2 (o2.on hb).2.2.2.2.2.2 v hv⟩⟩
  · exact eqpg_any p q dp dq W (hp.on hb) (hq.on hb) v0 h0
  · exact seqpg_any p q dp dq W (hp.on hb) (hq.on hb) v0 h0
  · exact eqf_at f g _ _ W v1 ⟨df, rfl, hf.on hb⟩ ⟨dg, rfl, hg.on hb⟩ h1
  · exact seqf_at f g _ _ W v1 ⟨df, rfl, hf.on hb⟩ ⟨dg, rfl, hg.on hb⟩ h1
  · exact eqe_at _ _ _ _ W v2 ⟨k1, m1, s1, l1, A1, c1, rfl, rfl, bs1, bl1, r1.on hb⟩ ⟨k2, m2, s2, l2, A2, c2, rfl, rfl, bs2, bl2, r2.on hb⟩ h2
  · exact seqe_at _ _ _ _ W v2 ⟨k1, m1, s1, l1, A1, c1, rfl, rfl, bs1, bl1, r1.on hb⟩ ⟨k2, m2, s2, l2, A2, c2, rfl, rfl, bs2, bl2, r2.on hb⟩ h2
  · exact left_program p dp 200000 W (by omega) (by omega) (hp.on hb)
  · exact left_program q dq r W z0 z1 (hq.on hb)
  · exact left_formulas [f, g] r (some ⟨g', 0, none⟩) 2 W z0 z1 (fm_two hh (hf.on hb) (hg.on hb)) (show 2 ≤ maxLen by decide)
  · exact left_exprs _ [.mk k1 m1 s1 l1, .mk k2 m2 s2 l2] (Nat.lt_succ_self _) r (some ⟨g', 0, none⟩) 2 W z0 z1 (pair_row hh bs1 bl1 bs2 bl2 (r1.on hb) (r2.on hb)) (show 2 ≤ maxLen by decide)

end Go.Proofs.YtkjfgbcbeabpgaaGreatDoor
