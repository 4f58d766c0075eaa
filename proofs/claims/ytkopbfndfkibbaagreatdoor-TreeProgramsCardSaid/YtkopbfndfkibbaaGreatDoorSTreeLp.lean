/-
  LeftProgram, at any program.
-/
import Derived.Test.YtkopbfndfkibbaaGreatDoorSTreeLf
import Derived.Test.YtkopbfndfkibbaaGreatDoorSTreeP
import Derived.Test.YtkopbfndfkibbaaGreatDoorSTreeQ0
set_option linter.unusedVariables false
set_option linter.unusedSimpArgs false
namespace Go.Proofs.YtkopbfndfkibbaaGreatDoor
set_option maxRecDepth 100000
set_option maxHeartbeats 20000000
open Go.RowKit
theorem fm_two {W : World} {g : Nat} {f h : Fm} {d e : FAd} (hg : W.heap[g]? = some (.cells #[.slice d.p f.ps.length d.np,.slice d.a f.ats.length d.na,.slice d.c f.cls.length d.nc,.slice e.p h.ps.length e.np,.slice e.a h.ats.length e.na,.slice e.c h.cls.length e.nc] 59 (0,0)))
 (rf : FmOwn W W.heap.size d f) (rh : FmOwn W W.heap.size e h) : FmRow W W.heap.size [f,h] (some ⟨g,0,none⟩):=by
 refine .row _ _ (Array.getElem?_eq_some_iff.1 hg).1 (fun i x hi => ?_)
 match i,hi with
 | 0,hi =>
   injection hi with hi
   subst hi
   exact ⟨d.p,d.np,d.a,d.na,d.c,d.nc,by simp only [add_block0];exact cell_of_block hg 0 rfl,by simp only [add_block0];exact cell_of_block hg 1 rfl,by simp only [add_block0];exact cell_of_block hg 2 rfl,rf.1,rf.2.1,rf.2.2.1,rf.2.2.2⟩
 | 1,hi =>
   injection hi with hi
   subst hi
   exact ⟨e.p,e.np,e.a,e.na,e.c,e.nc,by simp only [add_block0];exact cell_of_block hg 3 rfl,by simp only [add_block0];exact cell_of_block hg 4 rfl,by simp only [add_block0];exact cell_of_block hg 5 rfl,rh.1,rh.2.1,rh.2.2.1,rh.2.2.2⟩
 | i + 2,hi => simp at hi
abbrev LeftOk (e : Ending) (B : Nat) (w w' : World) : Prop:=∃ r : Int,e = .returned (.int .i64 r) ∧ -1 ≤ r ∧ r ≤ 200000 ∧ Below B w w'
theorem left_program (p : Pg) (d : GAd) (left : Int) (w : World) (h0 : -1 ≤ left) (h1 : left ≤ 200000) (hp : PgOwn w w.heap.size d p) :
 Calls Tryz.prog 5 #[.int .i64 left,progV d p] w fun e w' => ∃ r : Int,e = .returned (.int .i64 r) ∧ -1 ≤ r ∧ r ≤ 200000 ∧ Below w.heap.size w w':=by
 obtain ⟨rs,gs,ks,ds,ms,xs⟩:=p
 obtain ⟨A0,A1,A2,A3,A4,A5,c0,c1,c2,c3,c4,c5⟩:=d
 obtain ⟨⟨m1,m2,m3,m4,m5,m6⟩,r1,r2,r3,r4,r5,r6⟩:=hp
 simp only at m1 m2 m3 m4 m5 m6 r1 r2 r3 r4 r5 r6
 obtain ⟨n0,hn0⟩ : ∃ n,n = rs.length:=⟨_,rfl⟩
 obtain ⟨n1,hn1⟩ : ∃ n,n = gs.length:=⟨_,rfl⟩
 obtain ⟨n2,hn2⟩ : ∃ n,n = ks.length:=⟨_,rfl⟩
 obtain ⟨n3,hn3⟩ : ∃ n,n = ds.length:=⟨_,rfl⟩
 obtain ⟨n4,hn4⟩ : ∃ n,n = ms.length:=⟨_,rfl⟩
 obtain ⟨n5,hn5⟩ : ∃ n,n = xs.length:=⟨_,rfl⟩
 show Calls Tryz.prog 5 #[.int .i64 left,.agg #[.slice A0 rs.length c0,.slice A1 gs.length c1,.slice A2 ks.length c2,.slice A3 ds.length c3,.slice A4 ms.length c4,.slice A5 xs.length c5]] w _
 rw [← hn0,← hn1,← hn2,← hn3,← hn4,← hn5]
 rw [← hn2] at m3
 rw [← hn3] at m4
 rw [← hn4] at m5
 rw [← hn5] at m6
 have HR2:=Lib.hid (And.intro r3 hn2)
 have HR3:=Lib.hid (And.intro r4 hn3)
 have HR4:=Lib.hid (And.intro r5 hn4)
 have HR5:=Lib.hid (And.intro r6 hn5)
 obtain ⟨W1,hW1⟩ : ∃ W1,W1 = w.alloc (.cells #[.slice A0 n0 c0,.slice A1 n1 c1,.slice A2 n2 c2,.slice A3 n3 c3,.slice A4 n4 c4,.slice A5 n5 c5] 29):=⟨_,rfl⟩
 have HB : Hid (Below w.heap.size w W1):=Lib.hid (by rw [hW1];exact below_alloc w _)
 have q2:=heap_of_alloc w (.cells #[.slice A0 n0 c0,.slice A1 n1 c1,.slice A2 n2 c2,.slice A3 n3 c3,.slice A4 n4 c4,.slice A5 n5 c5] 29)
 rw [← hW1] at q2
 have HF : Hid (∀ W,Below W1.heap.size W1 W → W.cell? ⟨w.heap.size,2,none⟩ = some (.slice A2 n2 c2) ∧ W.cell? ⟨w.heap.size,3,none⟩ = some (.slice A3 n3 c3) ∧ W.cell? ⟨w.heap.size,4,none⟩ = some (.slice A4 n4 c4) ∧ W.cell? ⟨w.heap.size,5,none⟩ = some (.slice A5 n5 c5)) :=
  Lib.hid (fun W hb => ⟨cell_of_block (kept_box hb q2) 2 rfl,cell_of_block (kept_box hb q2) 3 rfl,cell_of_block (kept_box hb q2) 4 rfl,cell_of_block (kept_box hb q2) 5 rfl⟩)
 have HB0:=Lib.hid (Below.refl W1.heap.size W1)
 unfold maxLen at m3 m4 m5 m6
 clear m1 m2 r1 r2 r3 r4 r5 r6 q2 hn0 hn1 hn2 hn3 hn4 hn5
 go_enter Tryz.func5,Tryz.ntmps5
 go_wp2
 rw [← hW1]
 clear hW1
 go_loopg [0,5] n3 (fun mm lf j wr => ∃ (k : Nat) (r : Int),mm = n3 - k ∧ k ≤ n3 ∧ j = .int .i64 k ∧ lf = .int .i64 r ∧ -1 ≤ r ∧ r ≤ 200000 ∧ Hid (Below W1.heap.size W1 wr))
 case atStart => exact ⟨0,left,rfl,Nat.zero_le _,(by first | rfl | go_num),rfl,h0,h1,HB0⟩
 case round =>
  obtain ⟨k,r,rfl,hk,rfl,rfl,hr0,hr1,HI⟩:=hrel
  obtain ⟨f2,f3,f4,f5⟩:=HF.out _ HI.out
  by_cases hlt : k < n3
  ·have hki : (k : Int) < n3:=by omega
   obtain ⟨x,hi⟩ : ∃ x,ds[k]? = some x:=⟨ds[k]'(by rw [← HR3.out.2];exact hlt),List.getElem?_eq_getElem _⟩
   obtain ⟨a,rfl,hab,B1,e1,B2,e2,y0,y1,y2,b1,b2,b3,rp,rf⟩:=HR3.out.1.at_ hi
   have hbw:=HB.out.chain HI.out
   have z2 : wr.cell? ⟨(a.add (k * 3)).block,(a.add (k * 3)).off + 2,none⟩ = some (.slice B2 x.cs.length e2):=(hbw.cell (p:=(a.add (k * 3)).add 2) (by rw [block_adds,block_adds];exact hab)).trans y2
   have HC:=Lib.hid (left_formulas x.cs r B2 e2 wr hr0 hr1 (rf.on fm_keeps hbw) b3)
   have HLT:=Lib.hid (And.intro trivial hlt)
   generalize x.cs.length = nn at *
   clear y0 y1 y2 b1 b2 b3 rp rf hi hbw f2 f4 f5
   go_wp2_with (go_at_call 12;refine HC.out.mono ?_;rintro e w3 ⟨r',rfl,q0,q1,hb⟩;have HB3:=Lib.hid (HI.out.chain hb);clear hb)
   go_roundg (n3 - (k + 1))
   case measure => have := HLT.out.2;omega
   case rel => exact ⟨k + 1,r',rfl,(by have := HLT.out.2;omega),by go_num,rfl,q0,q1,HB3⟩
  ·obtain rfl : k = n3:=by omega
   go_wp2
   go_loopg [0,6] n4 (fun mm lf j wr => ∃ (k : Nat) (r : Int),mm = n4 - k ∧ k ≤ n4 ∧ j = .int .i64 k ∧ lf = .int .i64 r ∧ -1 ≤ r ∧ r ≤ 200000 ∧ Hid (Below W1.heap.size W1 wr))
   case atStart => exact ⟨0,r,rfl,Nat.zero_le _,(by first | rfl | go_num),rfl,hr0,hr1,HI⟩
   case round =>
    clear f2 f3 f4 f5
    obtain ⟨k2,r,rfl,hk2,rfl,rfl,hr0,hr1,HJ⟩:=hrel
    obtain ⟨f2,f3,f4,f5⟩:=HF.out _ HJ.out
    by_cases hlt : k2 < n4
    ·have hki : (k2 : Int) < n4:=by omega
     obtain ⟨x,hi⟩ : ∃ x,ms[k2]? = some x:=⟨ms[k2]'(by rw [← HR4.out.2];exact hlt),List.getElem?_eq_getElem _⟩
     obtain ⟨a,rfl,hab,B1,e1,dd,ee,hc,b1,b2,rp,rf,rg⟩:=HR4.out.1.at_ hi
     have HBW : Hid (∀ W,Below wr.heap.size wr W → Below w.heap.size w W):=Lib.hid (fun W hb => HB.out.chain (HJ.out.chain hb))
     obtain ⟨S,hS⟩ : ∃ S : World → Prop,S = fun W => Below wr.heap.size wr W:=⟨_,rfl⟩
     have HS2 : Hid (∀ W,Below wr.heap.size wr W → S W):=Lib.hid (fun W hb => by rw [hS];exact hb)
     have HFX : Hid (∀ W,S W → W.cell? ⟨w.heap.size,4,none⟩ = some (.slice (some a) n4 c4) ∧ W.cell? ⟨(a.add (k2 * 8)).block,(a.add (k2 * 8)).off + 2,none⟩ = some (.slice dd.p x.lf.ps.length dd.np) ∧ W.cell? ⟨(a.add (k2 * 8)).block,(a.add (k2 * 8)).off + 3,none⟩ = some (.slice dd.a x.lf.ats.length dd.na) ∧ W.cell? ⟨(a.add (k2 * 8)).block,(a.add (k2 * 8)).off + 4,none⟩ = some (.slice dd.c x.lf.cls.length dd.nc) ∧
      W.cell? ⟨(a.add (k2 * 8)).block,(a.add (k2 * 8)).off + 5,none⟩ = some (.slice ee.p x.rt.ps.length ee.np) ∧ W.cell? ⟨(a.add (k2 * 8)).block,(a.add (k2 * 8)).off + 6,none⟩ = some (.slice ee.a x.rt.ats.length ee.na) ∧ W.cell? ⟨(a.add (k2 * 8)).block,(a.add (k2 * 8)).off + 7,none⟩ = some (.slice ee.c x.rt.cls.length ee.nc)):=Lib.hid (fun W hs => by
      rw [hS] at hs
      have hbw:=HBW.out W hs
      have e : ∀ j v,(lmCs B1 e1 dd ee x)[j]? = some v → W.cell? ((a.add (k2 * 8)).add j) = some v:=fun j v hv => (hbw.cell (by rw [block_adds,block_adds];exact hab)).trans (hc j v hv)
      exact ⟨(HF.out _ (HJ.out.chain hs)).2.2.1,e 2 _ rfl,e 3 _ rfl,e 4 _ rfl,e 5 _ rfl,e 6 _ rfl,e 7 _ rfl⟩)
     obtain ⟨o,ho⟩ : ∃ o : Obj,o = .cells #[.slice dd.p x.lf.ps.length dd.np,.slice dd.a x.lf.ats.length dd.na,.slice dd.c x.lf.cls.length dd.nc,.slice ee.p x.rt.ps.length ee.np,.slice ee.a x.rt.ats.length ee.na,.slice ee.c x.rt.cls.length ee.nc] 59:=⟨_,rfl⟩
     have HC : Hid (Calls Tryz.prog 12 #[.int .i64 r,.slice (some ⟨wr.heap.size,0,none⟩) 2 2] (wr.drew.alloc o) fun e w' => ∃ r : Int,e = .returned (.int .i64 r) ∧ -1 ≤ r ∧ r ≤ 200000 ∧ Below wr.heap.size wr w'):=Lib.hid (by
      have hbd:=(Below.refl wr.heap.size wr).drew
      have hba:=hbd.chain (below_alloc wr.drew o)
      have hbw:=HBW.out _ hba
      have hg:=heap_of_alloc wr.drew o
      rw [ho] at hg
      exact (left_formulas [x.lf,x.rt] r (some ⟨wr.heap.size,0,none⟩) 2 (wr.drew.alloc o) hr0 hr1 (fm_two (by rw [ho];exact hg) (rf.on hbw) (rg.on hbw)) (show 2 ≤ maxLen by decide)).mono fun e w' ⟨r',he,q0,q1,hb⟩ => ⟨r',he,q0,q1,hba.chain hb⟩)
     have HBO:=Lib.hid ((Below.refl wr.heap.size wr).drew.chain (below_alloc wr.drew o))
     have HLT:=Lib.hid (And.intro trivial hlt)
     have HX0:=Lib.hid (Below.refl wr.heap.size wr).drew
     have hmx : Tryz.prog.follows .mixedOrders = true:=by kernel_rfl
     rw [ho] at HC HBO
     clear ho
     generalize x.lf.ps.length = l1 at *
     generalize x.lf.ats.length = l2 at *
     generalize x.lf.cls.length = l3 at *
     generalize x.rt.ps.length = l4 at *
     generalize x.rt.ats.length = l5 at *
     generalize x.rt.cls.length = l6 at *
     clear hc b1 b2 rp rf rg hi hS f2 f3 f5
     go_wp2
     refine wp_region_held (S:=S) hmx ?_
     change wpAnyH _ _ _ _ _ 16 #[false,false,false,false,false,false,false,false,false,false,false,false,false,false,false,false] _ wr.drew
     have g0:=HS2.out _ HX0.out
     refine tk 0 31 (.int .i64 r) g0 ?v0 ?_
     case v0 =>
      intro Wx hSx
      go_simp
     try simp only [pset]
     refine tk 1 32 (.pointer (some ⟨w.heap.size,4,none⟩)) g0 ?v1 ?_
     case v1 =>
      intro Wx hSx
      go_simp
     try simp only [pset]
     refine tk 2 33 (.slice (some a) n4 c4) g0 ?v2 ?_
     case v2 =>
      intro Wx hSx
      obtain ⟨z0,z1,z2,z3,z4,z5,z6⟩:=HFX.out Wx hSx
      go_simp
     try simp only [pset]
     refine tk 3 34 (.int .i64 k2) g0 ?v3 ?_
     case v3 =>
      intro Wx hSx
      go_simp
     try simp only [pset]
     refine tk 4 35 (.pointer (some (a.add (k2 * 8)))) g0 ?v4 ?_
     case v4 =>
      intro Wx hSx
      go_simp
     try simp only [pset]
     refine tk 5 36 (.pointer (some ⟨(a.add (k2 * 8)).block,(a.add (k2 * 8)).off + 2,none⟩)) g0 ?v5 ?_
     case v5 =>
      intro Wx hSx
      go_simp
     try simp only [pset]
     refine tk 6 37 (.agg #[.slice dd.p l1 dd.np,.slice dd.a l2 dd.na,.slice dd.c l3 dd.nc]) g0 ?v6 ?_
     case v6 =>
      intro Wx hSx
      obtain ⟨z0,z1,z2,z3,z4,z5,z6⟩:=HFX.out Wx hSx
      go_simp
     try simp only [pset]
     refine tk 7 38 (.pointer (some ⟨w.heap.size,4,none⟩)) g0 ?v7 ?_
     case v7 =>
      intro Wx hSx
      go_simp
     try simp only [pset]
     refine tk 8 39 (.slice (some a) n4 c4) g0 ?v8 ?_
     case v8 =>
      intro Wx hSx
      obtain ⟨z0,z1,z2,z3,z4,z5,z6⟩:=HFX.out Wx hSx
      go_simp
     try simp only [pset]
     refine tk 9 40 (.int .i64 k2) g0 ?v9 ?_
     case v9 =>
      intro Wx hSx
      go_simp
     try simp only [pset]
     refine tk 10 41 (.pointer (some (a.add (k2 * 8)))) g0 ?v10 ?_
     case v10 =>
      intro Wx hSx
      go_simp
     try simp only [pset]
     refine tk 11 42 (.pointer (some ⟨(a.add (k2 * 8)).block,(a.add (k2 * 8)).off + 5,none⟩)) g0 ?v11 ?_
     case v11 =>
      intro Wx hSx
      go_simp
     try simp only [pset]
     refine tk 12 43 (.agg #[.slice ee.p l4 ee.np,.slice ee.a l5 ee.na,.slice ee.c l6 ee.nc]) g0 ?v12 ?_
     case v12 =>
      intro Wx hSx
      obtain ⟨z0,z1,z2,z3,z4,z5,z6⟩:=HFX.out Wx hSx
      go_simp
     try simp only [pset]
     refine o1 13 (fun K hK => ?_)
     go_simp
     refine hK _ _ (HS2.out _ HBO.out) ?_
     clear hK K
     refine o1 14 (fun K hK => ?_)
     go_simp
     refine HC.out.mono ?_
     rintro e w3 ⟨r',rfl,q0,q1,hb⟩
     have HX1:=Lib.hid hb
     have HB3:=Lib.hid (HJ.out.chain hb)
     clear hb
     have g1:=HS2.out _ HX1.out
     refine hK _ _ g1 ?_
     clear hK K g0
     refine tk 15 0 (.int .i64 r') g1 ?v15 ?_
     case v15 =>
      intro Wx hSx
      go_simp
     try simp only [pset]
     refine wpAnyH_done (by kernel_rfl) ?_ _
     go_wp2
     go_roundg (n4 - (k2 + 1))
     case measure => have := HLT.out.2;omega
     case rel => exact ⟨k2 + 1,r',rfl,(by have := HLT.out.2;omega),by go_num,rfl,q0,q1,HB3⟩
    ·obtain rfl : k2 = n4:=by omega
     go_wp2
     go_loopg [0,7] n2 (fun mm lf j wr => ∃ (k : Nat) (r : Int),mm = n2 - k ∧ k ≤ n2 ∧ j = .int .i64 k ∧ lf = .int .i64 r ∧ -1 ≤ r ∧ r ≤ 200000 ∧ Hid (Below W1.heap.size W1 wr))
     case atStart => exact ⟨0,r,rfl,Nat.zero_le _,(by first | rfl | go_num),rfl,hr0,hr1,HJ⟩
     case round =>
      clear f2 f3 f4 f5
      obtain ⟨k3,r,rfl,hk3,rfl,rfl,hr0,hr1,HK⟩:=hrel
      obtain ⟨f2,f3,f4,f5⟩:=HF.out _ HK.out
      by_cases hlt : k3 < n2
      ·have hki : (k3 : Int) < n2:=by omega
       obtain ⟨x,hi⟩ : ∃ x,ks[k3]? = some x:=⟨ks[k3]'(by rw [← HR2.out.2];exact hlt),List.getElem?_eq_getElem _⟩
       obtain ⟨a,rfl,hab,B1,e1,y0,y1,b1,b2,rf⟩:=HR2.out.1.at_ hi
       have hbw:=HB.out.chain HK.out
       have z2 : wr.cell? ⟨(a.add (k3 * 2)).block,(a.add (k3 * 2)).off + 1,none⟩ = some (.slice B1 x.iv.length e1):=(hbw.cell (p:=(a.add (k3 * 2)).add 1) (by rw [block_adds,block_adds];exact hab)).trans y1
       have HC:=Lib.hid (left_formulas x.iv r B1 e1 wr hr0 hr1 (rf.on fm_keeps hbw) b2)
       have HLT:=Lib.hid (And.intro trivial hlt)
       generalize x.iv.length = nn at *
       clear y0 y1 b1 b2 rf hi hbw f3 f4 f5
       go_wp2_with (go_at_call 12;refine HC.out.mono ?_;rintro e w3 ⟨r',rfl,q0,q1,hb⟩;have HB3:=Lib.hid (HK.out.chain hb);clear hb)
       go_roundg (n2 - (k3 + 1))
       case measure => have := HLT.out.2;omega
       case rel => exact ⟨k3 + 1,r',rfl,(by have := HLT.out.2;omega),by go_num,rfl,q0,q1,HB3⟩
      ·obtain rfl : k3 = n2:=by omega
       go_wp2
       go_loopg [0,8] n5 (fun mm lf j wr => ∃ (k : Nat) (r : Int),mm = n5 - k ∧ k ≤ n5 ∧ j = .int .i64 k ∧ lf = .int .i64 r ∧ -1 ≤ r ∧ r ≤ 200000 ∧ Hid (Below W1.heap.size W1 wr))
       case atStart => exact ⟨0,r,rfl,Nat.zero_le _,(by first | rfl | go_num),rfl,hr0,hr1,HK⟩
       case round =>
        clear f2 f3 f4 f5
        obtain ⟨k4,r,rfl,hk4,rfl,rfl,hr0,hr1,HL⟩:=hrel
        obtain ⟨f2,f3,f4,f5⟩:=HF.out _ HL.out
        by_cases hlt : k4 < n5
        ·have hki : (k4 : Int) < n5:=by omega
         obtain ⟨x,hi⟩ : ∃ x,xs[k4]? = some x:=⟨xs[k4]'(by rw [← HR5.out.2];exact hlt),List.getElem?_eq_getElem _⟩
         obtain ⟨a,rfl,hab,dd,hc,⟨b1,b2,b3,b4,b5,b6,b7,b8,b9⟩,g1,g2,g3,g4,g5,g6⟩:=HR5.out.1.at_ hi
         have HE : Hid (∀ W,Below W1.heap.size W1 W → W.cell? ⟨w.heap.size,5,none⟩ = some (.slice (some a) n5 c5) ∧ W.cell? ⟨(a.add (k4 * 12)).block,(a.add (k4 * 12)).off + 8,none⟩ = some (.slice dd.r x.rq.length dd.nr) ∧ W.cell? ⟨(a.add (k4 * 12)).block,(a.add (k4 * 12)).off + 9,none⟩ = some (.slice dd.e x.es.length dd.ne) ∧ W.cell? ⟨(a.add (k4 * 12)).block,(a.add (k4 * 12)).off + 11,none⟩ = some (.slice dd.b x.bd.length dd.nb)):=Lib.hid (fun W hs => by
          have hbw:=HB.out.chain hs
          have e : ∀ j v,(prCs dd x)[j]? = some v → W.cell? ((a.add (k4 * 12)).add j) = some v:=fun j v hv => (hbw.cell (by rw [block_adds,block_adds];exact hab)).trans (hc j v hv)
          exact ⟨(HF.out _ hs).2.2.2,e 8 _ rfl,e 9 _ rfl,e 11 _ rfl⟩)
         have HC1 : Hid (∀ W (q : Int),-1 ≤ q → q ≤ 200000 → Below W1.heap.size W1 W → Calls Tryz.prog 12 #[.int .i64 q,.slice dd.r x.rq.length dd.nr] W fun e w' => LeftOk e W.heap.size W w'):=Lib.hid (fun W q z0 z1 hb => left_formulas x.rq q dd.r dd.nr W z0 z1 (g3.on fm_keeps (HB.out.chain hb)) b6)
         have HC2 : Hid (∀ W (q : Int),-1 ≤ q → q ≤ 200000 → Below W1.heap.size W1 W → Calls Tryz.prog 12 #[.int .i64 q,.slice dd.e x.es.length dd.ne] W fun e w' => LeftOk e W.heap.size W w'):=Lib.hid (fun W q z0 z1 hb => left_formulas x.es q dd.e dd.ne W z0 z1 (g4.on fm_keeps (HB.out.chain hb)) b7)
         have HC3 : Hid (∀ W (q : Int),-1 ≤ q → q ≤ 200000 → Below W1.heap.size W1 W → Calls Tryz.prog 13 #[.int .i64 q,.slice dd.b x.bd.length dd.nb] W fun e w' => LeftOk e W.heap.size W w'):=Lib.hid (fun W q z0 z1 hb => left_stmts _ x.bd (Nat.lt_succ_self _) q dd.b dd.nb W z0 z1 (g6.on (HB.out.chain hb)) b9)
         have HLT:=Lib.hid (And.intro trivial hlt)
         generalize x.rq.length = l1 at *
         generalize x.es.length = l2 at *
         generalize x.bd.length = l3 at *
         clear hc b1 b2 b3 b4 b5 b6 b7 b8 b9 g1 g2 g3 g4 g5 g6 hi f2 f3 f4 f5
         obtain ⟨t0,t1,t2,t3⟩:=HE.out _ HL.out
         go_wp2_with (first
          | (go_at_call 12;((with_reducible refine (HC1.out _ _ hr0 hr1 HL.out).mono ?_);rintro e w3 ⟨r',rfl,q0,q1,hb⟩);have HB3:=Lib.hid (HL.out.chain hb);clear hb t0 t1 t2 t3;obtain ⟨u0,u1,u2,u3⟩:=HE.out _ HB3.out)
          | (go_at_call 12;((with_reducible refine (HC2.out _ _ q0 q1 HB3.out).mono ?_);rintro e w4 ⟨r2,rfl,q2,q3,hb⟩);have HB4:=Lib.hid (HB3.out.chain hb);clear hb u0 u1 u2 u3;obtain ⟨v0,v1,v2,v3⟩:=HE.out _ HB4.out)
          | (go_at_call 13;refine (HC3.out _ _ q2 q3 HB4.out).mono ?_;rintro e w5 ⟨r3,rfl,q4,q5,hb⟩;have HB5:=Lib.hid (HB4.out.chain hb);clear hb))
         go_roundg (n5 - (k4 + 1))
         case measure => have := HLT.out.2;omega
         case rel => exact ⟨k4 + 1,r3,rfl,(by have := HLT.out.2;omega),by go_num,rfl,q4,q5,HB5⟩
        ·obtain rfl : k4 = n5:=by omega
         go_wp2
         go_ret
         exact ⟨r,rfl,hr0,hr1,HB.out.chain HL.out⟩
end Go.Proofs.YtkopbfndfkibbaaGreatDoor
