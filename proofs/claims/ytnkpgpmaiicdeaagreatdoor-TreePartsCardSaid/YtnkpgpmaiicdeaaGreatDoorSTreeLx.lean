/-
  LeftProgram, at any program.
  LeftExprs, LeftConds, LeftFormulas: what is left is no more than there was.
  LeftStmts: what is left and the number of all statements is no more than there was.
  LeftProgram: what is left and the number of all statements is no more than there was.
-/
import Derived.Test.YtnkpgpmaiicdeaaGreatDoorSTreeLf
import Derived.Test.YtnkpgpmaiicdeaaGreatDoorSTreeO
import Derived.Test.YtnkpgpmaiicdeaaGreatDoorSTreeQ
import Derived.Test.YtnkpgpmaiicdeaaGreatDoorSTreeMa
set_option linter.unusedVariables false
set_option linter.unusedSimpArgs false
namespace Go.Proofs.YtnkpgpmaiicdeaaGreatDoor
set_option maxRecDepth 100000
set_option maxHeartbeats 20000000
open Go.RowKit
theorem fm_two {W : World} {g : Nat} {f h : Fm} {d e : FAd} (hg : W.heap[g]? = some (.cells #[.slice d.p f.ps.length d.np,.slice d.a f.ats.length d.na,.slice d.c f.cls.length d.nc,.slice e.p h.ps.length e.np,.slice e.a h.ats.length e.na,.slice e.c h.cls.length e.nc] 63 (0,0)))
 (rf : FmOwn W W.heap.size d f) (rh : FmOwn W W.heap.size e h) : FmRow W W.heap.size [f,h] (some ⟨g,0,none⟩):=by
 refine .row _ _ (Array.getElem?_eq_some_iff.1 hg).1 (fun i x hi => ?_)
 match i,hi with
 | 0,hi =>
   injection hi with hi
   subst hi
   exact ⟨d.p,d.np,d.a,d.na,d.c,d.nc,by simp only [add_block0];exact cell_of_block hg 0 rfl,by simp only [add_block0];exact cell_of_block hg 1 rfl,by simp only [add_block0];exact cell_of_block hg 2 rfl,rf.1,rf.2.1,rf.2.2.1,rf.2.2.2⟩
 | 1,hi =>
   injection hi with hi
   subst hi
   exact ⟨e.p,e.np,e.a,e.na,e.c,e.nc,by simp only [add_block0];exact cell_of_block hg 3 rfl,by simp only [add_block0];exact cell_of_block hg 4 rfl,by simp only [add_block0];exact cell_of_block hg 5 rfl,rh.1,rh.2.1,rh.2.2.1,rh.2.2.2⟩
 | i + 2,hi => simp at hi
abbrev LeftOk (e : Ending) (B : Nat) (w w' : World) : Prop:=∃ r : Int,e = .returned (.int .i64 r) ∧ -1 ≤ r ∧ r ≤ 200000 ∧ Below B w w'
theorem left_program (p : Pg) (d : GAd) (left : Int) (w : World) (h0 : -1 ≤ left) (h1 : left ≤ 200000) (hp : PgOwn w w.heap.size d p) :
 Calls Tryz.prog 11 #[.int .i64 left,progV d p] w fun e w' => ∃ r : Int,e = .returned (.int .i64 r) ∧ -1 ≤ r ∧ r ≤ 200000 ∧ Below w.heap.size w w':=by
 obtain ⟨rs,gs,ks,ds,ms,xs⟩:=p
 obtain ⟨A0,A1,A2,A3,A4,A5,c0,c1,c2,c3,c4,c5⟩:=d
 obtain ⟨⟨m1,m2,m3,m4,m5,m6⟩,r1,r2,r3,r4,r5,r6⟩:=hp
 simp only at m1 m2 m3 m4 m5 m6 r1 r2 r3 r4 r5 r6
 obtain ⟨n0,hn0⟩ : ∃ n,n = rs.length:=⟨_,rfl⟩
 obtain ⟨n1,hn1⟩ : ∃ n,n = gs.length:=⟨_,rfl⟩
 obtain ⟨n2,hn2⟩ : ∃ n,n = ks.length:=⟨_,rfl⟩
 obtain ⟨n3,hn3⟩ : ∃ n,n = ds.length:=⟨_,rfl⟩
 obtain ⟨n4,hn4⟩ : ∃ n,n = ms.length:=⟨_,rfl⟩
 obtain ⟨n5,hn5⟩ : ∃ n,n = xs.length:=⟨_,rfl⟩
 show Calls Tryz.prog 11 #[.int .i64 left,.agg #[.slice A0 rs.length c0,.slice A1 gs.length c1,.slice A2 ks.length c2,.slice A3 ds.length c3,.slice A4 ms.length c4,.slice A5 xs.length c5]] w _
 rw [← hn0,← hn1,← hn2,← hn3,← hn4,← hn5]
 rw [← hn2] at m3
 rw [← hn3] at m4
 rw [← hn4] at m5
 rw [← hn5] at m6
 have HR2:=Lib.hid (And.intro r3 hn2)
 have HR3:=Lib.hid (And.intro r4 hn3)
 have HR4:=Lib.hid (And.intro r5 hn4)
 have HR5:=Lib.hid (And.intro r6 hn5)
 obtain ⟨W1,hW1⟩ : ∃ W1,W1 = w.alloc (.cells #[.slice A0 n0 c0,.slice A1 n1 c1,.slice A2 n2 c2,.slice A3 n3 c3,.slice A4 n4 c4,.slice A5 n5 c5] 53):=⟨_,rfl⟩
 have HB : Hid (Below w.heap.size w W1):=Lib.hid (by rw [hW1];exact below_alloc w _)
 have q2:=heap_of_alloc w (.cells #[.slice A0 n0 c0,.slice A1 n1 c1,.slice A2 n2 c2,.slice A3 n3 c3,.slice A4 n4 c4,.slice A5 n5 c5] 53)
 rw [← hW1] at q2
 have HF : Hid (∀ W,Below W1.heap.size W1 W → W.cell? ⟨w.heap.size,2,none⟩ = some (.slice A2 n2 c2) ∧ W.cell? ⟨w.heap.size,3,none⟩ = some (.slice A3 n3 c3) ∧ W.cell? ⟨w.heap.size,4,none⟩ = some (.slice A4 n4 c4) ∧ W.cell? ⟨w.heap.size,5,none⟩ = some (.slice A5 n5 c5)) :=
  Lib.hid (fun W hb => ⟨cell_of_block (kept_box hb q2) 2 rfl,cell_of_block (kept_box hb q2) 3 rfl,cell_of_block (kept_box hb q2) 4 rfl,cell_of_block (kept_box hb q2) 5 rfl⟩)
 have HB0:=Lib.hid (Below.refl W1.heap.size W1)
 unfold maxLen at m3 m4 m5 m6
 clear m1 m2 r1 r2 r3 r4 r5 r6 q2 hn0 hn1 hn2 hn3 hn4 hn5
 go_enter Tryz.func11,Tryz.ntmps11
 go_wp2
 rw [← hW1]
 clear hW1
 go_loopg [0,5] n3 (fun mm lf j wr => ∃ (k : Nat) (r : Int),mm = n3 - k ∧ k ≤ n3 ∧ j = .int .i64 k ∧ lf = .int .i64 r ∧ -1 ≤ r ∧ r ≤ 200000 ∧ Hid (Below W1.heap.size W1 wr))
 case atStart => exact ⟨0,left,rfl,Nat.zero_le _,(by first | rfl | go_num),rfl,h0,h1,HB0⟩
 case round =>
  obtain ⟨k,r,rfl,hk,rfl,rfl,hr0,hr1,HI⟩:=hrel
  obtain ⟨f2,f3,f4,f5⟩:=HF.out _ HI.out
  by_cases hlt : k < n3
  ·have hki : (k : Int) < n3:=by omega
   obtain ⟨x,hi⟩ : ∃ x,ds[k]? = some x:=⟨ds[k]'(by rw [← HR3.out.2];exact hlt),List.getElem?_eq_getElem _⟩
   obtain ⟨a,rfl,hab,B1,e1,B2,e2,y0,y1,y2,b1,b2,b3,rp,rf⟩:=HR3.out.1.at_ hi
   have hbw:=HB.out.chain HI.out
   have z2 : wr.cell? ⟨(a.add (k * 3)).block,(a.add (k * 3)).off + 2,none⟩ = some (.slice B2 x.cs.length e2):=(hbw.cell (p:=(a.add (k * 3)).add 2) (by rw [block_adds,block_adds];exact hab)).trans y2
   have HC:=Lib.hid (left_formulas x.cs r B2 e2 wr hr0 hr1 (rf.on fm_keeps hbw) b3)
   have HLT:=Lib.hid (And.intro trivial hlt)
   generalize x.cs.length = nn at *
   clear y0 y1 y2 b1 b2 b3 rp rf hi hbw f2 f4 f5
   go_wp2_with (go_at_call 26;refine HC.out.mono ?_;rintro e w3 ⟨r',rfl,q0,q1,hb⟩;have HB3:=Lib.hid (HI.out.chain hb);clear hb)
   go_roundg (n3 - (k + 1))
   case measure => have := HLT.out.2;omega
   case rel => exact ⟨k + 1,r',rfl,(by have := HLT.out.2;omega),by go_num,rfl,q0,q1,HB3⟩
  ·obtain rfl : k = n3:=by omega
   go_wp2
   go_loopg [0,6] n4 (fun mm lf j wr => ∃ (k : Nat) (r : Int),mm = n4 - k ∧ k ≤ n4 ∧ j = .int .i64 k ∧ lf = .int .i64 r ∧ -1 ≤ r ∧ r ≤ 200000 ∧ Hid (Below W1.heap.size W1 wr))
   case atStart => exact ⟨0,r,rfl,Nat.zero_le _,(by first | rfl | go_num),rfl,hr0,hr1,HI⟩
   case round =>
    clear f2 f3 f4 f5
    obtain ⟨k2,r,rfl,hk2,rfl,rfl,hr0,hr1,HJ⟩:=hrel
    obtain ⟨f2,f3,f4,f5⟩:=HF.out _ HJ.out
    by_cases hlt : k2 < n4
    ·have hki : (k2 : Int) < n4:=by omega
     obtain ⟨x,hi⟩ : ∃ x,ms[k2]? = some x:=⟨ms[k2]'(by rw [← HR4.out.2];exact hlt),List.getElem?_eq_getElem _⟩
     obtain ⟨a,rfl,hab,B1,e1,dd,ee,hc,b1,b2,rp,rf,rg⟩:=HR4.out.1.at_ hi
     have HBW : Hid (∀ W,Below wr.heap.size wr W → Below w.heap.size w W):=Lib.hid (fun W hb => HB.out.chain (HJ.out.chain hb))
     obtain ⟨S,hS⟩ : ∃ S : World → Prop,S = fun W => Below wr.heap.size wr W:=⟨_,rfl⟩
     have HS2 : Hid (∀ W,Below wr.heap.size wr W → S W):=Lib.hid (fun W hb => by rw [hS];exact hb)
     have HFX : Hid (∀ W,S W → W.cell? ⟨w.heap.size,4,none⟩ = some (.slice (some a) n4 c4) ∧ W.cell? ⟨(a.add (k2 * 8)).block,(a.add (k2 * 8)).off + 2,none⟩ = some (.slice dd.p x.lf.ps.length dd.np) ∧ W.cell? ⟨(a.add (k2 * 8)).block,(a.add (k2 * 8)).off + 3,none⟩ = some (.slice dd.a x.lf.ats.length dd.na) ∧ W.cell? ⟨(a.add (k2 * 8)).block,(a.add (k2 * 8)).off + 4,none⟩ = some (.slice dd.c x.lf.cls.length dd.nc) ∧
      W.cell? ⟨(a.add (k2 * 8)).block,(a.add (k2 * 8)).off + 5,none⟩ = some (.slice ee.p x.rt.ps.length ee.np) ∧ W.cell? ⟨(a.add (k2 * 8)).block,(a.add (k2 * 8)).off + 6,none⟩ = some (.slice ee.a x.rt.ats.length ee.na) ∧ W.cell? ⟨(a.add (k2 * 8)).block,(a.add (k2 * 8)).off + 7,none⟩ = some (.slice ee.c x.rt.cls.length ee.nc)):=Lib.hid (fun W hs => by
      rw [hS] at hs
      have hbw:=HBW.out W hs
      have e : ∀ j v,(lmCs B1 e1 dd ee x)[j]? = some v → W.cell? ((a.add (k2 * 8)).add j) = some v:=fun j v hv => (hbw.cell (by rw [block_adds,block_adds];exact hab)).trans (hc j v hv)
      exact ⟨(HF.out _ (HJ.out.chain hs)).2.2.1,e 2 _ rfl,e 3 _ rfl,e 4 _ rfl,e 5 _ rfl,e 6 _ rfl,e 7 _ rfl⟩)
     obtain ⟨o,ho⟩ : ∃ o : Obj,o = .cells #[.slice dd.p x.lf.ps.length dd.np,.slice dd.a x.lf.ats.length dd.na,.slice dd.c x.lf.cls.length dd.nc,.slice ee.p x.rt.ps.length ee.np,.slice ee.a x.rt.ats.length ee.na,.slice ee.c x.rt.cls.length ee.nc] 63:=⟨_,rfl⟩
     have HC : Hid (Calls Tryz.prog 26 #[.int .i64 r,.slice (some ⟨wr.heap.size,0,none⟩) 2 2] (wr.drew.alloc o) fun e w' => ∃ r : Int,e = .returned (.int .i64 r) ∧ -1 ≤ r ∧ r ≤ 200000 ∧ Below wr.heap.size wr w'):=Lib.hid (by
      have hbd:=(Below.refl wr.heap.size wr).drew
      have hba:=hbd.chain (below_alloc wr.drew o)
      have hbw:=HBW.out _ hba
      have hg:=heap_of_alloc wr.drew o
      rw [ho] at hg
      exact (left_formulas [x.lf,x.rt] r (some ⟨wr.heap.size,0,none⟩) 2 (wr.drew.alloc o) hr0 hr1 (fm_two (by rw [ho];exact hg) (rf.on hbw) (rg.on hbw)) (show 2 ≤ maxLen by decide)).mono fun e w' ⟨r',he,q0,q1,hb⟩ => ⟨r',he,q0,q1,hba.chain hb⟩)
     have HBO:=Lib.hid ((Below.refl wr.heap.size wr).drew.chain (below_alloc wr.drew o))
     have HLT:=Lib.hid (And.intro trivial hlt)
     have HX0:=Lib.hid (Below.refl wr.heap.size wr).drew
     have hmx : Tryz.prog.follows .mixedOrders = true:=by kernel_rfl
     rw [ho] at HC HBO
     clear ho
     generalize x.lf.ps.length = l1 at *
     generalize x.lf.ats.length = l2 at *
     generalize x.lf.cls.length = l3 at *
     generalize x.rt.ps.length = l4 at *
     generalize x.rt.ats.length = l5 at *
     generalize x.rt.cls.length = l6 at *
     clear hc b1 b2 rp rf rg hi hS f2 f3 f5
     go_wp2
     refine wp_region_held (S:=S) hmx ?_
     change wpAnyH _ _ _ _ _ 16 #[false,false,false,false,false,false,false,false,false,false,false,false,false,false,false,false] _ wr.drew
     have g0:=HS2.out _ HX0.out
     refine tk 0 31 (.int .i64 r) g0 ?v0 ?_
     case v0 =>
      intro Wx hSx
      go_simp
     try simp only [pset]
     refine tk 1 32 (.pointer (some ⟨w.heap.size,4,none⟩)) g0 ?v1 ?_
     case v1 =>
      intro Wx hSx
      go_simp
     try simp only [pset]
     refine tk 2 33 (.slice (some a) n4 c4) g0 ?v2 ?_
     case v2 =>
      intro Wx hSx
      obtain ⟨z0,z1,z2,z3,z4,z5,z6⟩:=HFX.out Wx hSx
      go_simp
     try simp only [pset]
     refine tk 3 34 (.int .i64 k2) g0 ?v3 ?_
     case v3 =>
      intro Wx hSx
      go_simp
     try simp only [pset]
     refine tk 4 35 (.pointer (some (a.add (k2 * 8)))) g0 ?v4 ?_
     case v4 =>
      intro Wx hSx
      go_simp
     try simp only [pset]
     refine tk 5 36 (.pointer (some ⟨(a.add (k2 * 8)).block,(a.add (k2 * 8)).off + 2,none⟩)) g0 ?v5 ?_
     case v5 =>
      intro Wx hSx
      go_simp
     try simp only [pset]
     refine tk 6 37 (.agg #[.slice dd.p l1 dd.np,.slice dd.a l2 dd.na,.slice dd.c l3 dd.nc]) g0 ?v6 ?_
     case v6 =>
      intro Wx hSx
      obtain ⟨z0,z1,z2,z3,z4,z5,z6⟩:=HFX.out Wx hSx
      go_simp
     try simp only [pset]
     refine tk 7 38 (.pointer (some ⟨w.heap.size,4,none⟩)) g0 ?v7 ?_
     case v7 =>
      intro Wx hSx
      go_simp
     try simp only [pset]
     refine tk 8 39 (.slice (some a) n4 c4) g0 ?v8 ?_
     case v8 =>
      intro Wx hSx
      obtain ⟨z0,z1,z2,z3,z4,z5,z6⟩:=HFX.out Wx hSx
      go_simp
     try simp only [pset]
     refine tk 9 40 (.int .i64 k2) g0 ?v9 ?_
     case v9 =>
      intro Wx hSx
      go_simp
     try simp only [pset]
     refine tk 10 41 (.pointer (some (a.add (k2 * 8)))) g0 ?v10 ?_
     case v10 =>
      intro Wx hSx
      go_simp
     try simp only [pset]
     refine tk 11 42 (.pointer (some ⟨(a.add (k2 * 8)).block,(a.add (k2 * 8)).off + 5,none⟩)) g0 ?v11 ?_
     case v11 =>
      intro Wx hSx
      go_simp
     try simp only [pset]
     refine tk 12 43 (.agg #[.slice ee.p l4 ee.np,.slice ee.a l5 ee.na,.slice ee.c l6 ee.nc]) g0 ?v12 ?_
     case v12 =>
      intro Wx hSx
      obtain ⟨z0,z1,z2,z3,z4,z5,z6⟩:=HFX.out Wx hSx
      go_simp
     try simp only [pset]
     refine o1 13 (fun K hK => ?_)
     go_simp
     refine hK _ _ (HS2.out _ HBO.out) ?_
     clear hK K
     refine o1 14 (fun K hK => ?_)
     go_simp
     refine HC.out.mono ?_
     rintro e w3 ⟨r',rfl,q0,q1,hb⟩
     have HX1:=Lib.hid hb
     have HB3:=Lib.hid (HJ.out.chain hb)
     clear hb
     have g1:=HS2.out _ HX1.out
     refine hK _ _ g1 ?_
     clear hK K g0
     refine tk 15 0 (.int .i64 r') g1 ?v15 ?_
     case v15 =>
      intro Wx hSx
      go_simp
     try simp only [pset]
     refine wpAnyH_done (by kernel_rfl) ?_ _
     go_wp2
     go_roundg (n4 - (k2 + 1))
     case measure => have := HLT.out.2;omega
     case rel => exact ⟨k2 + 1,r',rfl,(by have := HLT.out.2;omega),by go_num,rfl,q0,q1,HB3⟩
    ·obtain rfl : k2 = n4:=by omega
     go_wp2
     go_loopg [0,7] n2 (fun mm lf j wr => ∃ (k : Nat) (r : Int),mm = n2 - k ∧ k ≤ n2 ∧ j = .int .i64 k ∧ lf = .int .i64 r ∧ -1 ≤ r ∧ r ≤ 200000 ∧ Hid (Below W1.heap.size W1 wr))
     case atStart => exact ⟨0,r,rfl,Nat.zero_le _,(by first | rfl | go_num),rfl,hr0,hr1,HJ⟩
     case round =>
      clear f2 f3 f4 f5
      obtain ⟨k3,r,rfl,hk3,rfl,rfl,hr0,hr1,HK⟩:=hrel
      obtain ⟨f2,f3,f4,f5⟩:=HF.out _ HK.out
      by_cases hlt : k3 < n2
      ·have hki : (k3 : Int) < n2:=by omega
       obtain ⟨x,hi⟩ : ∃ x,ks[k3]? = some x:=⟨ks[k3]'(by rw [← HR2.out.2];exact hlt),List.getElem?_eq_getElem _⟩
       obtain ⟨a,rfl,hab,B1,e1,y0,y1,b1,b2,rf⟩:=HR2.out.1.at_ hi
       have hbw:=HB.out.chain HK.out
       have z2 : wr.cell? ⟨(a.add (k3 * 2)).block,(a.add (k3 * 2)).off + 1,none⟩ = some (.slice B1 x.iv.length e1):=(hbw.cell (p:=(a.add (k3 * 2)).add 1) (by rw [block_adds,block_adds];exact hab)).trans y1
       have HC:=Lib.hid (left_formulas x.iv r B1 e1 wr hr0 hr1 (rf.on fm_keeps hbw) b2)
       have HLT:=Lib.hid (And.intro trivial hlt)
       generalize x.iv.length = nn at *
       clear y0 y1 b1 b2 rf hi hbw f3 f4 f5
       go_wp2_with (go_at_call 26;refine HC.out.mono ?_;rintro e w3 ⟨r',rfl,q0,q1,hb⟩;have HB3:=Lib.hid (HK.out.chain hb);clear hb)
       go_roundg (n2 - (k3 + 1))
       case measure => have := HLT.out.2;omega
       case rel => exact ⟨k3 + 1,r',rfl,(by have := HLT.out.2;omega),by go_num,rfl,q0,q1,HB3⟩
      ·obtain rfl : k3 = n2:=by omega
       go_wp2
       go_loopg [0,8] n5 (fun mm lf j wr => ∃ (k : Nat) (r : Int),mm = n5 - k ∧ k ≤ n5 ∧ j = .int .i64 k ∧ lf = .int .i64 r ∧ -1 ≤ r ∧ r ≤ 200000 ∧ Hid (Below W1.heap.size W1 wr))
       case atStart => exact ⟨0,r,rfl,Nat.zero_le _,(by first | rfl | go_num),rfl,hr0,hr1,HK⟩
       case round =>
        clear f2 f3 f4 f5
        obtain ⟨k4,r,rfl,hk4,rfl,rfl,hr0,hr1,HL⟩:=hrel
        obtain ⟨f2,f3,f4,f5⟩:=HF.out _ HL.out
        by_cases hlt : k4 < n5
        ·have hki : (k4 : Int) < n5:=by omega
         obtain ⟨x,hi⟩ : ∃ x,xs[k4]? = some x:=⟨xs[k4]'(by rw [← HR5.out.2];exact hlt),List.getElem?_eq_getElem _⟩
         obtain ⟨a,rfl,hab,dd,hc,⟨b1,b2,b3,b4,b5,b6,b7,b8,b9⟩,g1,g2,g3,g4,g5,g6⟩:=HR5.out.1.at_ hi
         have HE : Hid (∀ W,Below W1.heap.size W1 W → W.cell? ⟨w.heap.size,5,none⟩ = some (.slice (some a) n5 c5) ∧ W.cell? ⟨(a.add (k4 * 12)).block,(a.add (k4 * 12)).off + 8,none⟩ = some (.slice dd.r x.rq.length dd.nr) ∧ W.cell? ⟨(a.add (k4 * 12)).block,(a.add (k4 * 12)).off + 9,none⟩ = some (.slice dd.e x.es.length dd.ne) ∧ W.cell? ⟨(a.add (k4 * 12)).block,(a.add (k4 * 12)).off + 11,none⟩ = some (.slice dd.b x.bd.length dd.nb)):=Lib.hid (fun W hs => by
          have hbw:=HB.out.chain hs
          have e : ∀ j v,(prCs dd x)[j]? = some v → W.cell? ((a.add (k4 * 12)).add j) = some v:=fun j v hv => (hbw.cell (by rw [block_adds,block_adds];exact hab)).trans (hc j v hv)
          exact ⟨(HF.out _ hs).2.2.2,e 8 _ rfl,e 9 _ rfl,e 11 _ rfl⟩)
         have HC1 : Hid (∀ W (q : Int),-1 ≤ q → q ≤ 200000 → Below W1.heap.size W1 W → Calls Tryz.prog 26 #[.int .i64 q,.slice dd.r x.rq.length dd.nr] W fun e w' => LeftOk e W.heap.size W w'):=Lib.hid (fun W q z0 z1 hb => left_formulas x.rq q dd.r dd.nr W z0 z1 (g3.on fm_keeps (HB.out.chain hb)) b6)
         have HC2 : Hid (∀ W (q : Int),-1 ≤ q → q ≤ 200000 → Below W1.heap.size W1 W → Calls Tryz.prog 26 #[.int .i64 q,.slice dd.e x.es.length dd.ne] W fun e w' => LeftOk e W.heap.size W w'):=Lib.hid (fun W q z0 z1 hb => left_formulas x.es q dd.e dd.ne W z0 z1 (g4.on fm_keeps (HB.out.chain hb)) b7)
         have HC3 : Hid (∀ W (q : Int),-1 ≤ q → q ≤ 200000 → Below W1.heap.size W1 W → Calls Tryz.prog 6 #[.int .i64 q,.slice dd.b x.bd.length dd.nb] W fun e w' => LeftOk e W.heap.size W w'):=Lib.hid (fun W q z0 z1 hb => left_stmts _ x.bd (Nat.lt_succ_self _) q dd.b dd.nb W z0 z1 (g6.on (HB.out.chain hb)) b9)
         have HLT:=Lib.hid (And.intro trivial hlt)
         generalize x.rq.length = l1 at *
         generalize x.es.length = l2 at *
         generalize x.bd.length = l3 at *
         clear hc b1 b2 b3 b4 b5 b6 b7 b8 b9 g1 g2 g3 g4 g5 g6 hi f2 f3 f4 f5
         obtain ⟨t0,t1,t2,t3⟩:=HE.out _ HL.out
         go_wp2_with (first
          | (go_at_call 26;((with_reducible refine (HC1.out _ _ hr0 hr1 HL.out).mono ?_);rintro e w3 ⟨r',rfl,q0,q1,hb⟩);have HB3:=Lib.hid (HL.out.chain hb);clear hb t0 t1 t2 t3;obtain ⟨u0,u1,u2,u3⟩:=HE.out _ HB3.out)
          | (go_at_call 26;((with_reducible refine (HC2.out _ _ q0 q1 HB3.out).mono ?_);rintro e w4 ⟨r2,rfl,q2,q3,hb⟩);have HB4:=Lib.hid (HB3.out.chain hb);clear hb u0 u1 u2 u3;obtain ⟨v0,v1,v2,v3⟩:=HE.out _ HB4.out)
          | (go_at_call 6;refine (HC3.out _ _ q2 q3 HB4.out).mono ?_;rintro e w5 ⟨r3,rfl,q4,q5,hb⟩;have HB5:=Lib.hid (HB4.out.chain hb);clear hb))
         go_roundg (n5 - (k4 + 1))
         case measure => have := HLT.out.2;omega
         case rel => exact ⟨k4 + 1,r3,rfl,(by have := HLT.out.2;omega),by go_num,rfl,q4,q5,HB5⟩
        ·obtain rfl : k4 = n5:=by omega
         go_wp2
         go_ret
         exact ⟨r,rfl,hr0,hr1,HB.out.chain HL.out⟩
end Go.Proofs.YtnkpgpmaiicdeaaGreatDoor
namespace Go.Proofs.YtnkpgpmaiicdeaaGreatDoor
set_option maxRecDepth 100000
set_option maxHeartbeats 8000000
open Go.RowKit
theorem left_exprs2 : ∀ (M : Nat) (es : List Ex),SizeOf.sizeOf es < M → ∀ (left : Int) (A : Option Addr) (c : Nat) (w : World),-1 ≤ left → left ≤ 200000 → ExRow w w.heap.size es A → es.length ≤ maxLen →
 Calls Tryz.prog 24 #[.int .i64 left,.slice A es.length c] w fun e w' => ∃ r : Int,e = .returned (.int .i64 r) ∧ -1 ≤ r ∧ r ≤ left ∧ Below w.heap.size w w':=by
 intro M
 induction M with
 | zero => intro es h;omega
 | succ M ih =>
   intro es hM left A c w h0 h1 hr hn
   obtain ⟨n,hnn⟩ : ∃ n,n = es.length:=⟨_,rfl⟩
   have HH:=Lib.hid (And.intro hr (And.intro ih (And.intro hM hnn)))
   have HB0:=Lib.hid (Below.refl w.heap.size w)
   rw [← hnn] at hn ⊢
   clear hr ih hM hnn
   unfold maxLen at hn
   go_enter Tryz.func24,Tryz.ntmps24
   go_wp2
   go_loopg [0,5] n (fun m lf j wr => ∃ (k : Nat) (r : Int),m = n - k ∧ k ≤ n ∧ j = .int .i64 k ∧ lf = .int .i64 r ∧ -1 ≤ r ∧ r ≤ left ∧ Hid (Below w.heap.size w wr))
   case atStart => exact ⟨0,left,rfl,Nat.zero_le _,rfl,rfl,h0,Int.le_refl _,HB0⟩
   case round =>
    obtain ⟨k,r,rfl,hk,rfl,rfl,hr0,hr1,HI⟩:=hrel
    have hr1b : r ≤ 200000:=by omega
    by_cases hlt : k < n
    ·by_cases hneg : 0 ≤ r
     ·have hki : (k : Int) < n:=by omega
      obtain ⟨⟨k0,n0,s,l⟩,hi⟩ : ∃ x,es[k]? = some x:=⟨es[k]'(by rw [← HH.out.2.2.2];exact hlt),List.getElem?_eq_getElem _⟩
      obtain ⟨a,A',c',rfl,hab,d0,d1,d2,d3,hs,hll,hrow⟩:=(HH.out.1.stay HI.out (Nat.le_refl _)).at_ hi
      have c3 : wr.cell? ⟨(a.add (k * 4)).block,(a.add (k * 4)).off + 3,none⟩ = some (.slice A' l.length c'):=d3
      have hsz : SizeOf.sizeOf l < M:=by
       have h1:=HH.out.2.2.1
       have h2:=List.sizeOf_lt_of_mem (List.mem_of_getElem? hi)
       have h3 : SizeOf.sizeOf l < SizeOf.sizeOf (Ex.mk k0 n0 s l):=by simp;omega
       omega
      have HC:=Lib.hid (HH.out.2.1 l hsz (r - 1) A' c' wr (by omega) (by omega) (hrow.more HI.out.size) hll)
      have HLT:=Lib.hid (And.intro trivial hlt)
      clear d0 d1 d2 d3 hrow hs hll hi hsz
      go_wp2_with (refine HC.out.mono ?_;rintro e w3 ⟨r',rfl,q0,q1,hb⟩;have HB3:=Lib.hid (HI.out.trans (hb.mono HI.out.size));clear hb)
      go_roundg (n - (k + 1))
      case measure => have := HLT.out.2;omega
      case rel => exact ⟨k + 1,r',rfl,by omega,by go_num,rfl,q0,(by omega),HB3⟩
     ·have hki : (k : Int) < n:=by omega
      go_wp2
      go_ret
      exact ⟨r,rfl,hr0,hr1,HI.out⟩
    ·obtain rfl : k = n:=by omega
     go_wp2
     go_ret
     exact ⟨r,rfl,hr0,hr1,HI.out⟩
theorem left_conds2 : ∀ (M : Nat) (cs : List Cn),SizeOf.sizeOf cs < M → ∀ (left : Int) (A : Option Addr) (c : Nat) (w : World),-1 ≤ left → left ≤ 200000 → CnRow w w.heap.size cs A → cs.length ≤ maxLen →
 Calls Tryz.prog 25 #[.int .i64 left,.slice A cs.length c] w fun e w' => ∃ r : Int,e = .returned (.int .i64 r) ∧ -1 ≤ r ∧ r ≤ left ∧ Below w.heap.size w w':=by
 intro M
 induction M with
 | zero => intro cs h;omega
 | succ M ih =>
   intro cs hM left A c w h0 h1 hr hn
   obtain ⟨n,hnn⟩ : ∃ n,n = cs.length:=⟨_,rfl⟩
   have HH:=Lib.hid (And.intro hr (And.intro ih (And.intro hM hnn)))
   have HB0:=Lib.hid (Below.refl w.heap.size w)
   rw [← hnn] at hn ⊢
   clear hr ih hM hnn
   unfold maxLen at hn
   go_enter Tryz.func25,Tryz.ntmps25
   go_wp2
   go_loopg [0,5] n (fun m lf j wr => ∃ (k : Nat) (r : Int),m = n - k ∧ k ≤ n ∧ j = .int .i64 k ∧ lf = .int .i64 r ∧ -1 ≤ r ∧ r ≤ left ∧ Hid (Below w.heap.size w wr))
   case atStart => exact ⟨0,left,rfl,Nat.zero_le _,rfl,rfl,h0,Int.le_refl _,HB0⟩
   case round =>
    obtain ⟨k,r,rfl,hk,rfl,rfl,hr0,hr1,HI⟩:=hrel
    have hr1b : r ≤ 200000:=by omega
    by_cases hlt : k < n
    ·by_cases hneg : 0 ≤ r
     ·have hki : (k : Int) < n:=by omega
      obtain ⟨⟨k0,⟨ak,an,sa,al⟩,⟨bk,bn,sb,bl⟩,l⟩,hi⟩ : ∃ x,cs[k]? = some x:=⟨cs[k]'(by rw [← HH.out.2.2.2];exact hlt),List.getElem?_eq_getElem _⟩
      obtain ⟨a,Aa,Ca,Ab,Cb,Al,Cl,rfl,hab,hc,b1,b2,b3,b4,b5,ra,rb,rl⟩:=(HH.out.1.stay HI.out (Nat.le_refl _)).at_ hi
      have c1 : wr.cell? ⟨(a.add (k * 10)).block,(a.add (k * 10)).off + 1,none⟩ = some (.int .i64 ak):=hc.c1
      have c2 : wr.cell? ⟨(a.add (k * 10)).block,(a.add (k * 10)).off + 2,none⟩ = some (.int .i64 an):=hc.c2
      have c3 : wr.cell? ⟨(a.add (k * 10)).block,(a.add (k * 10)).off + 3,none⟩ = some (.string ⟨sa.toArray⟩):=hc.c3
      have c4 : wr.cell? ⟨(a.add (k * 10)).block,(a.add (k * 10)).off + 4,none⟩ = some (.slice Aa al.length Ca):=hc.c4
      have c5 : wr.cell? ⟨(a.add (k * 10)).block,(a.add (k * 10)).off + 5,none⟩ = some (.int .i64 bk):=hc.c5
      have c6 : wr.cell? ⟨(a.add (k * 10)).block,(a.add (k * 10)).off + 6,none⟩ = some (.int .i64 bn):=hc.c6
      have c7 : wr.cell? ⟨(a.add (k * 10)).block,(a.add (k * 10)).off + 7,none⟩ = some (.string ⟨sb.toArray⟩):=hc.c7
      have c8 : wr.cell? ⟨(a.add (k * 10)).block,(a.add (k * 10)).off + 8,none⟩ = some (.slice Ab bl.length Cb):=hc.c8
      have hablk : (a.add (k * 10)).block < w.heap.size:=by rw [block_adds];exact hab
      have hwr:=HI.out.size
      have hsz : SizeOf.sizeOf l < M:=by
       have h1:=HH.out.2.2.1
       have h2:=List.sizeOf_lt_of_mem (List.mem_of_getElem? hi)
       have h3 : SizeOf.sizeOf l < SizeOf.sizeOf (Cn.mk k0 (.mk ak an sa al) (.mk bk bn sb bl) l):=by simp;omega
       omega
      obtain ⟨PC,hPC⟩ : ∃ PC : Obj,PC = .cells #[.int .i64 ak,.int .i64 an,.string ⟨sa.toArray⟩,.slice Aa al.length Ca,.int .i64 bk,.int .i64 bn,.string ⟨sb.toArray⟩,.slice Ab bl.length Cb] 33:=⟨_,rfl⟩
      have HE : Hid (Calls Tryz.prog 24 #[.int .i64 (r - 1),.slice (some ⟨wr.heap.size,0,none⟩) 2 2] (wr.alloc (.cells #[.int .i64 ak,.int .i64 an,.string ⟨sa.toArray⟩,.slice Aa al.length Ca,.int .i64 bk,.int .i64 bn,.string ⟨sb.toArray⟩,.slice Ab bl.length Cb] 33)).drew fun e w' => ∃ r9 : Int,e = .returned (.int .i64 r9) ∧ -1 ≤ r9 ∧ r9 ≤ r - 1 ∧ Below wr.heap.size wr w'):=Lib.hid (by
       have hba:=(below_alloc wr (.cells #[.int .i64 ak,.int .i64 an,.string ⟨sa.toArray⟩,.slice Aa al.length Ca,.int .i64 bk,.int .i64 bn,.string ⟨sb.toArray⟩,.slice Ab bl.length Cb] 33)).drew
       have hgr:=heap_of_alloc wr (.cells #[.int .i64 ak,.int .i64 an,.string ⟨sa.toArray⟩,.slice Aa al.length Ca,.int .i64 bk,.int .i64 bn,.string ⟨sb.toArray⟩,.slice Ab bl.length Cb] 33)
       refine (left_exprs2 _ [.mk ak an sa al,.mk bk bn sb bl] (Nat.lt_succ_self _) (r - 1) (some ⟨wr.heap.size,0,none⟩) 2 _ (by omega) (by omega) (pair_row (W:=(wr.alloc _).drew) hgr b1 b2 b3 b4 ((ra.stay hba hwr).more (Nat.le_trans hwr hba.size)) ((rb.stay hba hwr).more (Nat.le_trans hwr hba.size))) (show 2 ≤ maxLen by decide)).mono fun e w' ⟨r',he,q0,q1,hb⟩ => ⟨r',he,q0,q1,hba.chain hb⟩)
      have HL:=Lib.hid (And.intro (HH.out.2.1 l hsz) (And.intro rl b5))
      have HLT:=Lib.hid (And.intro trivial (And.intro hlt (And.intro hablk hc)))
      have hw1 : IntKind.i64.wrap (r - 1) = r - 1:=by rw [IntKind.wrap_i64];omega
      clear hc b1 b2 b3 b4 b5 ra rb rl hi hsz hPC PC hablk hwr
      go_wp2
      go_region_held3 (fun W => W.cell? ⟨(a.add (k * 10)).block,(a.add (k * 10)).off + 1,none⟩ = some (.int .i64 ak) ∧ W.cell? ⟨(a.add (k * 10)).block,(a.add (k * 10)).off + 2,none⟩ = some (.int .i64 an) ∧ W.cell? ⟨(a.add (k * 10)).block,(a.add (k * 10)).off + 3,none⟩ = some (.string ⟨sa.toArray⟩) ∧ W.cell? ⟨(a.add (k * 10)).block,(a.add (k * 10)).off + 4,none⟩ = some (.slice Aa al.length Ca) ∧
       W.cell? ⟨(a.add (k * 10)).block,(a.add (k * 10)).off + 5,none⟩ = some (.int .i64 bk) ∧ W.cell? ⟨(a.add (k * 10)).block,(a.add (k * 10)).off + 6,none⟩ = some (.int .i64 bn) ∧ W.cell? ⟨(a.add (k * 10)).block,(a.add (k * 10)).off + 7,none⟩ = some (.string ⟨sb.toArray⟩) ∧ W.cell? ⟨(a.add (k * 10)).block,(a.add (k * 10)).off + 8,none⟩ = some (.slice Ab bl.length Cb))
       (first | go_keep | (trace_state;fail))
       (first
         | (go_at_call 24;refine HE.out.mono ?_;rintro e w3 ⟨r2,rfl,q0,q1,hb⟩;have HB3:=Lib.hid (And.intro (HI.out.chain hb) hb);obtain ⟨g0,g1,g2,g3,g4,g5,g6,g7,g8,g9⟩:=(HLT.out.2.2.2.stay hb (Nat.lt_of_lt_of_le HLT.out.2.2.1 HI.out.size)).flat;clear hb))
      all_goals
       (go_wp2_with (go_at_call 25;refine (HL.out.1 _ _ _ w3 q0 (by omega) ((HL.out.2.1.stay HB3.out.2 HI.out.size).more (Nat.le_trans HI.out.size HB3.out.2.size)) HL.out.2.2).mono ?_;rintro e w4 ⟨r3,rfl,p0,p1,hb4⟩;have HB4:=Lib.hid (HB3.out.1.chain hb4);clear hb4)
        go_roundg (n - (k + 1))
        case measure => have := HLT.out.2.1;omega
        case rel => exact ⟨k + 1,r3,rfl,(by have := HLT.out.2.1;omega),by go_num,rfl,p0,(by omega),HB4⟩)
     ·have hki : (k : Int) < n:=by omega
      go_wp2
      go_ret
      exact ⟨r,rfl,hr0,hr1,HI.out⟩
    ·obtain rfl : k = n:=by omega
     go_wp2
     go_ret
     exact ⟨r,rfl,hr0,hr1,HI.out⟩
theorem left_formulas2 (fs : List Fm) (left : Int) (A : Option Addr) (c : Nat) (w : World) (h0 : -1 ≤ left) (h1 : left ≤ 200000) (hr : FmRow w w.heap.size fs A) (hn : fs.length ≤ maxLen) :
 Calls Tryz.prog 26 #[.int .i64 left,.slice A fs.length c] w fun e w' => ∃ r : Int,e = .returned (.int .i64 r) ∧ -1 ≤ r ∧ r ≤ left ∧ Below w.heap.size w w':=by
 obtain ⟨n,hnn⟩ : ∃ n,n = fs.length:=⟨_,rfl⟩
 have HH:=Lib.hid (And.intro hr hnn)
 have HB0:=Lib.hid (Below.refl w.heap.size w)
 rw [← hnn] at hn ⊢
 clear hr hnn
 unfold maxLen at hn
 go_enter Tryz.func26,Tryz.ntmps26
 go_wp2
 go_loopg [0,5] n (fun m lf j wr => ∃ (k : Nat) (r : Int),m = n - k ∧ k ≤ n ∧ j = .int .i64 k ∧ lf = .int .i64 r ∧ -1 ≤ r ∧ r ≤ left ∧ Hid (Below w.heap.size w wr))
 case atStart => exact ⟨0,left,rfl,Nat.zero_le _,rfl,rfl,h0,Int.le_refl _,HB0⟩
 case round =>
  obtain ⟨k,r,rfl,hk,rfl,rfl,hr0,hr1,HI⟩:=hrel
  have hr1b : r ≤ 200000:=by omega
  by_cases hlt : k < n
  ·by_cases hneg : 0 ≤ r
   ·have hki : (k : Int) < n:=by omega
    obtain ⟨⟨ps,ats,cls⟩,hi⟩ : ∃ x,fs[k]? = some x:=⟨fs[k]'(by rw [← HH.out.2];exact hlt),List.getElem?_eq_getElem _⟩
    obtain ⟨a,rfl,hab,Ap,cp,Aa,ca,Ac,cc,d0,d1,d2,⟨b0,b1,b2⟩,rp,ra,rc⟩:=HH.out.1.at_ hi
    simp only at d0 d1 d2 b0 b1 b2 rp ra rc
    obtain ⟨na,hna⟩ : ∃ na,na = ats.length:=⟨_,rfl⟩
    obtain ⟨nc,hnc⟩ : ∃ nc,nc = cls.length:=⟨_,rfl⟩
    rw [← hna] at d1 b1
    rw [← hnc] at d2 b2
    have HF : Hid (∀ W,Below w.heap.size w W → W.cell? ⟨(a.add (k * 3)).block,(a.add (k * 3)).off + 1,none⟩ = some (.slice Aa na ca) ∧ W.cell? ⟨(a.add (k * 3)).block,(a.add (k * 3)).off + 2,none⟩ = some (.slice Ac nc cc)):=Lib.hid (fun W hb =>
     ⟨(hb.cell (p:=(a.add (k * 3)).add 1) (by rw [block_adds,block_adds];exact hab)).trans d1,(hb.cell (p:=(a.add (k * 3)).add 2) (by rw [block_adds,block_adds];exact hab)).trans d2⟩)
    have HR:=Lib.hid (And.intro ra (And.intro rc (And.intro hna hnc)))
    have HLT:=Lib.hid (And.intro trivial hlt)
    clear d0 d1 d2 b0 rp ra rc hi hna hnc
    unfold maxLen at b1 b2
    obtain ⟨f1,f2⟩:=HF.out _ HI.out
    go_wp2
    go_loopg [0,6] na (fun m lf j wr => ∃ (q : Nat) (r1 : Int),m = na - q ∧ q ≤ na ∧ j = .int .i64 q ∧ lf = .int .i64 r1 ∧ -1 ≤ r1 ∧ r1 ≤ left ∧ Hid (Below w.heap.size w wr))
    case atStart => exact ⟨0,r - 1,rfl,Nat.zero_le _,rfl,(by first | rfl | go_num),by omega,by omega,HI⟩
    case round =>
     obtain ⟨q,r1,rfl,hq,rfl,rfl,hr2,hr3,HJ⟩:=hrel
     have hr3b : r1 ≤ 200000:=by omega
     clear f1 f2
     obtain ⟨f1,f2⟩:=HF.out _ HJ.out
     by_cases hqt : q < na
     ·have hqi : (q : Int) < na:=by omega
      obtain ⟨⟨k0,xa,xb⟩,hx⟩ : ∃ x,ats[q]? = some x:=⟨ats[q]'(by rw [← HR.out.2.2.1];exact hqt),List.getElem?_eq_getElem _⟩
      obtain ⟨a2,rfl,hab2,ak,an,sa,al,bk,bn,sb,bl,Ba,ca2,Bb,cb2,rfl,rfl,hc,⟨p1,p2,p3,p4⟩,ra,rb⟩:=HR.out.1.at_ hx
      simp only at hc
      have habk : (a2.add (q * 9)).block < w.heap.size:=by rw [block_adds];exact hab2
      have hcw:=hc.stay HJ.out habk
      obtain ⟨e0,e1,e2,e3,e4,e5,e6,e7,e8⟩:=hcw.flat
      have hwr:=HJ.out.size
      have HE : Hid (Calls Tryz.prog 24 #[.int .i64 r1,.slice (some ⟨wr.heap.size,0,none⟩) 2 2] (wr.alloc (.cells #[.int .i64 ak,.int .i64 an,.string ⟨sa.toArray⟩,.slice Ba al.length ca2,.int .i64 bk,.int .i64 bn,.string ⟨sb.toArray⟩,.slice Bb bl.length cb2] 33)).drew fun e w' => ∃ r9 : Int,e = .returned (.int .i64 r9) ∧ -1 ≤ r9 ∧ r9 ≤ r1 ∧ Below wr.heap.size wr w'):=Lib.hid (by
       have hba:=(below_alloc wr (.cells #[.int .i64 ak,.int .i64 an,.string ⟨sa.toArray⟩,.slice Ba al.length ca2,.int .i64 bk,.int .i64 bn,.string ⟨sb.toArray⟩,.slice Bb bl.length cb2] 33)).drew
       have hgr:=heap_of_alloc wr (.cells #[.int .i64 ak,.int .i64 an,.string ⟨sa.toArray⟩,.slice Ba al.length ca2,.int .i64 bk,.int .i64 bn,.string ⟨sb.toArray⟩,.slice Bb bl.length cb2] 33)
       refine (left_exprs2 _ [.mk ak an sa al,.mk bk bn sb bl] (Nat.lt_succ_self _) r1 (some ⟨wr.heap.size,0,none⟩) 2 _ hr2 (by omega) (pair_row (W:=(wr.alloc _).drew) hgr p1 p2 p3 p4 (((ra.stay HJ.out (Nat.le_refl _)).stay hba hwr).more (Nat.le_trans hwr hba.size)) (((rb.stay HJ.out (Nat.le_refl _)).stay hba hwr).more (Nat.le_trans hwr hba.size))) (show 2 ≤ maxLen by decide)).mono fun e w' ⟨r',he,q0,q1,hb⟩ => ⟨r',he,q0,q1,hba.chain hb⟩)
      have HQT:=Lib.hid (And.intro trivial (And.intro hqt (And.intro habk hc)))
      clear hc hcw p1 p2 p3 p4 ra rb hx habk hwr f2 e0
      go_wp2
      go_region_held3 (fun W => W.cell? ⟨(a.add (k * 3)).block,(a.add (k * 3)).off + 1,none⟩ = some (.slice (some a2) na ca) ∧ W.cell? ⟨(a2.add (q * 9)).block,(a2.add (q * 9)).off + 1,none⟩ = some (.int .i64 ak) ∧ W.cell? ⟨(a2.add (q * 9)).block,(a2.add (q * 9)).off + 2,none⟩ = some (.int .i64 an) ∧ W.cell? ⟨(a2.add (q * 9)).block,(a2.add (q * 9)).off + 3,none⟩ = some (.string ⟨sa.toArray⟩) ∧ W.cell? ⟨(a2.add (q * 9)).block,(a2.add (q * 9)).off + 4,none⟩ = some (.slice Ba al.length ca2) ∧
       W.cell? ⟨(a2.add (q * 9)).block,(a2.add (q * 9)).off + 5,none⟩ = some (.int .i64 bk) ∧ W.cell? ⟨(a2.add (q * 9)).block,(a2.add (q * 9)).off + 6,none⟩ = some (.int .i64 bn) ∧ W.cell? ⟨(a2.add (q * 9)).block,(a2.add (q * 9)).off + 7,none⟩ = some (.string ⟨sb.toArray⟩) ∧ W.cell? ⟨(a2.add (q * 9)).block,(a2.add (q * 9)).off + 8,none⟩ = some (.slice Bb bl.length cb2))
       (first | go_keep | (trace_state;fail))
       (first
         | (go_at_call 24;refine HE.out.mono ?_;rintro e w3 ⟨r2,rfl,q0,q1,hb⟩;have HB3:=Lib.hid (HJ.out.chain hb);obtain ⟨g0,g1,g2,g3,g4,g5,g6,g7,g8⟩:=(HQT.out.2.2.2.stay HB3.out HQT.out.2.2.1).flat;obtain ⟨y1,y2⟩:=HF.out _ HB3.out;clear hb))
      all_goals
       (go_wp2
        go_roundg (na - (q + 1))
        case measure => have := HQT.out.2.1;omega
        case rel => exact ⟨q + 1,r2,rfl,(by have := HQT.out.2.1;omega),by go_num,rfl,q0,(by omega),HB3⟩)
     ·obtain rfl : q = na:=by omega
      go_wp2
      go_loopg [0,7] nc (fun m lf j wr => ∃ (t : Nat) (r4 : Int),m = nc - t ∧ t ≤ nc ∧ j = .int .i64 t ∧ lf = .int .i64 r4 ∧ -1 ≤ r4 ∧ r4 ≤ left ∧ Hid (Below w.heap.size w wr))
      case atStart => exact ⟨0,r1,rfl,Nat.zero_le _,rfl,rfl,hr2,hr3,HJ⟩
      case round =>
       obtain ⟨t,r4,rfl,ht,rfl,rfl,hr4,hr5,HK⟩:=hrel
       have hr5b : r4 ≤ 200000:=by omega
       clear f1 f2
       obtain ⟨f1,f2⟩:=HF.out _ HK.out
       by_cases htt : t < nc
       ·have hti : (t : Int) < nc:=by omega
        obtain ⟨⟨k0,nm,l⟩,hx⟩ : ∃ x,cls[t]? = some x:=⟨cls[t]'(by rw [← HR.out.2.2.2];exact htt),List.getElem?_eq_getElem _⟩
        obtain ⟨a3,rfl,hab3,Al,cl,d0,d1,d2,hnm,hll,rl⟩:=HR.out.2.1.at_ hx
        simp only at d0 d1 d2 hnm hll rl
        have c2 : wr.cell? ⟨(a3.add (t * 3)).block,(a3.add (t * 3)).off + 2,none⟩ = some (.slice Al l.length cl):=(HK.out.cell (p:=(a3.add (t * 3)).add 2) (by rw [block_adds,block_adds];exact hab3)).trans d2
        have HC:=Lib.hid (left_exprs2 _ l (Nat.lt_succ_self _) r4 Al cl wr hr4 (by omega) ((rl.stay HK.out (Nat.le_refl _)).more HK.out.size) hll)
        have HTT:=Lib.hid (And.intro trivial htt)
        clear d0 d1 d2 hnm hll rl hx
        go_wp2_with (go_at_call 24;refine HC.out.mono ?_;rintro e w5 ⟨r6,rfl,q0,q1,hb⟩;have HB5:=Lib.hid (HK.out.chain hb);clear hb)
        go_roundg (nc - (t + 1))
        case measure => have := HTT.out.2;omega
        case rel => exact ⟨t + 1,r6,rfl,(by have := HTT.out.2;omega),by go_num,rfl,q0,(by omega),HB5⟩
       ·obtain rfl : t = nc:=by omega
        go_wp2
        go_roundg (n - (k + 1))
        case measure => have := HLT.out.2;omega
        case rel => exact ⟨k + 1,r4,rfl,(by have := HLT.out.2;omega),by go_num,rfl,hr4,hr5,HK⟩
   ·have hki : (k : Int) < n:=by omega
    go_wp2
    go_ret
    exact ⟨r,rfl,hr0,hr1,HI.out⟩
  ·obtain rfl : k = n:=by omega
   go_wp2
   go_ret
   exact ⟨r,rfl,hr0,hr1,HI.out⟩
end Go.Proofs.YtnkpgpmaiicdeaaGreatDoor
namespace Go.Proofs.YtnkpgpmaiicdeaaGreatDoor
set_option maxRecDepth 100000
set_option maxHeartbeats 8000000
open Go.RowKit
theorem fl_snoc : ∀ {k : Nat} {ss : List St} {s : St},ss[k]? = some s → ∀ {g : List St},FlL (ss.take (k + 1)) g → ∃ f fb fo,FlL (ss.take k) f ∧ FlL s.body fb ∧ FlL s.els fo ∧ g.length = f.length + 1 + fb.length + fo.length
 | 0,x :: l,s,hi,g,hg => by
   obtain rfl : x = s:=Option.some.inj hi
   rw [List.take_succ_cons,List.take_zero] at hg
   cases hg with
   | cons _ _ fb fo fl h1 h2 h3 =>
     cases h3
     exact ⟨[],fb,fo,.nil,h1,h2,by simp only [List.length_cons,List.length_append,List.length_nil];omega⟩
 | k + 1,x :: l,s,hi,g,hg => by
   rw [List.take_succ_cons] at hg
   cases hg with
   | cons _ _ fb fo fl h1 h2 h3 =>
     obtain ⟨f,f2,f3,g1,g2,g3,hl⟩:=fl_snoc (k:=k) (ss:=l) hi h3
     refine ⟨_,f2,f3,by rw [List.take_succ_cons];exact .cons _ _ _ _ _ h1 h2 g1,g2,g3,?_⟩
     simp only [List.length_cons,List.length_append]
     omega
 | k,[],s,hi,g,hg => by simp at hi
theorem left_stmts2 : ∀ (M : Nat) (ss : List St),SizeOf.sizeOf ss < M → ∀ (left : Int) (A : Option Addr) (c : Nat) (w : World),-1 ≤ left → left ≤ 200000 → StRow w w.heap.size ss A → ss.length ≤ maxLen →
 Calls Tryz.prog 6 #[.int .i64 left,.slice A ss.length c] w fun e w' => ∃ r : Int,e = .returned (.int .i64 r) ∧ -1 ≤ r ∧ r ≤ left ∧ (∀ f,FlL ss f → 0 ≤ r → r + (f.length : Int) ≤ left) ∧ Below w.heap.size w w':=by
 intro M
 induction M with
 | zero => intro ss h;omega
 | succ M ih =>
   intro ss hM left A c w h0 h1 hr hn
   obtain ⟨n,hnn⟩ : ∃ n,n = ss.length:=⟨_,rfl⟩
   have HH:=Lib.hid (And.intro hr (And.intro ih (And.intro hM hnn)))
   have HB0:=Lib.hid (Below.refl w.heap.size w)
   rw [← hnn] at hn ⊢
   clear hr ih hM hnn
   unfold maxLen at hn
   go_enter Tryz.func6,Tryz.ntmps6
   go_wp2
   go_loopg [0,5] n (fun m lf j wr => ∃ (k : Nat) (r : Int),m = n - k ∧ k ≤ n ∧ j = .int .i64 k ∧ lf = .int .i64 r ∧ -1 ≤ r ∧ r ≤ left ∧ Hid (Below w.heap.size w wr ∧ ∀ f,FlL (ss.take k) f → 0 ≤ r → r + (f.length : Int) ≤ left))
   case atStart => exact ⟨0,left,rfl,Nat.zero_le _,rfl,rfl,h0,Int.le_refl _,Lib.hid ⟨HB0.out,fun f hf _ => by cases hf;simp⟩⟩
   case round =>
    obtain ⟨k,r,rfl,hk,rfl,rfl,hr0,hr1,HI2⟩:=hrel
    have HI:=Lib.hid HI2.out.1
    have hr1b : r ≤ 200000:=by omega
    by_cases hlt : k < n
    ·by_cases hneg : 0 ≤ r
     ·have hki : (k : Int) < n:=by omega
      obtain ⟨s,hi⟩ : ∃ x,ss[k]? = some x:=⟨ss[k]'(by rw [← HH.out.2.2.2];exact hlt),List.getElem?_eq_getElem _⟩
      obtain ⟨a,d,rfl,hab,hc,hown,hb1,hb2⟩:=HH.out.1.at_ hi
      obtain ⟨k0,ln,co,nm,fd,fr,⟨ek,en,es,el⟩,⟨ck,⟨ak,an,sa,al⟩,⟨bk,bn,sb,bl⟩,l⟩,cl,iv,b,o⟩:=s
      obtain ⟨⟨_,_,_,m3,m4,m5,m6,m7,m8,m9,m10,m11,m12,m13⟩,re,ra,rb,rl,rc,ri⟩:=hown
      have hsz : SizeOf.sizeOf b < M ∧ SizeOf.sizeOf o < M:=by
       have h1:=HH.out.2.2.1
       have h2:=List.sizeOf_lt_of_mem (List.mem_of_getElem? hi)
       have h3 : SizeOf.sizeOf b < SizeOf.sizeOf (St.mk k0 ln co nm fd fr (.mk ek en es el) (.mk ck (.mk ak an sa al) (.mk bk bn sb bl) l) cl iv b o):=by simp;omega
       have h4 : SizeOf.sizeOf o < SizeOf.sizeOf (St.mk k0 ln co nm fd fr (.mk ek en es el) (.mk ck (.mk ak an sa al) (.mk bk bn sb bl) l) cl iv b o):=by simp;omega
       omega
      have habk : (a.add (k * 24)).block < w.heap.size:=by rw [block_adds];exact hab
      obtain ⟨nc,hnc⟩ : ∃ nc,nc = cl.length:=⟨_,rfl⟩
      have HF : Hid (∀ W,Below w.heap.size w W →
       (W.cell? ⟨(a.add (k * 24)).block,(a.add (k * 24)).off + 6,none⟩ = some (.int .i64 ek) ∧ W.cell? ⟨(a.add (k * 24)).block,(a.add (k * 24)).off + 7,none⟩ = some (.int .i64 en) ∧ W.cell? ⟨(a.add (k * 24)).block,(a.add (k * 24)).off + 8,none⟩ = some (.string ⟨es.toArray⟩) ∧ W.cell? ⟨(a.add (k * 24)).block,(a.add (k * 24)).off + 9,none⟩ = some (.slice d.e el.length d.ne)) ∧
       (W.cell? ⟨(a.add (k * 24)).block,(a.add (k * 24)).off + 10,none⟩ = some (.int .i64 ck) ∧ W.cell? ⟨(a.add (k * 24)).block,(a.add (k * 24)).off + 11,none⟩ = some (.int .i64 ak) ∧ W.cell? ⟨(a.add (k * 24)).block,(a.add (k * 24)).off + 12,none⟩ = some (.int .i64 an) ∧ W.cell? ⟨(a.add (k * 24)).block,(a.add (k * 24)).off + 13,none⟩ = some (.string ⟨sa.toArray⟩) ∧ W.cell? ⟨(a.add (k * 24)).block,(a.add (k * 24)).off + 14,none⟩ = some (.slice d.a al.length d.na) ∧
         W.cell? ⟨(a.add (k * 24)).block,(a.add (k * 24)).off + 15,none⟩ = some (.int .i64 bk) ∧ W.cell? ⟨(a.add (k * 24)).block,(a.add (k * 24)).off + 16,none⟩ = some (.int .i64 bn) ∧ W.cell? ⟨(a.add (k * 24)).block,(a.add (k * 24)).off + 17,none⟩ = some (.string ⟨sb.toArray⟩) ∧ W.cell? ⟨(a.add (k * 24)).block,(a.add (k * 24)).off + 18,none⟩ = some (.slice d.b bl.length d.nb) ∧ W.cell? ⟨(a.add (k * 24)).block,(a.add (k * 24)).off + 19,none⟩ = some (.slice d.l l.length d.nl)) ∧
       W.cell? ⟨(a.add (k * 24)).block,(a.add (k * 24)).off + 20,none⟩ = some (.slice d.c nc d.nc) ∧ W.cell? ⟨(a.add (k * 24)).block,(a.add (k * 24)).off + 21,none⟩ = some (.slice d.i iv.length d.ni) ∧ W.cell? ⟨(a.add (k * 24)).block,(a.add (k * 24)).off + 22,none⟩ = some (.slice d.s b.length d.ns) ∧ W.cell? ⟨(a.add (k * 24)).block,(a.add (k * 24)).off + 23,none⟩ = some (.slice d.t o.length d.nt)):=Lib.hid (fun W hb => by
       rw [hnc]
       have e : ∀ j v,(stCs d (St.mk k0 ln co nm fd fr (.mk ek en es el) (.mk ck (.mk ak an sa al) (.mk bk bn sb bl) l) cl iv b o))[j]? = some v → W.cell? ((a.add (k * 24)).add j) = some v:=fun j v hv => (hb.cell (by rw [block_adds];exact habk)).trans (hc j v hv)
       exact ⟨⟨e 6 _ rfl,e 7 _ rfl,e 8 _ rfl,e 9 _ rfl⟩,⟨e 10 _ rfl,e 11 _ rfl,e 12 _ rfl,e 13 _ rfl,e 14 _ rfl,e 15 _ rfl,e 16 _ rfl,e 17 _ rfl,e 18 _ rfl,e 19 _ rfl⟩,e 20 _ rfl,e 21 _ rfl,e 22 _ rfl,e 23 _ rfl⟩)
      have HE : Hid (∀ (left : Int) W,Below w.heap.size w W → -1 ≤ left → left ≤ 200000 → Calls Tryz.prog 24 #[.int .i64 left,.slice (some ⟨W.heap.size,0,none⟩) 1 1] (W.alloc (.cells #[.int .i64 ek,.int .i64 en,.string ⟨es.toArray⟩,.slice d.e el.length d.ne] 33)) fun e w' => ∃ r : Int,e = .returned (.int .i64 r) ∧ -1 ≤ r ∧ r ≤ left ∧ Below W.heap.size W w'):=Lib.hid (fun left W hb g0 g1 => by
       have hba:=below_alloc W (.cells #[.int .i64 ek,.int .i64 en,.string ⟨es.toArray⟩,.slice d.e el.length d.ne] 33)
       exact (left_exprs2 _ [.mk ek en es el] (Nat.lt_succ_self _) left (some ⟨W.heap.size,0,none⟩) 1 _ g0 g1 (one_expr (heap_of_alloc W _) m3 m4 (re.on (hb.chain hba))) (show 1 ≤ maxLen by decide)).mono fun e w' ⟨r',he,q0,q1,hb2⟩ => ⟨r',he,q0,q1,hba.chain hb2⟩)
      have HC : Hid (∀ (left : Int) W,Below w.heap.size w W → -1 ≤ left → left ≤ 200000 → Calls Tryz.prog 25 #[.int .i64 left,.slice (some ⟨W.heap.size,0,none⟩) 1 1] (W.alloc (condC2 ck ak an ⟨sa.toArray⟩ (.slice d.a al.length d.na) bk bn ⟨sb.toArray⟩ (.slice d.b bl.length d.nb) (.slice d.l l.length d.nl))) fun e w' => ∃ r : Int,e = .returned (.int .i64 r) ∧ -1 ≤ r ∧ r ≤ left ∧ Below W.heap.size W w'):=Lib.hid (fun left W hb g0 g1 => by
       have hba:=below_alloc W (condC2 ck ak an ⟨sa.toArray⟩ (.slice d.a al.length d.na) bk bn ⟨sb.toArray⟩ (.slice d.b bl.length d.nb) (.slice d.l l.length d.nl))
       exact (left_conds2 _ [.mk ck (.mk ak an sa al) (.mk bk bn sb bl) l] (Nat.lt_succ_self _) left (some ⟨W.heap.size,0,none⟩) 1 _ g0 g1 (one_condT (heap_of_alloc W _) m5 m6 m7 m8 m9 (ra.on (hb.chain hba)) (rb.on (hb.chain hba)) (rl.on (hb.chain hba))) (show 1 ≤ maxLen by decide)).mono fun e w' ⟨r',he,q0,q1,hb2⟩ => ⟨r',he,q0,q1,hba.chain hb2⟩)
      have HG : Hid (∀ (left : Int) W,Below w.heap.size w W → -1 ≤ left → left ≤ 200000 → Calls Tryz.prog 26 #[.int .i64 left,.slice d.i iv.length d.ni] W fun e w' => ∃ r : Int,e = .returned (.int .i64 r) ∧ -1 ≤ r ∧ r ≤ left ∧ Below W.heap.size W w'):=Lib.hid (fun left W hb g0 g1 => left_formulas2 iv left d.i d.ni W g0 g1 (ri.on fm_keeps hb) m11)
      have HS1 : Hid (∀ (left : Int) W,Below w.heap.size w W → -1 ≤ left → left ≤ 200000 → Calls Tryz.prog 6 #[.int .i64 left,.slice d.s b.length d.ns] W fun e w' => ∃ r : Int,e = .returned (.int .i64 r) ∧ -1 ≤ r ∧ r ≤ left ∧ (∀ f,FlL b f → 0 ≤ r → r + (f.length : Int) ≤ left) ∧ Below W.heap.size W w'):=Lib.hid (fun left W hb g0 g1 => HH.out.2.1 b hsz.1 left d.s d.ns W g0 g1 (hb1.on hb) m12)
      have HS2 : Hid (∀ (left : Int) W,Below w.heap.size w W → -1 ≤ left → left ≤ 200000 → Calls Tryz.prog 6 #[.int .i64 left,.slice d.t o.length d.nt] W fun e w' => ∃ r : Int,e = .returned (.int .i64 r) ∧ -1 ≤ r ∧ r ≤ left ∧ (∀ f,FlL o f → 0 ≤ r → r + (f.length : Int) ≤ left) ∧ Below W.heap.size W w'):=Lib.hid (fun left W hb g0 g1 => HH.out.2.1 o hsz.2 left d.t d.nt W g0 g1 (hb2.on hb) m13)
      have HR:=Lib.hid (And.intro rc (And.intro hnc (And.intro trivial hlt)))
      have HX:=Lib.hid hi
      rw [← hnc] at m10
      unfold maxLen at m3 m4 m5 m6 m7 m8 m9 m10 m11 m12 m13
      generalize el.length = n4 at *
      generalize al.length = n6 at *
      generalize bl.length = n8 at *
      generalize l.length = n9 at *
      generalize iv.length = n11 at *
      generalize b.length = n12 at *
      generalize o.length = n13 at *
      obtain ⟨⟨y6,y7,y8,y9⟩,_⟩:=HF.out _ HI.out
      clear hc re ra rb rl rc ri hi hsz hb1 hb2 hnc habk
      go_wp2_with (first
       | (go_at_call 24;refine (HE.out _ _ HI.out (by omega) (by omega)).mono ?_;rintro e w3 ⟨r3,rfl,p0,p1,hb3⟩;have HB3:=Lib.hid (HI.out.chain hb3);clear hb3;obtain ⟨_,⟨z10,z11,z12,z13,z14,z15,z16,z17,z18,z19⟩,_⟩:=HF.out _ HB3.out)
       | (go_at_call 25;refine (HC.out _ _ HB3.out p0 (by omega)).mono ?_;rintro e w4 ⟨r4,rfl,p2,p3,hb4⟩;have HB4:=Lib.hid (HB3.out.chain hb4);clear hb4;obtain ⟨_,_,_,x21,_⟩:=HF.out _ HB4.out)
       | (go_at_call 26;refine (HG.out _ _ HB4.out p2 (by omega)).mono ?_;rintro e w5 ⟨r5,rfl,p4,p5,hb5⟩;have HB5:=Lib.hid (HB4.out.chain hb5);clear hb5))
      go_loopg [0,6] nc (fun m lf j wr2 => ∃ (q : Nat) (r1 : Int),m = nc - q ∧ q ≤ nc ∧ j = .int .i64 q ∧ lf = .int .i64 r1 ∧ -1 ≤ r1 ∧ r1 ≤ r5 ∧ Hid (Below w.heap.size w wr2))
      case atStart => exact ⟨0,r5,rfl,Nat.zero_le _,rfl,rfl,p4,Int.le_refl _,HB5⟩
      case round =>
       obtain ⟨q,r1,rfl,hq,rfl,rfl,hr2,hr3,HJ⟩:=hrel
       obtain ⟨_,_,x20,_⟩:=HF.out _ HJ.out
       by_cases hqt : q < nc
       ·have hqi : (q : Int) < nc:=by omega
        obtain ⟨⟨xr,xp,xl⟩,hx⟩ : ∃ x,cl[q]? = some x:=⟨cl[q]'(by rw [← HR.out.2.1];exact hqt),List.getElem?_eq_getElem _⟩
        obtain ⟨a3,ha3,hab3,Al,cal,e0,e1,e2,hxr,hxp,hll,rxl⟩:=HR.out.1.at_ hx
        simp only at e0 e1 e2 hxr hxp hll rxl
        rw [ha3] at x20
        have c2 : wr.cell? ⟨(a3.add (q * 3)).block,(a3.add (q * 3)).off + 2,none⟩ = some (.slice Al xl.length cal):=(HJ.out.cell (p:=(a3.add (q * 3)).add 2) (by rw [block_adds,block_adds];exact hab3)).trans e2
        have HK:=Lib.hid (left_exprs2 _ xl (Nat.lt_succ_self _) r1 Al cal wr hr2 (by omega) (rxl.on HJ.out) hll)
        have HQT:=Lib.hid (And.intro trivial hqt)
        clear e0 e1 e2 hxr hxp hll rxl hx ha3
        go_wp2_with (go_at_call 24;refine HK.out.mono ?_;rintro e w6 ⟨r6,rfl,q0,q1,hb⟩;have HB6:=Lib.hid (HJ.out.chain hb);clear hb)
        go_roundg (nc - (q + 1))
        case measure => have := HQT.out.2;omega
        case rel => exact ⟨q + 1,r6,rfl,(by have := HQT.out.2;omega),by go_num,rfl,q0,(by omega),HB6⟩
       ·obtain rfl : q = nc:=by omega
        obtain ⟨_,_,_,_,x22,_⟩:=HF.out _ HJ.out
        go_wp2_with (first
         | (go_at_call 6;with_reducible refine (HS1.out _ _ HJ.out hr2 (by omega)).mono ?_;rintro e w6 ⟨r6,rfl,p6,p7,pf6,hb6⟩;have HF6:=Lib.hid pf6;clear pf6;have HB6:=Lib.hid (HJ.out.chain hb6);clear hb6;obtain ⟨_,_,_,_,_,x23⟩:=HF.out _ HB6.out)
         | (go_at_call 6;refine (HS2.out _ _ HB6.out p6 (by omega)).mono ?_;rintro e w7 ⟨r7,rfl,p8,p9,pf7,hb7⟩;have HF7:=Lib.hid pf7;clear pf7;have HB7:=Lib.hid (HB6.out.chain hb7);clear hb7))
        go_roundg (n - (k + 1))
        case measure => have := HR.out.2.2.2;omega
        case rel => exact ⟨k + 1,r7,rfl,(by have := HR.out.2.2.2;omega),by go_num,rfl,p8,(by omega),Lib.hid ⟨HB7.out,fun f hf hz => by
         obtain ⟨f1,f2,f3,g1,g2,g3,hl⟩:=fl_snoc (HX.out) hf
         have y1:=HI2.out.2 f1 g1 (by omega)
         have y2:=HF6.out f2 g2 (by omega)
         have y3:=HF7.out f3 g3 hz
         rw [hl]
         push_cast
         omega⟩⟩
     ·have hki : (k : Int) < n:=by omega
      go_wp2
      go_ret
      exact ⟨r,rfl,hr0,hr1,(fun f hf hz => by omega),HI.out⟩
    ·obtain rfl : k = n:=by omega
     go_wp2
     go_ret
     exact ⟨r,rfl,hr0,hr1,(fun f hf hz => HI2.out.2 f (by rw [List.take_of_length_le (by rw [HH.out.2.2.2];exact Nat.le_refl _)];exact hf) hz),HI.out⟩
end Go.Proofs.YtnkpgpmaiicdeaaGreatDoor
namespace Go.Proofs.YtnkpgpmaiicdeaaGreatDoor
set_option maxRecDepth 100000
set_option maxHeartbeats 20000000
open Go.RowKit
abbrev LeftOk2 (e : Ending) (q : Int) (B : Nat) (w w' : World) : Prop:=∃ r : Int,e = .returned (.int .i64 r) ∧ -1 ≤ r ∧ r ≤ q ∧ Below B w w'
theorem left_program2 (p : Pg) (d : GAd) (left : Int) (w : World) (h0 : -1 ≤ left) (h1 : left ≤ 200000) (hp : PgOwn w w.heap.size d p) :
 Calls Tryz.prog 11 #[.int .i64 left,progV d p] w fun e w' => ∃ r : Int,e = .returned (.int .i64 r) ∧ -1 ≤ r ∧ r ≤ left ∧ (∀ F : Pr → List St,(∀ x ∈ p.xs,FlL x.bd (F x)) → 0 ≤ r → r + (((p.xs.map fun x => (F x).length).sum : Nat) : Int) ≤ left) ∧ Below w.heap.size w w':=by
 obtain ⟨rs,gs,ks,ds,ms,xs⟩:=p
 obtain ⟨A0,A1,A2,A3,A4,A5,c0,c1,c2,c3,c4,c5⟩:=d
 obtain ⟨⟨m1,m2,m3,m4,m5,m6⟩,r1,r2,r3,r4,r5,r6⟩:=hp
 simp only at m1 m2 m3 m4 m5 m6 r1 r2 r3 r4 r5 r6
 obtain ⟨n0,hn0⟩ : ∃ n,n = rs.length:=⟨_,rfl⟩
 obtain ⟨n1,hn1⟩ : ∃ n,n = gs.length:=⟨_,rfl⟩
 obtain ⟨n2,hn2⟩ : ∃ n,n = ks.length:=⟨_,rfl⟩
 obtain ⟨n3,hn3⟩ : ∃ n,n = ds.length:=⟨_,rfl⟩
 obtain ⟨n4,hn4⟩ : ∃ n,n = ms.length:=⟨_,rfl⟩
 obtain ⟨n5,hn5⟩ : ∃ n,n = xs.length:=⟨_,rfl⟩
 show Calls Tryz.prog 11 #[.int .i64 left,.agg #[.slice A0 rs.length c0,.slice A1 gs.length c1,.slice A2 ks.length c2,.slice A3 ds.length c3,.slice A4 ms.length c4,.slice A5 xs.length c5]] w _
 rw [← hn0,← hn1,← hn2,← hn3,← hn4,← hn5]
 rw [← hn2] at m3
 rw [← hn3] at m4
 rw [← hn4] at m5
 rw [← hn5] at m6
 have HR2:=Lib.hid (And.intro r3 hn2)
 have HR3:=Lib.hid (And.intro r4 hn3)
 have HR4:=Lib.hid (And.intro r5 hn4)
 have HR5:=Lib.hid (And.intro r6 hn5)
 obtain ⟨W1,hW1⟩ : ∃ W1,W1 = w.alloc (.cells #[.slice A0 n0 c0,.slice A1 n1 c1,.slice A2 n2 c2,.slice A3 n3 c3,.slice A4 n4 c4,.slice A5 n5 c5] 53):=⟨_,rfl⟩
 have HB : Hid (Below w.heap.size w W1):=Lib.hid (by rw [hW1];exact below_alloc w _)
 have q2:=heap_of_alloc w (.cells #[.slice A0 n0 c0,.slice A1 n1 c1,.slice A2 n2 c2,.slice A3 n3 c3,.slice A4 n4 c4,.slice A5 n5 c5] 53)
 rw [← hW1] at q2
 have HF : Hid (∀ W,Below W1.heap.size W1 W → W.cell? ⟨w.heap.size,2,none⟩ = some (.slice A2 n2 c2) ∧ W.cell? ⟨w.heap.size,3,none⟩ = some (.slice A3 n3 c3) ∧ W.cell? ⟨w.heap.size,4,none⟩ = some (.slice A4 n4 c4) ∧ W.cell? ⟨w.heap.size,5,none⟩ = some (.slice A5 n5 c5)) :=
  Lib.hid (fun W hb => ⟨cell_of_block (kept_box hb q2) 2 rfl,cell_of_block (kept_box hb q2) 3 rfl,cell_of_block (kept_box hb q2) 4 rfl,cell_of_block (kept_box hb q2) 5 rfl⟩)
 have HB0:=Lib.hid (Below.refl W1.heap.size W1)
 unfold maxLen at m3 m4 m5 m6
 clear m1 m2 r1 r2 r3 r4 r5 r6 q2 hn0 hn1 hn2 hn3 hn4 hn5
 go_enter Tryz.func11,Tryz.ntmps11
 go_wp2
 rw [← hW1]
 clear hW1
 go_loopg [0,5] n3 (fun mm lf j wr => ∃ (k : Nat) (r : Int),mm = n3 - k ∧ k ≤ n3 ∧ j = .int .i64 k ∧ lf = .int .i64 r ∧ -1 ≤ r ∧ r ≤ left ∧ Hid (Below W1.heap.size W1 wr))
 case atStart => exact ⟨0,left,rfl,Nat.zero_le _,(by first | rfl | go_num),rfl,h0,Int.le_refl _,HB0⟩
 case round =>
  obtain ⟨k,r,rfl,hk,rfl,rfl,hr0,hr1,HI⟩:=hrel
  have hr1b : r ≤ 200000:=by omega
  obtain ⟨f2,f3,f4,f5⟩:=HF.out _ HI.out
  by_cases hlt : k < n3
  ·have hki : (k : Int) < n3:=by omega
   obtain ⟨x,hi⟩ : ∃ x,ds[k]? = some x:=⟨ds[k]'(by rw [← HR3.out.2];exact hlt),List.getElem?_eq_getElem _⟩
   obtain ⟨a,rfl,hab,B1,e1,B2,e2,y0,y1,y2,b1,b2,b3,rp,rf⟩:=HR3.out.1.at_ hi
   have hbw:=HB.out.chain HI.out
   have z2 : wr.cell? ⟨(a.add (k * 3)).block,(a.add (k * 3)).off + 2,none⟩ = some (.slice B2 x.cs.length e2):=(hbw.cell (p:=(a.add (k * 3)).add 2) (by rw [block_adds,block_adds];exact hab)).trans y2
   have HC:=Lib.hid (left_formulas2 x.cs r B2 e2 wr hr0 hr1b (rf.on fm_keeps hbw) b3)
   have HLT:=Lib.hid (And.intro trivial hlt)
   generalize x.cs.length = nn at *
   clear y0 y1 y2 b1 b2 b3 rp rf hi hbw f2 f4 f5
   go_wp2_with (go_at_call 26;refine HC.out.mono ?_;rintro e w3 ⟨r',rfl,q0,q1,hb⟩;have HB3:=Lib.hid (HI.out.chain hb);clear hb)
   go_roundg (n3 - (k + 1))
   case measure => have := HLT.out.2;omega
   case rel => exact ⟨k + 1,r',rfl,(by have := HLT.out.2;omega),by go_num,rfl,q0,(by omega),HB3⟩
  ·obtain rfl : k = n3:=by omega
   go_wp2
   go_loopg [0,6] n4 (fun mm lf j wr => ∃ (k : Nat) (r : Int),mm = n4 - k ∧ k ≤ n4 ∧ j = .int .i64 k ∧ lf = .int .i64 r ∧ -1 ≤ r ∧ r ≤ left ∧ Hid (Below W1.heap.size W1 wr))
   case atStart => exact ⟨0,r,rfl,Nat.zero_le _,(by first | rfl | go_num),rfl,hr0,hr1,HI⟩
   case round =>
    clear f2 f3 f4 f5
    obtain ⟨k2,r,rfl,hk2,rfl,rfl,hr0,hr1,HJ⟩:=hrel
    have hr1b : r ≤ 200000:=by omega
    obtain ⟨f2,f3,f4,f5⟩:=HF.out _ HJ.out
    by_cases hlt : k2 < n4
    ·have hki : (k2 : Int) < n4:=by omega
     obtain ⟨x,hi⟩ : ∃ x,ms[k2]? = some x:=⟨ms[k2]'(by rw [← HR4.out.2];exact hlt),List.getElem?_eq_getElem _⟩
     obtain ⟨a,rfl,hab,B1,e1,dd,ee,hc,b1,b2,rp,rf,rg⟩:=HR4.out.1.at_ hi
     have HBW : Hid (∀ W,Below wr.heap.size wr W → Below w.heap.size w W):=Lib.hid (fun W hb => HB.out.chain (HJ.out.chain hb))
     obtain ⟨S,hS⟩ : ∃ S : World → Prop,S = fun W => Below wr.heap.size wr W:=⟨_,rfl⟩
     have HS2 : Hid (∀ W,Below wr.heap.size wr W → S W):=Lib.hid (fun W hb => by rw [hS];exact hb)
     have HFX : Hid (∀ W,S W → W.cell? ⟨w.heap.size,4,none⟩ = some (.slice (some a) n4 c4) ∧ W.cell? ⟨(a.add (k2 * 8)).block,(a.add (k2 * 8)).off + 2,none⟩ = some (.slice dd.p x.lf.ps.length dd.np) ∧ W.cell? ⟨(a.add (k2 * 8)).block,(a.add (k2 * 8)).off + 3,none⟩ = some (.slice dd.a x.lf.ats.length dd.na) ∧ W.cell? ⟨(a.add (k2 * 8)).block,(a.add (k2 * 8)).off + 4,none⟩ = some (.slice dd.c x.lf.cls.length dd.nc) ∧
      W.cell? ⟨(a.add (k2 * 8)).block,(a.add (k2 * 8)).off + 5,none⟩ = some (.slice ee.p x.rt.ps.length ee.np) ∧ W.cell? ⟨(a.add (k2 * 8)).block,(a.add (k2 * 8)).off + 6,none⟩ = some (.slice ee.a x.rt.ats.length ee.na) ∧ W.cell? ⟨(a.add (k2 * 8)).block,(a.add (k2 * 8)).off + 7,none⟩ = some (.slice ee.c x.rt.cls.length ee.nc)):=Lib.hid (fun W hs => by
      rw [hS] at hs
      have hbw:=HBW.out W hs
      have e : ∀ j v,(lmCs B1 e1 dd ee x)[j]? = some v → W.cell? ((a.add (k2 * 8)).add j) = some v:=fun j v hv => (hbw.cell (by rw [block_adds,block_adds];exact hab)).trans (hc j v hv)
      exact ⟨(HF.out _ (HJ.out.chain hs)).2.2.1,e 2 _ rfl,e 3 _ rfl,e 4 _ rfl,e 5 _ rfl,e 6 _ rfl,e 7 _ rfl⟩)
     obtain ⟨o,ho⟩ : ∃ o : Obj,o = .cells #[.slice dd.p x.lf.ps.length dd.np,.slice dd.a x.lf.ats.length dd.na,.slice dd.c x.lf.cls.length dd.nc,.slice ee.p x.rt.ps.length ee.np,.slice ee.a x.rt.ats.length ee.na,.slice ee.c x.rt.cls.length ee.nc] 63:=⟨_,rfl⟩
     have HC : Hid (Calls Tryz.prog 26 #[.int .i64 r,.slice (some ⟨wr.heap.size,0,none⟩) 2 2] (wr.drew.alloc o) fun e w' => ∃ r9 : Int,e = .returned (.int .i64 r9) ∧ -1 ≤ r9 ∧ r9 ≤ r ∧ Below wr.heap.size wr w'):=Lib.hid (by
      have hbd:=(Below.refl wr.heap.size wr).drew
      have hba:=hbd.chain (below_alloc wr.drew o)
      have hbw:=HBW.out _ hba
      have hg:=heap_of_alloc wr.drew o
      rw [ho] at hg
      exact (left_formulas2 [x.lf,x.rt] r (some ⟨wr.heap.size,0,none⟩) 2 (wr.drew.alloc o) hr0 hr1b (fm_two (by rw [ho];exact hg) (rf.on hbw) (rg.on hbw)) (show 2 ≤ maxLen by decide)).mono fun e w' ⟨r',he,q0,q1,hb⟩ => ⟨r',he,q0,q1,hba.chain hb⟩)
     have HBO:=Lib.hid ((Below.refl wr.heap.size wr).drew.chain (below_alloc wr.drew o))
     have HLT:=Lib.hid (And.intro trivial hlt)
     have HX0:=Lib.hid (Below.refl wr.heap.size wr).drew
     have hmx : Tryz.prog.follows .mixedOrders = true:=by kernel_rfl
     rw [ho] at HC HBO
     clear ho
     generalize x.lf.ps.length = l1 at *
     generalize x.lf.ats.length = l2 at *
     generalize x.lf.cls.length = l3 at *
     generalize x.rt.ps.length = l4 at *
     generalize x.rt.ats.length = l5 at *
     generalize x.rt.cls.length = l6 at *
     clear hc b1 b2 rp rf rg hi hS f2 f3 f5
     go_wp2
     refine wp_region_held (S:=S) hmx ?_
     change wpAnyH _ _ _ _ _ 16 #[false,false,false,false,false,false,false,false,false,false,false,false,false,false,false,false] _ wr.drew
     have g0:=HS2.out _ HX0.out
     refine tk 0 31 (.int .i64 r) g0 ?v0 ?_
     case v0 =>
      intro Wx hSx
      go_simp
     try simp only [pset]
     refine tk 1 32 (.pointer (some ⟨w.heap.size,4,none⟩)) g0 ?v1 ?_
     case v1 =>
      intro Wx hSx
      go_simp
     try simp only [pset]
     refine tk 2 33 (.slice (some a) n4 c4) g0 ?v2 ?_
     case v2 =>
      intro Wx hSx
      obtain ⟨z0,z1,z2,z3,z4,z5,z6⟩:=HFX.out Wx hSx
      go_simp
     try simp only [pset]
     refine tk 3 34 (.int .i64 k2) g0 ?v3 ?_
     case v3 =>
      intro Wx hSx
      go_simp
     try simp only [pset]
     refine tk 4 35 (.pointer (some (a.add (k2 * 8)))) g0 ?v4 ?_
     case v4 =>
      intro Wx hSx
      go_simp
     try simp only [pset]
     refine tk 5 36 (.pointer (some ⟨(a.add (k2 * 8)).block,(a.add (k2 * 8)).off + 2,none⟩)) g0 ?v5 ?_
     case v5 =>
      intro Wx hSx
      go_simp
     try simp only [pset]
     refine tk 6 37 (.agg #[.slice dd.p l1 dd.np,.slice dd.a l2 dd.na,.slice dd.c l3 dd.nc]) g0 ?v6 ?_
     case v6 =>
      intro Wx hSx
      obtain ⟨z0,z1,z2,z3,z4,z5,z6⟩:=HFX.out Wx hSx
      go_simp
     try simp only [pset]
     refine tk 7 38 (.pointer (some ⟨w.heap.size,4,none⟩)) g0 ?v7 ?_
     case v7 =>
      intro Wx hSx
      go_simp
     try simp only [pset]
     refine tk 8 39 (.slice (some a) n4 c4) g0 ?v8 ?_
     case v8 =>
      intro Wx hSx
      obtain ⟨z0,z1,z2,z3,z4,z5,z6⟩:=HFX.out Wx hSx
      go_simp
     try simp only [pset]
     refine tk 9 40 (.int .i64 k2) g0 ?v9 ?_
     case v9 =>
      intro Wx hSx
      go_simp
     try simp only [pset]
     refine tk 10 41 (.pointer (some (a.add (k2 * 8)))) g0 ?v10 ?_
     case v10 =>
      intro Wx hSx
      go_simp
     try simp only [pset]
     refine tk 11 42 (.pointer (some ⟨(a.add (k2 * 8)).block,(a.add (k2 * 8)).off + 5,none⟩)) g0 ?v11 ?_
     case v11 =>
      intro Wx hSx
      go_simp
     try simp only [pset]
     refine tk 12 43 (.agg #[.slice ee.p l4 ee.np,.slice ee.a l5 ee.na,.slice ee.c l6 ee.nc]) g0 ?v12 ?_
     case v12 =>
      intro Wx hSx
      obtain ⟨z0,z1,z2,z3,z4,z5,z6⟩:=HFX.out Wx hSx
      go_simp
     try simp only [pset]
     refine o1 13 (fun K hK => ?_)
     go_simp
     refine hK _ _ (HS2.out _ HBO.out) ?_
     clear hK K
     refine o1 14 (fun K hK => ?_)
     go_simp
     refine HC.out.mono ?_
     rintro e w3 ⟨r',rfl,q0,q1,hb⟩
     have HX1:=Lib.hid hb
     have HB3:=Lib.hid (HJ.out.chain hb)
     clear hb
     have g1:=HS2.out _ HX1.out
     refine hK _ _ g1 ?_
     clear hK K g0
     refine tk 15 0 (.int .i64 r') g1 ?v15 ?_
     case v15 =>
      intro Wx hSx
      go_simp
     try simp only [pset]
     refine wpAnyH_done (by kernel_rfl) ?_ _
     go_wp2
     go_roundg (n4 - (k2 + 1))
     case measure => have := HLT.out.2;omega
     case rel => exact ⟨k2 + 1,r',rfl,(by have := HLT.out.2;omega),by go_num,rfl,q0,(by omega),HB3⟩
    ·obtain rfl : k2 = n4:=by omega
     go_wp2
     go_loopg [0,7] n2 (fun mm lf j wr => ∃ (k : Nat) (r : Int),mm = n2 - k ∧ k ≤ n2 ∧ j = .int .i64 k ∧ lf = .int .i64 r ∧ -1 ≤ r ∧ r ≤ left ∧ Hid (Below W1.heap.size W1 wr))
     case atStart => exact ⟨0,r,rfl,Nat.zero_le _,(by first | rfl | go_num),rfl,hr0,hr1,HJ⟩
     case round =>
      clear f2 f3 f4 f5
      obtain ⟨k3,r,rfl,hk3,rfl,rfl,hr0,hr1,HK⟩:=hrel
      have hr1b : r ≤ 200000:=by omega
      obtain ⟨f2,f3,f4,f5⟩:=HF.out _ HK.out
      by_cases hlt : k3 < n2
      ·have hki : (k3 : Int) < n2:=by omega
       obtain ⟨x,hi⟩ : ∃ x,ks[k3]? = some x:=⟨ks[k3]'(by rw [← HR2.out.2];exact hlt),List.getElem?_eq_getElem _⟩
       obtain ⟨a,rfl,hab,B1,e1,y0,y1,b1,b2,rf⟩:=HR2.out.1.at_ hi
       have hbw:=HB.out.chain HK.out
       have z2 : wr.cell? ⟨(a.add (k3 * 2)).block,(a.add (k3 * 2)).off + 1,none⟩ = some (.slice B1 x.iv.length e1):=(hbw.cell (p:=(a.add (k3 * 2)).add 1) (by rw [block_adds,block_adds];exact hab)).trans y1
       have HC:=Lib.hid (left_formulas2 x.iv r B1 e1 wr hr0 hr1b (rf.on fm_keeps hbw) b2)
       have HLT:=Lib.hid (And.intro trivial hlt)
       generalize x.iv.length = nn at *
       clear y0 y1 b1 b2 rf hi hbw f3 f4 f5
       go_wp2_with (go_at_call 26;refine HC.out.mono ?_;rintro e w3 ⟨r',rfl,q0,q1,hb⟩;have HB3:=Lib.hid (HK.out.chain hb);clear hb)
       go_roundg (n2 - (k3 + 1))
       case measure => have := HLT.out.2;omega
       case rel => exact ⟨k3 + 1,r',rfl,(by have := HLT.out.2;omega),by go_num,rfl,q0,(by omega),HB3⟩
      ·obtain rfl : k3 = n2:=by omega
       go_wp2
       go_loopg [0,8] n5 (fun mm lf j wr => ∃ (k : Nat) (r : Int),mm = n5 - k ∧ k ≤ n5 ∧ j = .int .i64 k ∧ lf = .int .i64 r ∧ -1 ≤ r ∧ r ≤ left ∧ Hid (Below W1.heap.size W1 wr ∧ ∀ F : Pr → List St,(∀ x ∈ xs,FlL x.bd (F x)) → 0 ≤ r → r + ((((xs.take k).map fun x => (F x).length).sum : Nat) : Int) ≤ left))
       case atStart => exact ⟨0,r,rfl,Nat.zero_le _,(by first | rfl | go_num),rfl,hr0,hr1,Lib.hid ⟨HK.out,fun F hF hz => by simpa using hr1⟩⟩
       case round =>
        clear f2 f3 f4 f5
        obtain ⟨k4,r,rfl,hk4,rfl,rfl,hr0,hr1,HL2⟩:=hrel
        have hr1b : r ≤ 200000:=by omega
        have HL:=Lib.hid HL2.out.1
        obtain ⟨f2,f3,f4,f5⟩:=HF.out _ HL.out
        by_cases hlt : k4 < n5
        ·have hki : (k4 : Int) < n5:=by omega
         obtain ⟨x,hi⟩ : ∃ x,xs[k4]? = some x:=⟨xs[k4]'(by rw [← HR5.out.2];exact hlt),List.getElem?_eq_getElem _⟩
         obtain ⟨a,rfl,hab,dd,hc,⟨b1,b2,b3,b4,b5,b6,b7,b8,b9⟩,g1,g2,g3,g4,g5,g6⟩:=HR5.out.1.at_ hi
         have HE : Hid (∀ W,Below W1.heap.size W1 W → W.cell? ⟨w.heap.size,5,none⟩ = some (.slice (some a) n5 c5) ∧ W.cell? ⟨(a.add (k4 * 12)).block,(a.add (k4 * 12)).off + 8,none⟩ = some (.slice dd.r x.rq.length dd.nr) ∧ W.cell? ⟨(a.add (k4 * 12)).block,(a.add (k4 * 12)).off + 9,none⟩ = some (.slice dd.e x.es.length dd.ne) ∧ W.cell? ⟨(a.add (k4 * 12)).block,(a.add (k4 * 12)).off + 11,none⟩ = some (.slice dd.b x.bd.length dd.nb)):=Lib.hid (fun W hs => by
          have hbw:=HB.out.chain hs
          have e : ∀ j v,(prCs dd x)[j]? = some v → W.cell? ((a.add (k4 * 12)).add j) = some v:=fun j v hv => (hbw.cell (by rw [block_adds,block_adds];exact hab)).trans (hc j v hv)
          exact ⟨(HF.out _ hs).2.2.2,e 8 _ rfl,e 9 _ rfl,e 11 _ rfl⟩)
         have HC1 : Hid (∀ W (q : Int),-1 ≤ q → q ≤ 200000 → Below W1.heap.size W1 W → Calls Tryz.prog 26 #[.int .i64 q,.slice dd.r x.rq.length dd.nr] W fun e w' => LeftOk2 e q W.heap.size W w'):=Lib.hid (fun W q z0 z1 hb => left_formulas2 x.rq q dd.r dd.nr W z0 z1 (g3.on fm_keeps (HB.out.chain hb)) b6)
         have HC2 : Hid (∀ W (q : Int),-1 ≤ q → q ≤ 200000 → Below W1.heap.size W1 W → Calls Tryz.prog 26 #[.int .i64 q,.slice dd.e x.es.length dd.ne] W fun e w' => LeftOk2 e q W.heap.size W w'):=Lib.hid (fun W q z0 z1 hb => left_formulas2 x.es q dd.e dd.ne W z0 z1 (g4.on fm_keeps (HB.out.chain hb)) b7)
         have HC3 : Hid (∀ W (q : Int),-1 ≤ q → q ≤ 200000 → Below W1.heap.size W1 W → Calls Tryz.prog 6 #[.int .i64 q,.slice dd.b x.bd.length dd.nb] W fun e w' => ∃ r : Int,e = .returned (.int .i64 r) ∧ -1 ≤ r ∧ r ≤ q ∧ (∀ f,FlL x.bd f → 0 ≤ r → r + (f.length : Int) ≤ q) ∧ Below W.heap.size W w'):=Lib.hid (fun W q z0 z1 hb => left_stmts2 _ x.bd (Nat.lt_succ_self _) q dd.b dd.nb W z0 z1 (g6.on (HB.out.chain hb)) b9)
         have HLT:=Lib.hid (And.intro trivial hlt)
         have HX:=Lib.hid hi
         generalize x.rq.length = l1 at *
         generalize x.es.length = l2 at *
         generalize x.bd.length = l3 at *
         clear hc b1 b2 b3 b4 b5 b6 b7 b8 b9 g1 g2 g3 g4 g5 g6 hi f2 f3 f4 f5
         obtain ⟨t0,t1,t2,t3⟩:=HE.out _ HL.out
         go_wp2_with (first
          | (go_at_call 26;((with_reducible refine (HC1.out _ _ hr0 hr1b HL.out).mono ?_);rintro e w3 ⟨r',rfl,q0,q1,hb⟩);have HB3:=Lib.hid (HL.out.chain hb);clear hb t0 t1 t2 t3;obtain ⟨u0,u1,u2,u3⟩:=HE.out _ HB3.out)
          | (go_at_call 26;((with_reducible refine (HC2.out _ _ q0 (by omega) HB3.out).mono ?_);rintro e w4 ⟨r2,rfl,q2,q3,hb⟩);have HB4:=Lib.hid (HB3.out.chain hb);clear hb u0 u1 u2 u3;obtain ⟨v0,v1,v2,v3⟩:=HE.out _ HB4.out)
          | (go_at_call 6;refine (HC3.out _ _ q2 (by omega) HB4.out).mono ?_;rintro e w5 ⟨r3,rfl,q4,q5,qf,hb⟩;have HQF:=Lib.hid qf;clear qf;have HB5:=Lib.hid (HB4.out.chain hb);clear hb))
         go_roundg (n5 - (k4 + 1))
         case measure => have := HLT.out.2;omega
         case rel => exact ⟨k4 + 1,r3,rfl,(by have := HLT.out.2;omega),by go_num,rfl,q4,(by omega),Lib.hid ⟨HB5.out,fun F hF hz => by
          have y1:=HL2.out.2 F hF (by omega)
          have y2:=HQF.out (F x) (hF x (List.mem_of_getElem? HX.out)) hz
          have y3 : ((xs.take (k4 + 1)).map fun x => (F x).length).sum = ((xs.take k4).map fun x => (F x).length).sum + (F x).length:=by
           rw [List.take_add_one,HX.out]
           simp
          rw [y3]
          push_cast
          omega⟩⟩
        ·obtain rfl : k4 = n5:=by omega
         go_wp2
         go_ret
         exact ⟨r,rfl,hr0,hr1,(fun F hF hz => by
          have := HL2.out.2 F hF hz
          rwa [List.take_of_length_le (by rw [HR5.out.2];exact Nat.le_refl _)] at this),HB.out.chain HL.out⟩
end Go.Proofs.YtnkpgpmaiicdeaaGreatDoor
