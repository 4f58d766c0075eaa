import Derived.Test.YthenbbpagbdbeaaGreatDoorSTypGh
import Derived.Test.YthenbbpagbdbeaaGreatDoorSTypGe
import Derived.Test.YthenbbpagbdbeaaGreatDoorSTypAx
import Derived.Test.YthenbbpagbdbeaaGreatDoorSTypFw
import Derived.Test.YthenbbpagbdbeaaGreatDoorSFloJ
set_option linter.unusedVariables false
set_option linter.unusedSimpArgs false
namespace Go.Proofs.YthenbbpagbdbeaaGreatDoor
set_option maxRecDepth 100000
set_option maxHeartbeats 16000000
open Go.RowKit Go.Lib
theorem grows_any (p : Pg) (d : GAd) (sc : List Pm) (G : Option Addr) (n c : Nat) (f : Fm) (Fp Fa Fc : Option Addr) (np kp na ka nc kc : Nat) (mt mn : List UInt8) (w : World) (own : PgOwn w w.heap.size d p) (hpa : PartsAt w) (hfs : FewFs p) (hn : n = sc.length) (hm : n ≤ maxLen) (hG : RowV VPm 2 w w.heap.size sc G) (hnp : np = f.ps.length) (hna : na = f.ats.length) (hnc : nc = f.cls.length) (hF : FmOwn w w.heap.size ⟨Fp,Fa,Fc,kp,ka,kc⟩ f) (hmt : mt.length ≤ maxLen) (hmn : mn.length ≤ maxLen)
 (nr ng nk nd nm nx : Nat) (hnr : nr = p.rs.length) (hng : ng = p.gs.length) (hnk : nk = p.ks.length) (hnd : nd = p.ds.length) (hnm : nm = p.ms.length) (hnx : nx = p.xs.length) :
 Calls Tryz.prog 3 #[.agg #[.slice d.r nr d.nr,.slice d.g ng d.ng,.slice d.k nk d.nk,.slice d.d nd d.nd,.slice d.m nm d.nm,.slice d.x nx d.nx],.slice G n c,formulaV (.slice Fp np kp) (.slice Fa na ka) (.slice Fc nc kc),.agg #[.string ⟨mt.toArray⟩,.string ⟨mn.toArray⟩]] w fun e w' => e = .returned (.bool true) ∧ Below w.heap.size w w':=by
 obtain ⟨W1,hW1⟩ : ∃ W1,W1 = ((w.alloc (.cells #[.slice d.r nr d.nr,.slice d.g ng d.ng,.slice d.k nk d.nk,.slice d.d nd d.nd,.slice d.m nm d.nm,.slice d.x nx d.nx] 29)).alloc (formulaC (.slice Fp np kp) (.slice Fa na ka) (.slice Fc nc kc))).alloc (.cells #[.string ⟨mt.toArray⟩,.string ⟨mn.toArray⟩] 35):=⟨_,rfl⟩
 have hb1 : Below w.heap.size w W1:=by rw [hW1];exact ((below_alloc w _).chain (below_alloc _ _)).chain (below_alloc _ _)
 have q0 : W1.heap[w.heap.size]? = some (.cells #[.slice d.r nr d.nr,.slice d.g ng d.ng,.slice d.k nk d.nk,.slice d.d nd d.nd,.slice d.m nm d.nm,.slice d.x nx d.nx] 29):=by rw [hW1];exact heap_keep (heap_keep (heap_of_alloc w _))
 have q1 : W1.heap[w.heap.size + 1]? = some (formulaC (.slice Fp np kp) (.slice Fa na ka) (.slice Fc nc kc)):=by
  have h:=heap_of_alloc (w.alloc (.cells #[.slice d.r nr d.nr,.slice d.g ng d.ng,.slice d.k nk d.nk,.slice d.d nd d.nd,.slice d.m nm d.nm,.slice d.x nx d.nx] 29)) (formulaC (.slice Fp np kp) (.slice Fa na ka) (.slice Fc nc kc))
  rw [size_of_alloc] at h
  rw [hW1]
  exact heap_keep h
 have q2 : W1.heap[w.heap.size + 1 + 1]? = some (.cells #[.string ⟨mt.toArray⟩,.string ⟨mn.toArray⟩] 35 (0,0)):=by
  have h:=heap_of_alloc ((w.alloc (.cells #[.slice d.r nr d.nr,.slice d.g ng d.ng,.slice d.k nk d.nk,.slice d.d nd d.nd,.slice d.m nm d.nm,.slice d.x nx d.nx] 29)).alloc (formulaC (.slice Fp np kp) (.slice Fa na ka) (.slice Fc nc kc))) (.cells #[.string ⟨mt.toArray⟩,.string ⟨mn.toArray⟩] 35)
  simp only [size_of_alloc] at h
  rw [hW1]
  exact h
 have hz1 : W1.heap.size = w.heap.size + 1 + 1 + 1:=by rw [hW1];simp only [size_of_alloc]
 have HZ : Hid (∀ W,Below W1.heap.size W1 W → (W.cell? ⟨w.heap.size,0,none⟩ = some (.slice d.r nr d.nr) ∧ W.cell? ⟨w.heap.size,1,none⟩ = some (.slice d.g ng d.ng) ∧ W.cell? ⟨w.heap.size,2,none⟩ = some (.slice d.k nk d.nk) ∧ W.cell? ⟨w.heap.size,3,none⟩ = some (.slice d.d nd d.nd) ∧ W.cell? ⟨w.heap.size,4,none⟩ = some (.slice d.m nm d.nm) ∧ W.cell? ⟨w.heap.size,5,none⟩ = some (.slice d.x nx d.nx)) ∧ (W.cell? ⟨w.heap.size + 1,0,none⟩ = some (.slice Fp np kp) ∧ W.cell? ⟨w.heap.size + 1,1,none⟩ = some (.slice Fa na ka) ∧ W.cell? ⟨w.heap.size + 1,2,none⟩ = some (.slice Fc nc kc)) ∧ W.cell? ⟨w.heap.size + 1 + 1,0,none⟩ = some (.string ⟨mt.toArray⟩) ∧ W.cell? ⟨w.heap.size + 1 + 1,1,none⟩ = some (.string ⟨mn.toArray⟩)):=Lib.hid (fun W hb => by
  have p0:=kept_box hb q0
  have p1:=kept_box hb q1
  have p2:=kept_box hb q2
  exact ⟨⟨cell_of_block p0 0 rfl,cell_of_block p0 1 rfl,cell_of_block p0 2 rfl,cell_of_block p0 3 rfl,cell_of_block p0 4 rfl,cell_of_block p0 5 rfl⟩,⟨cell_of_block p1 0 rfl,cell_of_block p1 1 rfl,cell_of_block p1 2 rfl⟩,cell_of_block p2 0 rfl,cell_of_block p2 1 rfl⟩)
 obtain ⟨m,hmm⟩ : ∃ m : Pm,m = ⟨mt,mn⟩:=⟨_,rfl⟩
 obtain ⟨hls,rp,ra,rc⟩:=hF
 dsimp only at rp ra rc
 have HB1:=Lib.hid (And.intro hb1 hz1)
 have HAw:=Lib.hid (taw_any W1 (hpa.on hb1))
 have HOw : Hid (∀ W,Below W1.heap.size W1 W → PgOwn W W.heap.size d p):=Lib.hid (fun W hb => (own.on hb1).on hb)
 have HFew : Hid (∀ W,Below W1.heap.size W1 W → Calls Tryz.prog 8 #[.agg #[.slice d.r nr d.nr,.slice d.g ng d.ng,.slice d.k nk d.nk,.slice d.d nd d.nd,.slice d.m nm d.nm,.slice d.x nx d.nx]] W fun e w' => ((∃ v : Int,e = .returned (.int .i64 v) ∧ (v = 0 ∨ v = 1))) ∧ Below W.heap.size W w'):=Lib.hid (fun W hb => by
  rw [hnr,hng,hnk,hnd,hnm,hnx]
  exact few_any p d W (HOw.out W hb))
 have HSc : Hid (∀ W,Below W1.heap.size W1 W → RowV VPm 2 W W.heap.size sc G):=Lib.hid (fun W hb => RowV.up (hb1.chain hb).size (rowB vpm_keeps (Nat.le_refl _) (hb1.chain hb) hG))
 have HPs : Hid (∀ W,Below W1.heap.size W1 W → RowV VPm 2 W W.heap.size f.ps Fp):=Lib.hid (fun W hb => RowV.up (hb1.chain hb).size (rowB vpm_keeps (Nat.le_refl _) (hb1.chain hb) (pm_rowV rp)))
 have HCs : Hid (∀ W,Below W1.heap.size W1 W → ClRow W W.heap.size f.cls Fc):=Lib.hid (fun W hb => (rc.stay cl_keeps (hb1.chain hb) (Nat.le_refl _)).more cl_keeps (hb1.chain hb).size)
 -- Formula in any short scope
 have HFo : Hid (∀ (sc' : List Pm) (A' : Option Addr) (n' c' : Nat) (W : World),Below W1.heap.size W1 W → n' = sc'.length → n' ≤ 1000000 → RowV VPm 2 W W.heap.size sc' A' → Calls Tryz.prog 9 #[.agg #[.slice d.r nr d.nr,.slice d.g ng d.ng,.slice d.k nk d.nk,.slice d.d nd d.nd,.slice d.m nm d.nm,.slice d.x nx d.nx],.slice A' n' c',formulaV (.slice Fp np kp) (.slice Fa na ka) (.slice Fc nc kc)] W fun e w' => e = .returned (.int .i64 (fmE p sc' f)) ∧ Below W.heap.size W w'):=Lib.hid (fun sc' A' n' c' W hb h1 h2 h3 => by
  have hbw:=hb1.chain hb
  exact Formula_any p d f (fun B0 cb hv => tfm_any p d B0 cb hfs f (fmFew_of hv)) sc' A' n' c' Fp Fa Fc np kp na ka nc kc hnp hna hnc W (HOw.out W hb) h1 (by omega) h3 ⟨hls,(rp.stay pm_keeps hbw (Nat.le_refl _)).more pm_keeps hbw.size,(ra.stay at_keeps hbw (Nat.le_refl _)).more at_keeps hbw.size,(rc.stay cl_keeps hbw (Nat.le_refl _)).more cl_keeps hbw.size⟩ nr ng nk nd nm nx hnr hng hnk hnd hnm hnx)
 have HCl : Hid (∀ (l : List Pm) (A : Option Addr) (k k2 : Nat) (W : World),Below W1.heap.size W1 W → k = l.length → k ≤ maxLen → RowV VPm 2 W W.heap.size l A → Calls Tryz.prog 10 #[.slice A k k2,.pointer (some ⟨w.heap.size + 1 + 1,0,none⟩)] W fun e w' => e = .returned (.bool (l.any fun x => x.nm == m.nm)) ∧ Below W.heap.size W w'):=Lib.hid (fun l A k k2 W hb h1 h2 h3 => by
  refine clash_any m (w.heap.size + 1 + 1) l A k2 k h1 h2 W.heap.size W (Nat.le_refl _) h3 (by have := hb.size;omega) ?_
  rw [hmm]
  exact (HZ.out W hb).2.2.2)
 have HN:=Lib.hid (And.intro hn (And.intro hnp (And.intro hnc (And.intro hmm (And.intro hmt (And.intro hmn hls))))))
 have hmf : ∀ (fn : Fn) (first cap : Array Value) (w : World),(Instr.makeFunc fn first cap).run Tryz.prog w = .ok (.func fn first cap) w:=fun _ _ _ _ => rfl
 have hmx : Tryz.prog.follows .mixedOrders = true:=by kernel_rfl
 obtain ⟨i0,hi,hiz,his,hib⟩:=info_parts infoPmV
 have HI0:=Lib.hid (And.intro hi (And.intro hiz (And.intro his hib)))
 unfold maxLen at hm
 clear own hpa hfs hG hls rp ra rc hnp hna hnc hn hmt hmn hnr hng hnk hnd hnm hnx hb1 q0 q1 q2 hz1 hmm hi hiz his hib
 by_cases hn20 : n ≤ 20
 rotate_left
 ·have h20 : (20 : Int) < n:=by omega
  go_enter Tryz.func3,Tryz.ntmps3
  go_wp2_with fail
  rw [← hW1]
  clear hW1
  (with_reducible refine HAw.out.mono ?_)
  rintro e w2 ⟨rfl,hb⟩
  have K2:=Lib.hid hb
  obtain ⟨⟨z0,z1,z2,z3,z4,z5⟩,-⟩:=HZ.out _ hb
  clear hb
  go_wp2_with fail
  (with_reducible refine (HFew.out _ K2.out).mono ?_)
  rintro e w3 ⟨⟨v,rfl,hv⟩,hb⟩
  have K3:=Lib.hid (K2.out.chain hb)
  clear hb z0 z1 z2 z3 z4 z5
  rcases hv with rfl | rfl
  ·go_wp2
   go_ret
   exact ⟨rfl,HB1.out.1.chain K3.out⟩
  ·go_wp2
   go_ret
   exact ⟨rfl,HB1.out.1.chain K3.out⟩
 have h20 : ¬ (20 : Int) < n:=by omega
 go_enter Tryz.func3,Tryz.ntmps3
 go_wp2_with fail
 rw [← hW1]
 clear hW1
 (with_reducible refine HAw.out.mono ?_)
 rintro e w2 ⟨rfl,hb⟩
 have K2:=Lib.hid hb
 obtain ⟨⟨z0,z1,z2,z3,z4,z5⟩,-⟩:=HZ.out _ hb
 clear hb
 go_wp2_with fail
 (with_reducible refine (HFew.out _ K2.out).mono ?_)
 rintro e w3 ⟨⟨v,rfl,hv⟩,hb⟩
 have K3:=Lib.hid (K2.out.chain hb)
 clear hb z0 z1 z2 z3 z4 z5
 rcases hv with rfl | rfl
 ·go_wp2
  go_ret
  exact ⟨rfl,HB1.out.1.chain K3.out⟩
 obtain ⟨⟨z0,z1,z2,z3,z4,z5⟩,⟨y0,y1,y2⟩,x0,x1⟩:=HZ.out _ K3.out
 by_cases h1 : (10 : Int) < np
 ·go_wp2
  go_ret
  exact ⟨rfl,HB1.out.1.chain K3.out⟩
 by_cases h2 : (20 : Int) < na
 ·go_wp2
  go_ret
  exact ⟨rfl,HB1.out.1.chain K3.out⟩
 by_cases h3 : (20 : Int) < nc
 ·go_wp2
  go_ret
  exact ⟨rfl,HB1.out.1.chain K3.out⟩
 go_wp2_with fail
 (with_reducible refine (HFo.out sc G n c _ K3.out HN.out.1 (by omega) (HSc.out _ K3.out)).mono ?_)
 rintro e w4 ⟨rfl,hb⟩
 have K4:=Lib.hid (K3.out.chain hb)
 clear hb z0 z1 z2 z3 z4 z5 y0 y1 y2 x0 x1
 obtain ⟨x,hx⟩ : ∃ x,x = fmE p sc f:=⟨_,rfl⟩
 rw [← hx]
 by_cases hx0 : x = 0
 rotate_left
 ·have hxb : (x == 0) = false:=beq_eq_false_iff_ne.2 hx0
  have hxn : (x != 0) = true:=by rw [bne_iff_ne];exact hx0
  clear hx
  go_wp2
  go_ret
  exact ⟨rfl,HB1.out.1.chain K4.out⟩
 subst hx0
 have HOK:=Lib.hid (fmE_zero hx.symm)
 clear hx h20
 go_upto_region 6 with fail
 go_cut [58] from 48 to 58 (fun v58 wx => ∃ (W : World) (v : Bool),W = wx ∧ v58 = .bool v ∧ Hid (Below W1.heap.size W1 W ∧ (v = true → (∀ x ∈ sc,x.nm ≠ m.nm) ∧ ∀ x ∈ f.ps,x.nm ≠ m.nm)))
 case first =>
  go_wp2_with fail
  (with_reducible refine (HCl.out sc G n c _ K4.out HN.out.1 (by unfold maxLen;omega) (HSc.out _ K4.out)).mono ?_)
  rintro e w5 ⟨rfl,hb⟩
  have K5:=Lib.hid (K4.out.chain hb)
  clear hb
  obtain ⟨a,ha⟩ : ∃ a,a = sc.any fun x => x.nm == m.nm:=⟨_,rfl⟩
  rw [← ha]
  have HA:=Lib.hid ha
  clear ha
  cases a
  ·obtain ⟨-,⟨y0,y1,y2⟩,-⟩:=HZ.out _ K5.out
   go_wp2_with fail
   (with_reducible refine (HCl.out f.ps Fp np kp _ K5.out HN.out.2.1 (by unfold maxLen;omega) (HPs.out _ K5.out)).mono ?_)
   rintro e w6 ⟨rfl,hb⟩
   have K6:=Lib.hid (K5.out.chain hb)
   clear hb y0 y1 y2
   obtain ⟨b,hb⟩ : ∃ b,b = f.ps.any fun x => x.nm == m.nm:=⟨_,rfl⟩
   rw [← hb]
   have HBb:=Lib.hid hb
   clear hb
   cases b
   ·go_wp2
    go_meet
    exact ⟨_,true,rfl,rfl,Lib.hid ⟨K6.out,fun _ => ⟨fun x hx e => by have := List.any_eq_false.1 HA.out.symm x hx;simp [e] at this,fun x hx e => by have := List.any_eq_false.1 HBb.out.symm x hx;simp [e] at this⟩⟩⟩
   ·go_wp2
    go_meet
    exact ⟨_,false,rfl,rfl,Lib.hid ⟨K6.out,fun h => by cases h⟩⟩
  ·go_wp2
   go_meet
   exact ⟨_,false,rfl,rfl,Lib.hid ⟨K5.out,fun h => by cases h⟩⟩
 case rest =>
  obtain ⟨U,v,rfl,rfl,HU⟩:=hcut
  go_upto_if 58 with fail
  go_cut [] from 59 to 77 (fun wx => ∃ W : World,W = wx ∧ Hid (Below W1.heap.size W1 W))
  case first =>
   cases v with
   | false =>
     go_wp2
     go_meet
     exact ⟨_,rfl,Lib.hid HU.out.1⟩
   | true =>
     have HG2:=Lib.hid (HU.out.2 rfl)
     have HLn : Hid ((∀ y ∈ sc,y.t.length ≤ maxLen ∧ y.nm.length ≤ maxLen) ∧ m.t.length ≤ maxLen ∧ m.nm.length ≤ maxLen):=Lib.hid ⟨pm_lens' (HSc.out _ HU.out.1),by rw [HN.out.2.2.2.1];exact ⟨HN.out.2.2.2.2.1,HN.out.2.2.2.2.2.1⟩⟩
     have HFoV : Hid (∀ (sc' : List Pm) (A' : Option Addr) (n' c' : Nat) (W : World),Below W1.heap.size W1 W → n' = sc'.length → n' ≤ 1000000 → RowV VPm 2 W W.heap.size sc' A' → (sc' = sc ++ [m] ∨ sc' = m :: sc) → Calls Tryz.prog 9 #[.agg #[.slice d.r nr d.nr,.slice d.g ng d.ng,.slice d.k nk d.nk,.slice d.d nd d.nd,.slice d.m nm d.nm,.slice d.x nx d.nx],.slice A' n' c',formulaV (.slice Fp np kp) (.slice Fa na ka) (.slice Fc nc kc)] W fun e w' => e = .returned (.int .i64 0) ∧ Below W.heap.size W w'):=Lib.hid (fun sc' A' n' c' W hb h1 h2 h3 h4 => by
      have h:=HFo.out sc' A' n' c' W hb h1 h2 h3
      rw [fmE_none HOK.out.1 (grow_to HG2.out.1 HG2.out.2 HOK.out.2 sc' h4)] at h
      exact h)
     have HCn : Hid (∀ W,Below W1.heap.size W1 W → Calls Tryz.prog 13 #[.slice G n c] W fun e w' => ∃ A' c',e = .returned (.slice A' n c') ∧ w'.ownsRow W.heap.size 35 2 (.slice A' n c') n (pcL sc) ∧ Below W.heap.size W w'):=Lib.hid (fun W hb => clonePm_any G c n sc HN.out.1 (by omega) W (HSc.out W hb))
     obtain ⟨S,hS⟩ : ∃ S : World → Prop,S = fun W => Below U.heap.size U W:=⟨_,rfl⟩
     have HS2 : Hid (∀ W,Below U.heap.size U W → S W):=Lib.hid (fun W hb => by rw [hS];exact hb)
     have HLD : Hid (∀ W,S W → (W.cell? ⟨w.heap.size,0,none⟩ = some (.slice d.r nr d.nr) ∧ W.cell? ⟨w.heap.size,1,none⟩ = some (.slice d.g ng d.ng) ∧ W.cell? ⟨w.heap.size,2,none⟩ = some (.slice d.k nk d.nk) ∧ W.cell? ⟨w.heap.size,3,none⟩ = some (.slice d.d nd d.nd) ∧ W.cell? ⟨w.heap.size,4,none⟩ = some (.slice d.m nm d.nm) ∧ W.cell? ⟨w.heap.size,5,none⟩ = some (.slice d.x nx d.nx)) ∧ (W.cell? ⟨w.heap.size + 1,0,none⟩ = some (.slice Fp np kp) ∧ W.cell? ⟨w.heap.size + 1,1,none⟩ = some (.slice Fa na ka) ∧ W.cell? ⟨w.heap.size + 1,2,none⟩ = some (.slice Fc nc kc)) ∧ W.cell? ⟨w.heap.size + 1 + 1,0,none⟩ = some (.string ⟨mt.toArray⟩) ∧ W.cell? ⟨w.heap.size + 1 + 1,1,none⟩ = some (.string ⟨mn.toArray⟩)):=Lib.hid (fun W hs => by
      rw [hS] at hs
      exact HZ.out W (HU.out.1.chain hs))
     clear hS
     go_upto_region 7 with fail
     obtain ⟨x0,hx0⟩ : ∃ X,X = U.drew:=⟨_,rfl⟩
     have HX0:=Lib.hid (Below.refl U.heap.size U).drew
     refine wp_region_held (S:=S) hmx ?_
     change wpAnyH _ _ _ _ _ 19 #[false,false,false,false,false,false,false,false,false,false,false,false,false,false,false,false,false,false,false] _ U.drew
     rw [← hx0] at HX0 ⊢
     have HXs : Hid (x0.heap.size = U.heap.size):=Lib.hid (by rw [hx0];rfl)
     clear hx0
     have X0:=Lib.hid HX0.out
     have g0:=HS2.out _ X0.out
     refine tk 0 59 (.agg #[.slice d.r nr d.nr,.slice d.g ng d.ng,.slice d.k nk d.nk,.slice d.d nd d.nd,.slice d.m nm d.nm,.slice d.x nx d.nx]) g0 ?v ?_
     case v => intro Wx hSx;obtain ⟨⟨z0,z1,z2,z3,z4,z5⟩,⟨y0,y1,y2⟩,x0,x1⟩:=HLD.out Wx hSx;go_simp
     refine tk 1 60 (.slice G n c) g0 ?v ?_
     case v => intro Wx hSx;go_simp
     refine tk 3 62 (.agg #[.string ⟨mt.toArray⟩,.string ⟨mn.toArray⟩]) g0 ?v ?_
     case v => intro Wx hSx;obtain ⟨⟨z0,z1,z2,z3,z4,z5⟩,⟨y0,y1,y2⟩,x0,x1⟩:=HLD.out Wx hSx;go_simp
     refine tk 6 65 (formulaV (.slice Fp np kp) (.slice Fa na ka) (.slice Fc nc kc)) g0 ?v ?_
     case v => intro Wx hSx;obtain ⟨⟨z0,z1,z2,z3,z4,z5⟩,⟨y0,y1,y2⟩,x0,x1⟩:=HLD.out Wx hSx;go_simp
     try simp only [Act.put,List.setIfInBounds_toArray,List.set_cons_zero,List.set_cons_succ]
     try simp only [Act.put,List.setIfInBounds_toArray,List.set_cons_zero,List.set_cons_succ]
     refine anyH_two 2 4 (by kernel_rfl) rfl rfl (by kernel_rfl) (by kernel_rfl) (fun K hK => ?_) (fun K hK => ?_)
     ·go_simp
      (with_reducible refine (HCn.out _ (HU.out.1.chain X0.out)).mono ?_)
      rintro e x1 ⟨A1,c1,rfl,ho,hb⟩
      have X1:=Lib.hid (X0.out.chain hb)
      have HOa:=Lib.hid ho
      clear ho hb
      refine hK _ _ (HS2.out _ X1.out) ?_
      clear hK K
      try simp only [Act.put,List.setIfInBounds_toArray,List.set_cons_zero,List.set_cons_succ]
      refine o1 4 (fun K hK => ?_)
      obtain ⟨x2,hX⟩ : ∃ X,X = x1.alloc (.cells #[.string ⟨mt.toArray⟩,.string ⟨mn.toArray⟩] 35):=⟨_,rfl⟩
      have hbb : Below x1.heap.size x1 x2:=by rw [hX];exact below_alloc x1 _
      have hbx : x2.heap[x1.heap.size]? = some (.cells #[.string ⟨mt.toArray⟩,.string ⟨mn.toArray⟩] 35):=by rw [hX];exact heap_of_alloc x1 _
      go_simp
      rw [← hX]
      have X2:=Lib.hid (X1.out.chain hbb)
      have HO:=Lib.hid (own_below HOa.out hbb (fun g hg => (own_lt HOa.out g hg).2))
      obtain ⟨gb,hgb⟩ : ∃ g,g = x1.heap.size:=⟨_,rfl⟩
      rw [← hgb] at hbx
      have HRD : Hid (Reads x2 x2.heap.size 2 (some ⟨gb,0,none⟩) 1 (pcL [m])):=Lib.hid (by rw [HN.out.2.2.2.1];exact reads_box (size:=2) (m:=1) hbx rfl)
      have HBx : Hid (x0.heap.size ≤ x2.heap.size):=Lib.hid (by rw [HXs.out];exact X2.out.size)
      have HBS : Hid (U.heap.size ≤ x0.heap.size):=Lib.hid (by rw [HXs.out];exact Nat.le_refl _)
      try rw [← hgb]
      clear hbb hbx hX hgb
      refine hK _ _ (HS2.out _ X2.out) ?_
      clear hK K
      try simp only [Act.put,List.setIfInBounds_toArray,List.set_cons_zero,List.set_cons_succ]
      refine o1 5 (fun K hK => ?_)
      refine wp_append_any x2 _ _ 23 rfl (x0.heap.size) 35 i0 _ 2 32 Tryz.underlying23 HI0.out.1 HI0.out.2.1 HI0.out.2.2.1 HI0.out.2.2.2 rfl (by decide) (.slice A1 n c1) n (pcL sc) rfl HO.out x2.heap.size (some ⟨gb,0,none⟩) (1) _ (pcL [m]) rfl HRD.out (pcL_one _) (by unfold maxLen;omega) (by omega) (HBx.out) ?_
      intro v' x3 ho3 hg3 hown3
      have hbe:=below_grown HO.out hg3 (HBx.out)
      obtain ⟨A5,c5,rfl⟩:=own_sliceM ho3
      have X3:=Lib.hid (X2.out.trans (hbe.mono (by first | exact Nat.le_refl _ | exact HBS.out)))
      have HRw : Hid (n + 1 = (sc ++ [m]).length ∧ RowV VPm 2 x3 x3.heap.size (sc ++ [m]) A5):=Lib.hid (by
       have hl : n + 1 = (sc ++ [m]).length:=by rw [List.length_append,← HN.out.1];rfl
       refine ⟨hl,pc_row hl (by rw [pcL_append];exact Reads.of_own ho3) (fun y hy => ?_)⟩
       rcases List.mem_append.1 hy with hy | hy
       ·exact HLn.out.1 y hy
       ·rw [List.mem_singleton.1 hy];exact HLn.out.2)
      clear ho3 hg3 hown3 hbe
      refine hK _ _ (HS2.out _ X3.out) ?_
      clear hK K
      try simp only [Act.put,List.setIfInBounds_toArray,List.set_cons_zero,List.set_cons_succ]
      refine o1 7 (fun K hK => ?_)
      go_simp
      (with_reducible refine (HFoV.out (sc ++ [m]) A5 (n + 1) c5 x3 (HU.out.1.chain X3.out) HRw.out.1 (by omega) HRw.out.2 (.inl rfl)).mono ?_)
      rintro e x4 ⟨rfl,hb⟩
      have X4:=Lib.hid (X3.out.chain hb)
      clear hb
      refine hK _ _ (HS2.out _ X4.out) ?_
      clear hK K
      try simp only [Act.put,List.setIfInBounds_toArray,List.set_cons_zero,List.set_cons_succ]
      have g7:=HS2.out _ X4.out
      refine tk 8 67 (.bool false) g7 ?v ?_
      case v => intro Wx hSx;go_simp
      refine tk 9 68 (.bool false) g7 ?v ?_
      case v => intro Wx hSx;go_simp
      refine tk 10 69 (.agg #[.slice d.r nr d.nr,.slice d.g ng d.ng,.slice d.k nk d.nk,.slice d.d nd d.nd,.slice d.m nm d.nm,.slice d.x nx d.nx]) g7 ?v ?_
      case v => intro Wx hSx;obtain ⟨⟨z0,z1,z2,z3,z4,z5⟩,⟨y0,y1,y2⟩,x0,x1⟩:=HLD.out Wx hSx;go_simp
      refine tk 11 70 (.agg #[.string ⟨mt.toArray⟩,.string ⟨mn.toArray⟩]) g7 ?v ?_
      case v => intro Wx hSx;obtain ⟨⟨z0,z1,z2,z3,z4,z5⟩,⟨y0,y1,y2⟩,x0,x1⟩:=HLD.out Wx hSx;go_simp
      try simp only [Act.put,List.setIfInBounds_toArray,List.set_cons_zero,List.set_cons_succ]
      refine tk 13 72 (.slice G n c) g7 ?v ?_
      case v => intro Wx hSx;go_simp
      refine tk 15 74 (formulaV (.slice Fp np kp) (.slice Fa na ka) (.slice Fc nc kc)) g7 ?v ?_
      case v => intro Wx hSx;obtain ⟨⟨z0,z1,z2,z3,z4,z5⟩,⟨y0,y1,y2⟩,x0,x1⟩:=HLD.out Wx hSx;go_simp
      try simp only [Act.put,List.setIfInBounds_toArray,List.set_cons_zero,List.set_cons_succ]
      refine o1 12 (fun K hK => ?_)
      obtain ⟨x5,hX⟩ : ∃ X,X = x4.alloc (.cells #[.string ⟨mt.toArray⟩,.string ⟨mn.toArray⟩] 35):=⟨_,rfl⟩
      have hbb : Below x4.heap.size x4 x5:=by rw [hX];exact below_alloc x4 _
      have hbx : x5.heap[x4.heap.size]? = some (.cells #[.string ⟨mt.toArray⟩,.string ⟨mn.toArray⟩] 35):=by rw [hX];exact heap_of_alloc x4 _
      go_simp
      rw [← hX]
      have X5:=Lib.hid (X4.out.chain hbb)
      have HO2 : Hid (x5.ownsRow x4.heap.size 35 2 (.slice (some ⟨x4.heap.size,0,none⟩) 1 1) 1 (pcL [m])):=Lib.hid (by rw [hX,HN.out.2.2.2.1];exact World.ownsRow_lit (base:=x4.heap.size) (e:=35) (size:=2) x4 #[.string ⟨mt.toArray⟩,.string ⟨mn.toArray⟩] 1 (Nat.le_refl _) (by unfold maxLen;omega) rfl)
      have HR2 : Hid (Reads x5 x5.heap.size 2 G n (pcL sc)):=Lib.hid (by have h:=pc_reads (HSc.out x5 (HU.out.1.chain X5.out));rw [← HN.out.1] at h;exact h)
      have HB2 : Hid (x4.heap.size ≤ x5.heap.size ∧ U.heap.size ≤ x4.heap.size):=Lib.hid ⟨hbb.size,X4.out.size⟩
      clear hbb hbx hX
      refine hK _ _ (HS2.out _ X5.out) ?_
      clear hK K
      try simp only [Act.put,List.setIfInBounds_toArray,List.set_cons_zero,List.set_cons_succ]
      refine o1 14 (fun K hK => ?_)
      have HBS:=Lib.hid HB2.out.2
      refine wp_append_any x5 _ _ 23 rfl (x4.heap.size) 35 i0 _ 2 32 Tryz.underlying23 HI0.out.1 HI0.out.2.1 HI0.out.2.2.1 HI0.out.2.2.2 rfl (by decide) (.slice (some ⟨x4.heap.size,0,none⟩) 1 1) 1 (pcL [m]) rfl HO2.out x5.heap.size (G) (n) _ (pcL sc) rfl HR2.out (pcL_one _) (by unfold maxLen;omega) (by omega) (HB2.out.1) ?_
      intro v' x6 ho3 hg3 hown3
      have hbe:=below_grown HO2.out hg3 (HB2.out.1)
      obtain ⟨A6,c6,rfl⟩:=own_sliceM ho3
      have X6:=Lib.hid (X5.out.trans (hbe.mono (by first | exact Nat.le_refl _ | exact HBS.out)))
      rw [Nat.add_comm 1 n] at ho3 ⊢
      have HRw : Hid (n + 1 = (m :: sc).length ∧ RowV VPm 2 x6 x6.heap.size (m :: sc) A6):=Lib.hid (by
       have hl : n + 1 = (m :: sc).length:=by rw [List.length_cons,← HN.out.1]
       refine ⟨hl,pc_row hl (by exact Reads.of_own ho3) (fun y hy => ?_)⟩
       rcases List.mem_cons.1 hy with rfl | hy
       ·exact HLn.out.2
       ·exact HLn.out.1 y hy)
      clear ho3 hg3 hown3 hbe
      refine hK _ _ (HS2.out _ X6.out) ?_
      clear hK K
      try simp only [Act.put,List.setIfInBounds_toArray,List.set_cons_zero,List.set_cons_succ]
      refine o1 16 (fun K hK => ?_)
      go_simp
      (with_reducible refine (HFoV.out (m :: sc) A6 (n + 1) c6 x6 (HU.out.1.chain X6.out) HRw.out.1 (by omega) HRw.out.2 (.inr rfl)).mono ?_)
      rintro e x7 ⟨rfl,hb⟩
      have X7:=Lib.hid (X6.out.chain hb)
      clear hb
      refine hK _ _ (HS2.out _ X7.out) ?_
      clear hK K
      try simp only [Act.put,List.setIfInBounds_toArray,List.set_cons_zero,List.set_cons_succ]
      have g9:=HS2.out _ X7.out
      refine tk 17 76 (.bool false) g9 ?v ?_
      case v => intro Wx hSx;go_simp
      refine tk 18 77 (.bool false) g9 ?v ?_
      case v => intro Wx hSx;go_simp
      try simp only [Act.put,List.setIfInBounds_toArray,List.set_cons_zero,List.set_cons_succ]
      refine wpAnyH_done (by kernel_rfl) ?_ _
      go_wp2
      go_meet
      exact ⟨_,rfl,Lib.hid (HU.out.1.chain X7.out)⟩
     ·obtain ⟨x1,hX⟩ : ∃ X,X = x0.alloc (.cells #[.string ⟨mt.toArray⟩,.string ⟨mn.toArray⟩] 35):=⟨_,rfl⟩
      have hbb : Below x0.heap.size x0 x1:=by rw [hX];exact below_alloc x0 _
      have hbx : x1.heap[x0.heap.size]? = some (.cells #[.string ⟨mt.toArray⟩,.string ⟨mn.toArray⟩] 35):=by rw [hX];exact heap_of_alloc x0 _
      go_simp
      rw [← hX]
      have X1:=Lib.hid (X0.out.chain hbb)
      obtain ⟨gb,hgb⟩ : ∃ g,g = x0.heap.size:=⟨_,rfl⟩
      rw [← hgb] at hbx
      have HRa : Hid (Reads x1 x1.heap.size 2 (some ⟨gb,0,none⟩) 1 (pcL [m])):=Lib.hid (by rw [HN.out.2.2.2.1];exact reads_box (size:=2) (m:=1) hbx rfl)
      try rw [← hgb]
      clear hbb hbx hX hgb
      refine hK _ _ (HS2.out _ X1.out) ?_
      clear hK K
      try simp only [Act.put,List.setIfInBounds_toArray,List.set_cons_zero,List.set_cons_succ]
      refine o1 2 (fun K hK => ?_)
      go_simp
      (with_reducible refine (HCn.out _ (HU.out.1.chain X1.out)).mono ?_)
      rintro e x2 ⟨A1,c1,rfl,ho,hb⟩
      have X2:=Lib.hid (X1.out.chain hb)
      have HO:=Lib.hid ho
      have HRD:=Lib.hid ((HRa.out.below hb).more hb.size)
      have HBx : Hid (x1.heap.size ≤ x2.heap.size):=Lib.hid hb.size
      have HBS : Hid (U.heap.size ≤ x1.heap.size):=Lib.hid X1.out.size
      clear ho hb
      refine hK _ _ (HS2.out _ X2.out) ?_
      clear hK K
      try simp only [Act.put,List.setIfInBounds_toArray,List.set_cons_zero,List.set_cons_succ]
      refine o1 5 (fun K hK => ?_)
      refine wp_append_any x2 _ _ 23 rfl (x1.heap.size) 35 i0 _ 2 32 Tryz.underlying23 HI0.out.1 HI0.out.2.1 HI0.out.2.2.1 HI0.out.2.2.2 rfl (by decide) (.slice A1 n c1) n (pcL sc) rfl HO.out x2.heap.size (some ⟨gb,0,none⟩) (1) _ (pcL [m]) rfl HRD.out (pcL_one _) (by unfold maxLen;omega) (by omega) (HBx.out) ?_
      intro v' x3 ho3 hg3 hown3
      have hbe:=below_grown HO.out hg3 (HBx.out)
      obtain ⟨A5,c5,rfl⟩:=own_sliceM ho3
      have X3:=Lib.hid (X2.out.trans (hbe.mono (by first | exact Nat.le_refl _ | exact HBS.out)))
      have HRw : Hid (n + 1 = (sc ++ [m]).length ∧ RowV VPm 2 x3 x3.heap.size (sc ++ [m]) A5):=Lib.hid (by
       have hl : n + 1 = (sc ++ [m]).length:=by rw [List.length_append,← HN.out.1];rfl
       refine ⟨hl,pc_row hl (by rw [pcL_append];exact Reads.of_own ho3) (fun y hy => ?_)⟩
       rcases List.mem_append.1 hy with hy | hy
       ·exact HLn.out.1 y hy
       ·rw [List.mem_singleton.1 hy];exact HLn.out.2)
      clear ho3 hg3 hown3 hbe
      refine hK _ _ (HS2.out _ X3.out) ?_
      clear hK K
      try simp only [Act.put,List.setIfInBounds_toArray,List.set_cons_zero,List.set_cons_succ]
      refine o1 7 (fun K hK => ?_)
      go_simp
      (with_reducible refine (HFoV.out (sc ++ [m]) A5 (n + 1) c5 x3 (HU.out.1.chain X3.out) HRw.out.1 (by omega) HRw.out.2 (.inl rfl)).mono ?_)
      rintro e x4 ⟨rfl,hb⟩
      have X4:=Lib.hid (X3.out.chain hb)
      clear hb
      refine hK _ _ (HS2.out _ X4.out) ?_
      clear hK K
      try simp only [Act.put,List.setIfInBounds_toArray,List.set_cons_zero,List.set_cons_succ]
      have g7:=HS2.out _ X4.out
      refine tk 8 67 (.bool false) g7 ?v ?_
      case v => intro Wx hSx;go_simp
      refine tk 9 68 (.bool false) g7 ?v ?_
      case v => intro Wx hSx;go_simp
      refine tk 10 69 (.agg #[.slice d.r nr d.nr,.slice d.g ng d.ng,.slice d.k nk d.nk,.slice d.d nd d.nd,.slice d.m nm d.nm,.slice d.x nx d.nx]) g7 ?v ?_
      case v => intro Wx hSx;obtain ⟨⟨z0,z1,z2,z3,z4,z5⟩,⟨y0,y1,y2⟩,x0,x1⟩:=HLD.out Wx hSx;go_simp
      refine tk 11 70 (.agg #[.string ⟨mt.toArray⟩,.string ⟨mn.toArray⟩]) g7 ?v ?_
      case v => intro Wx hSx;obtain ⟨⟨z0,z1,z2,z3,z4,z5⟩,⟨y0,y1,y2⟩,x0,x1⟩:=HLD.out Wx hSx;go_simp
      try simp only [Act.put,List.setIfInBounds_toArray,List.set_cons_zero,List.set_cons_succ]
      refine tk 13 72 (.slice G n c) g7 ?v ?_
      case v => intro Wx hSx;go_simp
      refine tk 15 74 (formulaV (.slice Fp np kp) (.slice Fa na ka) (.slice Fc nc kc)) g7 ?v ?_
      case v => intro Wx hSx;obtain ⟨⟨z0,z1,z2,z3,z4,z5⟩,⟨y0,y1,y2⟩,x0,x1⟩:=HLD.out Wx hSx;go_simp
      try simp only [Act.put,List.setIfInBounds_toArray,List.set_cons_zero,List.set_cons_succ]
      refine o1 12 (fun K hK => ?_)
      obtain ⟨x5,hX⟩ : ∃ X,X = x4.alloc (.cells #[.string ⟨mt.toArray⟩,.string ⟨mn.toArray⟩] 35):=⟨_,rfl⟩
      have hbb : Below x4.heap.size x4 x5:=by rw [hX];exact below_alloc x4 _
      have hbx : x5.heap[x4.heap.size]? = some (.cells #[.string ⟨mt.toArray⟩,.string ⟨mn.toArray⟩] 35):=by rw [hX];exact heap_of_alloc x4 _
      go_simp
      rw [← hX]
      have X5:=Lib.hid (X4.out.chain hbb)
      have HO2 : Hid (x5.ownsRow x4.heap.size 35 2 (.slice (some ⟨x4.heap.size,0,none⟩) 1 1) 1 (pcL [m])):=Lib.hid (by rw [hX,HN.out.2.2.2.1];exact World.ownsRow_lit (base:=x4.heap.size) (e:=35) (size:=2) x4 #[.string ⟨mt.toArray⟩,.string ⟨mn.toArray⟩] 1 (Nat.le_refl _) (by unfold maxLen;omega) rfl)
      have HR2 : Hid (Reads x5 x5.heap.size 2 G n (pcL sc)):=Lib.hid (by have h:=pc_reads (HSc.out x5 (HU.out.1.chain X5.out));rw [← HN.out.1] at h;exact h)
      have HB2 : Hid (x4.heap.size ≤ x5.heap.size ∧ U.heap.size ≤ x4.heap.size):=Lib.hid ⟨hbb.size,X4.out.size⟩
      clear hbb hbx hX
      refine hK _ _ (HS2.out _ X5.out) ?_
      clear hK K
      try simp only [Act.put,List.setIfInBounds_toArray,List.set_cons_zero,List.set_cons_succ]
      refine o1 14 (fun K hK => ?_)
      have HBS:=Lib.hid HB2.out.2
      refine wp_append_any x5 _ _ 23 rfl (x4.heap.size) 35 i0 _ 2 32 Tryz.underlying23 HI0.out.1 HI0.out.2.1 HI0.out.2.2.1 HI0.out.2.2.2 rfl (by decide) (.slice (some ⟨x4.heap.size,0,none⟩) 1 1) 1 (pcL [m]) rfl HO2.out x5.heap.size (G) (n) _ (pcL sc) rfl HR2.out (pcL_one _) (by unfold maxLen;omega) (by omega) (HB2.out.1) ?_
      intro v' x6 ho3 hg3 hown3
      have hbe:=below_grown HO2.out hg3 (HB2.out.1)
      obtain ⟨A6,c6,rfl⟩:=own_sliceM ho3
      have X6:=Lib.hid (X5.out.trans (hbe.mono (by first | exact Nat.le_refl _ | exact HBS.out)))
      rw [Nat.add_comm 1 n] at ho3 ⊢
      have HRw : Hid (n + 1 = (m :: sc).length ∧ RowV VPm 2 x6 x6.heap.size (m :: sc) A6):=Lib.hid (by
       have hl : n + 1 = (m :: sc).length:=by rw [List.length_cons,← HN.out.1]
       refine ⟨hl,pc_row hl (by exact Reads.of_own ho3) (fun y hy => ?_)⟩
       rcases List.mem_cons.1 hy with rfl | hy
       ·exact HLn.out.2
       ·exact HLn.out.1 y hy)
      clear ho3 hg3 hown3 hbe
      refine hK _ _ (HS2.out _ X6.out) ?_
      clear hK K
      try simp only [Act.put,List.setIfInBounds_toArray,List.set_cons_zero,List.set_cons_succ]
      refine o1 16 (fun K hK => ?_)
      go_simp
      (with_reducible refine (HFoV.out (m :: sc) A6 (n + 1) c6 x6 (HU.out.1.chain X6.out) HRw.out.1 (by omega) HRw.out.2 (.inr rfl)).mono ?_)
      rintro e x7 ⟨rfl,hb⟩
      have X7:=Lib.hid (X6.out.chain hb)
      clear hb
      refine hK _ _ (HS2.out _ X7.out) ?_
      clear hK K
      try simp only [Act.put,List.setIfInBounds_toArray,List.set_cons_zero,List.set_cons_succ]
      have g9:=HS2.out _ X7.out
      refine tk 17 76 (.bool false) g9 ?v ?_
      case v => intro Wx hSx;go_simp
      refine tk 18 77 (.bool false) g9 ?v ?_
      case v => intro Wx hSx;go_simp
      try simp only [Act.put,List.setIfInBounds_toArray,List.set_cons_zero,List.set_cons_succ]
      refine wpAnyH_done (by kernel_rfl) ?_ _
      go_wp2
      go_meet
      exact ⟨_,rfl,Lib.hid (HU.out.1.chain X7.out)⟩
  case rest =>
   obtain ⟨V,rfl,HV⟩:=hcut
   obtain ⟨-,⟨y0,y1,y2⟩,-⟩:=HZ.out _ HV.out
   have HCn : Hid (∀ W,Below W1.heap.size W1 W → Calls Tryz.prog 13 #[.slice G n c] W fun e w' => ∃ A' c',e = .returned (.slice A' n c') ∧ w'.ownsRow W.heap.size 35 2 (.slice A' n c') n (pcL sc) ∧ Below W.heap.size W w'):=Lib.hid (fun W hb => clonePm_any G c n sc HN.out.1 (by omega) W (HSc.out W hb))
   by_cases hc0 : nc = 0
   ·subst hc0
    go_wp2
    go_ret
    exact ⟨rfl,HB1.out.1.chain HV.out⟩
   have hc1 : ¬ (nc : Int) = 0:=by omega
   have hcb : ((nc : Int) == 0) = false:=beq_eq_false_iff_ne.2 hc1
   obtain ⟨⟨k0,nm0,l0⟩,cs0,hcl⟩ : ∃ x l,f.cls = x :: l:=by
    have h:=HN.out.2.2.1
    cases hq : f.cls with
    | nil => rw [hq] at h;exact absurd h hc0
    | cons x l => exact ⟨x,l,rfl⟩
   have hg : f.cls[0]? = some ⟨k0,nm0,l0⟩:=by rw [hcl];rfl
   obtain ⟨a,rfl,hab,A',c',d0,d1,d2,hnl,hll,hrow,hcap⟩:=(HCs.out V HV.out).at_ hg
   have ea : a.add (0 * 3) = a:=by simp [Addr.add]
   rw [ea] at d2
   obtain ⟨nl,hnl0⟩ : ∃ z,z = l0.length:=⟨_,rfl⟩
   have e2 : V.cell? ⟨a.block,a.off + 2,none⟩ = some (.slice A' nl c'):=by rw [hnl0];exact d2
   have HVC:=Lib.hid ((vF_all HOK.out.1).2.2 _ (List.mem_of_getElem? hg))
   have HCL:=Lib.hid hcl
   clear hcl hg ea d0 d1 d2 hnl hll hcap hab
   have hnpos : (0 : Int) < nc:=by omega
   by_cases hl0 : nl = 0
   ·clear hnl0
    subst hl0
    go_wp2
    go_ret
    exact ⟨rfl,HB1.out.1.chain HV.out⟩
   have hl1 : ¬ (nl : Int) = 0:=by omega
   have hlb : ((nl : Int) == 0) = false:=beq_eq_false_iff_ne.2 hl1
   obtain ⟨⟨ek,en,es,el⟩,r0,rfl⟩ : ∃ x l,l0 = x :: l:=by
    cases l0 with
    | nil => exact absurd hnl0 hl0
    | cons x l => exact ⟨x,l,rfl⟩
   obtain ⟨b,Ae,ce,rfl,hbb0,q0,q1,q2,q3,hs0,hl0',hrow0⟩:=hrow.at_ (i:=0) rfl
   rw [add_zero4] at q0 q1 q2 q3
   obtain ⟨ne,hne⟩ : ∃ z,z = el.length:=⟨_,rfl⟩
   have q4 : V.cell? ⟨b.block,b.off + 1,none⟩ = some (.int .i64 en):=q1
   have q5 : V.cell? ⟨b.block,b.off + 2,none⟩ = some (.string ⟨es.toArray⟩):=q2
   have q6 : V.cell? ⟨b.block,b.off + 3,none⟩ = some (.slice Ae ne ce):=by rw [hne];exact q3
   have HE:=Lib.hid ((vCl_all HVC.out).2.2 (.mk ek en es el) (List.mem_cons_self ..))
   have HVr:=Lib.hid (rvars_any _ el (Nat.lt_succ_self _) ek en es Ae ce V hrow0 hs0 hl0' (Nat.le_trans (vE30_vars HE.out) (by omega)))
   rw [← hne] at HVr
   clear hrow hbb0 q1 q2 q3 hs0 hl0' hrow0 hne hnl0
   go_wp2_with fail
   clear y0 y1 y2 e2 q0 q4 q5 q6 hc1 hcb hl1 hlb
   (with_reducible refine HVr.out.mono ?_)
   rintro e w9 ⟨A5,n5,c5,rfl,⟨m5,h5n,h5c,h5r,-,h5m,h5l,-⟩,hb⟩
   have K9:=Lib.hid (HV.out.chain hb)
   obtain ⟨W10,hW10⟩ : ∃ W10,W10 = w9.alloc (.cells #[.slice A5 n5 c5] 47):=⟨_,rfl⟩
   have hb10 : Below w9.heap.size w9 W10:=by rw [hW10];exact below_alloc w9 _
   have hp10 : W10.heap[w9.heap.size]? = some (.cells #[.slice A5 n5 c5] 47 (0,0)):=by rw [hW10];exact heap_of_alloc w9 _
   have K10:=Lib.hid (K9.out.chain hb10)
   have t10:=cell_of_block hp10 0 (v:=.slice A5 n5 c5) rfl
   have H5n:=Lib.hid h5n
   clear h5n
   go_upto_region 12 with fail
   rw [← hW10]
   by_cases h50 : n5 = 0
   ·subst h50
    clear hW10
    go_wp2
    go_ret
    exact ⟨rfl,HB1.out.1.chain K10.out⟩
   have h51 : ¬ (n5 : Int) = 0:=by omega
   have h5b : ((n5 : Int) == 0) = false:=beq_eq_false_iff_ne.2 h51
   have h5n:=H5n.out
   obtain ⟨s,ms,rfl⟩ : ∃ x l,m5 = x :: l:=by
    cases m5 with
    | nil => exact absurd h5n h50
    | cons x l => exact ⟨x,l,rfl⟩
   obtain ⟨a5,rfl,h5k,h5cell⟩:=h5r.2 (by omega)
   have h5v : w9.cell? a5 = some (.string ⟨s.toArray⟩):=by
    have h:=h5cell 0 _ rfl
    rwa [show a5.add 0 = a5 by simp [Addr.add]] at h
   have HSv : Hid (s ∈ exVars (.mk ek en es el)):=Lib.hid ((h5m s).1 (List.mem_cons_self ..))
   -- the list of names,in every world behind
   have H10 : Hid (∀ W,Below W10.heap.size W10 W → w9.heap.size < W.heap.size ∧ W.cell? ⟨w9.heap.size,0,none⟩ = some (.slice (some a5) n5 c5) ∧ W.cell? a5 = some (.string ⟨s.toArray⟩)):=Lib.hid (fun W hw => ⟨Nat.lt_of_lt_of_le (Array.getElem?_eq_some_iff.1 hp10).1 hw.size,cell_of_block (kept_box hw hp10) 0 rfl,((hb10.chain hw).cell (World.block_lt_of_cell? w9 _ h5v)).trans h5v⟩)
   have h5one : 1 ≤ n5:=by omega
   have HCt:=Lib.hid (contp_any 15 (enters_of Tryz.func15 (by kernel_rfl) rfl) w9.heap.size (fun x => x.nm == s) f.ps Fp kp np HN.out.2.1 (by unfold maxLen;omega) W10.heap.size W10 (Nat.le_refl _) (HPs.out _ K10.out) (fun x _ W hw => by
    obtain ⟨u1,u2,u3⟩:=H10.out W hw
    exact first2_any x s w9.heap.size n5 c5 a5 h5one W u1 u2 u3))
   have HB10:=Lib.hid hb10
   clear hW10 hb hb10 hp10 h5n h5c h5r h5m h5l h5k h5cell h5v
   obtain ⟨-,⟨y0,-,-⟩,-⟩:=HZ.out _ K10.out
   go_wp2_with fail
   clear y0 t10 h51 h5b
   (with_reducible refine HCt.out.mono ?_)
   rintro e w11 ⟨rfl,hb⟩
   have K11:=Lib.hid (K10.out.chain hb)
   have J11:=Lib.hid hb
   clear hb
   obtain ⟨b2,hb2⟩ : ∃ z,z = f.ps.any fun x => x.nm == s:=⟨_,rfl⟩
   rw [← hb2]
   have HB2:=Lib.hid hb2
   clear hb2
   cases b2
   rotate_left
   ·go_wp2
    go_ret
    exact ⟨rfl,HB1.out.1.chain K11.out⟩
   have HW7 : Hid (fmE p (without sc s) f = 7):=Lib.hid (fmE_some HOK.out.1 (without_none HCL.out rfl (flat1_vE 30 _ HE.out) HSv.out (fun x hx e => by have := List.any_eq_false.1 HB2.out.symm x hx;simp [e] at this) HOK.out.2))
   go_wp2_with fail
   (with_reducible refine (HCn.out _ K11.out).mono ?_)
   rintro e w12 ⟨A1,c1,rfl,ho,hb⟩
   have K12:=Lib.hid (K11.out.chain hb)
   have HDl:=Lib.hid (delp_any 17 (enters_of Tryz.func17 (by kernel_rfl) rfl) w9.heap.size (fun x => x.nm == s) sc A1 c1 n HN.out.1 (by omega) (pm_lens' (HSc.out _ K11.out)) w11.heap.size w12 hb.size ho (fun x _ W hw hB => by
    obtain ⟨u1,u2,u3⟩:=H10.out W (J11.out.chain (hb.trans hw))
    exact first3_any x s w9.heap.size n5 c5 a5 h5one W u1 u2 u3))
   have J12:=Lib.hid hb
   clear ho hb
   go_wp2_with fail
   (with_reducible refine HDl.out.mono ?_)
   rintro e w13 ⟨A6,m6,c6,rfl,hm6,hr6,hb⟩
   have K13:=Lib.hid (K11.out.chain (J12.out.trans hb))
   have hm7 : m6 ≤ 1000000:=by rw [hm6];exact Nat.le_trans (List.length_filter_le _ _) (by have := HN.out.1;omega)
   have HFw:=Lib.hid (HFo.out (without sc s) A6 m6 c6 w13 K13.out hm6 hm7 hr6)
   rw [HW7.out] at HFw
   clear hm6 hm7 hr6 hb
   obtain ⟨⟨z0,z1,z2,z3,z4,z5⟩,⟨y0,y1,y2⟩,-⟩:=HZ.out _ K13.out
   go_wp2_with fail
   (with_reducible refine HFw.out.mono ?_)
   rintro e w14 ⟨rfl,hb⟩
   have K14:=Lib.hid (K13.out.chain hb)
   clear hb z0 z1 z2 z3 z4 z5 y0 y1 y2
   go_wp2
   go_ret
   exact ⟨rfl,HB1.out.1.chain K14.out⟩
end Go.Proofs.YthenbbpagbdbeaaGreatDoor
