import Derived.Test.YtojjfdegkooknaaGreatDoorQTypRf
import Derived.Test.YtojjfdegkooknaaGreatDoorQTypAx
import Derived.Test.YtojjfdegkooknaaGreatDoorQTypFw
import Derived.Test.YtojjfdegkooknaaGreatDoorQTypSm
set_option linter.unusedVariables false
set_option linter.unusedSimpArgs false
namespace Go.Proofs.YtojjfdegkooknaaGreatDoor
set_option maxRecDepth 100000
set_option maxHeartbeats 16000000
open Go.RowKit Go.Lib
theorem ix_join {α : Type} (nm : α → List UInt8) (l : List α) (s : List UInt8) (z y : α) (b : Bool) (h : (fstO nm l s = none ∧ b = false ∧ y = z) ∨ (fstO nm l s = some y ∧ b = true)) :
 (b = false ∧ y = z ∧ ixq (fun x => nm x == s) l = -1 ∧ fstO nm l s = none) ∨ ∃ k : Nat,b = true ∧ ixq (fun x => nm x == s) l = k ∧ l[k]? = some y ∧ nm y = s ∧ k < l.length ∧ fstO nm l s = some y:=by
 rcases h with ⟨h1,h2,h3⟩ | ⟨h1,h2⟩
 ·refine .inl ⟨h2,h3,?_,h1⟩
  rcases ixq_cases (fun x => nm x == s) l with ⟨h4,_⟩ | ⟨i,x,_,_,h6⟩
  ·exact h4
  ·have h7 : fstO nm l s = some x:=h6
   rw [h1] at h7
   cases h7
 ·refine .inr ?_
  rcases ixq_cases (fun x => nm x == s) l with ⟨_,h5⟩ | ⟨i,x,h4,h5,h6⟩
  ·have h7 : fstO nm l s = none:=h5
   rw [h1] at h7
   cases h7
  ·have h7 : fstO nm l s = some x:=h6
   obtain rfl:=Option.some.inj (h1.symm.trans h7)
   exact ⟨i,h2,h4,h5,by have := List.find?_some h6;simpa using this,(List.getElem?_eq_some_iff.1 h5).1,h1⟩
theorem hid_two : ∃ (T N : Nat) (zc : Array Value) (T2 N2 : Nat) (zc2 : Array Value),(36 = T ∧ N = 2 ∧ zc.size = N ∧ (∀ w : World,(isAgg T).run Tryz.prog w = .ok true w) ∧ (∀ w : World,(sizeOf T).run Tryz.prog w = .ok N w) ∧ (∀ w : World,(zeroValue T).run Tryz.prog w = .ok (.agg zc) w)) ∧ 46 = T2 ∧ N2 = 12 ∧ zc2.size = N2 ∧ (∀ w : World,(isAgg T2).run Tryz.prog w = .ok true w) ∧ (∀ w : World,(sizeOf T2).run Tryz.prog w = .ok N2 w) ∧ (∀ w : World,(zeroValue T2).run Tryz.prog w = .ok (.agg zc2) w):=by
 obtain ⟨T,N,zc,hT,hN,hzc,-,hag,hsz,hzv⟩:=hid_RecordT
 obtain ⟨T2,N2,zc2,hT2,hN2,hzc2,-,hag2,hsz2,hzv2⟩:=hid_ProcT
 exact ⟨T,N,zc,T2,N2,zc2,⟨hT,hN,hzc.trans (by rfl),hag,hsz,hzv⟩,hT2,hN2,hzc2.trans (by rfl),hag2,hsz2,hzv2⟩
theorem find_any (p : Pg) (d : GAd) (a b : List UInt8) (w : World) (own : PgOwn w w.heap.size d p) (hpa : PartsAt w) (hs : ∀ x ∈ p.xs,p.gs.length + x.ps.length + x.lg.length + x.lo.length ≤ 3999999999999) (hrs : ∀ x ∈ p.rs,x.fs.length * 32 ≤ 140737488355328) (hxs : ∀ x ∈ p.xs,WPr x) (nr ng nk nd nm nx : Nat) (hnr : nr = p.rs.length) (hng : ng = p.gs.length) (hnk : nk = p.ks.length) (hnd : nd = p.ds.length) (hnm : nm = p.ms.length) (hnx : nx = p.xs.length) :
 Calls Tryz.prog 3 #[pgA d nr ng nk nd nm nx,.string ⟨a.toArray⟩,.string ⟨b.toArray⟩] w fun e w' => e = .returned (.bool true) ∧ Below w.heap.size w w':=by
 obtain ⟨T,N,zc,T2,N2,zc2,⟨hT,hN,hzc,hag,hsz,hzv⟩,hT2,hN2,hzc2,hag2,hsz2,hzv2⟩:=hid_two
 have e1 : ∀ y : Operand,Op.load 36 y = Op.load T y:=fun y => by rw [hT]
 have e2 : ∀ y z : Operand,Op.store 36 y z = Op.store T y z:=fun y z => by rw [hT]
 have e3 : Op.alloc 36 = Op.alloc T:=by rw [hT]
 have e4 : ∀ y : Operand,Op.load 46 y = Op.load T2 y:=fun y => by rw [hT2]
 have e5 : ∀ y z : Operand,Op.store 46 y z = Op.store T2 y z:=fun y z => by rw [hT2]
 have e6 : Op.alloc 46 = Op.alloc T2:=by rw [hT2]
 obtain ⟨W1,hW1⟩ : ∃ W1,W1 = w.alloc (pgO d nr ng nk nd nm nx):=⟨_,rfl⟩
 have hb1 : Below w.heap.size w W1:=by rw [hW1];exact below_alloc w _
 have hp1 : W1.heap[w.heap.size]? = some (pgO d nr ng nk nd nm nx):=by rw [hW1];exact heap_of_alloc w _
 have HO : Hid (∀ W,Below W1.heap.size W1 W → PgOwn W W.heap.size d p):=Lib.hid (fun W hb => (own.on hb1).on hb)
 have HZ : Hid (∀ W,Below W1.heap.size W1 W → W.cell? ⟨w.heap.size,0,none⟩ = some (.slice d.r nr d.nr) ∧ W.cell? ⟨w.heap.size,1,none⟩ = some (.slice d.g ng d.ng) ∧ W.cell? ⟨w.heap.size,2,none⟩ = some (.slice d.k nk d.nk) ∧ W.cell? ⟨w.heap.size,3,none⟩ = some (.slice d.d nd d.nd) ∧ W.cell? ⟨w.heap.size,4,none⟩ = some (.slice d.m nm d.nm) ∧ W.cell? ⟨w.heap.size,5,none⟩ = some (.slice d.x nx d.nx)):=Lib.hid (fun W hb => by
  have q:=kept_box hb hp1
  exact ⟨cell_of_block q 0 rfl,cell_of_block q 1 rfl,cell_of_block q 2 rfl,cell_of_block q 3 rfl,cell_of_block q 4 rfl,cell_of_block q 5 rfl⟩)
 have HAw:=Lib.hid (taw_any W1 (hpa.on hb1))
 have HFew : Hid (∀ W,Below W1.heap.size W1 W → Calls Tryz.prog 8 #[pgA d nr ng nk nd nm nx] W fun e w' => ((∃ v : Int,e = .returned (.int .i64 v) ∧ (v = 0 ∨ v = 1))) ∧ Below W.heap.size W w'):=Lib.hid (fun W hb => by
  rw [hnr,hng,hnk,hnd,hnm,hnx]
  exact few_any p d W (HO.out W hb))
 have HSc : Hid (∀ W,Below W1.heap.size W1 W → Calls Tryz.prog 9 #[pgA d nr ng nk nd nm nx,.string ⟨a.toArray⟩] W (ScopePost p a W)):=Lib.hid (fun W hb => Scope_any p d a hs W (HO.out W hb) nr ng nk nd nm nx hng hnx)
 have HRec : Hid (∀ W,Below W1.heap.size W1 W → Calls Tryz.prog 10 #[pgA d nr ng nk nd nm nx,.string ⟨a.toArray⟩] W (ElemPost VRc ⟨[],[]⟩ (fstO (·.nm) p.rs a) W)):=Lib.hid (fun W hb => Record_any p d a hrs W (HO.out W hb) nr ng nk nd nm nx hnr)
 have HPrc : Hid (∀ W,Below W1.heap.size W1 W → Calls Tryz.prog 11 #[pgA d nr ng nk nd nm nx,.string ⟨a.toArray⟩] W (NElemPost (fstO (·.nm) p.xs a) W)):=Lib.hid (fun W hb => Proc_any p d a hxs W (HO.out W hb) nr ng nk nd nm nx hnx)
 obtain ⟨qF,hqF⟩ : ∃ q,q = fldQ p a b:=⟨_,rfl⟩
 obtain ⟨qR,hqR⟩ : ∃ q,q = ixq (fun x : Rc => x.nm == a) p.rs:=⟨_,rfl⟩
 obtain ⟨qP,hqP⟩ : ∃ q,q = ixq (fun x : Pr => x.nm == a) p.xs:=⟨_,rfl⟩
 have HFd : Hid (∀ W,Below W1.heap.size W1 W → Calls Tryz.prog 12 #[pgA d nr ng nk nd nm nx,.string ⟨a.toArray⟩,.string ⟨b.toArray⟩] W (FieldPost qF W)):=Lib.hid (fun W hb => by
  rw [hqF]
  exact Field_any p d a b W (HO.out W hb) nr ng nk nd nm nx hnr)
 have HF2 : Hid (∀ W,Below W1.heap.size W1 W → Calls Tryz.prog 13 #[pgA d nr ng nk nd nm nx,.string ⟨a.toArray⟩] W fun e w' => e = .returned (.int .i64 qR) ∧ Below W.heap.size W w'):=Lib.hid (fun W hb => by
  rw [hqR]
  exact rRecord_any p d a W (HO.out W hb) nr ng nk nd nm nx hnr)
 have HF5 : Hid (∀ W,Below W1.heap.size W1 W → Calls Tryz.prog 14 #[pgA d nr ng nk nd nm nx,.string ⟨a.toArray⟩] W fun e w' => e = .returned (.int .i64 qP) ∧ Below W.heap.size W w'):=Lib.hid (fun W hb => by
  rw [hqP]
  exact rProc_any p d a W (HO.out W hb) nr ng nk nd nm nx hnx)
 have HF9 : Hid (∀ W,Below W1.heap.size W1 W → Calls Tryz.prog 15 #[pgA d nr ng nk nd nm nx,.string ⟨a.toArray⟩,.string ⟨b.toArray⟩] W fun e w' => e = .returned (.int .i64 qF) ∧ Below W.heap.size W w'):=Lib.hid (fun W hb => by
  rw [hqF]
  exact rField_any p d a b W (HO.out W hb) nr ng nk nd nm nx hnr)
 have HQ:=Lib.hid (And.intro hqR hqP)
 have HH:=Lib.hid (And.intro hb1 (And.intro hs (And.intro hN (And.intro hzc (And.intro hN2 (And.intro hzc2 (And.intro hnr (And.intro hng hnx))))))))
 have hmx : Tryz.prog.follows .mixedOrders = true:=by kernel_rfl
 clear hT hT2 hqF hqR hqP own hpa hs hrs hxs hb1 hp1 hN hzc hN2 hzc2 hnr hng hnk hnd hnm hnx
 go_enter Tryz.func3,Tryz.ntmps3
 simp only [e1,e2,e3,e4,e5,e6]
 clear e1 e2 e3 e4 e5 e6
 go_wp2_with fail
 rw [← hW1]
 clear hW1
 (with_reducible refine HAw.out.mono ?_)
 rintro e w2 ⟨rfl,hb⟩
 have K2:=Lib.hid hb
 obtain ⟨z0,z1,z2,z3,z4,z5⟩:=HZ.out _ hb
 clear hb
 go_wp2_with fail
 (with_reducible refine (HFew.out _ K2.out).mono ?_)
 rintro e w3 ⟨⟨v,rfl,hv⟩,hb⟩
 have K3:=Lib.hid (K2.out.chain hb)
 clear hb z0 z1 z2 z3 z4 z5
 rcases hv with rfl | rfl
 ·go_wp2
  go_ret
  exact ⟨rfl,HH.out.1.chain K3.out⟩
 obtain ⟨z0,z1,z2,z3,z4,z5⟩:=HZ.out _ K3.out
 go_wp2_with fail
 (with_reducible refine (HSc.out _ K3.out).mono ?_)
 rintro e w4 ⟨hsc,hb⟩
 have K4:=Lib.hid (K3.out.chain hb)
 obtain ⟨A,m,k,ec,rfl,hsq⟩ : ∃ (A : Option Addr) (m k : Nat) (ec : Int),e = .returned (.tuple #[.slice A m k,.int .i64 ec]) ∧ ((fstO (fun y : Pr => y.nm) p.xs a = none ∧ m = 0 ∧ ec = 7) ∨ ∃ x,fstO (fun y : Pr => y.nm) p.xs a = some x ∧ ec = 0 ∧ m = (scopeL p.gs x).length ∧ RowV VPm 2 w4 w4.heap.size (scopeL p.gs x) A):=by
  rcases hsc with ⟨ho,he⟩ | ⟨x,A,m,k,ho,he,hm,hr⟩
  ·exact ⟨none,0,0,7,he,.inl ⟨ho,rfl,rfl⟩⟩
  ·exact ⟨A,m,k,0,he,.inr ⟨x,ho,rfl,hm,hr⟩⟩
 have HS:=Lib.hid hsq
 clear hb hsc hsq z0 z1 z2 z3 z4 z5
 obtain ⟨z0,z1,z2,z3,z4,z5⟩:=HZ.out _ K4.out
 go_wp2_with fail
 (with_reducible refine (HRec.out _ K4.out).mono ?_)
 rintro e w5 ⟨⟨cs,bR,y,rfl,hv,hcR⟩,hb⟩
 have K5:=Lib.hid (K4.out.chain hb)
 have HM5:=Lib.hid hb
 have hszc : cs.size = N:=(vrc_size hv).1.trans HH.out.2.2.1.symm
 have hst:=st_new (w:=w5) (t:=T) (HH.out.2.2.2.1.trans hszc.symm) (vrc_size hv).2
 have HVR:=Lib.hid hv
 have HCR:=Lib.hid (ix_join _ _ _ _ _ _ hcR)
 clear hb hv hcR z0 z1 z2 z3 z4 z5
 have HB6 : Hid (Below w5.heap.size w5 (w5.alloc (.cells cs T)) ∧ (w5.alloc (.cells cs T)).heap[w5.heap.size]? = some (.cells cs T)):=Lib.hid ⟨below_alloc _ _,heap_of_alloc _ _⟩
 obtain ⟨w6,hw6⟩ : ∃ W,W = w5.alloc (.cells cs T):=⟨_,rfl⟩
 rw [← hw6] at HB6
 have K6:=Lib.hid (K5.out.chain HB6.out.1)
 obtain ⟨z0,z1,z2,z3,z4,z5⟩:=HZ.out _ K6.out
 rw [hw6] at z0 z1 z2 z3 z4 z5
 go_wp2_with fail
 rw [← hw6]
 clear hw6 hst
 (with_reducible refine (HPrc.out _ K6.out).mono ?_)
 rintro e w7 ⟨⟨cs2,bP,yP,rfl,hv,hcP⟩,hb⟩
 have K7:=Lib.hid (K6.out.chain hb)
 have HB7:=Lib.hid (kept_box hb HB6.out.2)
 have HM7:=Lib.hid hb
 have hszc2 : cs2.size = N2:=hv.1.trans HH.out.2.2.2.2.1.symm
 have hst:=st_new (w:=w7) (t:=T2) (HH.out.2.2.2.2.2.1.trans hszc2.symm) hv.2.1
 have HVP:=Lib.hid hv
 have HCP:=Lib.hid (ix_join _ _ _ _ _ _ hcP)
 clear hb hv hcP z0 z1 z2 z3 z4 z5
 have HB8 : Hid (Below w7.heap.size w7 (w7.alloc (.cells cs2 T2)) ∧ (w7.alloc (.cells cs2 T2)).heap[w7.heap.size]? = some (.cells cs2 T2)):=Lib.hid ⟨below_alloc _ _,heap_of_alloc _ _⟩
 obtain ⟨w8,hw8⟩ : ∃ W,W = w7.alloc (.cells cs2 T2):=⟨_,rfl⟩
 rw [← hw8] at HB8
 have K8:=Lib.hid (K7.out.chain HB8.out.1)
 obtain ⟨z0,z1,z2,z3,z4,z5⟩:=HZ.out _ K8.out
 rw [hw8] at z0 z1 z2 z3 z4 z5
 go_wp2_with fail
 rw [← hw8]
 clear hw8 hst
 (with_reducible refine (HFd.out _ K8.out).mono ?_)
 rintro e w9 ⟨⟨vi,bF,rfl,hcF⟩,hb⟩
 have K9:=Lib.hid (K8.out.chain hb)
 have HM9:=Lib.hid (HM7.out.chain (HB8.out.1.chain hb))
 have HB9:=Lib.hid (And.intro (kept_box hb (kept_box HB8.out.1 HB7.out)) (kept_box hb HB8.out.2))
 have HCF:=Lib.hid hcF
 clear hb hcF z0 z1 z2 z3 z4 z5
 -- the reference's three calls
 obtain ⟨S,hS⟩ : ∃ S : World → Prop,S = fun W => Below w9.heap.size w9 W:=⟨_,rfl⟩
 have HS2 : Hid (∀ W,Below w9.heap.size w9 W → S W):=Lib.hid (fun W hb => by rw [hS];exact hb)
 have HSB : Hid (∀ W,S W → Below w9.heap.size w9 W):=Lib.hid (fun W hb => by rw [hS] at hb;exact hb)
 have HLD : Hid (∀ W,S W → W.cell? ⟨w.heap.size,0,none⟩ = some (.slice d.r nr d.nr) ∧ W.cell? ⟨w.heap.size,1,none⟩ = some (.slice d.g ng d.ng) ∧ W.cell? ⟨w.heap.size,2,none⟩ = some (.slice d.k nk d.nk) ∧ W.cell? ⟨w.heap.size,3,none⟩ = some (.slice d.d nd d.nd) ∧ W.cell? ⟨w.heap.size,4,none⟩ = some (.slice d.m nm d.nm) ∧ W.cell? ⟨w.heap.size,5,none⟩ = some (.slice d.x nx d.nx)):=Lib.hid (fun W h => HZ.out W (K9.out.chain (HSB.out W h)))
 have X0:=Lib.hid (Below.refl w9.heap.size w9).drew
 have g0:=HS2.out _ X0.out
 clear hS
 go_upto_region 9 with fail
 go_cut [15,16,17] from 48 to 57 (fun v15 v16 v17 wx => ∃ W : World,W = wx ∧ v15 = .int .i64 qR ∧ v16 = .int .i64 qP ∧ v17 = .int .i64 qF ∧ Hid (Below w9.heap.size w9 wx))
 case first =>
  refine wp_region_held (S:=S) hmx ?_
  change wpAnyH _ _ _ _ _ 13 #[false,false,false,false,false,false,false,false,false,false,false,false,false] _ w9.drew
  refine tk 0 48 (pgA d nr ng nk nd nm nx) g0 ?v ?_
  case v => intro Wx hSx;obtain ⟨z0,z1,z2,z3,z4,z5⟩:=HLD.out Wx hSx;go_simp
  refine tk 1 49 (.string ⟨a.toArray⟩) g0 ?v ?_
  case v => intro Wx hSx;go_simp
  refine tk 3 51 (pgA d nr ng nk nd nm nx) g0 ?v ?_
  case v => intro Wx hSx;obtain ⟨z0,z1,z2,z3,z4,z5⟩:=HLD.out Wx hSx;go_simp
  refine tk 4 52 (.string ⟨a.toArray⟩) g0 ?v ?_
  case v => intro Wx hSx;go_simp
  try simp only [Act.put,List.setIfInBounds_toArray,List.set_cons_zero,List.set_cons_succ]
  refine tk 6 54 (pgA d nr ng nk nd nm nx) g0 ?v ?_
  case v => intro Wx hSx;obtain ⟨z0,z1,z2,z3,z4,z5⟩:=HLD.out Wx hSx;go_simp
  refine tk 7 55 (.string ⟨a.toArray⟩) g0 ?v ?_
  case v => intro Wx hSx;go_simp
  refine tk 8 56 (.string ⟨b.toArray⟩) g0 ?v ?_
  case v => intro Wx hSx;go_simp
  try simp only [Act.put,List.setIfInBounds_toArray,List.set_cons_zero,List.set_cons_succ]
  refine o1 2 (fun K hK => ?_)
  go_simp
  (with_reducible refine (HF2.out _ (K9.out.chain X0.out)).mono ?_)
  rintro e xX02 ⟨rfl,hb⟩
  have X02:=Lib.hid (X0.out.chain hb)
  clear hb
  refine hK _ _ (HS2.out _ X02.out) ?_
  clear hK K
  try simp only [Act.put,List.setIfInBounds_toArray,List.set_cons_zero,List.set_cons_succ]
  refine o1 5 (fun K hK => ?_)
  go_simp
  (with_reducible refine (HF5.out _ (K9.out.chain X02.out)).mono ?_)
  rintro e xX025 ⟨rfl,hb⟩
  have X025:=Lib.hid (X02.out.chain hb)
  clear hb
  refine hK _ _ (HS2.out _ X025.out) ?_
  clear hK K
  try simp only [Act.put,List.setIfInBounds_toArray,List.set_cons_zero,List.set_cons_succ]
  refine o1 9 (fun K hK => ?_)
  go_simp
  (with_reducible refine (HF9.out _ (K9.out.chain X025.out)).mono ?_)
  rintro e xX0259 ⟨rfl,hb⟩
  have X0259:=Lib.hid (X025.out.chain hb)
  clear hb
  refine hK _ _ (HS2.out _ X0259.out) ?_
  clear hK K
  try simp only [Act.put,List.setIfInBounds_toArray,List.set_cons_zero,List.set_cons_succ]
  have gx:=HS2.out _ X0259.out
  refine tk 10 15 (.int .i64 qR) gx ?v ?_
  case v => intro Wx hSx;go_simp
  refine tk 11 16 (.int .i64 qP) gx ?v ?_
  case v => intro Wx hSx;go_simp
  refine tk 12 17 (.int .i64 qF) gx ?v ?_
  case v => intro Wx hSx;go_simp
  try simp only [Act.put,List.setIfInBounds_toArray,List.set_cons_zero,List.set_cons_succ]
  refine wpAnyH_done (by kernel_rfl) ?_ _
  go_wp2
  go_meet
  exact ⟨_,rfl,rfl,rfl,rfl,Lib.hid X0259.out⟩
 case rest =>
  obtain ⟨U,rfl,rfl,rfl,rfl,HX⟩:=hcut
  clear g0 X0 HSc HRec HPrc HFd HF2 HF5 HF9 HFew HAw HZ
  rcases HCF.out with ⟨rfl,hvi,h0⟩ | ⟨rfl,hvi,hqF⟩
  ·subst hvi
   clear HCF
   rcases HCP.out with ⟨rfl,hyP,hqP',hoP⟩ | ⟨kP,rfl,hqP',hxP,hnP,hltP,hoP⟩
   ·have hqp : qP = -1:=HQ.out.2.trans hqP'
    subst hqp
    subst hyP
    obtain ⟨hm0,hec⟩ : m = 0 ∧ ec = 7:=by
     rcases HS.out with ⟨-,h1,h2⟩ | ⟨x,ho,_⟩
     ·exact ⟨h1,h2⟩
     ·exact absurd (ho.symm.trans hoP) (by simp)
    subst hm0
    subst hec
    have HLDP : Hid (∀ W,S W → W.cell? ⟨w7.heap.size,0,none⟩ = some (.string ⟨#[]⟩)):=Lib.hid (fun W h => cell_of_block (kept_box (HSB.out W h) HB9.out.2) 0 HVP.out.2.2)
    clear hqP' hoP
    rcases HCR.out with ⟨rfl,hyR,hqR',-⟩ | ⟨kR,rfl,hqR',hxR,hnR,hltR,-⟩
    ·have hqr : qR = -1:=HQ.out.1.trans hqR'
     subst hqr
     subst hyR
     obtain ⟨AR,cR,hcsR,-⟩:=HVR.out
     have HLDR : Hid (∀ W,S W → W.cell? ⟨w5.heap.size,0,none⟩ = some (.string ⟨#[]⟩) ∧ W.cell? ⟨w5.heap.size,1,none⟩ = some (.slice AR 0 cR)):=Lib.hid (fun W h => by
      have q:=kept_box (HSB.out W h) HB9.out.1
      exact ⟨cell_of_block q 0 (by rw [hcsR];rfl),cell_of_block q 1 (by rw [hcsR];rfl)⟩)
     clear hqR' hcsR
     have X12:=Lib.hid (HX.out.chain (Below.refl U.heap.size U).drew)
     obtain ⟨xX12,hx⟩ : ∃ X,X = U.drew:=⟨_,rfl⟩
     go_wp2
     refine wp_region_held (S:=S) hmx ?_
     change wpAnyH _ _ _ _ _ 34 #[false,false,false,false,false,false,false,false,false,false,false,false,false,false,false,false,false,false,false,false,false,false,false,false,false,false,false,false,false,false,false,false,false,false] _ U.drew
     rw [← hx] at X12 ⊢
     clear hx
     have g12:=HS2.out _ X12.out
     refine tk 0 109 (.bool false) g12 ?v ?_
     case v => intro Wx hSx;go_simp
     refine tk 1 110 (.bool false) g12 ?v ?_
     case v => intro Wx hSx;go_simp
     refine sk 2 111 g12 ?_
     refine sk 3 112 g12 ?_
     try simp only [Act.put,List.setIfInBounds_toArray,List.set_cons_zero,List.set_cons_succ]
     refine sk 4 113 g12 ?_
     refine sk 5 114 g12 ?_
     refine sk 6 115 g12 ?_
     refine sk 7 116 g12 ?_
     try simp only [Act.put,List.setIfInBounds_toArray,List.set_cons_zero,List.set_cons_succ]
     refine sk 8 117 g12 ?_
     refine sk 9 118 g12 ?_
     refine sk 10 119 g12 ?_
     refine sk 11 120 g12 ?_
     try simp only [Act.put,List.setIfInBounds_toArray,List.set_cons_zero,List.set_cons_succ]
     refine sk 12 121 g12 ?_
     refine sk 13 122 g12 ?_
     refine sk 14 123 g12 ?_
     refine sk 15 124 g12 ?_
     try simp only [Act.put,List.setIfInBounds_toArray,List.set_cons_zero,List.set_cons_succ]
     refine sk 16 125 g12 ?_
     refine sk 17 126 g12 ?_
     refine tk 18 127 (.bool false) g12 ?v ?_
     case v => intro Wx hSx;go_simp
     refine tk 19 128 (.bool false) g12 ?v ?_
     case v => intro Wx hSx;go_simp
     try simp only [Act.put,List.setIfInBounds_toArray,List.set_cons_zero,List.set_cons_succ]
     refine tk 20 129 (.bool false) g12 ?v ?_
     case v => intro Wx hSx;go_simp
     refine tk 21 130 (.bool true) g12 ?v ?_
     case v => intro Wx hSx;go_simp
     refine tk 22 131 (.bool true) g12 ?v ?_
     case v => intro Wx hSx;go_simp
     refine tk 23 132 (.pointer (some ⟨w5.heap.size,0,none⟩)) g12 ?v ?_
     case v => intro Wx hSx;go_simp
     try simp only [Act.put,List.setIfInBounds_toArray,List.set_cons_zero,List.set_cons_succ]
     refine tk 24 133 (.string ⟨#[]⟩) g12 ?v ?_
     case v => intro Wx hSx;obtain ⟨y0,y1⟩:=HLDR.out Wx hSx;go_simp
     refine tk 25 134 (.bool false) g12 ?v ?_
     case v => intro Wx hSx;go_simp
     refine tk 26 135 (.bool false) g12 ?v ?_
     case v => intro Wx hSx;go_simp
     refine tk 27 136 (.pointer (some ⟨w5.heap.size,1,none⟩)) g12 ?v ?_
     case v => intro Wx hSx;go_simp
     try simp only [Act.put,List.setIfInBounds_toArray,List.set_cons_zero,List.set_cons_succ]
     refine tk 28 137 (.slice AR 0 cR) g12 ?v ?_
     case v => intro Wx hSx;obtain ⟨y0,y1⟩:=HLDR.out Wx hSx;go_simp
     refine tk 29 138 (.int .i64 0) g12 ?v ?_
     case v => intro Wx hSx;go_simp
     refine tk 30 139 (.bool false) g12 ?v ?_
     case v => intro Wx hSx;go_simp
     refine tk 31 140 (.bool false) g12 ?v ?_
     case v => intro Wx hSx;go_simp
     try simp only [Act.put,List.setIfInBounds_toArray,List.set_cons_zero,List.set_cons_succ]
     refine tk 32 141 (.bool false) g12 ?v ?_
     case v => intro Wx hSx;go_simp
     refine tk 33 142 (.bool false) g12 ?v ?_
     case v => intro Wx hSx;go_simp
     try simp only [Act.put,List.setIfInBounds_toArray,List.set_cons_zero,List.set_cons_succ]
     refine wpAnyH_done (by kernel_rfl) ?_ _
     have X14:=Lib.hid (X12.out.chain (Below.refl xX12.heap.size xX12).drew)
     obtain ⟨xX14,hx⟩ : ∃ X,X = xX12.drew:=⟨_,rfl⟩
     go_wp2
     refine wp_region_held (S:=S) hmx ?_
     change wpAnyH _ _ _ _ _ 28 #[false,false,false,false,false,false,false,false,false,false,false,false,false,false,false,false,false,false,false,false,false,false,false,false,false,false,false,false] _ xX12.drew
     rw [← hx] at X14 ⊢
     clear hx
     have g14:=HS2.out _ X14.out
     refine tk 0 143 (.bool false) g14 ?v ?_
     case v => intro Wx hSx;go_simp
     refine tk 1 144 (.bool true) g14 ?v ?_
     case v => intro Wx hSx;go_simp
     refine tk 2 145 (.bool true) g14 ?v ?_
     case v => intro Wx hSx;go_simp
     refine tk 3 146 (.pointer (some ⟨w7.heap.size,0,none⟩)) g14 ?v ?_
     case v => intro Wx hSx;go_simp
     try simp only [Act.put,List.setIfInBounds_toArray,List.set_cons_zero,List.set_cons_succ]
     refine tk 4 147 (.string ⟨#[]⟩) g14 ?v ?_
     case v => intro Wx hSx;obtain y0:=HLDP.out Wx hSx;go_simp
     refine tk 5 148 (.bool true) g14 ?v ?_
     case v => intro Wx hSx;go_simp
     refine tk 6 149 (.bool true) g14 ?v ?_
     case v => intro Wx hSx;go_simp
     refine tk 7 150 (.bool true) g14 ?v ?_
     case v => intro Wx hSx;go_simp
     try simp only [Act.put,List.setIfInBounds_toArray,List.set_cons_zero,List.set_cons_succ]
     refine sk 8 151 g14 ?_
     refine sk 9 152 g14 ?_
     refine sk 10 153 g14 ?_
     refine sk 11 154 g14 ?_
     try simp only [Act.put,List.setIfInBounds_toArray,List.set_cons_zero,List.set_cons_succ]
     refine sk 12 155 g14 ?_
     refine sk 13 156 g14 ?_
     refine sk 14 157 g14 ?_
     refine sk 15 158 g14 ?_
     try simp only [Act.put,List.setIfInBounds_toArray,List.set_cons_zero,List.set_cons_succ]
     refine sk 16 159 g14 ?_
     refine sk 17 160 g14 ?_
     refine sk 18 161 g14 ?_
     refine sk 19 162 g14 ?_
     try simp only [Act.put,List.setIfInBounds_toArray,List.set_cons_zero,List.set_cons_succ]
     refine sk 20 163 g14 ?_
     refine sk 21 164 g14 ?_
     refine sk 22 165 g14 ?_
     refine sk 23 166 g14 ?_
     try simp only [Act.put,List.setIfInBounds_toArray,List.set_cons_zero,List.set_cons_succ]
     refine sk 24 167 g14 ?_
     refine sk 25 168 g14 ?_
     refine tk 26 169 (.bool true) g14 ?v ?_
     case v => intro Wx hSx;go_simp
     refine tk 27 6 (.bool true) g14 ?v ?_
     case v => intro Wx hSx;go_simp
     try simp only [Act.put,List.setIfInBounds_toArray,List.set_cons_zero,List.set_cons_succ]
     try simp only [Act.put,List.setIfInBounds_toArray,List.set_cons_zero,List.set_cons_succ]
     refine wpAnyH_done (by kernel_rfl) ?_ _
     go_wp2
     go_ret
     exact ⟨rfl,HH.out.1.chain (K9.out.chain X14.out)⟩
    ·have hqr : qR = (kR : Int):=HQ.out.1.trans hqR'
     subst hqr
     obtain ⟨ar,cs',hAr,habr,hcs',hcar,A1,c1,hcs2,hnl2,hfm2,hrow2⟩:=rc_rowV (HO.out w9 K9.out).2.1 kR y hxR
     obtain ⟨AR,cR,hcsR,hnlR,hflR,hrowR⟩:=HVR.out
     obtain ⟨n,hn⟩ : ∃ n,n = y.fs.length:=⟨_,rfl⟩
     have HLDR : Hid (∀ W,S W → W.cell? ⟨w5.heap.size,0,none⟩ = some (.string ⟨a.toArray⟩) ∧ W.cell? ⟨w5.heap.size,1,none⟩ = some (.slice AR n cR) ∧ W.cell? ⟨w.heap.size,0,none⟩ = some (.slice (some ar) nr d.nr) ∧ W.cell? ⟨(ar.add (kR * 2)).block,(ar.add (kR * 2)).off + 1,none⟩ = some (.slice A1 n c1)):=Lib.hid (fun W h => by
      have q:=kept_box (HSB.out W h) HB9.out.1
      refine ⟨cell_of_block q 0 (by rw [hcsR,← hnR];rfl),cell_of_block q 1 (by rw [hcsR,hn];rfl),by rw [← hAr];exact (HLD.out W h).1,?_⟩
      have h1:=hcar 1 (.slice A1 n c1) (by rw [hcs2,hn];rfl)
      have h2 : W.cell? ((ar.add (kR * 2)).add 1) = some (.slice A1 n c1):=((HSB.out W h).cell (by rw [block_adds,block_adds];exact habr)).trans h1
      exact h2)
     have HEqR : Hid (∀ W,S W → Calls Tryz.prog 16 #[.slice AR n cR,.slice A1 n c1] W fun e w' => e = .returned (.bool true) ∧ Below W.heap.size W w'):=Lib.hid (fun W h => by
      have hb5 : Below w5.heap.size w5 W:=HB6.out.1.chain (HM9.out.chain (HSB.out W h))
      exact equalPm_same AR A1 cR c1 n y.fs hn (by rw [hn];exact hflR) W.heap.size W (Nat.le_refl _) (rowMore hb5.size (rowB vpm_keeps (Nat.le_refl _) hb5 (pm_rowV hrowR))) (rowMore (HSB.out W h).size (rowB vpm_keeps (Nat.le_refl _) (HSB.out W h) (pm_rowV hrow2))))
     have hkr : (kR : Int) < nr:=by have := HH.out.2.2.2.2.2.2.1;omega
     have hkr0 : (0 : Int) ≤ kR:=by omega
     have hkr1 : ¬ (kR : Int) < 0:=by omega
     clear hqR' hxR hnR hltR hAr habr hcs' hcar hcs2 hnl2 hfm2 hrow2 hcsR hnlR hflR hrowR hn
     have X12:=Lib.hid (HX.out.chain (Below.refl U.heap.size U).drew)
     obtain ⟨xX12,hx⟩ : ∃ X,X = U.drew:=⟨_,rfl⟩
     go_wp2
     refine wp_region_held (S:=S) hmx ?_
     change wpAnyH _ _ _ _ _ 34 #[false,false,false,false,false,false,false,false,false,false,false,false,false,false,false,false,false,false,false,false,false,false,false,false,false,false,false,false,false,false,false,false,false,false] _ U.drew
     rw [← hx] at X12 ⊢
     clear hx
     have g12:=HS2.out _ X12.out
     refine tk 0 109 (.bool true) g12 ?v ?_
     case v => intro Wx hSx;go_simp
     refine tk 1 110 (.bool true) g12 ?v ?_
     case v => intro Wx hSx;go_simp
     refine tk 2 111 (.pointer (some ⟨w5.heap.size,0,none⟩)) g12 ?v ?_
     case v => intro Wx hSx;go_simp
     refine tk 3 112 (.string ⟨a.toArray⟩) g12 ?v ?_
     case v => intro Wx hSx;obtain ⟨y0,y1,y2,y3⟩:=HLDR.out Wx hSx;go_simp
     try simp only [Act.put,List.setIfInBounds_toArray,List.set_cons_zero,List.set_cons_succ]
     refine tk 4 113 (.string ⟨a.toArray⟩) g12 ?v ?_
     case v => intro Wx hSx;go_simp
     refine tk 5 114 (.bool false) g12 ?v ?_
     case v => intro Wx hSx;go_simp
     refine tk 6 115 (.bool false) g12 ?v ?_
     case v => intro Wx hSx;go_simp
     refine tk 7 116 (.pointer (some ⟨w5.heap.size,1,none⟩)) g12 ?v ?_
     case v => intro Wx hSx;go_simp
     try simp only [Act.put,List.setIfInBounds_toArray,List.set_cons_zero,List.set_cons_succ]
     refine tk 8 117 (.slice AR n cR) g12 ?v ?_
     case v => intro Wx hSx;obtain ⟨y0,y1,y2,y3⟩:=HLDR.out Wx hSx;go_simp
     refine tk 9 118 (.pointer (some ⟨w.heap.size,0,none⟩)) g12 ?v ?_
     case v => intro Wx hSx;go_simp
     refine tk 10 119 (.slice (some ar) nr d.nr) g12 ?v ?_
     case v => intro Wx hSx;obtain ⟨y0,y1,y2,y3⟩:=HLDR.out Wx hSx;go_simp
     refine tk 11 120 (.int .i64 kR) g12 ?v ?_
     case v => intro Wx hSx;go_simp
     try simp only [Act.put,List.setIfInBounds_toArray,List.set_cons_zero,List.set_cons_succ]
     refine tk 12 121 (.pointer (some (ar.add (kR * 2)))) g12 ?v ?_
     case v => intro Wx hSx;go_simp
     refine tk 13 122 (.pointer (some ⟨(ar.add (kR * 2)).block,(ar.add (kR * 2)).off + 1,none⟩)) g12 ?v ?_
     case v => intro Wx hSx;go_simp
     refine tk 14 123 (.slice A1 n c1) g12 ?v ?_
     case v => intro Wx hSx;obtain ⟨y0,y1,y2,y3⟩:=HLDR.out Wx hSx;go_simp
     try simp only [Act.put,List.setIfInBounds_toArray,List.set_cons_zero,List.set_cons_succ]
     refine o1 15 (fun K hK => ?_)
     go_simp
     (with_reducible refine (HEqR.out _ g12).mono ?_)
     rintro e xE ⟨rfl,hb⟩
     have XE:=Lib.hid (X12.out.chain hb)
     clear hb
     have gE:=HS2.out _ XE.out
     refine hK _ _ gE ?_
     clear hK K
     try simp only [Act.put,List.setIfInBounds_toArray,List.set_cons_zero,List.set_cons_succ]
     refine tk 16 125 (.bool false) gE ?v ?_
     case v => intro Wx hSx;go_simp
     refine tk 17 126 (.bool false) gE ?v ?_
     case v => intro Wx hSx;go_simp
     refine tk 18 127 (.bool false) gE ?v ?_
     case v => intro Wx hSx;go_simp
     refine tk 19 128 (.bool false) gE ?v ?_
     case v => intro Wx hSx;go_simp
     try simp only [Act.put,List.setIfInBounds_toArray,List.set_cons_zero,List.set_cons_succ]
     refine tk 20 129 (.bool true) gE ?v ?_
     case v => intro Wx hSx;go_simp
     refine tk 21 130 (.bool false) gE ?v ?_
     case v => intro Wx hSx;go_simp
     refine tk 22 131 (.bool false) gE ?v ?_
     case v => intro Wx hSx;go_simp
     refine sk 23 132 gE ?_
     try simp only [Act.put,List.setIfInBounds_toArray,List.set_cons_zero,List.set_cons_succ]
     refine sk 24 133 gE ?_
     refine sk 25 134 gE ?_
     refine sk 26 135 gE ?_
     refine sk 27 136 gE ?_
     try simp only [Act.put,List.setIfInBounds_toArray,List.set_cons_zero,List.set_cons_succ]
     refine sk 28 137 gE ?_
     refine sk 29 138 gE ?_
     refine sk 30 139 gE ?_
     refine sk 31 140 gE ?_
     try simp only [Act.put,List.setIfInBounds_toArray,List.set_cons_zero,List.set_cons_succ]
     refine tk 32 141 (.bool false) gE ?v ?_
     case v => intro Wx hSx;go_simp
     refine tk 33 142 (.bool false) gE ?v ?_
     case v => intro Wx hSx;go_simp
     try simp only [Act.put,List.setIfInBounds_toArray,List.set_cons_zero,List.set_cons_succ]
     refine wpAnyH_done (by kernel_rfl) ?_ _
     have X14:=Lib.hid (XE.out.chain (Below.refl xE.heap.size xE).drew)
     obtain ⟨xX14,hx⟩ : ∃ X,X = xE.drew:=⟨_,rfl⟩
     go_wp2
     refine wp_region_held (S:=S) hmx ?_
     change wpAnyH _ _ _ _ _ 28 #[false,false,false,false,false,false,false,false,false,false,false,false,false,false,false,false,false,false,false,false,false,false,false,false,false,false,false,false] _ xE.drew
     rw [← hx] at X14 ⊢
     clear hx
     have g14:=HS2.out _ X14.out
     refine tk 0 143 (.bool false) g14 ?v ?_
     case v => intro Wx hSx;go_simp
     refine tk 1 144 (.bool true) g14 ?v ?_
     case v => intro Wx hSx;go_simp
     refine tk 2 145 (.bool true) g14 ?v ?_
     case v => intro Wx hSx;go_simp
     refine tk 3 146 (.pointer (some ⟨w7.heap.size,0,none⟩)) g14 ?v ?_
     case v => intro Wx hSx;go_simp
     try simp only [Act.put,List.setIfInBounds_toArray,List.set_cons_zero,List.set_cons_succ]
     refine tk 4 147 (.string ⟨#[]⟩) g14 ?v ?_
     case v => intro Wx hSx;obtain y0:=HLDP.out Wx hSx;go_simp
     refine tk 5 148 (.bool true) g14 ?v ?_
     case v => intro Wx hSx;go_simp
     refine tk 6 149 (.bool true) g14 ?v ?_
     case v => intro Wx hSx;go_simp
     refine tk 7 150 (.bool true) g14 ?v ?_
     case v => intro Wx hSx;go_simp
     try simp only [Act.put,List.setIfInBounds_toArray,List.set_cons_zero,List.set_cons_succ]
     refine sk 8 151 g14 ?_
     refine sk 9 152 g14 ?_
     refine sk 10 153 g14 ?_
     refine sk 11 154 g14 ?_
     try simp only [Act.put,List.setIfInBounds_toArray,List.set_cons_zero,List.set_cons_succ]
     refine sk 12 155 g14 ?_
     refine sk 13 156 g14 ?_
     refine sk 14 157 g14 ?_
     refine sk 15 158 g14 ?_
     try simp only [Act.put,List.setIfInBounds_toArray,List.set_cons_zero,List.set_cons_succ]
     refine sk 16 159 g14 ?_
     refine sk 17 160 g14 ?_
     refine sk 18 161 g14 ?_
     refine sk 19 162 g14 ?_
     try simp only [Act.put,List.setIfInBounds_toArray,List.set_cons_zero,List.set_cons_succ]
     refine sk 20 163 g14 ?_
     refine sk 21 164 g14 ?_
     refine sk 22 165 g14 ?_
     refine sk 23 166 g14 ?_
     try simp only [Act.put,List.setIfInBounds_toArray,List.set_cons_zero,List.set_cons_succ]
     refine sk 24 167 g14 ?_
     refine sk 25 168 g14 ?_
     refine tk 26 169 (.bool true) g14 ?v ?_
     case v => intro Wx hSx;go_simp
     refine tk 27 6 (.bool true) g14 ?v ?_
     case v => intro Wx hSx;go_simp
     try simp only [Act.put,List.setIfInBounds_toArray,List.set_cons_zero,List.set_cons_succ]
     try simp only [Act.put,List.setIfInBounds_toArray,List.set_cons_zero,List.set_cons_succ]
     refine wpAnyH_done (by kernel_rfl) ?_ _
     go_wp2
     go_ret
     exact ⟨rfl,HH.out.1.chain (K9.out.chain X14.out)⟩
   ·have hqp : qP = (kP : Int):=HQ.out.2.trans hqP'
    subst hqp
    rcases HS.out with ⟨ho,_,_⟩ | ⟨x,ho,hec,hm,hrow⟩
    ·exact absurd (ho.symm.trans hoP) (by simp)
    obtain rfl:=Option.some.inj (ho.symm.trans hoP)
    subst hec
    obtain ⟨ax,csx,hAx,habx,hcsx,hcax,dp,hdp,how⟩:=pr_rowV (HO.out w9 K9.out).2.2.2.2.2.2 kP x hxP
    have hlx:=HH.out.2.1 x (List.mem_of_getElem? hxP)
    have hszx : csx.size = N2:=hcsx.trans HH.out.2.2.2.2.1.symm
    have HLDP : Hid (∀ W,S W → W.cell? ⟨w7.heap.size,0,none⟩ = some (.string ⟨a.toArray⟩) ∧ W.cell? ⟨w.heap.size,5,none⟩ = some (.slice (some ax) nx d.nx) ∧ (loadCellsFrom (ax.add (kP * 12)) 0 N2 #[]).run Tryz.prog W = .ok csx W):=Lib.hid (fun W h => by
     have q:=kept_box (HSB.out W h) HB9.out.2
     refine ⟨cell_of_block q 0 (by rw [← hnP];exact HVP.out.2.2),by rw [← hAx];exact (HLD.out W h).2.2.2.2.2,load_list (fun j v hv => ((HSB.out W h).cell (by rw [block_adds,block_adds];exact habx)).trans (hcax j v hv)) hszx⟩)
    have HRS : Hid (∀ W,S W → Calls Tryz.prog 17 #[pgA d nr ng nk nd nm nx,.agg csx] W (RowPost (scopeL p.gs x) W)):=Lib.hid (fun W h => by
     rw [hdp]
     exact rScope_any p d x dp W (HO.out W (K9.out.chain (HSB.out W h))) (how.on (HSB.out W h)) nr ng nk nd nm nx HH.out.2.2.2.2.2.2.2.1 hlx)
    have HRM:=Lib.hid hm
    have HEqP : Hid (∀ W (A' : Option Addr) (k' : Nat),S W → RowV VPm 2 W W.heap.size (scopeL p.gs x) A' → Calls Tryz.prog 16 #[.slice A m k,.slice A' m k'] W fun e w' => e = .returned (.bool true) ∧ Below W.heap.size W w'):=Lib.hid (fun W A' k' h hr' => by
     have hb4 : Below w4.heap.size w4 W:=HM5.out.chain (HB6.out.1.chain (HM9.out.chain (HSB.out W h)))
     refine equalPm_same A A' k k' m (scopeL p.gs x) hm ?_ W.heap.size W (Nat.le_refl _) (rowMore hb4.size (rowB vpm_keeps (Nat.le_refl _) hb4 hrow)) hr'
     rw [hm]
     unfold scopeL maxLen
     simp only [List.length_append]
     have := resL_le x
     omega)
    have hkp : (kP : Int) < nx:=by have := HH.out.2.2.2.2.2.2.2.2;omega
    have hkp0 : (0 : Int) ≤ kP:=by omega
    have hkp1 : ¬ (kP : Int) < 0:=by omega
    clear ho hoP hqP' hxP hnP hltP hAx habx hcsx hcax hdp how hlx hm hrow
    rcases HCR.out with ⟨rfl,hyR,hqR',-⟩ | ⟨kR,rfl,hqR',hxR,hnR,hltR,-⟩
    ·have hqr : qR = -1:=HQ.out.1.trans hqR'
     subst hqr
     subst hyR
     obtain ⟨AR,cR,hcsR,-⟩:=HVR.out
     have HLDR : Hid (∀ W,S W → W.cell? ⟨w5.heap.size,0,none⟩ = some (.string ⟨#[]⟩) ∧ W.cell? ⟨w5.heap.size,1,none⟩ = some (.slice AR 0 cR)):=Lib.hid (fun W h => by
      have q:=kept_box (HSB.out W h) HB9.out.1
      exact ⟨cell_of_block q 0 (by rw [hcsR];rfl),cell_of_block q 1 (by rw [hcsR];rfl)⟩)
     clear hqR' hcsR
     have X12:=Lib.hid (HX.out.chain (Below.refl U.heap.size U).drew)
     obtain ⟨xX12,hx⟩ : ∃ X,X = U.drew:=⟨_,rfl⟩
     go_wp2
     refine wp_region_held (S:=S) hmx ?_
     change wpAnyH _ _ _ _ _ 34 #[false,false,false,false,false,false,false,false,false,false,false,false,false,false,false,false,false,false,false,false,false,false,false,false,false,false,false,false,false,false,false,false,false,false] _ U.drew
     rw [← hx] at X12 ⊢
     clear hx
     have g12:=HS2.out _ X12.out
     refine tk 0 109 (.bool false) g12 ?v ?_
     case v => intro Wx hSx;go_simp
     refine tk 1 110 (.bool false) g12 ?v ?_
     case v => intro Wx hSx;go_simp
     refine sk 2 111 g12 ?_
     refine sk 3 112 g12 ?_
     try simp only [Act.put,List.setIfInBounds_toArray,List.set_cons_zero,List.set_cons_succ]
     refine sk 4 113 g12 ?_
     refine sk 5 114 g12 ?_
     refine sk 6 115 g12 ?_
     refine sk 7 116 g12 ?_
     try simp only [Act.put,List.setIfInBounds_toArray,List.set_cons_zero,List.set_cons_succ]
     refine sk 8 117 g12 ?_
     refine sk 9 118 g12 ?_
     refine sk 10 119 g12 ?_
     refine sk 11 120 g12 ?_
     try simp only [Act.put,List.setIfInBounds_toArray,List.set_cons_zero,List.set_cons_succ]
     refine sk 12 121 g12 ?_
     refine sk 13 122 g12 ?_
     refine sk 14 123 g12 ?_
     refine sk 15 124 g12 ?_
     try simp only [Act.put,List.setIfInBounds_toArray,List.set_cons_zero,List.set_cons_succ]
     refine sk 16 125 g12 ?_
     refine sk 17 126 g12 ?_
     refine tk 18 127 (.bool false) g12 ?v ?_
     case v => intro Wx hSx;go_simp
     refine tk 19 128 (.bool false) g12 ?v ?_
     case v => intro Wx hSx;go_simp
     try simp only [Act.put,List.setIfInBounds_toArray,List.set_cons_zero,List.set_cons_succ]
     refine tk 20 129 (.bool false) g12 ?v ?_
     case v => intro Wx hSx;go_simp
     refine tk 21 130 (.bool true) g12 ?v ?_
     case v => intro Wx hSx;go_simp
     refine tk 22 131 (.bool true) g12 ?v ?_
     case v => intro Wx hSx;go_simp
     refine tk 23 132 (.pointer (some ⟨w5.heap.size,0,none⟩)) g12 ?v ?_
     case v => intro Wx hSx;go_simp
     try simp only [Act.put,List.setIfInBounds_toArray,List.set_cons_zero,List.set_cons_succ]
     refine tk 24 133 (.string ⟨#[]⟩) g12 ?v ?_
     case v => intro Wx hSx;obtain ⟨y0,y1⟩:=HLDR.out Wx hSx;go_simp
     refine tk 25 134 (.bool false) g12 ?v ?_
     case v => intro Wx hSx;go_simp
     refine tk 26 135 (.bool false) g12 ?v ?_
     case v => intro Wx hSx;go_simp
     refine tk 27 136 (.pointer (some ⟨w5.heap.size,1,none⟩)) g12 ?v ?_
     case v => intro Wx hSx;go_simp
     try simp only [Act.put,List.setIfInBounds_toArray,List.set_cons_zero,List.set_cons_succ]
     refine tk 28 137 (.slice AR 0 cR) g12 ?v ?_
     case v => intro Wx hSx;obtain ⟨y0,y1⟩:=HLDR.out Wx hSx;go_simp
     refine tk 29 138 (.int .i64 0) g12 ?v ?_
     case v => intro Wx hSx;go_simp
     refine tk 30 139 (.bool false) g12 ?v ?_
     case v => intro Wx hSx;go_simp
     refine tk 31 140 (.bool false) g12 ?v ?_
     case v => intro Wx hSx;go_simp
     try simp only [Act.put,List.setIfInBounds_toArray,List.set_cons_zero,List.set_cons_succ]
     refine tk 32 141 (.bool false) g12 ?v ?_
     case v => intro Wx hSx;go_simp
     refine tk 33 142 (.bool false) g12 ?v ?_
     case v => intro Wx hSx;go_simp
     try simp only [Act.put,List.setIfInBounds_toArray,List.set_cons_zero,List.set_cons_succ]
     refine wpAnyH_done (by kernel_rfl) ?_ _
     have X14:=Lib.hid (X12.out.chain (Below.refl xX12.heap.size xX12).drew)
     obtain ⟨xX14,hx⟩ : ∃ X,X = xX12.drew:=⟨_,rfl⟩
     go_wp2
     refine wp_region_held (S:=S) hmx ?_
     change wpAnyH _ _ _ _ _ 28 #[false,false,false,false,false,false,false,false,false,false,false,false,false,false,false,false,false,false,false,false,false,false,false,false,false,false,false,false] _ xX12.drew
     rw [← hx] at X14 ⊢
     clear hx
     have g14:=HS2.out _ X14.out
     refine tk 0 143 (.bool true) g14 ?v ?_
     case v => intro Wx hSx;go_simp
     refine tk 1 144 (.bool false) g14 ?v ?_
     case v => intro Wx hSx;go_simp
     refine tk 2 145 (.bool false) g14 ?v ?_
     case v => intro Wx hSx;go_simp
     refine sk 3 146 g14 ?_
     try simp only [Act.put,List.setIfInBounds_toArray,List.set_cons_zero,List.set_cons_succ]
     refine sk 4 147 g14 ?_
     refine sk 5 148 g14 ?_
     refine tk 6 149 (.bool false) g14 ?v ?_
     case v => intro Wx hSx;go_simp
     refine tk 7 150 (.bool false) g14 ?v ?_
     case v => intro Wx hSx;go_simp
     try simp only [Act.put,List.setIfInBounds_toArray,List.set_cons_zero,List.set_cons_succ]
     refine tk 8 151 (.bool true) g14 ?v ?_
     case v => intro Wx hSx;go_simp
     refine tk 9 152 (.bool true) g14 ?v ?_
     case v => intro Wx hSx;go_simp
     refine tk 10 153 (.pointer (some ⟨w7.heap.size,0,none⟩)) g14 ?v ?_
     case v => intro Wx hSx;go_simp
     refine tk 11 154 (.string ⟨a.toArray⟩) g14 ?v ?_
     case v => intro Wx hSx;obtain ⟨y0,y1,y2⟩:=HLDP.out Wx hSx;go_simp
     try simp only [Act.put,List.setIfInBounds_toArray,List.set_cons_zero,List.set_cons_succ]
     refine tk 12 155 (.string ⟨a.toArray⟩) g14 ?v ?_
     case v => intro Wx hSx;go_simp
     refine tk 13 156 (.bool true) g14 ?v ?_
     case v => intro Wx hSx;go_simp
     refine tk 14 157 (.bool true) g14 ?v ?_
     case v => intro Wx hSx;go_simp
     refine tk 15 158 (.bool true) g14 ?v ?_
     case v => intro Wx hSx;go_simp
     try simp only [Act.put,List.setIfInBounds_toArray,List.set_cons_zero,List.set_cons_succ]
     refine tk 16 159 (.slice A m k) g14 ?v ?_
     case v => intro Wx hSx;go_simp
     refine tk 17 160 (pgA d nr ng nk nd nm nx) g14 ?v ?_
     case v => intro Wx hSx;obtain ⟨z0,z1,z2,z3,z4,z5⟩:=HLD.out Wx hSx;go_simp
     refine tk 18 161 (.pointer (some ⟨w.heap.size,5,none⟩)) g14 ?v ?_
     case v => intro Wx hSx;go_simp
     refine tk 19 162 (.slice (some ax) nx d.nx) g14 ?v ?_
     case v => intro Wx hSx;obtain ⟨y0,y1,y2⟩:=HLDP.out Wx hSx;go_simp
     try simp only [Act.put,List.setIfInBounds_toArray,List.set_cons_zero,List.set_cons_succ]
     refine tk 20 163 (.int .i64 kP) g14 ?v ?_
     case v => intro Wx hSx;go_simp
     refine tk 21 164 (.pointer (some (ax.add (kP * 12)))) g14 ?v ?_
     case v => intro Wx hSx;go_simp
     refine tk 22 165 (.agg csx) g14 ?v ?_
     case v => intro Wx hSx;obtain ⟨y0,y1,y2⟩:=HLDP.out Wx hSx;go_simp
     try simp only [Act.put,List.setIfInBounds_toArray,List.set_cons_zero,List.set_cons_succ]
     refine o1 23 (fun K hK => ?_)
     go_simp
     (with_reducible refine (HRS.out _ g14).mono ?_)
     rintro e xS ⟨⟨A',m',k',rfl,hm',hrow'⟩,hb⟩
     obtain rfl : m' = m:=hm'.trans HRM.out.symm
     have XS:=Lib.hid (X14.out.chain hb)
     have gS:=HS2.out _ XS.out
     have HEqS:=Lib.hid (HEqP.out _ A' k' gS hrow')
     clear hb hrow' hm'
     refine hK _ _ gS ?_
     clear hK K
     try simp only [Act.put,List.setIfInBounds_toArray,List.set_cons_zero,List.set_cons_succ]
     refine o1 24 (fun K hK => ?_)
     go_simp
     (with_reducible refine HEqS.out.mono ?_)
     rintro e xT ⟨rfl,hb⟩
     have XT:=Lib.hid (XS.out.chain hb)
     clear hb
     have gT:=HS2.out _ XT.out
     refine hK _ _ gT ?_
     clear hK K
     try simp only [Act.put,List.setIfInBounds_toArray,List.set_cons_zero,List.set_cons_succ]
     refine tk 25 168 (.bool true) gT ?v ?_
     case v => intro Wx hSx;go_simp
     refine tk 26 169 (.bool true) gT ?v ?_
     case v => intro Wx hSx;go_simp
     refine tk 27 6 (.bool true) gT ?v ?_
     case v => intro Wx hSx;go_simp
     try simp only [Act.put,List.setIfInBounds_toArray,List.set_cons_zero,List.set_cons_succ]
     refine wpAnyH_done (by kernel_rfl) ?_ _
     go_wp2
     go_ret
     exact ⟨rfl,HH.out.1.chain (K9.out.chain XT.out)⟩
    ·have hqr : qR = (kR : Int):=HQ.out.1.trans hqR'
     subst hqr
     obtain ⟨ar,cs',hAr,habr,hcs',hcar,A1,c1,hcs2,hnl2,hfm2,hrow2⟩:=rc_rowV (HO.out w9 K9.out).2.1 kR y hxR
     obtain ⟨AR,cR,hcsR,hnlR,hflR,hrowR⟩:=HVR.out
     obtain ⟨n,hn⟩ : ∃ n,n = y.fs.length:=⟨_,rfl⟩
     have HLDR : Hid (∀ W,S W → W.cell? ⟨w5.heap.size,0,none⟩ = some (.string ⟨a.toArray⟩) ∧ W.cell? ⟨w5.heap.size,1,none⟩ = some (.slice AR n cR) ∧ W.cell? ⟨w.heap.size,0,none⟩ = some (.slice (some ar) nr d.nr) ∧ W.cell? ⟨(ar.add (kR * 2)).block,(ar.add (kR * 2)).off + 1,none⟩ = some (.slice A1 n c1)):=Lib.hid (fun W h => by
      have q:=kept_box (HSB.out W h) HB9.out.1
      refine ⟨cell_of_block q 0 (by rw [hcsR,← hnR];rfl),cell_of_block q 1 (by rw [hcsR,hn];rfl),by rw [← hAr];exact (HLD.out W h).1,?_⟩
      have h1:=hcar 1 (.slice A1 n c1) (by rw [hcs2,hn];rfl)
      have h2 : W.cell? ((ar.add (kR * 2)).add 1) = some (.slice A1 n c1):=((HSB.out W h).cell (by rw [block_adds,block_adds];exact habr)).trans h1
      exact h2)
     have HEqR : Hid (∀ W,S W → Calls Tryz.prog 16 #[.slice AR n cR,.slice A1 n c1] W fun e w' => e = .returned (.bool true) ∧ Below W.heap.size W w'):=Lib.hid (fun W h => by
      have hb5 : Below w5.heap.size w5 W:=HB6.out.1.chain (HM9.out.chain (HSB.out W h))
      exact equalPm_same AR A1 cR c1 n y.fs hn (by rw [hn];exact hflR) W.heap.size W (Nat.le_refl _) (rowMore hb5.size (rowB vpm_keeps (Nat.le_refl _) hb5 (pm_rowV hrowR))) (rowMore (HSB.out W h).size (rowB vpm_keeps (Nat.le_refl _) (HSB.out W h) (pm_rowV hrow2))))
     have hkr : (kR : Int) < nr:=by have := HH.out.2.2.2.2.2.2.1;omega
     have hkr0 : (0 : Int) ≤ kR:=by omega
     have hkr1 : ¬ (kR : Int) < 0:=by omega
     clear hqR' hxR hnR hltR hAr habr hcs' hcar hcs2 hnl2 hfm2 hrow2 hcsR hnlR hflR hrowR hn
     have X12:=Lib.hid (HX.out.chain (Below.refl U.heap.size U).drew)
     obtain ⟨xX12,hx⟩ : ∃ X,X = U.drew:=⟨_,rfl⟩
     go_wp2
     refine wp_region_held (S:=S) hmx ?_
     change wpAnyH _ _ _ _ _ 34 #[false,false,false,false,false,false,false,false,false,false,false,false,false,false,false,false,false,false,false,false,false,false,false,false,false,false,false,false,false,false,false,false,false,false] _ U.drew
     rw [← hx] at X12 ⊢
     clear hx
     have g12:=HS2.out _ X12.out
     refine tk 0 109 (.bool true) g12 ?v ?_
     case v => intro Wx hSx;go_simp
     refine tk 1 110 (.bool true) g12 ?v ?_
     case v => intro Wx hSx;go_simp
     refine tk 2 111 (.pointer (some ⟨w5.heap.size,0,none⟩)) g12 ?v ?_
     case v => intro Wx hSx;go_simp
     refine tk 3 112 (.string ⟨a.toArray⟩) g12 ?v ?_
     case v => intro Wx hSx;obtain ⟨y0,y1,y2,y3⟩:=HLDR.out Wx hSx;go_simp
     try simp only [Act.put,List.setIfInBounds_toArray,List.set_cons_zero,List.set_cons_succ]
     refine tk 4 113 (.string ⟨a.toArray⟩) g12 ?v ?_
     case v => intro Wx hSx;go_simp
     refine tk 5 114 (.bool false) g12 ?v ?_
     case v => intro Wx hSx;go_simp
     refine tk 6 115 (.bool false) g12 ?v ?_
     case v => intro Wx hSx;go_simp
     refine tk 7 116 (.pointer (some ⟨w5.heap.size,1,none⟩)) g12 ?v ?_
     case v => intro Wx hSx;go_simp
     try simp only [Act.put,List.setIfInBounds_toArray,List.set_cons_zero,List.set_cons_succ]
     refine tk 8 117 (.slice AR n cR) g12 ?v ?_
     case v => intro Wx hSx;obtain ⟨y0,y1,y2,y3⟩:=HLDR.out Wx hSx;go_simp
     refine tk 9 118 (.pointer (some ⟨w.heap.size,0,none⟩)) g12 ?v ?_
     case v => intro Wx hSx;go_simp
     refine tk 10 119 (.slice (some ar) nr d.nr) g12 ?v ?_
     case v => intro Wx hSx;obtain ⟨y0,y1,y2,y3⟩:=HLDR.out Wx hSx;go_simp
     refine tk 11 120 (.int .i64 kR) g12 ?v ?_
     case v => intro Wx hSx;go_simp
     try simp only [Act.put,List.setIfInBounds_toArray,List.set_cons_zero,List.set_cons_succ]
     refine tk 12 121 (.pointer (some (ar.add (kR * 2)))) g12 ?v ?_
     case v => intro Wx hSx;go_simp
     refine tk 13 122 (.pointer (some ⟨(ar.add (kR * 2)).block,(ar.add (kR * 2)).off + 1,none⟩)) g12 ?v ?_
     case v => intro Wx hSx;go_simp
     refine tk 14 123 (.slice A1 n c1) g12 ?v ?_
     case v => intro Wx hSx;obtain ⟨y0,y1,y2,y3⟩:=HLDR.out Wx hSx;go_simp
     try simp only [Act.put,List.setIfInBounds_toArray,List.set_cons_zero,List.set_cons_succ]
     refine o1 15 (fun K hK => ?_)
     go_simp
     (with_reducible refine (HEqR.out _ g12).mono ?_)
     rintro e xE ⟨rfl,hb⟩
     have XE:=Lib.hid (X12.out.chain hb)
     clear hb
     have gE:=HS2.out _ XE.out
     refine hK _ _ gE ?_
     clear hK K
     try simp only [Act.put,List.setIfInBounds_toArray,List.set_cons_zero,List.set_cons_succ]
     refine tk 16 125 (.bool false) gE ?v ?_
     case v => intro Wx hSx;go_simp
     refine tk 17 126 (.bool false) gE ?v ?_
     case v => intro Wx hSx;go_simp
     refine tk 18 127 (.bool false) gE ?v ?_
     case v => intro Wx hSx;go_simp
     refine tk 19 128 (.bool false) gE ?v ?_
     case v => intro Wx hSx;go_simp
     try simp only [Act.put,List.setIfInBounds_toArray,List.set_cons_zero,List.set_cons_succ]
     refine tk 20 129 (.bool true) gE ?v ?_
     case v => intro Wx hSx;go_simp
     refine tk 21 130 (.bool false) gE ?v ?_
     case v => intro Wx hSx;go_simp
     refine tk 22 131 (.bool false) gE ?v ?_
     case v => intro Wx hSx;go_simp
     refine sk 23 132 gE ?_
     try simp only [Act.put,List.setIfInBounds_toArray,List.set_cons_zero,List.set_cons_succ]
     refine sk 24 133 gE ?_
     refine sk 25 134 gE ?_
     refine sk 26 135 gE ?_
     refine sk 27 136 gE ?_
     try simp only [Act.put,List.setIfInBounds_toArray,List.set_cons_zero,List.set_cons_succ]
     refine sk 28 137 gE ?_
     refine sk 29 138 gE ?_
     refine sk 30 139 gE ?_
     refine sk 31 140 gE ?_
     try simp only [Act.put,List.setIfInBounds_toArray,List.set_cons_zero,List.set_cons_succ]
     refine tk 32 141 (.bool false) gE ?v ?_
     case v => intro Wx hSx;go_simp
     refine tk 33 142 (.bool false) gE ?v ?_
     case v => intro Wx hSx;go_simp
     try simp only [Act.put,List.setIfInBounds_toArray,List.set_cons_zero,List.set_cons_succ]
     refine wpAnyH_done (by kernel_rfl) ?_ _
     have X14:=Lib.hid (XE.out.chain (Below.refl xE.heap.size xE).drew)
     obtain ⟨xX14,hx⟩ : ∃ X,X = xE.drew:=⟨_,rfl⟩
     go_wp2
     refine wp_region_held (S:=S) hmx ?_
     change wpAnyH _ _ _ _ _ 28 #[false,false,false,false,false,false,false,false,false,false,false,false,false,false,false,false,false,false,false,false,false,false,false,false,false,false,false,false] _ xE.drew
     rw [← hx] at X14 ⊢
     clear hx
     have g14:=HS2.out _ X14.out
     refine tk 0 143 (.bool true) g14 ?v ?_
     case v => intro Wx hSx;go_simp
     refine tk 1 144 (.bool false) g14 ?v ?_
     case v => intro Wx hSx;go_simp
     refine tk 2 145 (.bool false) g14 ?v ?_
     case v => intro Wx hSx;go_simp
     refine sk 3 146 g14 ?_
     try simp only [Act.put,List.setIfInBounds_toArray,List.set_cons_zero,List.set_cons_succ]
     refine sk 4 147 g14 ?_
     refine sk 5 148 g14 ?_
     refine tk 6 149 (.bool false) g14 ?v ?_
     case v => intro Wx hSx;go_simp
     refine tk 7 150 (.bool false) g14 ?v ?_
     case v => intro Wx hSx;go_simp
     try simp only [Act.put,List.setIfInBounds_toArray,List.set_cons_zero,List.set_cons_succ]
     refine tk 8 151 (.bool true) g14 ?v ?_
     case v => intro Wx hSx;go_simp
     refine tk 9 152 (.bool true) g14 ?v ?_
     case v => intro Wx hSx;go_simp
     refine tk 10 153 (.pointer (some ⟨w7.heap.size,0,none⟩)) g14 ?v ?_
     case v => intro Wx hSx;go_simp
     refine tk 11 154 (.string ⟨a.toArray⟩) g14 ?v ?_
     case v => intro Wx hSx;obtain ⟨y0,y1,y2⟩:=HLDP.out Wx hSx;go_simp
     try simp only [Act.put,List.setIfInBounds_toArray,List.set_cons_zero,List.set_cons_succ]
     refine tk 12 155 (.string ⟨a.toArray⟩) g14 ?v ?_
     case v => intro Wx hSx;go_simp
     refine tk 13 156 (.bool true) g14 ?v ?_
     case v => intro Wx hSx;go_simp
     refine tk 14 157 (.bool true) g14 ?v ?_
     case v => intro Wx hSx;go_simp
     refine tk 15 158 (.bool true) g14 ?v ?_
     case v => intro Wx hSx;go_simp
     try simp only [Act.put,List.setIfInBounds_toArray,List.set_cons_zero,List.set_cons_succ]
     refine tk 16 159 (.slice A m k) g14 ?v ?_
     case v => intro Wx hSx;go_simp
     refine tk 17 160 (pgA d nr ng nk nd nm nx) g14 ?v ?_
     case v => intro Wx hSx;obtain ⟨z0,z1,z2,z3,z4,z5⟩:=HLD.out Wx hSx;go_simp
     refine tk 18 161 (.pointer (some ⟨w.heap.size,5,none⟩)) g14 ?v ?_
     case v => intro Wx hSx;go_simp
     refine tk 19 162 (.slice (some ax) nx d.nx) g14 ?v ?_
     case v => intro Wx hSx;obtain ⟨y0,y1,y2⟩:=HLDP.out Wx hSx;go_simp
     try simp only [Act.put,List.setIfInBounds_toArray,List.set_cons_zero,List.set_cons_succ]
     refine tk 20 163 (.int .i64 kP) g14 ?v ?_
     case v => intro Wx hSx;go_simp
     refine tk 21 164 (.pointer (some (ax.add (kP * 12)))) g14 ?v ?_
     case v => intro Wx hSx;go_simp
     refine tk 22 165 (.agg csx) g14 ?v ?_
     case v => intro Wx hSx;obtain ⟨y0,y1,y2⟩:=HLDP.out Wx hSx;go_simp
     try simp only [Act.put,List.setIfInBounds_toArray,List.set_cons_zero,List.set_cons_succ]
     refine o1 23 (fun K hK => ?_)
     go_simp
     (with_reducible refine (HRS.out _ g14).mono ?_)
     rintro e xS ⟨⟨A',m',k',rfl,hm',hrow'⟩,hb⟩
     obtain rfl : m' = m:=hm'.trans HRM.out.symm
     have XS:=Lib.hid (X14.out.chain hb)
     have gS:=HS2.out _ XS.out
     have HEqS:=Lib.hid (HEqP.out _ A' k' gS hrow')
     clear hb hrow' hm'
     refine hK _ _ gS ?_
     clear hK K
     try simp only [Act.put,List.setIfInBounds_toArray,List.set_cons_zero,List.set_cons_succ]
     refine o1 24 (fun K hK => ?_)
     go_simp
     (with_reducible refine HEqS.out.mono ?_)
     rintro e xT ⟨rfl,hb⟩
     have XT:=Lib.hid (XS.out.chain hb)
     clear hb
     have gT:=HS2.out _ XT.out
     refine hK _ _ gT ?_
     clear hK K
     try simp only [Act.put,List.setIfInBounds_toArray,List.set_cons_zero,List.set_cons_succ]
     refine tk 25 168 (.bool true) gT ?v ?_
     case v => intro Wx hSx;go_simp
     refine tk 26 169 (.bool true) gT ?v ?_
     case v => intro Wx hSx;go_simp
     refine tk 27 6 (.bool true) gT ?v ?_
     case v => intro Wx hSx;go_simp
     try simp only [Act.put,List.setIfInBounds_toArray,List.set_cons_zero,List.set_cons_succ]
     refine wpAnyH_done (by kernel_rfl) ?_ _
     go_wp2
     go_ret
     exact ⟨rfl,HH.out.1.chain (K9.out.chain XT.out)⟩
  ·subst hvi
   subst hqF
   clear HCF
   rcases HCP.out with ⟨rfl,hyP,hqP',hoP⟩ | ⟨kP,rfl,hqP',hxP,hnP,hltP,hoP⟩
   ·have hqp : qP = -1:=HQ.out.2.trans hqP'
    subst hqp
    subst hyP
    obtain ⟨hm0,hec⟩ : m = 0 ∧ ec = 7:=by
     rcases HS.out with ⟨-,h1,h2⟩ | ⟨x,ho,_⟩
     ·exact ⟨h1,h2⟩
     ·exact absurd (ho.symm.trans hoP) (by simp)
    subst hm0
    subst hec
    have HLDP : Hid (∀ W,S W → W.cell? ⟨w7.heap.size,0,none⟩ = some (.string ⟨#[]⟩)):=Lib.hid (fun W h => cell_of_block (kept_box (HSB.out W h) HB9.out.2) 0 HVP.out.2.2)
    clear hqP' hoP
    rcases HCR.out with ⟨rfl,hyR,hqR',-⟩ | ⟨kR,rfl,hqR',hxR,hnR,hltR,-⟩
    ·have hqr : qR = -1:=HQ.out.1.trans hqR'
     subst hqr
     subst hyR
     obtain ⟨AR,cR,hcsR,-⟩:=HVR.out
     have HLDR : Hid (∀ W,S W → W.cell? ⟨w5.heap.size,0,none⟩ = some (.string ⟨#[]⟩) ∧ W.cell? ⟨w5.heap.size,1,none⟩ = some (.slice AR 0 cR)):=Lib.hid (fun W h => by
      have q:=kept_box (HSB.out W h) HB9.out.1
      exact ⟨cell_of_block q 0 (by rw [hcsR];rfl),cell_of_block q 1 (by rw [hcsR];rfl)⟩)
     clear hqR' hcsR
     have X12:=Lib.hid (HX.out.chain (Below.refl U.heap.size U).drew)
     obtain ⟨xX12,hx⟩ : ∃ X,X = U.drew:=⟨_,rfl⟩
     go_wp2
     refine wp_region_held (S:=S) hmx ?_
     change wpAnyH _ _ _ _ _ 34 #[false,false,false,false,false,false,false,false,false,false,false,false,false,false,false,false,false,false,false,false,false,false,false,false,false,false,false,false,false,false,false,false,false,false] _ U.drew
     rw [← hx] at X12 ⊢
     clear hx
     have g12:=HS2.out _ X12.out
     refine tk 0 109 (.bool false) g12 ?v ?_
     case v => intro Wx hSx;go_simp
     refine tk 1 110 (.bool false) g12 ?v ?_
     case v => intro Wx hSx;go_simp
     refine sk 2 111 g12 ?_
     refine sk 3 112 g12 ?_
     try simp only [Act.put,List.setIfInBounds_toArray,List.set_cons_zero,List.set_cons_succ]
     refine sk 4 113 g12 ?_
     refine sk 5 114 g12 ?_
     refine sk 6 115 g12 ?_
     refine sk 7 116 g12 ?_
     try simp only [Act.put,List.setIfInBounds_toArray,List.set_cons_zero,List.set_cons_succ]
     refine sk 8 117 g12 ?_
     refine sk 9 118 g12 ?_
     refine sk 10 119 g12 ?_
     refine sk 11 120 g12 ?_
     try simp only [Act.put,List.setIfInBounds_toArray,List.set_cons_zero,List.set_cons_succ]
     refine sk 12 121 g12 ?_
     refine sk 13 122 g12 ?_
     refine sk 14 123 g12 ?_
     refine sk 15 124 g12 ?_
     try simp only [Act.put,List.setIfInBounds_toArray,List.set_cons_zero,List.set_cons_succ]
     refine sk 16 125 g12 ?_
     refine sk 17 126 g12 ?_
     refine tk 18 127 (.bool false) g12 ?v ?_
     case v => intro Wx hSx;go_simp
     refine tk 19 128 (.bool false) g12 ?v ?_
     case v => intro Wx hSx;go_simp
     try simp only [Act.put,List.setIfInBounds_toArray,List.set_cons_zero,List.set_cons_succ]
     refine tk 20 129 (.bool false) g12 ?v ?_
     case v => intro Wx hSx;go_simp
     refine tk 21 130 (.bool true) g12 ?v ?_
     case v => intro Wx hSx;go_simp
     refine tk 22 131 (.bool true) g12 ?v ?_
     case v => intro Wx hSx;go_simp
     refine tk 23 132 (.pointer (some ⟨w5.heap.size,0,none⟩)) g12 ?v ?_
     case v => intro Wx hSx;go_simp
     try simp only [Act.put,List.setIfInBounds_toArray,List.set_cons_zero,List.set_cons_succ]
     refine tk 24 133 (.string ⟨#[]⟩) g12 ?v ?_
     case v => intro Wx hSx;obtain ⟨y0,y1⟩:=HLDR.out Wx hSx;go_simp
     refine tk 25 134 (.bool false) g12 ?v ?_
     case v => intro Wx hSx;go_simp
     refine tk 26 135 (.bool false) g12 ?v ?_
     case v => intro Wx hSx;go_simp
     refine tk 27 136 (.pointer (some ⟨w5.heap.size,1,none⟩)) g12 ?v ?_
     case v => intro Wx hSx;go_simp
     try simp only [Act.put,List.setIfInBounds_toArray,List.set_cons_zero,List.set_cons_succ]
     refine tk 28 137 (.slice AR 0 cR) g12 ?v ?_
     case v => intro Wx hSx;obtain ⟨y0,y1⟩:=HLDR.out Wx hSx;go_simp
     refine tk 29 138 (.int .i64 0) g12 ?v ?_
     case v => intro Wx hSx;go_simp
     refine tk 30 139 (.bool false) g12 ?v ?_
     case v => intro Wx hSx;go_simp
     refine tk 31 140 (.bool false) g12 ?v ?_
     case v => intro Wx hSx;go_simp
     try simp only [Act.put,List.setIfInBounds_toArray,List.set_cons_zero,List.set_cons_succ]
     refine tk 32 141 (.bool false) g12 ?v ?_
     case v => intro Wx hSx;go_simp
     refine tk 33 142 (.bool false) g12 ?v ?_
     case v => intro Wx hSx;go_simp
     try simp only [Act.put,List.setIfInBounds_toArray,List.set_cons_zero,List.set_cons_succ]
     refine wpAnyH_done (by kernel_rfl) ?_ _
     have X14:=Lib.hid (X12.out.chain (Below.refl xX12.heap.size xX12).drew)
     obtain ⟨xX14,hx⟩ : ∃ X,X = xX12.drew:=⟨_,rfl⟩
     go_wp2
     refine wp_region_held (S:=S) hmx ?_
     change wpAnyH _ _ _ _ _ 28 #[false,false,false,false,false,false,false,false,false,false,false,false,false,false,false,false,false,false,false,false,false,false,false,false,false,false,false,false] _ xX12.drew
     rw [← hx] at X14 ⊢
     clear hx
     have g14:=HS2.out _ X14.out
     refine tk 0 143 (.bool false) g14 ?v ?_
     case v => intro Wx hSx;go_simp
     refine tk 1 144 (.bool true) g14 ?v ?_
     case v => intro Wx hSx;go_simp
     refine tk 2 145 (.bool true) g14 ?v ?_
     case v => intro Wx hSx;go_simp
     refine tk 3 146 (.pointer (some ⟨w7.heap.size,0,none⟩)) g14 ?v ?_
     case v => intro Wx hSx;go_simp
     try simp only [Act.put,List.setIfInBounds_toArray,List.set_cons_zero,List.set_cons_succ]
     refine tk 4 147 (.string ⟨#[]⟩) g14 ?v ?_
     case v => intro Wx hSx;obtain y0:=HLDP.out Wx hSx;go_simp
     refine tk 5 148 (.bool true) g14 ?v ?_
     case v => intro Wx hSx;go_simp
     refine tk 6 149 (.bool true) g14 ?v ?_
     case v => intro Wx hSx;go_simp
     refine tk 7 150 (.bool true) g14 ?v ?_
     case v => intro Wx hSx;go_simp
     try simp only [Act.put,List.setIfInBounds_toArray,List.set_cons_zero,List.set_cons_succ]
     refine sk 8 151 g14 ?_
     refine sk 9 152 g14 ?_
     refine sk 10 153 g14 ?_
     refine sk 11 154 g14 ?_
     try simp only [Act.put,List.setIfInBounds_toArray,List.set_cons_zero,List.set_cons_succ]
     refine sk 12 155 g14 ?_
     refine sk 13 156 g14 ?_
     refine sk 14 157 g14 ?_
     refine sk 15 158 g14 ?_
     try simp only [Act.put,List.setIfInBounds_toArray,List.set_cons_zero,List.set_cons_succ]
     refine sk 16 159 g14 ?_
     refine sk 17 160 g14 ?_
     refine sk 18 161 g14 ?_
     refine sk 19 162 g14 ?_
     try simp only [Act.put,List.setIfInBounds_toArray,List.set_cons_zero,List.set_cons_succ]
     refine sk 20 163 g14 ?_
     refine sk 21 164 g14 ?_
     refine sk 22 165 g14 ?_
     refine sk 23 166 g14 ?_
     try simp only [Act.put,List.setIfInBounds_toArray,List.set_cons_zero,List.set_cons_succ]
     refine sk 24 167 g14 ?_
     refine sk 25 168 g14 ?_
     refine tk 26 169 (.bool true) g14 ?v ?_
     case v => intro Wx hSx;go_simp
     refine tk 27 6 (.bool true) g14 ?v ?_
     case v => intro Wx hSx;go_simp
     try simp only [Act.put,List.setIfInBounds_toArray,List.set_cons_zero,List.set_cons_succ]
     try simp only [Act.put,List.setIfInBounds_toArray,List.set_cons_zero,List.set_cons_succ]
     refine wpAnyH_done (by kernel_rfl) ?_ _
     go_wp2
     go_ret
     exact ⟨rfl,HH.out.1.chain (K9.out.chain X14.out)⟩
    ·have hqr : qR = (kR : Int):=HQ.out.1.trans hqR'
     subst hqr
     obtain ⟨ar,cs',hAr,habr,hcs',hcar,A1,c1,hcs2,hnl2,hfm2,hrow2⟩:=rc_rowV (HO.out w9 K9.out).2.1 kR y hxR
     obtain ⟨AR,cR,hcsR,hnlR,hflR,hrowR⟩:=HVR.out
     obtain ⟨n,hn⟩ : ∃ n,n = y.fs.length:=⟨_,rfl⟩
     have HLDR : Hid (∀ W,S W → W.cell? ⟨w5.heap.size,0,none⟩ = some (.string ⟨a.toArray⟩) ∧ W.cell? ⟨w5.heap.size,1,none⟩ = some (.slice AR n cR) ∧ W.cell? ⟨w.heap.size,0,none⟩ = some (.slice (some ar) nr d.nr) ∧ W.cell? ⟨(ar.add (kR * 2)).block,(ar.add (kR * 2)).off + 1,none⟩ = some (.slice A1 n c1)):=Lib.hid (fun W h => by
      have q:=kept_box (HSB.out W h) HB9.out.1
      refine ⟨cell_of_block q 0 (by rw [hcsR,← hnR];rfl),cell_of_block q 1 (by rw [hcsR,hn];rfl),by rw [← hAr];exact (HLD.out W h).1,?_⟩
      have h1:=hcar 1 (.slice A1 n c1) (by rw [hcs2,hn];rfl)
      have h2 : W.cell? ((ar.add (kR * 2)).add 1) = some (.slice A1 n c1):=((HSB.out W h).cell (by rw [block_adds,block_adds];exact habr)).trans h1
      exact h2)
     have HEqR : Hid (∀ W,S W → Calls Tryz.prog 16 #[.slice AR n cR,.slice A1 n c1] W fun e w' => e = .returned (.bool true) ∧ Below W.heap.size W w'):=Lib.hid (fun W h => by
      have hb5 : Below w5.heap.size w5 W:=HB6.out.1.chain (HM9.out.chain (HSB.out W h))
      exact equalPm_same AR A1 cR c1 n y.fs hn (by rw [hn];exact hflR) W.heap.size W (Nat.le_refl _) (rowMore hb5.size (rowB vpm_keeps (Nat.le_refl _) hb5 (pm_rowV hrowR))) (rowMore (HSB.out W h).size (rowB vpm_keeps (Nat.le_refl _) (HSB.out W h) (pm_rowV hrow2))))
     have hkr : (kR : Int) < nr:=by have := HH.out.2.2.2.2.2.2.1;omega
     have hkr0 : (0 : Int) ≤ kR:=by omega
     have hkr1 : ¬ (kR : Int) < 0:=by omega
     clear hqR' hxR hnR hltR hAr habr hcs' hcar hcs2 hnl2 hfm2 hrow2 hcsR hnlR hflR hrowR hn
     have X12:=Lib.hid (HX.out.chain (Below.refl U.heap.size U).drew)
     obtain ⟨xX12,hx⟩ : ∃ X,X = U.drew:=⟨_,rfl⟩
     go_wp2
     refine wp_region_held (S:=S) hmx ?_
     change wpAnyH _ _ _ _ _ 34 #[false,false,false,false,false,false,false,false,false,false,false,false,false,false,false,false,false,false,false,false,false,false,false,false,false,false,false,false,false,false,false,false,false,false] _ U.drew
     rw [← hx] at X12 ⊢
     clear hx
     have g12:=HS2.out _ X12.out
     refine tk 0 109 (.bool true) g12 ?v ?_
     case v => intro Wx hSx;go_simp
     refine tk 1 110 (.bool true) g12 ?v ?_
     case v => intro Wx hSx;go_simp
     refine tk 2 111 (.pointer (some ⟨w5.heap.size,0,none⟩)) g12 ?v ?_
     case v => intro Wx hSx;go_simp
     refine tk 3 112 (.string ⟨a.toArray⟩) g12 ?v ?_
     case v => intro Wx hSx;obtain ⟨y0,y1,y2,y3⟩:=HLDR.out Wx hSx;go_simp
     try simp only [Act.put,List.setIfInBounds_toArray,List.set_cons_zero,List.set_cons_succ]
     refine tk 4 113 (.string ⟨a.toArray⟩) g12 ?v ?_
     case v => intro Wx hSx;go_simp
     refine tk 5 114 (.bool false) g12 ?v ?_
     case v => intro Wx hSx;go_simp
     refine tk 6 115 (.bool false) g12 ?v ?_
     case v => intro Wx hSx;go_simp
     refine tk 7 116 (.pointer (some ⟨w5.heap.size,1,none⟩)) g12 ?v ?_
     case v => intro Wx hSx;go_simp
     try simp only [Act.put,List.setIfInBounds_toArray,List.set_cons_zero,List.set_cons_succ]
     refine tk 8 117 (.slice AR n cR) g12 ?v ?_
     case v => intro Wx hSx;obtain ⟨y0,y1,y2,y3⟩:=HLDR.out Wx hSx;go_simp
     refine tk 9 118 (.pointer (some ⟨w.heap.size,0,none⟩)) g12 ?v ?_
     case v => intro Wx hSx;go_simp
     refine tk 10 119 (.slice (some ar) nr d.nr) g12 ?v ?_
     case v => intro Wx hSx;obtain ⟨y0,y1,y2,y3⟩:=HLDR.out Wx hSx;go_simp
     refine tk 11 120 (.int .i64 kR) g12 ?v ?_
     case v => intro Wx hSx;go_simp
     try simp only [Act.put,List.setIfInBounds_toArray,List.set_cons_zero,List.set_cons_succ]
     refine tk 12 121 (.pointer (some (ar.add (kR * 2)))) g12 ?v ?_
     case v => intro Wx hSx;go_simp
     refine tk 13 122 (.pointer (some ⟨(ar.add (kR * 2)).block,(ar.add (kR * 2)).off + 1,none⟩)) g12 ?v ?_
     case v => intro Wx hSx;go_simp
     refine tk 14 123 (.slice A1 n c1) g12 ?v ?_
     case v => intro Wx hSx;obtain ⟨y0,y1,y2,y3⟩:=HLDR.out Wx hSx;go_simp
     try simp only [Act.put,List.setIfInBounds_toArray,List.set_cons_zero,List.set_cons_succ]
     refine o1 15 (fun K hK => ?_)
     go_simp
     (with_reducible refine (HEqR.out _ g12).mono ?_)
     rintro e xE ⟨rfl,hb⟩
     have XE:=Lib.hid (X12.out.chain hb)
     clear hb
     have gE:=HS2.out _ XE.out
     refine hK _ _ gE ?_
     clear hK K
     try simp only [Act.put,List.setIfInBounds_toArray,List.set_cons_zero,List.set_cons_succ]
     refine tk 16 125 (.bool false) gE ?v ?_
     case v => intro Wx hSx;go_simp
     refine tk 17 126 (.bool false) gE ?v ?_
     case v => intro Wx hSx;go_simp
     refine tk 18 127 (.bool false) gE ?v ?_
     case v => intro Wx hSx;go_simp
     refine tk 19 128 (.bool false) gE ?v ?_
     case v => intro Wx hSx;go_simp
     try simp only [Act.put,List.setIfInBounds_toArray,List.set_cons_zero,List.set_cons_succ]
     refine tk 20 129 (.bool true) gE ?v ?_
     case v => intro Wx hSx;go_simp
     refine tk 21 130 (.bool false) gE ?v ?_
     case v => intro Wx hSx;go_simp
     refine tk 22 131 (.bool false) gE ?v ?_
     case v => intro Wx hSx;go_simp
     refine sk 23 132 gE ?_
     try simp only [Act.put,List.setIfInBounds_toArray,List.set_cons_zero,List.set_cons_succ]
     refine sk 24 133 gE ?_
     refine sk 25 134 gE ?_
     refine sk 26 135 gE ?_
     refine sk 27 136 gE ?_
     try simp only [Act.put,List.setIfInBounds_toArray,List.set_cons_zero,List.set_cons_succ]
     refine sk 28 137 gE ?_
     refine sk 29 138 gE ?_
     refine sk 30 139 gE ?_
     refine sk 31 140 gE ?_
     try simp only [Act.put,List.setIfInBounds_toArray,List.set_cons_zero,List.set_cons_succ]
     refine tk 32 141 (.bool false) gE ?v ?_
     case v => intro Wx hSx;go_simp
     refine tk 33 142 (.bool false) gE ?v ?_
     case v => intro Wx hSx;go_simp
     try simp only [Act.put,List.setIfInBounds_toArray,List.set_cons_zero,List.set_cons_succ]
     refine wpAnyH_done (by kernel_rfl) ?_ _
     have X14:=Lib.hid (XE.out.chain (Below.refl xE.heap.size xE).drew)
     obtain ⟨xX14,hx⟩ : ∃ X,X = xE.drew:=⟨_,rfl⟩
     go_wp2
     refine wp_region_held (S:=S) hmx ?_
     change wpAnyH _ _ _ _ _ 28 #[false,false,false,false,false,false,false,false,false,false,false,false,false,false,false,false,false,false,false,false,false,false,false,false,false,false,false,false] _ xE.drew
     rw [← hx] at X14 ⊢
     clear hx
     have g14:=HS2.out _ X14.out
     refine tk 0 143 (.bool false) g14 ?v ?_
     case v => intro Wx hSx;go_simp
     refine tk 1 144 (.bool true) g14 ?v ?_
     case v => intro Wx hSx;go_simp
     refine tk 2 145 (.bool true) g14 ?v ?_
     case v => intro Wx hSx;go_simp
     refine tk 3 146 (.pointer (some ⟨w7.heap.size,0,none⟩)) g14 ?v ?_
     case v => intro Wx hSx;go_simp
     try simp only [Act.put,List.setIfInBounds_toArray,List.set_cons_zero,List.set_cons_succ]
     refine tk 4 147 (.string ⟨#[]⟩) g14 ?v ?_
     case v => intro Wx hSx;obtain y0:=HLDP.out Wx hSx;go_simp
     refine tk 5 148 (.bool true) g14 ?v ?_
     case v => intro Wx hSx;go_simp
     refine tk 6 149 (.bool true) g14 ?v ?_
     case v => intro Wx hSx;go_simp
     refine tk 7 150 (.bool true) g14 ?v ?_
     case v => intro Wx hSx;go_simp
     try simp only [Act.put,List.setIfInBounds_toArray,List.set_cons_zero,List.set_cons_succ]
     refine sk 8 151 g14 ?_
     refine sk 9 152 g14 ?_
     refine sk 10 153 g14 ?_
     refine sk 11 154 g14 ?_
     try simp only [Act.put,List.setIfInBounds_toArray,List.set_cons_zero,List.set_cons_succ]
     refine sk 12 155 g14 ?_
     refine sk 13 156 g14 ?_
     refine sk 14 157 g14 ?_
     refine sk 15 158 g14 ?_
     try simp only [Act.put,List.setIfInBounds_toArray,List.set_cons_zero,List.set_cons_succ]
     refine sk 16 159 g14 ?_
     refine sk 17 160 g14 ?_
     refine sk 18 161 g14 ?_
     refine sk 19 162 g14 ?_
     try simp only [Act.put,List.setIfInBounds_toArray,List.set_cons_zero,List.set_cons_succ]
     refine sk 20 163 g14 ?_
     refine sk 21 164 g14 ?_
     refine sk 22 165 g14 ?_
     refine sk 23 166 g14 ?_
     try simp only [Act.put,List.setIfInBounds_toArray,List.set_cons_zero,List.set_cons_succ]
     refine sk 24 167 g14 ?_
     refine sk 25 168 g14 ?_
     refine tk 26 169 (.bool true) g14 ?v ?_
     case v => intro Wx hSx;go_simp
     refine tk 27 6 (.bool true) g14 ?v ?_
     case v => intro Wx hSx;go_simp
     try simp only [Act.put,List.setIfInBounds_toArray,List.set_cons_zero,List.set_cons_succ]
     try simp only [Act.put,List.setIfInBounds_toArray,List.set_cons_zero,List.set_cons_succ]
     refine wpAnyH_done (by kernel_rfl) ?_ _
     go_wp2
     go_ret
     exact ⟨rfl,HH.out.1.chain (K9.out.chain X14.out)⟩
   ·have hqp : qP = (kP : Int):=HQ.out.2.trans hqP'
    subst hqp
    rcases HS.out with ⟨ho,_,_⟩ | ⟨x,ho,hec,hm,hrow⟩
    ·exact absurd (ho.symm.trans hoP) (by simp)
    obtain rfl:=Option.some.inj (ho.symm.trans hoP)
    subst hec
    obtain ⟨ax,csx,hAx,habx,hcsx,hcax,dp,hdp,how⟩:=pr_rowV (HO.out w9 K9.out).2.2.2.2.2.2 kP x hxP
    have hlx:=HH.out.2.1 x (List.mem_of_getElem? hxP)
    have hszx : csx.size = N2:=hcsx.trans HH.out.2.2.2.2.1.symm
    have HLDP : Hid (∀ W,S W → W.cell? ⟨w7.heap.size,0,none⟩ = some (.string ⟨a.toArray⟩) ∧ W.cell? ⟨w.heap.size,5,none⟩ = some (.slice (some ax) nx d.nx) ∧ (loadCellsFrom (ax.add (kP * 12)) 0 N2 #[]).run Tryz.prog W = .ok csx W):=Lib.hid (fun W h => by
     have q:=kept_box (HSB.out W h) HB9.out.2
     refine ⟨cell_of_block q 0 (by rw [← hnP];exact HVP.out.2.2),by rw [← hAx];exact (HLD.out W h).2.2.2.2.2,load_list (fun j v hv => ((HSB.out W h).cell (by rw [block_adds,block_adds];exact habx)).trans (hcax j v hv)) hszx⟩)
    have HRS : Hid (∀ W,S W → Calls Tryz.prog 17 #[pgA d nr ng nk nd nm nx,.agg csx] W (RowPost (scopeL p.gs x) W)):=Lib.hid (fun W h => by
     rw [hdp]
     exact rScope_any p d x dp W (HO.out W (K9.out.chain (HSB.out W h))) (how.on (HSB.out W h)) nr ng nk nd nm nx HH.out.2.2.2.2.2.2.2.1 hlx)
    have HRM:=Lib.hid hm
    have HEqP : Hid (∀ W (A' : Option Addr) (k' : Nat),S W → RowV VPm 2 W W.heap.size (scopeL p.gs x) A' → Calls Tryz.prog 16 #[.slice A m k,.slice A' m k'] W fun e w' => e = .returned (.bool true) ∧ Below W.heap.size W w'):=Lib.hid (fun W A' k' h hr' => by
     have hb4 : Below w4.heap.size w4 W:=HM5.out.chain (HB6.out.1.chain (HM9.out.chain (HSB.out W h)))
     refine equalPm_same A A' k k' m (scopeL p.gs x) hm ?_ W.heap.size W (Nat.le_refl _) (rowMore hb4.size (rowB vpm_keeps (Nat.le_refl _) hb4 hrow)) hr'
     rw [hm]
     unfold scopeL maxLen
     simp only [List.length_append]
     have := resL_le x
     omega)
    have hkp : (kP : Int) < nx:=by have := HH.out.2.2.2.2.2.2.2.2;omega
    have hkp0 : (0 : Int) ≤ kP:=by omega
    have hkp1 : ¬ (kP : Int) < 0:=by omega
    clear ho hoP hqP' hxP hnP hltP hAx habx hcsx hcax hdp how hlx hm hrow
    rcases HCR.out with ⟨rfl,hyR,hqR',-⟩ | ⟨kR,rfl,hqR',hxR,hnR,hltR,-⟩
    ·have hqr : qR = -1:=HQ.out.1.trans hqR'
     subst hqr
     subst hyR
     obtain ⟨AR,cR,hcsR,-⟩:=HVR.out
     have HLDR : Hid (∀ W,S W → W.cell? ⟨w5.heap.size,0,none⟩ = some (.string ⟨#[]⟩) ∧ W.cell? ⟨w5.heap.size,1,none⟩ = some (.slice AR 0 cR)):=Lib.hid (fun W h => by
      have q:=kept_box (HSB.out W h) HB9.out.1
      exact ⟨cell_of_block q 0 (by rw [hcsR];rfl),cell_of_block q 1 (by rw [hcsR];rfl)⟩)
     clear hqR' hcsR
     have X12:=Lib.hid (HX.out.chain (Below.refl U.heap.size U).drew)
     obtain ⟨xX12,hx⟩ : ∃ X,X = U.drew:=⟨_,rfl⟩
     go_wp2
     refine wp_region_held (S:=S) hmx ?_
     change wpAnyH _ _ _ _ _ 34 #[false,false,false,false,false,false,false,false,false,false,false,false,false,false,false,false,false,false,false,false,false,false,false,false,false,false,false,false,false,false,false,false,false,false] _ U.drew
     rw [← hx] at X12 ⊢
     clear hx
     have g12:=HS2.out _ X12.out
     refine tk 0 109 (.bool false) g12 ?v ?_
     case v => intro Wx hSx;go_simp
     refine tk 1 110 (.bool false) g12 ?v ?_
     case v => intro Wx hSx;go_simp
     refine sk 2 111 g12 ?_
     refine sk 3 112 g12 ?_
     try simp only [Act.put,List.setIfInBounds_toArray,List.set_cons_zero,List.set_cons_succ]
     refine sk 4 113 g12 ?_
     refine sk 5 114 g12 ?_
     refine sk 6 115 g12 ?_
     refine sk 7 116 g12 ?_
     try simp only [Act.put,List.setIfInBounds_toArray,List.set_cons_zero,List.set_cons_succ]
     refine sk 8 117 g12 ?_
     refine sk 9 118 g12 ?_
     refine sk 10 119 g12 ?_
     refine sk 11 120 g12 ?_
     try simp only [Act.put,List.setIfInBounds_toArray,List.set_cons_zero,List.set_cons_succ]
     refine sk 12 121 g12 ?_
     refine sk 13 122 g12 ?_
     refine sk 14 123 g12 ?_
     refine sk 15 124 g12 ?_
     try simp only [Act.put,List.setIfInBounds_toArray,List.set_cons_zero,List.set_cons_succ]
     refine sk 16 125 g12 ?_
     refine sk 17 126 g12 ?_
     refine tk 18 127 (.bool false) g12 ?v ?_
     case v => intro Wx hSx;go_simp
     refine tk 19 128 (.bool false) g12 ?v ?_
     case v => intro Wx hSx;go_simp
     try simp only [Act.put,List.setIfInBounds_toArray,List.set_cons_zero,List.set_cons_succ]
     refine tk 20 129 (.bool false) g12 ?v ?_
     case v => intro Wx hSx;go_simp
     refine tk 21 130 (.bool true) g12 ?v ?_
     case v => intro Wx hSx;go_simp
     refine tk 22 131 (.bool true) g12 ?v ?_
     case v => intro Wx hSx;go_simp
     refine tk 23 132 (.pointer (some ⟨w5.heap.size,0,none⟩)) g12 ?v ?_
     case v => intro Wx hSx;go_simp
     try simp only [Act.put,List.setIfInBounds_toArray,List.set_cons_zero,List.set_cons_succ]
     refine tk 24 133 (.string ⟨#[]⟩) g12 ?v ?_
     case v => intro Wx hSx;obtain ⟨y0,y1⟩:=HLDR.out Wx hSx;go_simp
     refine tk 25 134 (.bool false) g12 ?v ?_
     case v => intro Wx hSx;go_simp
     refine tk 26 135 (.bool false) g12 ?v ?_
     case v => intro Wx hSx;go_simp
     refine tk 27 136 (.pointer (some ⟨w5.heap.size,1,none⟩)) g12 ?v ?_
     case v => intro Wx hSx;go_simp
     try simp only [Act.put,List.setIfInBounds_toArray,List.set_cons_zero,List.set_cons_succ]
     refine tk 28 137 (.slice AR 0 cR) g12 ?v ?_
     case v => intro Wx hSx;obtain ⟨y0,y1⟩:=HLDR.out Wx hSx;go_simp
     refine tk 29 138 (.int .i64 0) g12 ?v ?_
     case v => intro Wx hSx;go_simp
     refine tk 30 139 (.bool false) g12 ?v ?_
     case v => intro Wx hSx;go_simp
     refine tk 31 140 (.bool false) g12 ?v ?_
     case v => intro Wx hSx;go_simp
     try simp only [Act.put,List.setIfInBounds_toArray,List.set_cons_zero,List.set_cons_succ]
     refine tk 32 141 (.bool false) g12 ?v ?_
     case v => intro Wx hSx;go_simp
     refine tk 33 142 (.bool false) g12 ?v ?_
     case v => intro Wx hSx;go_simp
     try simp only [Act.put,List.setIfInBounds_toArray,List.set_cons_zero,List.set_cons_succ]
     refine wpAnyH_done (by kernel_rfl) ?_ _
     have X14:=Lib.hid (X12.out.chain (Below.refl xX12.heap.size xX12).drew)
     obtain ⟨xX14,hx⟩ : ∃ X,X = xX12.drew:=⟨_,rfl⟩
     go_wp2
     refine wp_region_held (S:=S) hmx ?_
     change wpAnyH _ _ _ _ _ 28 #[false,false,false,false,false,false,false,false,false,false,false,false,false,false,false,false,false,false,false,false,false,false,false,false,false,false,false,false] _ xX12.drew
     rw [← hx] at X14 ⊢
     clear hx
     have g14:=HS2.out _ X14.out
     refine tk 0 143 (.bool true) g14 ?v ?_
     case v => intro Wx hSx;go_simp
     refine tk 1 144 (.bool false) g14 ?v ?_
     case v => intro Wx hSx;go_simp
     refine tk 2 145 (.bool false) g14 ?v ?_
     case v => intro Wx hSx;go_simp
     refine sk 3 146 g14 ?_
     try simp only [Act.put,List.setIfInBounds_toArray,List.set_cons_zero,List.set_cons_succ]
     refine sk 4 147 g14 ?_
     refine sk 5 148 g14 ?_
     refine tk 6 149 (.bool false) g14 ?v ?_
     case v => intro Wx hSx;go_simp
     refine tk 7 150 (.bool false) g14 ?v ?_
     case v => intro Wx hSx;go_simp
     try simp only [Act.put,List.setIfInBounds_toArray,List.set_cons_zero,List.set_cons_succ]
     refine tk 8 151 (.bool true) g14 ?v ?_
     case v => intro Wx hSx;go_simp
     refine tk 9 152 (.bool true) g14 ?v ?_
     case v => intro Wx hSx;go_simp
     refine tk 10 153 (.pointer (some ⟨w7.heap.size,0,none⟩)) g14 ?v ?_
     case v => intro Wx hSx;go_simp
     refine tk 11 154 (.string ⟨a.toArray⟩) g14 ?v ?_
     case v => intro Wx hSx;obtain ⟨y0,y1,y2⟩:=HLDP.out Wx hSx;go_simp
     try simp only [Act.put,List.setIfInBounds_toArray,List.set_cons_zero,List.set_cons_succ]
     refine tk 12 155 (.string ⟨a.toArray⟩) g14 ?v ?_
     case v => intro Wx hSx;go_simp
     refine tk 13 156 (.bool true) g14 ?v ?_
     case v => intro Wx hSx;go_simp
     refine tk 14 157 (.bool true) g14 ?v ?_
     case v => intro Wx hSx;go_simp
     refine tk 15 158 (.bool true) g14 ?v ?_
     case v => intro Wx hSx;go_simp
     try simp only [Act.put,List.setIfInBounds_toArray,List.set_cons_zero,List.set_cons_succ]
     refine tk 16 159 (.slice A m k) g14 ?v ?_
     case v => intro Wx hSx;go_simp
     refine tk 17 160 (pgA d nr ng nk nd nm nx) g14 ?v ?_
     case v => intro Wx hSx;obtain ⟨z0,z1,z2,z3,z4,z5⟩:=HLD.out Wx hSx;go_simp
     refine tk 18 161 (.pointer (some ⟨w.heap.size,5,none⟩)) g14 ?v ?_
     case v => intro Wx hSx;go_simp
     refine tk 19 162 (.slice (some ax) nx d.nx) g14 ?v ?_
     case v => intro Wx hSx;obtain ⟨y0,y1,y2⟩:=HLDP.out Wx hSx;go_simp
     try simp only [Act.put,List.setIfInBounds_toArray,List.set_cons_zero,List.set_cons_succ]
     refine tk 20 163 (.int .i64 kP) g14 ?v ?_
     case v => intro Wx hSx;go_simp
     refine tk 21 164 (.pointer (some (ax.add (kP * 12)))) g14 ?v ?_
     case v => intro Wx hSx;go_simp
     refine tk 22 165 (.agg csx) g14 ?v ?_
     case v => intro Wx hSx;obtain ⟨y0,y1,y2⟩:=HLDP.out Wx hSx;go_simp
     try simp only [Act.put,List.setIfInBounds_toArray,List.set_cons_zero,List.set_cons_succ]
     refine o1 23 (fun K hK => ?_)
     go_simp
     (with_reducible refine (HRS.out _ g14).mono ?_)
     rintro e xS ⟨⟨A',m',k',rfl,hm',hrow'⟩,hb⟩
     obtain rfl : m' = m:=hm'.trans HRM.out.symm
     have XS:=Lib.hid (X14.out.chain hb)
     have gS:=HS2.out _ XS.out
     have HEqS:=Lib.hid (HEqP.out _ A' k' gS hrow')
     clear hb hrow' hm'
     refine hK _ _ gS ?_
     clear hK K
     try simp only [Act.put,List.setIfInBounds_toArray,List.set_cons_zero,List.set_cons_succ]
     refine o1 24 (fun K hK => ?_)
     go_simp
     (with_reducible refine HEqS.out.mono ?_)
     rintro e xT ⟨rfl,hb⟩
     have XT:=Lib.hid (XS.out.chain hb)
     clear hb
     have gT:=HS2.out _ XT.out
     refine hK _ _ gT ?_
     clear hK K
     try simp only [Act.put,List.setIfInBounds_toArray,List.set_cons_zero,List.set_cons_succ]
     refine tk 25 168 (.bool true) gT ?v ?_
     case v => intro Wx hSx;go_simp
     refine tk 26 169 (.bool true) gT ?v ?_
     case v => intro Wx hSx;go_simp
     refine tk 27 6 (.bool true) gT ?v ?_
     case v => intro Wx hSx;go_simp
     try simp only [Act.put,List.setIfInBounds_toArray,List.set_cons_zero,List.set_cons_succ]
     refine wpAnyH_done (by kernel_rfl) ?_ _
     go_wp2
     go_ret
     exact ⟨rfl,HH.out.1.chain (K9.out.chain XT.out)⟩
    ·have hqr : qR = (kR : Int):=HQ.out.1.trans hqR'
     subst hqr
     obtain ⟨ar,cs',hAr,habr,hcs',hcar,A1,c1,hcs2,hnl2,hfm2,hrow2⟩:=rc_rowV (HO.out w9 K9.out).2.1 kR y hxR
     obtain ⟨AR,cR,hcsR,hnlR,hflR,hrowR⟩:=HVR.out
     obtain ⟨n,hn⟩ : ∃ n,n = y.fs.length:=⟨_,rfl⟩
     have HLDR : Hid (∀ W,S W → W.cell? ⟨w5.heap.size,0,none⟩ = some (.string ⟨a.toArray⟩) ∧ W.cell? ⟨w5.heap.size,1,none⟩ = some (.slice AR n cR) ∧ W.cell? ⟨w.heap.size,0,none⟩ = some (.slice (some ar) nr d.nr) ∧ W.cell? ⟨(ar.add (kR * 2)).block,(ar.add (kR * 2)).off + 1,none⟩ = some (.slice A1 n c1)):=Lib.hid (fun W h => by
      have q:=kept_box (HSB.out W h) HB9.out.1
      refine ⟨cell_of_block q 0 (by rw [hcsR,← hnR];rfl),cell_of_block q 1 (by rw [hcsR,hn];rfl),by rw [← hAr];exact (HLD.out W h).1,?_⟩
      have h1:=hcar 1 (.slice A1 n c1) (by rw [hcs2,hn];rfl)
      have h2 : W.cell? ((ar.add (kR * 2)).add 1) = some (.slice A1 n c1):=((HSB.out W h).cell (by rw [block_adds,block_adds];exact habr)).trans h1
      exact h2)
     have HEqR : Hid (∀ W,S W → Calls Tryz.prog 16 #[.slice AR n cR,.slice A1 n c1] W fun e w' => e = .returned (.bool true) ∧ Below W.heap.size W w'):=Lib.hid (fun W h => by
      have hb5 : Below w5.heap.size w5 W:=HB6.out.1.chain (HM9.out.chain (HSB.out W h))
      exact equalPm_same AR A1 cR c1 n y.fs hn (by rw [hn];exact hflR) W.heap.size W (Nat.le_refl _) (rowMore hb5.size (rowB vpm_keeps (Nat.le_refl _) hb5 (pm_rowV hrowR))) (rowMore (HSB.out W h).size (rowB vpm_keeps (Nat.le_refl _) (HSB.out W h) (pm_rowV hrow2))))
     have hkr : (kR : Int) < nr:=by have := HH.out.2.2.2.2.2.2.1;omega
     have hkr0 : (0 : Int) ≤ kR:=by omega
     have hkr1 : ¬ (kR : Int) < 0:=by omega
     clear hqR' hxR hnR hltR hAr habr hcs' hcar hcs2 hnl2 hfm2 hrow2 hcsR hnlR hflR hrowR hn
     have X12:=Lib.hid (HX.out.chain (Below.refl U.heap.size U).drew)
     obtain ⟨xX12,hx⟩ : ∃ X,X = U.drew:=⟨_,rfl⟩
     go_wp2
     refine wp_region_held (S:=S) hmx ?_
     change wpAnyH _ _ _ _ _ 34 #[false,false,false,false,false,false,false,false,false,false,false,false,false,false,false,false,false,false,false,false,false,false,false,false,false,false,false,false,false,false,false,false,false,false] _ U.drew
     rw [← hx] at X12 ⊢
     clear hx
     have g12:=HS2.out _ X12.out
     refine tk 0 109 (.bool true) g12 ?v ?_
     case v => intro Wx hSx;go_simp
     refine tk 1 110 (.bool true) g12 ?v ?_
     case v => intro Wx hSx;go_simp
     refine tk 2 111 (.pointer (some ⟨w5.heap.size,0,none⟩)) g12 ?v ?_
     case v => intro Wx hSx;go_simp
     refine tk 3 112 (.string ⟨a.toArray⟩) g12 ?v ?_
     case v => intro Wx hSx;obtain ⟨y0,y1,y2,y3⟩:=HLDR.out Wx hSx;go_simp
     try simp only [Act.put,List.setIfInBounds_toArray,List.set_cons_zero,List.set_cons_succ]
     refine tk 4 113 (.string ⟨a.toArray⟩) g12 ?v ?_
     case v => intro Wx hSx;go_simp
     refine tk 5 114 (.bool false) g12 ?v ?_
     case v => intro Wx hSx;go_simp
     refine tk 6 115 (.bool false) g12 ?v ?_
     case v => intro Wx hSx;go_simp
     refine tk 7 116 (.pointer (some ⟨w5.heap.size,1,none⟩)) g12 ?v ?_
     case v => intro Wx hSx;go_simp
     try simp only [Act.put,List.setIfInBounds_toArray,List.set_cons_zero,List.set_cons_succ]
     refine tk 8 117 (.slice AR n cR) g12 ?v ?_
     case v => intro Wx hSx;obtain ⟨y0,y1,y2,y3⟩:=HLDR.out Wx hSx;go_simp
     refine tk 9 118 (.pointer (some ⟨w.heap.size,0,none⟩)) g12 ?v ?_
     case v => intro Wx hSx;go_simp
     refine tk 10 119 (.slice (some ar) nr d.nr) g12 ?v ?_
     case v => intro Wx hSx;obtain ⟨y0,y1,y2,y3⟩:=HLDR.out Wx hSx;go_simp
     refine tk 11 120 (.int .i64 kR) g12 ?v ?_
     case v => intro Wx hSx;go_simp
     try simp only [Act.put,List.setIfInBounds_toArray,List.set_cons_zero,List.set_cons_succ]
     refine tk 12 121 (.pointer (some (ar.add (kR * 2)))) g12 ?v ?_
     case v => intro Wx hSx;go_simp
     refine tk 13 122 (.pointer (some ⟨(ar.add (kR * 2)).block,(ar.add (kR * 2)).off + 1,none⟩)) g12 ?v ?_
     case v => intro Wx hSx;go_simp
     refine tk 14 123 (.slice A1 n c1) g12 ?v ?_
     case v => intro Wx hSx;obtain ⟨y0,y1,y2,y3⟩:=HLDR.out Wx hSx;go_simp
     try simp only [Act.put,List.setIfInBounds_toArray,List.set_cons_zero,List.set_cons_succ]
     refine o1 15 (fun K hK => ?_)
     go_simp
     (with_reducible refine (HEqR.out _ g12).mono ?_)
     rintro e xE ⟨rfl,hb⟩
     have XE:=Lib.hid (X12.out.chain hb)
     clear hb
     have gE:=HS2.out _ XE.out
     refine hK _ _ gE ?_
     clear hK K
     try simp only [Act.put,List.setIfInBounds_toArray,List.set_cons_zero,List.set_cons_succ]
     refine tk 16 125 (.bool false) gE ?v ?_
     case v => intro Wx hSx;go_simp
     refine tk 17 126 (.bool false) gE ?v ?_
     case v => intro Wx hSx;go_simp
     refine tk 18 127 (.bool false) gE ?v ?_
     case v => intro Wx hSx;go_simp
     refine tk 19 128 (.bool false) gE ?v ?_
     case v => intro Wx hSx;go_simp
     try simp only [Act.put,List.setIfInBounds_toArray,List.set_cons_zero,List.set_cons_succ]
     refine tk 20 129 (.bool true) gE ?v ?_
     case v => intro Wx hSx;go_simp
     refine tk 21 130 (.bool false) gE ?v ?_
     case v => intro Wx hSx;go_simp
     refine tk 22 131 (.bool false) gE ?v ?_
     case v => intro Wx hSx;go_simp
     refine sk 23 132 gE ?_
     try simp only [Act.put,List.setIfInBounds_toArray,List.set_cons_zero,List.set_cons_succ]
     refine sk 24 133 gE ?_
     refine sk 25 134 gE ?_
     refine sk 26 135 gE ?_
     refine sk 27 136 gE ?_
     try simp only [Act.put,List.setIfInBounds_toArray,List.set_cons_zero,List.set_cons_succ]
     refine sk 28 137 gE ?_
     refine sk 29 138 gE ?_
     refine sk 30 139 gE ?_
     refine sk 31 140 gE ?_
     try simp only [Act.put,List.setIfInBounds_toArray,List.set_cons_zero,List.set_cons_succ]
     refine tk 32 141 (.bool false) gE ?v ?_
     case v => intro Wx hSx;go_simp
     refine tk 33 142 (.bool false) gE ?v ?_
     case v => intro Wx hSx;go_simp
     try simp only [Act.put,List.setIfInBounds_toArray,List.set_cons_zero,List.set_cons_succ]
     refine wpAnyH_done (by kernel_rfl) ?_ _
     have X14:=Lib.hid (XE.out.chain (Below.refl xE.heap.size xE).drew)
     obtain ⟨xX14,hx⟩ : ∃ X,X = xE.drew:=⟨_,rfl⟩
     go_wp2
     refine wp_region_held (S:=S) hmx ?_
     change wpAnyH _ _ _ _ _ 28 #[false,false,false,false,false,false,false,false,false,false,false,false,false,false,false,false,false,false,false,false,false,false,false,false,false,false,false,false] _ xE.drew
     rw [← hx] at X14 ⊢
     clear hx
     have g14:=HS2.out _ X14.out
     refine tk 0 143 (.bool true) g14 ?v ?_
     case v => intro Wx hSx;go_simp
     refine tk 1 144 (.bool false) g14 ?v ?_
     case v => intro Wx hSx;go_simp
     refine tk 2 145 (.bool false) g14 ?v ?_
     case v => intro Wx hSx;go_simp
     refine sk 3 146 g14 ?_
     try simp only [Act.put,List.setIfInBounds_toArray,List.set_cons_zero,List.set_cons_succ]
     refine sk 4 147 g14 ?_
     refine sk 5 148 g14 ?_
     refine tk 6 149 (.bool false) g14 ?v ?_
     case v => intro Wx hSx;go_simp
     refine tk 7 150 (.bool false) g14 ?v ?_
     case v => intro Wx hSx;go_simp
     try simp only [Act.put,List.setIfInBounds_toArray,List.set_cons_zero,List.set_cons_succ]
     refine tk 8 151 (.bool true) g14 ?v ?_
     case v => intro Wx hSx;go_simp
     refine tk 9 152 (.bool true) g14 ?v ?_
     case v => intro Wx hSx;go_simp
     refine tk 10 153 (.pointer (some ⟨w7.heap.size,0,none⟩)) g14 ?v ?_
     case v => intro Wx hSx;go_simp
     refine tk 11 154 (.string ⟨a.toArray⟩) g14 ?v ?_
     case v => intro Wx hSx;obtain ⟨y0,y1,y2⟩:=HLDP.out Wx hSx;go_simp
     try simp only [Act.put,List.setIfInBounds_toArray,List.set_cons_zero,List.set_cons_succ]
     refine tk 12 155 (.string ⟨a.toArray⟩) g14 ?v ?_
     case v => intro Wx hSx;go_simp
     refine tk 13 156 (.bool true) g14 ?v ?_
     case v => intro Wx hSx;go_simp
     refine tk 14 157 (.bool true) g14 ?v ?_
     case v => intro Wx hSx;go_simp
     refine tk 15 158 (.bool true) g14 ?v ?_
     case v => intro Wx hSx;go_simp
     try simp only [Act.put,List.setIfInBounds_toArray,List.set_cons_zero,List.set_cons_succ]
     refine tk 16 159 (.slice A m k) g14 ?v ?_
     case v => intro Wx hSx;go_simp
     refine tk 17 160 (pgA d nr ng nk nd nm nx) g14 ?v ?_
     case v => intro Wx hSx;obtain ⟨z0,z1,z2,z3,z4,z5⟩:=HLD.out Wx hSx;go_simp
     refine tk 18 161 (.pointer (some ⟨w.heap.size,5,none⟩)) g14 ?v ?_
     case v => intro Wx hSx;go_simp
     refine tk 19 162 (.slice (some ax) nx d.nx) g14 ?v ?_
     case v => intro Wx hSx;obtain ⟨y0,y1,y2⟩:=HLDP.out Wx hSx;go_simp
     try simp only [Act.put,List.setIfInBounds_toArray,List.set_cons_zero,List.set_cons_succ]
     refine tk 20 163 (.int .i64 kP) g14 ?v ?_
     case v => intro Wx hSx;go_simp
     refine tk 21 164 (.pointer (some (ax.add (kP * 12)))) g14 ?v ?_
     case v => intro Wx hSx;go_simp
     refine tk 22 165 (.agg csx) g14 ?v ?_
     case v => intro Wx hSx;obtain ⟨y0,y1,y2⟩:=HLDP.out Wx hSx;go_simp
     try simp only [Act.put,List.setIfInBounds_toArray,List.set_cons_zero,List.set_cons_succ]
     refine o1 23 (fun K hK => ?_)
     go_simp
     (with_reducible refine (HRS.out _ g14).mono ?_)
     rintro e xS ⟨⟨A',m',k',rfl,hm',hrow'⟩,hb⟩
     obtain rfl : m' = m:=hm'.trans HRM.out.symm
     have XS:=Lib.hid (X14.out.chain hb)
     have gS:=HS2.out _ XS.out
     have HEqS:=Lib.hid (HEqP.out _ A' k' gS hrow')
     clear hb hrow' hm'
     refine hK _ _ gS ?_
     clear hK K
     try simp only [Act.put,List.setIfInBounds_toArray,List.set_cons_zero,List.set_cons_succ]
     refine o1 24 (fun K hK => ?_)
     go_simp
     (with_reducible refine HEqS.out.mono ?_)
     rintro e xT ⟨rfl,hb⟩
     have XT:=Lib.hid (XS.out.chain hb)
     clear hb
     have gT:=HS2.out _ XT.out
     refine hK _ _ gT ?_
     clear hK K
     try simp only [Act.put,List.setIfInBounds_toArray,List.set_cons_zero,List.set_cons_succ]
     refine tk 25 168 (.bool true) gT ?v ?_
     case v => intro Wx hSx;go_simp
     refine tk 26 169 (.bool true) gT ?v ?_
     case v => intro Wx hSx;go_simp
     refine tk 27 6 (.bool true) gT ?v ?_
     case v => intro Wx hSx;go_simp
     try simp only [Act.put,List.setIfInBounds_toArray,List.set_cons_zero,List.set_cons_succ]
     refine wpAnyH_done (by kernel_rfl) ?_ _
     go_wp2
     go_ret
     exact ⟨rfl,HH.out.1.chain (K9.out.chain XT.out)⟩
end Go.Proofs.YtojjfdegkooknaaGreatDoor
