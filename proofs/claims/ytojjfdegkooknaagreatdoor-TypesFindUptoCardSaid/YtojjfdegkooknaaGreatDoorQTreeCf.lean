import Derived.Test.YtojjfdegkooknaaGreatDoorQTreeCc
set_option linter.unusedVariables false
set_option linter.unusedSimpArgs false
namespace Go.Proofs.YtojjfdegkooknaaGreatDoor
set_option maxRecDepth 100000
set_option maxHeartbeats 4000000
open Go.RowKit
def setPart (cs : Array Value) (o : Nat) (v : Array Value) : Array Value:=(cs.toList.take o ++ v.toList ++ cs.toList.drop (o + v.size)).toArray
theorem setPart_size {cs v : Array Value} {o : Nat} (h : o + v.size ≤ cs.size) : (setPart cs o v).size = cs.size:=by
 unfold setPart
 simp only [List.size_toArray,List.length_append,List.length_take,List.length_drop,Array.length_toList]
 omega
theorem store_part {W : World} {b o : Nat} {T : TypeId} {cs v : Array Value} (hb : W.heap[b]? = some (.cells cs T (0,0))) (ho : o + v.size ≤ cs.size) (h1 : v.all (·.oneCell') = true) :
 (storeCells ⟨b,o,none⟩ v.toList).run Tryz.prog W = .ok () (W.setRow b (setPart cs o v)):=by
 have := run_storeCells_at (P:=Tryz.prog) b o T v.toList 0 cs W hb (by rw [Array.length_toList];omega) (fun u hu => (Array.all_eq_true_iff_forall_mem.1 h1) u (by simpa using hu))
 simpa [setPart] using this
theorem vin_from {α : Type} {V : World → Nat → Array Value → α → Prop} {W1 W W' : World} {cs : Array Value} {x : α} (h : VInC V (fun b => W.heap.size ≤ b) W' cs x) (hb : Below W1.heap.size W1 W) : VInC V (fun b => W1.heap.size ≤ b) W' cs x:=by
 obtain ⟨w0,h1,h2⟩:=h
 exact ⟨w0,fun q v hq => ⟨(h1 q v hq).1,Nat.le_trans hb.size (h1 q v hq).2⟩,h2⟩
theorem vin_later {α : Type} {V : World → Nat → Array Value → α → Prop} {S : Nat → Prop} {W W' : World} {cs : Array Value} {x : α} (h : VInC V S W cs x) (hb : Below W.heap.size W W') : VInC V S W' cs x:=by
 obtain ⟨w0,h1,h2⟩:=h
 exact ⟨w0,fun q v hq => ⟨(hb.cell (lt_of_cell (h1 q v hq).1)).trans (h1 q v hq).1,(h1 q v hq).2⟩,h2⟩
def ACut (w : World) (T : TypeId) (cs zc : Array Value) (ea eb : Ex) (wx : World) : Prop :=
 ∃ (ca cb : Array Value) (W : World),W = wx ∧ W.heap[w.heap.size]? = some (.cells (setPart (setPart cs 1 ca) 5 cb) T (0,0)) ∧ W.heap[w.heap.size + 1]? = some (.cells zc T (0,0)) ∧ ca.size = 4 ∧ cb.size = 4 ∧ ca.all (·.oneCell') = true ∧ cb.all (·.oneCell') = true ∧
  VInC VEx (fun b => w.heap.size + 2 ≤ b) W ca ea ∧ VInC VEx (fun b => w.heap.size + 2 ≤ b) W cb eb ∧ Below w.heap.size w W
theorem acut_of {w W1 V : World} {T : TypeId} {cs zc ca cb : Array Value} {ea eb : Ex} (hW1 : W1 = (w.alloc (.cells cs T)).alloc (.cells zc T)) (_hs : 9 ≤ cs.size) (_h : True) (hb : Below W1.heap.size W1 V) (h4 : ca.size = 4) (h5 : cb.size = 4) (h6 : ca.all (·.oneCell') = true) (h7 : cb.all (·.oneCell') = true)
 (s1 : VInC VEx (fun b => W1.heap.size ≤ b) V ca ea) (s2 : VInC VEx (fun b => W1.heap.size ≤ b) V cb eb) :
 ACut w T cs zc ea eb ((V.setRow w.heap.size (setPart cs 1 ca)).setRow w.heap.size (setPart (setPart cs 1 ca) 5 cb)):=by
 have hz : W1.heap.size = w.heap.size + 2:=by rw [hW1,size_of_alloc,size_of_alloc]
 have hx : W1.heap[w.heap.size]? = some (.cells cs T (0,0)):=by rw [hW1];exact heap_keep (heap_of_alloc w _)
 have hr : W1.heap[w.heap.size + 1]? = some (.cells zc T (0,0)):=by rw [hW1];exact heap_alloc2_new w _ _
 have hk : ∀ q : Addr,W1.heap.size ≤ q.block → ((V.setRow w.heap.size (setPart cs 1 ca)).setRow w.heap.size (setPart (setPart cs 1 ca) 5 cb)).cell? q = V.cell? q:=fun q hq =>
  World.cell?_of_block ((setRow_other _ _ _ _ (by omega)).trans (setRow_other _ _ _ _ (by omega)))
 have hmv : ∀ {c : Array Value} {e : Ex},VInC VEx (fun b => W1.heap.size ≤ b) V c e → VInC VEx (fun b => w.heap.size + 2 ≤ b) ((V.setRow w.heap.size (setPart cs 1 ca)).setRow w.heap.size (setPart (setPart cs 1 ca) 5 cb)) c e:=fun {c e} h => by
  obtain ⟨w0,h1,h2⟩:=h
  refine ⟨w0,fun q v hq => ?_,h2⟩
  obtain ⟨j1,j2⟩:=h1 q v hq
  have j3 : W1.heap.size ≤ q.block:=j2
  exact ⟨(hk q j3).trans j1,by omega⟩
 have hbw : Below w.heap.size w W1:=by rw [hW1];exact (below_alloc w _).chain (below_alloc _ _)
 exact ⟨ca,cb,_,rfl,setRow_heap _ _ _ _ _ _ (setRow_heap _ _ cs _ _ _ (kept_box hb hx)),(setRow_other _ _ _ _ (by omega)).trans ((setRow_other _ _ _ _ (by omega)).trans (kept_box hb hr)),h4,h5,h6,h7,hmv s1,hmv s2,
  below_setRow (below_setRow (hbw.chain hb) (Nat.le_refl _) _) (Nat.le_refl _) _⟩
theorem catom_any (x : At) (hwa : WE x.a) (hwb : WE x.b) (cs : Array Value) (w : World) (hv : VAt w w.heap.size cs x) : Calls Tryz.prog 87 #[.agg cs] w (CopyV VAt 9 x w):=by
 have hone:=vat_one hv
 obtain ⟨ak,an,sa,al,bk,bn,sb,bl,Aa,ca,Ab,cb,xa,xb,hcs,hl,ra,rb⟩:=hv
 obtain ⟨T,N,zc,hT,hN,hzc,hag,hsz,hzv⟩:=hid_AtomC
 obtain ⟨TE,NE,zE,hTE,hNE,hzE,hagE,hszE,hzvE⟩:=hid_ExprC
 have e1 : ∀ y : Operand,Op.load 148 y = Op.load T y:=fun y => by rw [hT]
 have e2 : ∀ y z : Operand,Op.store 148 y z = Op.store T y z:=fun y z => by rw [hT]
 have e3 : Op.alloc 148 = Op.alloc T:=by rw [hT]
 have e4 : ∀ y : Operand,Op.box 148 y = Op.box T y:=fun y => by rw [hT]
 have f1 : ∀ y : Operand,Op.load 84 y = Op.load TE y:=fun y => by rw [hTE]
 have f2 : ∀ y z : Operand,Op.store 84 y z = Op.store TE y z:=fun y z => by rw [hTE]
 obtain ⟨va,hva⟩ : ∃ v : Array Value,v = #[.int .i64 ak,.int .i64 an,.string ⟨sa.toArray⟩,.slice Aa al.length ca]:=⟨_,rfl⟩
 obtain ⟨vb,hvb⟩ : ∃ v : Array Value,v = #[.int .i64 bk,.int .i64 bn,.string ⟨sb.toArray⟩,.slice Ab bl.length cb]:=⟨_,rfl⟩
 have h9 : cs.size = 9:=by rw [hcs];rfl
 have hszc : cs.size = N:=h9.trans hN.symm
 have hla : ∀ j v,va[j]? = some v → cs[1 + j]? = some v:=fun j v h => by
  rw [hva] at h
  rw [hcs]
  match j,h with
  | 0,h => exact h
  | 1,h => exact h
  | 2,h => exact h
  | 3,h => exact h
  | j + 4,h => simp at h
 have hlb : ∀ j v,vb[j]? = some v → cs[5 + j]? = some v:=fun j v h => by
  rw [hvb] at h
  rw [hcs]
  match j,h with
  | 0,h => exact h
  | 1,h => exact h
  | 2,h => exact h
  | 3,h => exact h
  | j + 4,h => simp at h
 have hza : va.size = NE:=by rw [hva,hNE];rfl
 have hzb : vb.size = NE:=by rw [hvb,hNE];rfl
 obtain ⟨W1,hW1⟩ : ∃ W1,W1 = (w.alloc (.cells cs T)).alloc (.cells zc T):=⟨_,rfl⟩
 have hbw : Below w.heap.size w W1:=by rw [hW1];exact (below_alloc w _).chain (below_alloc _ _)
 have hx : W1.heap[w.heap.size]? = some (.cells cs T (0,0)):=by rw [hW1];exact heap_keep (heap_of_alloc w _)
 have HC1 : Hid (∀ W,Below W1.heap.size W1 W → Calls Tryz.prog 120 #[.agg va] W (CopyV VEx 4 x.a W)):=Lib.hid (fun W hb => cexpr_any _ x.a (Nat.lt_succ_self _) hwa va W ⟨ak,an,sa,al,Aa,ca,xa,hva,hl.1,hl.2.1,ra.on (hbw.chain hb)⟩)
 have HC2 : Hid (∀ W,Below W1.heap.size W1 W → Calls Tryz.prog 120 #[.agg vb] W (CopyV VEx 4 x.b W)):=Lib.hid (fun W hb => cexpr_any _ x.b (Nat.lt_succ_self _) hwb vb W ⟨bk,bn,sb,bl,Ab,cb,xb,hvb,hl.2.2.1,hl.2.2.2,rb.on (hbw.chain hb)⟩)
 have HZ : Hid (∀ W,Below W1.heap.size W1 W → (loadCellsFrom ⟨w.heap.size,1,none⟩ 0 NE #[]).run Tryz.prog W = .ok va W ∧ (loadCellsFrom ⟨w.heap.size,5,none⟩ 0 NE #[]).run Tryz.prog W = .ok vb W):=Lib.hid (fun W hb =>
  ⟨load_list (fun j v h => by rw [← add_block0 w.heap.size 1,add_of_add,add_block0];exact cell_of_block (kept_box hb hx) _ (hla j v h)) hza,load_list (fun j v h => by rw [← add_block0 w.heap.size 5,add_of_add,add_block0];exact cell_of_block (kept_box hb hx) _ (hlb j v h)) hzb⟩)
 have HS1 : Hid (∀ W,Below W1.heap.size W1 W → ∀ v : Array Value,v.size = 4 → v.all (·.oneCell') = true → (storeCells ⟨w.heap.size,1,none⟩ v.toList).run Tryz.prog W = .ok () (W.setRow w.heap.size (setPart cs 1 v))):=Lib.hid (fun W hb v h4 h1 => store_part (kept_box hb hx) (by omega) h1)
 have HS2 : Hid (∀ W,Below W1.heap.size W1 W → ∀ u : Array Value,u.size = 4 → ∀ v : Array Value,v.size = 4 → v.all (·.oneCell') = true → (storeCells ⟨w.heap.size,5,none⟩ v.toList).run Tryz.prog (W.setRow w.heap.size (setPart cs 1 u)) = .ok () ((W.setRow w.heap.size (setPart cs 1 u)).setRow w.heap.size (setPart (setPart cs 1 u) 5 v))):=Lib.hid (fun W hb u h4 v h5 h1 => store_part (setRow_heap _ _ cs _ _ _ (kept_box hb hx)) (by rw [setPart_size (by omega)];omega) h1)
 have HX:=Lib.hid (And.intro hW1 (And.intro (show 9 ≤ cs.size by omega) trivial))
 have HH:=Lib.hid (And.intro xa (And.intro xb (And.intro hcs (And.intro hN (And.intro hzc hone)))))
 have HNE:=Lib.hid hNE
 have hmx : Tryz.prog.follows .mixedOrders = true:=by kernel_rfl
 clear xa xb hcs hl ra rb hone hva hvb h9 hla hlb hza hzb hbw hx hN hzc hwa hwb hNE hzE
 go_enter Tryz.func87,Tryz.ntmps87
 simp only [e1,e2,e3,e4,f1,f2]
 clear e1 e2 e3 e4 f1 f2 hT hTE
 go_wp2
 rw [← hW1]
 clear hW1
 go_cut [10] from 3 to 10 (fun _v10 wx => ACut w T cs zc x.a x.b wx)
 case first =>
  refine wp_region_held (S:=fun _ => True) hmx ?_
  change wpAnyH _ _ _ _ _ 10 #[false,false,false,false,false,false,false,false,false,false] _ W1.drew
  have HV0 : Hid (Below W1.heap.size W1 W1.drew):=Lib.hid (Below.refl W1.heap.size W1).drew
  generalize W1.drew = V0 at HV0 ⊢
  refine tk 0 3 (.pointer (some ⟨w.heap.size,1,none⟩)) trivial ?v ?_
  case v => intro Wx hSx;go_simp
  refine tk 3 6 (.pointer (some ⟨w.heap.size,5,none⟩)) trivial ?v ?_
  case v => intro Wx hSx;go_simp
  simp only [Act.put,List.setIfInBounds_toArray,List.set_cons_zero,List.set_cons_succ]
  refine anyH_two 1 4 (by kernel_rfl) rfl rfl (by kernel_rfl) (by kernel_rfl) (fun K hK => ?_) (fun K hK => ?_)
  ·obtain ⟨z1,z2⟩:=HZ.out _ HV0.out
   go_simp
   refine hK _ _ trivial ?_
   clear hK K z1 z2
   refine anyH_two 2 4 (by kernel_rfl) rfl rfl (by kernel_rfl) (by kernel_rfl) (fun K hK => ?_) (fun K hK => ?_)
   ·go_simp
    (with_reducible refine (HC1.out V0 HV0.out).mono ?_)
    rintro e V1 ⟨ca2,rfl,m1,m2,m3,hb1⟩
    have HM2:=Lib.hid (And.intro m1 (And.intro m2 (vin_from m3 HV0.out)))
    have HV1:=Lib.hid (HV0.out.chain hb1)
    clear m1 m2 m3 hb1
    refine hK _ _ trivial ?_
    clear hK K
    refine o1 4 (fun K hK => ?_)
    obtain ⟨z1,z2⟩:=HZ.out _ HV1.out
    go_simp
    refine hK _ _ trivial ?_
    clear hK K z1 z2
    refine tk 6 9 (.pointer (some ⟨w.heap.size,1,none⟩)) trivial ?v ?_
    case v => intro Wx hSx;go_simp
    refine o1 5 (fun K hK => ?_)
    go_simp
    (with_reducible refine (HC2.out V1 HV1.out).mono ?_)
    rintro e V2 ⟨cb2,rfl,m1,m2,m3,hb2⟩
    have HM5:=Lib.hid (And.intro m1 (And.intro m2 (vin_from m3 HV1.out)))
    have HM6:=Lib.hid (vin_later HM2.out.2.2 hb2)
    have HV2:=Lib.hid (HV1.out.chain hb2)
    clear m1 m2 m3 hb2
    refine hK _ _ trivial ?_
    clear hK K
    refine o1 7 (fun K hK => ?_)
    have z3:=HS1.out _ HV2.out ca2 HM2.out.1 HM2.out.2.1
    have z4 : ca2.size = NE:=HM2.out.1.trans HNE.out.symm
    go_simp
    refine hK _ _ trivial ?_
    clear hK K z3 z4
    refine tk 8 10 (.pointer (some ⟨w.heap.size,5,none⟩)) trivial ?v ?_
    case v => intro Wx hSx;go_simp
    simp only [Act.put,List.setIfInBounds_toArray,List.set_cons_zero,List.set_cons_succ]
    refine o1 9 (fun K hK => ?_)
    have z3:=HS2.out _ HV2.out ca2 HM2.out.1 cb2 HM5.out.1 HM5.out.2.1
    have z4 : cb2.size = NE:=HM5.out.1.trans HNE.out.symm
    go_simp
    refine hK _ _ trivial ?_
    clear hK K z3 z4
    refine wpAnyH_done (by kernel_rfl) ?_ _
    go_wp2
    go_meet
    exact acut_of HX.out.1 HX.out.2.1 HX.out.2.2 HV2.out HM2.out.1 HM5.out.1 HM2.out.2.1 HM5.out.2.1 HM6.out HM5.out.2.2
   ·obtain ⟨z1,z2⟩:=HZ.out _ HV0.out
    go_simp
    refine hK _ _ trivial ?_
    clear hK K z1 z2
    refine o1 2 (fun K hK => ?_)
    go_simp
    (with_reducible refine (HC1.out V0 HV0.out).mono ?_)
    rintro e V3 ⟨ca2,rfl,m1,m2,m3,hb3⟩
    have HM2:=Lib.hid (And.intro m1 (And.intro m2 (vin_from m3 HV0.out)))
    have HV3:=Lib.hid (HV0.out.chain hb3)
    clear m1 m2 m3 hb3
    refine hK _ _ trivial ?_
    clear hK K
    refine tk 6 9 (.pointer (some ⟨w.heap.size,1,none⟩)) trivial ?v ?_
    case v => intro Wx hSx;go_simp
    refine o1 5 (fun K hK => ?_)
    go_simp
    (with_reducible refine (HC2.out V3 HV3.out).mono ?_)
    rintro e V4 ⟨cb2,rfl,m1,m2,m3,hb4⟩
    have HM5:=Lib.hid (And.intro m1 (And.intro m2 (vin_from m3 HV3.out)))
    have HM6:=Lib.hid (vin_later HM2.out.2.2 hb4)
    have HV4:=Lib.hid (HV3.out.chain hb4)
    clear m1 m2 m3 hb4
    refine hK _ _ trivial ?_
    clear hK K
    refine o1 7 (fun K hK => ?_)
    have z3:=HS1.out _ HV4.out ca2 HM2.out.1 HM2.out.2.1
    have z4 : ca2.size = NE:=HM2.out.1.trans HNE.out.symm
    go_simp
    refine hK _ _ trivial ?_
    clear hK K z3 z4
    refine tk 8 10 (.pointer (some ⟨w.heap.size,5,none⟩)) trivial ?v ?_
    case v => intro Wx hSx;go_simp
    simp only [Act.put,List.setIfInBounds_toArray,List.set_cons_zero,List.set_cons_succ]
    refine o1 9 (fun K hK => ?_)
    have z3:=HS2.out _ HV4.out ca2 HM2.out.1 cb2 HM5.out.1 HM5.out.2.1
    have z4 : cb2.size = NE:=HM5.out.1.trans HNE.out.symm
    go_simp
    refine hK _ _ trivial ?_
    clear hK K z3 z4
    refine wpAnyH_done (by kernel_rfl) ?_ _
    go_wp2
    go_meet
    exact acut_of HX.out.1 HX.out.2.1 HX.out.2.2 HV4.out HM2.out.1 HM5.out.1 HM2.out.2.1 HM5.out.2.1 HM6.out HM5.out.2.2
  ·obtain ⟨z1,z2⟩:=HZ.out _ HV0.out
   go_simp
   refine hK _ _ trivial ?_
   clear hK K z1 z2
   refine o1 1 (fun K hK => ?_)
   obtain ⟨z1,z2⟩:=HZ.out _ HV0.out
   go_simp
   refine hK _ _ trivial ?_
   clear hK K z1 z2
   refine o1 2 (fun K hK => ?_)
   go_simp
   (with_reducible refine (HC1.out V0 HV0.out).mono ?_)
   rintro e V5 ⟨ca2,rfl,m1,m2,m3,hb5⟩
   have HM2:=Lib.hid (And.intro m1 (And.intro m2 (vin_from m3 HV0.out)))
   have HV5:=Lib.hid (HV0.out.chain hb5)
   clear m1 m2 m3 hb5
   refine hK _ _ trivial ?_
   clear hK K
   refine tk 6 9 (.pointer (some ⟨w.heap.size,1,none⟩)) trivial ?v ?_
   case v => intro Wx hSx;go_simp
   refine o1 5 (fun K hK => ?_)
   go_simp
   (with_reducible refine (HC2.out V5 HV5.out).mono ?_)
   rintro e V6 ⟨cb2,rfl,m1,m2,m3,hb6⟩
   have HM5:=Lib.hid (And.intro m1 (And.intro m2 (vin_from m3 HV5.out)))
   have HM6:=Lib.hid (vin_later HM2.out.2.2 hb6)
   have HV6:=Lib.hid (HV5.out.chain hb6)
   clear m1 m2 m3 hb6
   refine hK _ _ trivial ?_
   clear hK K
   refine o1 7 (fun K hK => ?_)
   have z3:=HS1.out _ HV6.out ca2 HM2.out.1 HM2.out.2.1
   have z4 : ca2.size = NE:=HM2.out.1.trans HNE.out.symm
   go_simp
   refine hK _ _ trivial ?_
   clear hK K z3 z4
   refine tk 8 10 (.pointer (some ⟨w.heap.size,5,none⟩)) trivial ?v ?_
   case v => intro Wx hSx;go_simp
   simp only [Act.put,List.setIfInBounds_toArray,List.set_cons_zero,List.set_cons_succ]
   refine o1 9 (fun K hK => ?_)
   have z3:=HS2.out _ HV6.out ca2 HM2.out.1 cb2 HM5.out.1 HM5.out.2.1
   have z4 : cb2.size = NE:=HM5.out.1.trans HNE.out.symm
   go_simp
   refine hK _ _ trivial ?_
   clear hK K z3 z4
   refine wpAnyH_done (by kernel_rfl) ?_ _
   go_wp2
   go_meet
   exact acut_of HX.out.1 HX.out.2.1 HX.out.2.2 HV6.out HM2.out.1 HM5.out.1 HM2.out.2.1 HM5.out.2.1 HM6.out HM5.out.2.2
 case rest =>
  obtain ⟨ca2,cb2,W,rfl,b1,b2,z4,z5,z6,z7,s1,s2,hb⟩:=hcut
  obtain ⟨cs2,hcs2⟩ : ∃ cs2,cs2 = setPart (setPart cs 1 ca2) 5 cb2:=⟨_,rfl⟩
  rw [← hcs2] at b1
  obtain ⟨xa,xb,hcs,hN,hzc,hone⟩:=HH.out
  have hfin : ∃ ak an sa al bk bn sb bl Aa ca Ab cb,x.a = .mk ak an sa al ∧ x.b = .mk bk bn sb bl ∧ cs2 = #[.int .i64 x.k,.int .i64 ak,.int .i64 an,.string ⟨sa.toArray⟩,.slice Aa al.length ca,.int .i64 bk,.int .i64 bn,.string ⟨sb.toArray⟩,.slice Ab bl.length cb]:=by
   obtain ⟨_,_,k1,n1,t1,l1,A1,c1,q1,q2,_⟩:=s1
   obtain ⟨_,_,k2,n2,t2,l2,A2,c2,r1,r2,_⟩:=s2
   refine ⟨k1,n1,t1,l1,k2,n2,t2,l2,A1,c1,A2,c2,q1,r1,?_⟩
   rw [hcs2,hcs,q2,r2]
   rfl
  have hsz2 : cs2.size = N:=by obtain ⟨_,_,_,_,_,_,_,_,_,_,_,_,_,_,h⟩:=hfin;rw [h,hN];rfl
  have hone2 : cs2.all (·.oneCell') = true:=by obtain ⟨_,_,_,_,_,_,_,_,_,_,_,_,_,_,h⟩:=hfin;rw [h,List.all_toArray];rfl
  have hld:=load_list (W:=W) (a:=⟨w.heap.size,0,none⟩) (N:=N) (cs:=cs2) (fun j v hv => by rw [add_block0];exact cell_of_block b1 j hv) hsz2
  have hst:=store_cells (cs:=cs2) b2 (hzc.trans hsz2.symm) hone2
  have HBR:=Lib.hid (And.intro b2 (And.intro s1 (And.intro s2 (And.intro hb (And.intro hone2 hcs2)))))
  clear b1 b2 s1 s2 hb hone2 hcs2 z4 z5 z6 z7 xa xb hcs hN hzc hone hfin
  go_wp2
  refine bodyPost_ret (results_cell_row rfl _ _ (w.heap.size + 1) T cs2 (0,0) _ rfl (setRow_heap _ _ zc _ _ _ HBR.out.1) Tryz.underlying148 rfl (by rw [hsz2,HH.out.2.2.2.1];kernel_rfl)) rfl ?_
  obtain ⟨b2,s1,s2,hb,hone2,hcs2⟩:=HBR.out
  have hk : ∀ q : Addr,w.heap.size + 2 ≤ q.block → (W.setRow (w.heap.size + 1) cs2).cell? q = W.cell? q:=fun q hq => World.cell?_of_block (setRow_other _ _ _ _ (by omega))
  obtain ⟨wa,i1,k1,n1,t1,l1,A1,c1,q1,q2,q3,q4,q5⟩:=s1
  obtain ⟨wb,j1,k2,n2,t2,l2,A2,c2,r1,r2,r3,r4,r5⟩:=s2
  refine ⟨cs2,rfl,hsz2.trans HH.out.2.2.2.1,hone2,⟨World.mask (W.setRow (w.heap.size + 1) cs2) (fun b => w.heap.size + 2 ≤ b),?_,k1,n1,t1,l1,k2,n2,t2,l2,A1,c1,A2,c2,q1,r1,?_,⟨q3,q4,r3,r4⟩,q5.sub ?_,r5.sub ?_⟩,below_setRow hb (Nat.le_succ _) _⟩
  ·intro q v hq
   obtain ⟨m1,m2⟩:=mask_in _ _ q v hq
   have m3 : w.heap.size + 2 ≤ q.block:=m2
   exact ⟨m1,by omega⟩
  ·rw [hcs2,HH.out.2.2.1,q2,r2]
   rfl
  ·intro q v hq
   obtain ⟨m1,m2⟩:=i1 q v hq
   have m3 : w.heap.size + 2 ≤ q.block:=m2
   rw [mask_at _ _ q m3,hk q m3]
   exact m1
  ·intro q v hq
   obtain ⟨m1,m2⟩:=j1 q v hq
   have m3 : w.heap.size + 2 ≤ q.block:=m2
   rw [mask_at _ _ q m3,hk q m3]
   exact m1
end Go.Proofs.YtojjfdegkooknaaGreatDoor
namespace Go.Proofs.YtojjfdegkooknaaGreatDoor
set_option maxRecDepth 100000
set_option maxHeartbeats 4000000
open Go.RowKit
inductive WC : Cn → Prop
 | mk (k : Int) (a b : Ex) (l : List Cn) (ha : WE a) (hb : WE b) (h : l.length * 144 ≤ 140737488355328) (hs : ∀ x ∈ l,WC x) : WC (.mk k a b l)
theorem CnRow.ofV {w : World} {B : Nat} {l : List Cn} {A : Option Addr} (h : RowV VCn 10 w B l A) : CnRow w B l A:=by
 cases l with
 | nil => exact .nil A
 | cons x0 l0 =>
   obtain ⟨a,cs0,rfl,hab,_⟩:=h 0 x0 rfl
   have h1 : ∀ i : Nat,∃ p : (Option Addr × Nat) × (Option Addr × Nat) × (Option Addr × Nat),∀ k ak an sa al bk bn sb bl m,(x0 :: l0)[i]? = some (.mk k (.mk ak an sa al) (.mk bk bn sb bl) m) →
    (CCells w (a.add (i * 10)) k ak an sa (.slice p.1.1 al.length p.1.2) bk bn sb (.slice p.2.1.1 bl.length p.2.1.2) (.slice p.2.2.1 m.length p.2.2.2) ∧ sa.length ≤ maxLen ∧ al.length ≤ maxLen ∧ sb.length ≤ maxLen ∧ bl.length ≤ maxLen ∧ m.length ≤ maxLen ∧ ExRow w B al p.1.1 ∧ ExRow w B bl p.2.1.1) ∧ CnRow w B m p.2.2.1:=by
    intro i
    cases e : (x0 :: l0)[i]? with
    | none => exact ⟨((none,0),(none,0),(none,0)),fun k ak an sa al bk bn sb bl m hx => by cases hx⟩
    | some x =>
      obtain ⟨a',cs,ha,_,_,hc,k,ak,an,sa,al,bk,bn,sb,bl,m,Aa,ca,Ab,cb,Al,cl,hx,rfl,⟨b1,b2,b3,b4,b5⟩,ra,rb,rl⟩:=h i x e
      obtain rfl:=Option.some.inj ha
      refine ⟨((Aa,ca),(Ab,cb),(Al,cl)),fun k2 ak2 an2 sa2 al2 bk2 bn2 sb2 bl2 m2 hy => ?_⟩
      rw [hx] at hy
      injection hy with hy
      injection hy with y1 y2 y3 y4
      injection y2 with y5 y6 y7 y8
      injection y3 with y9 y10 y11 y12
      subst y1 y4 y5 y6 y7 y8 y9 y10 y11 y12
      have c0:=hc 0 _ rfl
      rw [show (a.add (i * 10)).add 0 = a.add (i * 10) by simp [Addr.add]] at c0
      exact ⟨⟨⟨c0,hc 1 _ rfl,hc 2 _ rfl,hc 3 _ rfl,hc 4 _ rfl,hc 5 _ rfl,hc 6 _ rfl,hc 7 _ rfl,hc 8 _ rfl,hc 9 _ rfl⟩,b1,b2,b3,b4,b5,ra,rb⟩,rl⟩
   obtain ⟨f,hf⟩:=Classical.axiomOfChoice h1
   exact .row a _ (fun i => (f i).1.1) (fun i => (f i).2.1.1) (fun i => (f i).2.2.1) (fun i => (f i).1.2) (fun i => (f i).2.1.2) (fun i => (f i).2.2.2) hab (fun i k ak an sa al bk bn sb bl m hi => (hf i k ak an sa al bk bn sb bl m hi).1) (fun i k ak an sa al bk bn sb bl m hi => (hf i k ak an sa al bk bn sb bl m hi).2)
theorem ccond_any : ∀ (M : Nat) (x : Cn),SizeOf.sizeOf x < M → WC x → ∀ (cs : Array Value) (w : World),VCn w w.heap.size cs x → Calls Tryz.prog 149 #[.agg cs] w (CopyV VCn 10 x w):=by
 intro M
 induction M with
 | zero => intro x h;omega
 | succ M ih =>
 intro x hM hw cs w hv
 have hone:=vcn_one hv
 obtain ⟨k,ak,an,sa,al,bk,bn,sb,bl,l,Aa,ca,Ab,cb,Al,cl,rfl,hcs,hl,ra,rb,rl⟩:=hv
 have hww : WE (.mk ak an sa al) ∧ WE (.mk bk bn sb bl) ∧ l.length * 144 ≤ 140737488355328 ∧ ∀ y ∈ l,WC y:=by cases hw;exact ⟨by assumption,by assumption,by assumption,by assumption⟩
 obtain ⟨T,N,zc,hT,hN,hzc,hag,hsz,hzv⟩:=hid_CondC
 obtain ⟨TE,NE,zE,hTE,hNE,hzE,hagE,hszE,hzvE⟩:=hid_ExprC
 have e1 : ∀ y : Operand,Op.load 87 y = Op.load T y:=fun y => by rw [hT]
 have e2 : ∀ y z : Operand,Op.store 87 y z = Op.store T y z:=fun y z => by rw [hT]
 have e3 : Op.alloc 87 = Op.alloc T:=by rw [hT]
 have e4 : ∀ y : Operand,Op.box 87 y = Op.box T y:=fun y => by rw [hT]
 have f1 : ∀ y : Operand,Op.load 84 y = Op.load TE y:=fun y => by rw [hTE]
 have f2 : ∀ y z : Operand,Op.store 84 y z = Op.store TE y z:=fun y z => by rw [hTE]
 obtain ⟨va,hva⟩ : ∃ v : Array Value,v = #[.int .i64 ak,.int .i64 an,.string ⟨sa.toArray⟩,.slice Aa al.length ca]:=⟨_,rfl⟩
 obtain ⟨vb,hvb⟩ : ∃ v : Array Value,v = #[.int .i64 bk,.int .i64 bn,.string ⟨sb.toArray⟩,.slice Ab bl.length cb]:=⟨_,rfl⟩
 have h9 : cs.size = 10:=by rw [hcs];rfl
 have hszc : cs.size = N:=h9.trans hN.symm
 have hla : ∀ j v,va[j]? = some v → cs[1 + j]? = some v:=fun j v h => by
  rw [hva] at h
  rw [hcs]
  match j,h with
  | 0,h => exact h
  | 1,h => exact h
  | 2,h => exact h
  | 3,h => exact h
  | j + 4,h => simp at h
 have hlb : ∀ j v,vb[j]? = some v → cs[5 + j]? = some v:=fun j v h => by
  rw [hvb] at h
  rw [hcs]
  match j,h with
  | 0,h => exact h
  | 1,h => exact h
  | 2,h => exact h
  | 3,h => exact h
  | j + 4,h => simp at h
 have hza : va.size = NE:=by rw [hva,hNE];rfl
 have hzb : vb.size = NE:=by rw [hvb,hNE];rfl
 obtain ⟨W1,hW1⟩ : ∃ W1,W1 = (w.alloc (.cells cs T)).alloc (.cells zc T):=⟨_,rfl⟩
 have hbw : Below w.heap.size w W1:=by rw [hW1];exact (below_alloc w _).chain (below_alloc _ _)
 have hx : W1.heap[w.heap.size]? = some (.cells cs T (0,0)):=by rw [hW1];exact heap_keep (heap_of_alloc w _)
 have HC1 : Hid (∀ W,Below W1.heap.size W1 W → Calls Tryz.prog 120 #[.agg va] W (CopyV VEx 4 (.mk ak an sa al) W)):=Lib.hid (fun W hb => cexpr_any _ _ (Nat.lt_succ_self _) hww.1 va W ⟨ak,an,sa,al,Aa,ca,rfl,hva,hl.1,hl.2.1,ra.on (hbw.chain hb)⟩)
 have HC2 : Hid (∀ W,Below W1.heap.size W1 W → Calls Tryz.prog 120 #[.agg vb] W (CopyV VEx 4 (.mk bk bn sb bl) W)):=Lib.hid (fun W hb => cexpr_any _ _ (Nat.lt_succ_self _) hww.2.1 vb W ⟨bk,bn,sb,bl,Ab,cb,rfl,hvb,hl.2.2.1,hl.2.2.2.1,rb.on (hbw.chain hb)⟩)
 have HZ : Hid (∀ W,Below W1.heap.size W1 W → (loadCellsFrom ⟨w.heap.size,1,none⟩ 0 NE #[]).run Tryz.prog W = .ok va W ∧ (loadCellsFrom ⟨w.heap.size,5,none⟩ 0 NE #[]).run Tryz.prog W = .ok vb W):=Lib.hid (fun W hb =>
  ⟨load_list (fun j v h => by rw [← add_block0 w.heap.size 1,add_of_add,add_block0];exact cell_of_block (kept_box hb hx) _ (hla j v h)) hza,load_list (fun j v h => by rw [← add_block0 w.heap.size 5,add_of_add,add_block0];exact cell_of_block (kept_box hb hx) _ (hlb j v h)) hzb⟩)
 have HS1 : Hid (∀ W,Below W1.heap.size W1 W → ∀ v : Array Value,v.size = 4 → v.all (·.oneCell') = true → (storeCells ⟨w.heap.size,1,none⟩ v.toList).run Tryz.prog W = .ok () (W.setRow w.heap.size (setPart cs 1 v))):=Lib.hid (fun W hb v h4 h1 => store_part (kept_box hb hx) (by omega) h1)
 have HS2 : Hid (∀ W,Below W1.heap.size W1 W → ∀ u : Array Value,u.size = 4 → ∀ v : Array Value,v.size = 4 → v.all (·.oneCell') = true → (storeCells ⟨w.heap.size,5,none⟩ v.toList).run Tryz.prog (W.setRow w.heap.size (setPart cs 1 u)) = .ok () ((W.setRow w.heap.size (setPart cs 1 u)).setRow w.heap.size (setPart (setPart cs 1 u) 5 v))):=Lib.hid (fun W hb u h4 v h5 h1 => store_part (setRow_heap _ _ cs _ _ _ (kept_box hb hx)) (by rw [setPart_size (by omega)];omega) h1)
 have HL : Hid (∀ W,Below w.heap.size w W → Calls Tryz.prog 184 #[.slice Al l.length cl,.func (.func 149) #[] #[]] W (CopyRow VCn 10 l W)):=Lib.hid (fun W hb =>
  clist_Cond l Al cl W (rl.on hb).rowV hww.2.2.1 (fun y hy cs' W' _ hv' => ih y (by have h1:=List.sizeOf_lt_of_mem hy;simp at hM;omega) (hww.2.2.2 y hy) cs' W' hv'))
 obtain ⟨m,hm⟩ : ∃ m,m = l.length:=⟨_,rfl⟩
 rw [← hm] at HL
 have HX:=Lib.hid (And.intro hW1 (And.intro (show 9 ≤ cs.size by omega) trivial))
 have HH:=Lib.hid (And.intro hl (And.intro hm (And.intro hcs (And.intro hN (And.intro hzc hone)))))
 have HNE:=Lib.hid hNE
 have hmx : Tryz.prog.follows .mixedOrders = true:=by kernel_rfl
 clear hcs hl ra rb rl hone hva hvb h9 hla hlb hza hzb hbw hx hN hzc hww hw hNE hzE ih hM hm
 go_enter Tryz.func149,Tryz.ntmps149
 simp only [e1,e2,e3,e4,f1,f2]
 clear e1 e2 e3 e4 f1 f2 hT hTE
 go_wp2
 rw [← hW1]
 clear hW1
 go_cut [10] from 3 to 10 (fun _v10 wx => ACut w T cs zc (.mk ak an sa al) (.mk bk bn sb bl) wx)
 case first =>
  refine wp_region_held (S:=fun _ => True) hmx ?_
  change wpAnyH _ _ _ _ _ 10 #[false,false,false,false,false,false,false,false,false,false] _ W1.drew
  have HV0 : Hid (Below W1.heap.size W1 W1.drew):=Lib.hid (Below.refl W1.heap.size W1).drew
  generalize W1.drew = V0 at HV0 ⊢
  refine tk 0 3 (.pointer (some ⟨w.heap.size,1,none⟩)) trivial ?v ?_
  case v => intro Wx hSx;go_simp
  refine tk 3 6 (.pointer (some ⟨w.heap.size,5,none⟩)) trivial ?v ?_
  case v => intro Wx hSx;go_simp
  simp only [Act.put,List.setIfInBounds_toArray,List.set_cons_zero,List.set_cons_succ]
  refine anyH_two 1 4 (by kernel_rfl) rfl rfl (by kernel_rfl) (by kernel_rfl) (fun K hK => ?_) (fun K hK => ?_)
  ·obtain ⟨z1,z2⟩:=HZ.out _ HV0.out
   go_simp
   refine hK _ _ trivial ?_
   clear hK K z1 z2
   refine anyH_two 2 4 (by kernel_rfl) rfl rfl (by kernel_rfl) (by kernel_rfl) (fun K hK => ?_) (fun K hK => ?_)
   ·go_simp
    (with_reducible refine (HC1.out V0 HV0.out).mono ?_)
    rintro e V1 ⟨ca2,rfl,m1,m2,m3,hb1⟩
    have HM2:=Lib.hid (And.intro m1 (And.intro m2 (vin_from m3 HV0.out)))
    have HV1:=Lib.hid (HV0.out.chain hb1)
    clear m1 m2 m3 hb1
    refine hK _ _ trivial ?_
    clear hK K
    refine o1 4 (fun K hK => ?_)
    obtain ⟨z1,z2⟩:=HZ.out _ HV1.out
    go_simp
    refine hK _ _ trivial ?_
    clear hK K z1 z2
    refine tk 6 9 (.pointer (some ⟨w.heap.size,1,none⟩)) trivial ?v ?_
    case v => intro Wx hSx;go_simp
    refine o1 5 (fun K hK => ?_)
    go_simp
    (with_reducible refine (HC2.out V1 HV1.out).mono ?_)
    rintro e V2 ⟨cb2,rfl,m1,m2,m3,hb2⟩
    have HM5:=Lib.hid (And.intro m1 (And.intro m2 (vin_from m3 HV1.out)))
    have HM6:=Lib.hid (vin_later HM2.out.2.2 hb2)
    have HV2:=Lib.hid (HV1.out.chain hb2)
    clear m1 m2 m3 hb2
    refine hK _ _ trivial ?_
    clear hK K
    refine o1 7 (fun K hK => ?_)
    have z3:=HS1.out _ HV2.out ca2 HM2.out.1 HM2.out.2.1
    have z4 : ca2.size = NE:=HM2.out.1.trans HNE.out.symm
    go_simp
    refine hK _ _ trivial ?_
    clear hK K z3 z4
    refine tk 8 10 (.pointer (some ⟨w.heap.size,5,none⟩)) trivial ?v ?_
    case v => intro Wx hSx;go_simp
    simp only [Act.put,List.setIfInBounds_toArray,List.set_cons_zero,List.set_cons_succ]
    refine o1 9 (fun K hK => ?_)
    have z3:=HS2.out _ HV2.out ca2 HM2.out.1 cb2 HM5.out.1 HM5.out.2.1
    have z4 : cb2.size = NE:=HM5.out.1.trans HNE.out.symm
    go_simp
    refine hK _ _ trivial ?_
    clear hK K z3 z4
    refine wpAnyH_done (by kernel_rfl) ?_ _
    go_wp2
    go_meet
    exact acut_of HX.out.1 HX.out.2.1 HX.out.2.2 HV2.out HM2.out.1 HM5.out.1 HM2.out.2.1 HM5.out.2.1 HM6.out HM5.out.2.2
   ·obtain ⟨z1,z2⟩:=HZ.out _ HV0.out
    go_simp
    refine hK _ _ trivial ?_
    clear hK K z1 z2
    refine o1 2 (fun K hK => ?_)
    go_simp
    (with_reducible refine (HC1.out V0 HV0.out).mono ?_)
    rintro e V3 ⟨ca2,rfl,m1,m2,m3,hb3⟩
    have HM2:=Lib.hid (And.intro m1 (And.intro m2 (vin_from m3 HV0.out)))
    have HV3:=Lib.hid (HV0.out.chain hb3)
    clear m1 m2 m3 hb3
    refine hK _ _ trivial ?_
    clear hK K
    refine tk 6 9 (.pointer (some ⟨w.heap.size,1,none⟩)) trivial ?v ?_
    case v => intro Wx hSx;go_simp
    refine o1 5 (fun K hK => ?_)
    go_simp
    (with_reducible refine (HC2.out V3 HV3.out).mono ?_)
    rintro e V4 ⟨cb2,rfl,m1,m2,m3,hb4⟩
    have HM5:=Lib.hid (And.intro m1 (And.intro m2 (vin_from m3 HV3.out)))
    have HM6:=Lib.hid (vin_later HM2.out.2.2 hb4)
    have HV4:=Lib.hid (HV3.out.chain hb4)
    clear m1 m2 m3 hb4
    refine hK _ _ trivial ?_
    clear hK K
    refine o1 7 (fun K hK => ?_)
    have z3:=HS1.out _ HV4.out ca2 HM2.out.1 HM2.out.2.1
    have z4 : ca2.size = NE:=HM2.out.1.trans HNE.out.symm
    go_simp
    refine hK _ _ trivial ?_
    clear hK K z3 z4
    refine tk 8 10 (.pointer (some ⟨w.heap.size,5,none⟩)) trivial ?v ?_
    case v => intro Wx hSx;go_simp
    simp only [Act.put,List.setIfInBounds_toArray,List.set_cons_zero,List.set_cons_succ]
    refine o1 9 (fun K hK => ?_)
    have z3:=HS2.out _ HV4.out ca2 HM2.out.1 cb2 HM5.out.1 HM5.out.2.1
    have z4 : cb2.size = NE:=HM5.out.1.trans HNE.out.symm
    go_simp
    refine hK _ _ trivial ?_
    clear hK K z3 z4
    refine wpAnyH_done (by kernel_rfl) ?_ _
    go_wp2
    go_meet
    exact acut_of HX.out.1 HX.out.2.1 HX.out.2.2 HV4.out HM2.out.1 HM5.out.1 HM2.out.2.1 HM5.out.2.1 HM6.out HM5.out.2.2
  ·obtain ⟨z1,z2⟩:=HZ.out _ HV0.out
   go_simp
   refine hK _ _ trivial ?_
   clear hK K z1 z2
   refine o1 1 (fun K hK => ?_)
   obtain ⟨z1,z2⟩:=HZ.out _ HV0.out
   go_simp
   refine hK _ _ trivial ?_
   clear hK K z1 z2
   refine o1 2 (fun K hK => ?_)
   go_simp
   (with_reducible refine (HC1.out V0 HV0.out).mono ?_)
   rintro e V5 ⟨ca2,rfl,m1,m2,m3,hb5⟩
   have HM2:=Lib.hid (And.intro m1 (And.intro m2 (vin_from m3 HV0.out)))
   have HV5:=Lib.hid (HV0.out.chain hb5)
   clear m1 m2 m3 hb5
   refine hK _ _ trivial ?_
   clear hK K
   refine tk 6 9 (.pointer (some ⟨w.heap.size,1,none⟩)) trivial ?v ?_
   case v => intro Wx hSx;go_simp
   refine o1 5 (fun K hK => ?_)
   go_simp
   (with_reducible refine (HC2.out V5 HV5.out).mono ?_)
   rintro e V6 ⟨cb2,rfl,m1,m2,m3,hb6⟩
   have HM5:=Lib.hid (And.intro m1 (And.intro m2 (vin_from m3 HV5.out)))
   have HM6:=Lib.hid (vin_later HM2.out.2.2 hb6)
   have HV6:=Lib.hid (HV5.out.chain hb6)
   clear m1 m2 m3 hb6
   refine hK _ _ trivial ?_
   clear hK K
   refine o1 7 (fun K hK => ?_)
   have z3:=HS1.out _ HV6.out ca2 HM2.out.1 HM2.out.2.1
   have z4 : ca2.size = NE:=HM2.out.1.trans HNE.out.symm
   go_simp
   refine hK _ _ trivial ?_
   clear hK K z3 z4
   refine tk 8 10 (.pointer (some ⟨w.heap.size,5,none⟩)) trivial ?v ?_
   case v => intro Wx hSx;go_simp
   simp only [Act.put,List.setIfInBounds_toArray,List.set_cons_zero,List.set_cons_succ]
   refine o1 9 (fun K hK => ?_)
   have z3:=HS2.out _ HV6.out ca2 HM2.out.1 cb2 HM5.out.1 HM5.out.2.1
   have z4 : cb2.size = NE:=HM5.out.1.trans HNE.out.symm
   go_simp
   refine hK _ _ trivial ?_
   clear hK K z3 z4
   refine wpAnyH_done (by kernel_rfl) ?_ _
   go_wp2
   go_meet
   exact acut_of HX.out.1 HX.out.2.1 HX.out.2.2 HV6.out HM2.out.1 HM5.out.1 HM2.out.2.1 HM5.out.2.1 HM6.out HM5.out.2.2
 case rest =>
  obtain ⟨ca2,cb2,W,rfl,b1,b2,z4,z5,z6,z7,s1,s2,hb⟩:=hcut
  obtain ⟨hl,hm,hcs,hN,hzc,hone⟩:=HH.out
  obtain ⟨cs2,hcs2⟩ : ∃ cs2,cs2 = setPart (setPart cs 1 ca2) 5 cb2:=⟨_,rfl⟩
  rw [← hcs2] at b1
  have hfin : ∃ t1 A1 c1 t2 A2 c2,((Ex.mk ak an sa al) = .mk ak an t1 al ∧ (Ex.mk bk bn sb bl) = .mk bk bn t2 bl) ∧ cs2 = #[.int .i64 k,.int .i64 ak,.int .i64 an,.string ⟨t1.toArray⟩,.slice A1 al.length c1,.int .i64 bk,.int .i64 bn,.string ⟨t2.toArray⟩,.slice A2 bl.length c2,.slice Al m cl]:=by
   obtain ⟨_,_,k1,n1,t1,l1,A1,c1,q1,q2,_⟩:=s1
   obtain ⟨_,_,k2,n2,t2,l2,A2,c2,r1,r2,_⟩:=s2
   injection q1 with q3 q4 q5 q6
   injection r1 with r3 r4 r5 r6
   subst q3 q4 q5 q6 r3 r4 r5 r6
   refine ⟨_,A1,c1,_,A2,c2,⟨rfl,rfl⟩,?_⟩
   rw [hcs2,hcs,q2,r2,hm]
   rfl
  obtain ⟨t1,A1,c1,t2,A2,c2,⟨q1,q2⟩,hfin⟩:=hfin
  injection q1 with _ _ q1 _
  injection q2 with _ _ q2 _
  subst q1 q2
  have hsz2 : cs2.size = N:=by rw [hfin,hN];rfl
  have hone2 : cs2.all (·.oneCell') = true:=by rw [hfin,List.all_toArray];rfl
  have k9 : cs2[9]? = some (.slice Al m cl):=by rw [hfin];rfl
  have c9:=cell_of_block b1 9 k9
  have HBR:=Lib.hid (And.intro b1 (And.intro b2 (And.intro s1 (And.intro s2 (And.intro hb (And.intro hone2 (And.intro hcs2 k9)))))))
  have HFI:=Lib.hid hfin
  clear b1 b2 s1 s2 hb hone2 hcs2 z4 z5 z6 z7 hcs hN hzc hone hfin hl hm k9
  go_wp2_with (go_at_call 184;refine (HL.out W HBR.out.2.2.2.2.1).mono ?_;rintro e w3 ⟨A',c',rfl,hrow,hb3⟩;rw [← HH.out.2.1];have hbox:=kept_box hb3 HBR.out.1;have hres:=kept_box hb3 HBR.out.2.1;obtain ⟨x3,f3⟩:=cell_free hbox 9 _ HBR.out.2.2.2.2.2.2.2;obtain ⟨cs3,hcs3⟩ : ∃ cs3,cs3 = cs2.setIfInBounds 9 (.slice A' m c'):=⟨_,rfl⟩;have hsz3 : cs3.size = N:=(by rw [hcs3,Array.size_setIfInBounds,hsz2]);have hone3 : cs3.all (·.oneCell') = true:=(by rw [hcs3];exact all_setI HBR.out.2.2.2.2.2.1 9 rfl);have hld:=load_list (W:=w3.setCell ⟨w.heap.size,9,none⟩ (.slice A' m c')) (a:=⟨w.heap.size,0,none⟩) (N:=N) (cs:=cs3) (fun j v hv => by rw [add_block0];exact cell_of_block (heap_setCell_at hbox 9 (.slice A' m c')) j (by rw [← hcs3];exact hv)) hsz3;have hres2:=heap_setCell_off hres (Nat.succ_ne_self _) 9 (.slice A' m c');have hst:=store_cells (cs:=cs3) hres2 (HH.out.2.2.2.2.1.trans hsz3.symm) hone3;have HB3:=Lib.hid (And.intro hres2 (And.intro hrow (And.intro hb3 (And.intro hcs3 hone3))));clear hbox hres hrow hb3 hcs3 hone3 hres2)
  refine bodyPost_ret (results_cell_row rfl _ _ (w.heap.size + 1) T cs3 (0,0) _ rfl (setRow_heap _ _ zc _ _ _ HB3.out.1) Tryz.underlying87 rfl (by rw [hsz3,HH.out.2.2.2.1];kernel_rfl)) rfl ?_
  obtain ⟨b1,b2,s1,s2,hb,hone2,hcs2,k9⟩:=HBR.out
  obtain ⟨hres2,hrow,hb3,hcs3,hone3⟩:=HB3.out
  obtain ⟨hl,hm,hcs,hN,hzc,hone⟩:=HH.out
  have hWz : w.heap.size + 2 ≤ W.heap.size:=(Array.getElem?_eq_some_iff.1 b2).1
  have hk3 : ∀ q : Addr,w.heap.size + 2 ≤ q.block → q.block < W.heap.size → ((w3.setCell ⟨w.heap.size,9,none⟩ (.slice A' m c')).setRow (w.heap.size + 1) cs3).cell? q = W.cell? q:=fun q hq hlt => (boxes_off hq).trans (hb3.cell hlt)
  obtain ⟨wa,i1,k1,n1,u1,l1,D1,d1,q1,q2,q3,q4,q5⟩:=s1
  obtain ⟨wb,j1,k2,n2,u2,l2,D2,d2,r1,r2,r3,r4,r5⟩:=s2
  injection q1 with g1 g2 g3 g4
  injection r1 with g5 g6 g7 g8
  subst g1 g2 g3 g4 g5 g6 g7 g8
  obtain ⟨wl,y1,y2⟩:=hrow
  refine ⟨cs3,rfl,hsz3.trans hN,hone3,⟨World.mask ((w3.setCell ⟨w.heap.size,9,none⟩ (.slice A' m c')).setRow (w.heap.size + 1) cs3) (fun b => w.heap.size + 2 ≤ b),?_,k,_,_,_,_,_,_,_,_,l,D1,d1,D2,d2,A',c',rfl,?_,⟨q3,q4,r3,r4,hl.2.2.2.2⟩,q5.sub ?_,r5.sub ?_,(CnRow.ofV y2).sub ?_⟩,below_setRow ((hb.chain hb3).setCell (p:=⟨w.heap.size,9,none⟩) (Nat.le_refl _) _) (Nat.le_succ _) _⟩
  ·intro q v hq
   obtain ⟨m1,m2⟩:=mask_in _ _ q v hq
   have m3 : w.heap.size + 2 ≤ q.block:=m2
   exact ⟨m1,by omega⟩
  ·rw [hcs3,hcs2,hcs,q2,r2,hm]
   rfl
  ·intro q v hq
   obtain ⟨m1,m2⟩:=i1 q v hq
   have m3 : w.heap.size + 2 ≤ q.block:=m2
   rw [mask_at _ _ q m3,hk3 q m3 (lt_of_cell m1)]
   exact m1
  ·intro q v hq
   obtain ⟨m1,m2⟩:=j1 q v hq
   have m3 : w.heap.size + 2 ≤ q.block:=m2
   rw [mask_at _ _ q m3,hk3 q m3 (lt_of_cell m1)]
   exact m1
  ·intro q v hq
   obtain ⟨m1,m2⟩:=y1 q v hq
   have m3 : W.heap.size ≤ q.block:=m2
   rw [mask_at _ _ q (by omega),boxes_off (by omega)]
   exact m1
end Go.Proofs.YtojjfdegkooknaaGreatDoor
