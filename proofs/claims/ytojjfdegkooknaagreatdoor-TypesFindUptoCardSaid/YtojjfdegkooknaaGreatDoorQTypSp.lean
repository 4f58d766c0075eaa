import Derived.Test.YtojjfdegkooknaaGreatDoorQTypCh
import Derived.Test.YtojjfdegkooknaaGreatDoorQTreeCj
set_option linter.unusedVariables false
set_option linter.unusedSimpArgs false
namespace Go.Proofs.YtojjfdegkooknaaGreatDoor
set_option maxRecDepth 100000
set_option maxHeartbeats 8000000
open Go.RowKit Go.Lib
abbrev pgA (d : GAd) (nr ng nk nd nm nx : Nat) : Value:=.agg #[.slice d.r nr d.nr,.slice d.g ng d.ng,.slice d.k nk d.nk,.slice d.d nd d.nd,.slice d.m nm d.nm,.slice d.x nx d.nx]
abbrev pgO (d : GAd) (nr ng nk nd nm nx : Nat) : Obj:=.cells #[.slice d.r nr d.nr,.slice d.g ng d.ng,.slice d.k nk d.nk,.slice d.d nd d.nd,.slice d.m nm d.nm,.slice d.x nx d.nx] 29
def ScopePost (p : Pg) (s : List UInt8) (w : World) (e : Ending) (w' : World) : Prop :=
 ((fstO (·.nm) p.xs s = none ∧ e = .returned (.tuple #[.slice none 0 0,.int .i64 7])) ∨ ∃ (x : Pr) (A : Option Addr) (m k : Nat),fstO (·.nm) p.xs s = some x ∧ e = .returned (.tuple #[.slice A m k,.int .i64 0]) ∧ m = (scopeL p.gs x).length ∧ RowV VPm 2 w' w'.heap.size (scopeL p.gs x) A) ∧ Below w.heap.size w w'
theorem Scope_any (p : Pg) (d : GAd) (s : List UInt8) (hs : ∀ x ∈ p.xs,p.gs.length + x.ps.length + x.lg.length + x.lo.length ≤ 3999999999999) (w : World) (own : PgOwn w w.heap.size d p) (nr ng nk nd nm nx : Nat) (hng : ng = p.gs.length) (hnx : nx = p.xs.length) :
 Calls Tryz.prog 9 #[pgA d nr ng nk nd nm nx,.string ⟨s.toArray⟩] w (ScopePost p s w):=by
 obtain ⟨W1,hW1⟩ : ∃ W1,W1 = w.alloc (pgO d nr ng nk nd nm nx):=⟨_,rfl⟩
 have hb1 : Below w.heap.size w W1:=by rw [hW1];exact below_alloc w _
 have hp1 : W1.heap[w.heap.size]? = some (pgO d nr ng nk nd nm nx):=by rw [hW1];exact heap_of_alloc w _
 have HF:=Lib.hid (fst_Proc 43 (enters_of Tryz.func43 (by kernel_rfl) rfl) (·.nm) nm_Proc s p.xs d.x d.nx nx hnx (by rw [hnx];exact own.1.2.2.2.2.2) w.heap.size W1 hb1.size (pr_rowV (own.keep (fun q hq => hb1.cell hq) (Nat.le_refl _)).2.2.2.2.2.2))
 obtain ⟨T,N,zc,hT,hN,hzc,hag,hsz,hzv⟩:=hid_ProcC
 have e1 : ∀ y : Operand,Op.load 46 y = Op.load T y:=fun y => by rw [hT]
 have e2 : ∀ y z : Operand,Op.store 46 y z = Op.store T y z:=fun y z => by rw [hT]
 have e3 : Op.alloc 46 = Op.alloc T:=by rw [hT]
 have HH:=Lib.hid (And.intro own (And.intro hs (And.intro hb1 (And.intro hp1 (And.intro hng (And.intro hN hzc))))))
 have zr : (zProc : Array Value).size = 12:=rfl
 clear own hs hb1 hp1 hng hnx hN hzc
 go_enter Tryz.func9,Tryz.ntmps9
 simp only [e1,e2,e3]
 clear e1 e2 e3 hT
 go_wp2_with fail
 rw [← hW1]
 clear hW1
 (with_reducible refine HF.out.mono ?_)
 rintro e w3 ⟨⟨cs,b,rfl,hr⟩,hb⟩
 have hszc : cs.size = N:=by
  rcases hr with ⟨_,h,_⟩ | ⟨_,x,_,h⟩
  ·rw [h,HH.out.2.2.2.2.2.1];exact zr
  ·rw [HH.out.2.2.2.2.2.1];exact vProc_size h
 have hone : cs.all (·.oneCell') = true:=by
  rcases hr with ⟨_,h,_⟩ | ⟨_,x,_,h⟩
  ·rw [h];rw [List.all_toArray];rfl
  ·exact vProc_one h
 have hst:=st_new (w:=w3) (t:=T) (HH.out.2.2.2.2.2.2.trans hszc.symm) hone
 have hld:=ld_new (heap_of_alloc w3 (.cells cs T)) hszc
 have z1:=cell_of_block (heap_keep (o:=.cells cs T) (kept_box hb HH.out.2.2.2.1)) 1 (v:=.slice d.g ng d.ng) rfl
 have H3:=Lib.hid (And.intro hr (HH.out.2.2.1.chain hb))
 have H4:=Lib.hid (H3.out.2.alloc H3.out.2.size (.cells cs T))
 rcases H3.out.1 with ⟨rfl,-,ho⟩ | ⟨rfl,x,ho,hv⟩
 ·clear hr hb hone z1
  go_wp2
  go_ret2
  exact ⟨.inl ⟨ho,rfl⟩,H4.out⟩
 ·obtain ⟨W4,hW4⟩ : ∃ W,W = w3.alloc (.cells cs T):=⟨_,rfl⟩
  obtain ⟨dp,hdp,how⟩:=hv
  have hb4 : Below w.heap.size w W4:=by rw [hW4];exact H4.out
  have hx : x ∈ p.xs:=List.mem_of_find?_eq_some ho
  have how4 : PrOwn W4 w.heap.size dp x:=by rw [hW4];exact how.keep (fun q hq => (below_alloc w3 _).cell (Nat.lt_of_lt_of_le hq H3.out.2.size)) (Nat.le_refl _)
  have HS:=Lib.hid (scope_any p.gs x dp d.g ng d.ng w.heap.size HH.out.2.2.2.2.1 W4 hb4.size (pm_rowV (HH.out.1.keep (fun q hq => hb4.cell hq) (Nat.le_refl _)).2.2.1) how4 (by rw [HH.out.2.2.2.2.1];exact HH.out.2.1 x hx))
  rw [← hdp] at HS
  have HO:=Lib.hid (And.intro ho hb4)
  clear hr hb hone hdp how how4 hb4 hx ho
  go_wp2_with fail
  rw [← hW4]
  clear hW4 z1 hst hld
  (with_reducible refine HS.out.mono ?_)
  rintro e w5 ⟨⟨A,m,k,rfl,hm,hrow,-⟩,hb⟩
  have H5:=Lib.hid (And.intro hm (And.intro hrow (HO.out.2.chain hb)))
  clear hm hrow hb
  go_wp2
  go_ret2
  exact ⟨.inr ⟨x,A,m,k,HO.out.1,rfl,H5.out.1,H5.out.2.1⟩,H5.out.2.2⟩
/-! ### Record -/
theorem vpm_subs : SubsV VPm:=fun _ _ _ _ _ _ h => h
theorem vrc_zero (w : World) (B : Nat) : VRc w B zRecord ⟨[],[]⟩:=⟨none,0,rfl,Nat.zero_le _,Nat.zero_le _,.nil _⟩
def ElemPost {α : Type} (V : World → Nat → Array Value → α → Prop) (z : α) (o : Option α) (w : World) (e : Ending) (w' : World) : Prop :=
 (∃ (cs : Array Value) (b : Bool) (y : α),e = .returned (.tuple #[.agg cs,.bool b]) ∧ V w' w'.heap.size cs y ∧ ((o = none ∧ b = false ∧ y = z) ∨ (o = some y ∧ b = true))) ∧ Below w.heap.size w w'
theorem rowIn_row {α : Type} {V : World → Nat → Array Value → α → Prop} {n : Nat} (hn : 0 < n) {S : Nat → Prop} {w : World} {l : List α} {A : Option Addr} (hV : SubsV V) (h : RowInC V n S w l A) : RowV V n w w.heap.size l A:=by
 obtain ⟨w0,h1,h2⟩:=h
 intro i x hi
 obtain ⟨a,cs,h3,h4,h5,h6,h7⟩:=h2 i x hi
 have hs : Sub w0 w:=fun q v hq => (h1 q v hq).1
 refine ⟨a,cs,h3,?_,h5,fun j v hv => hs _ _ (h6 j v hv),hV _ _ _ _ _ hs h7⟩
 have h0 : 0 < cs.size:=by omega
 have h8:=lt_of_cell (hs _ _ (h6 0 _ (Array.getElem?_eq_getElem h0)))
 rwa [block_adds,block_adds] at h8
def VRcN (w : World) (lo : Nat) (cs : Array Value) (x : Rc) : Prop :=
 ∃ (A : Option Addr) (c : Nat),cs = #[.string ⟨x.nm.toArray⟩,.slice A x.fs.length c] ∧ x.nm.length ≤ maxLen ∧ x.fs.length ≤ maxLen ∧ RowV VPm 2 w w.heap.size x.fs A ∧ ∀ a,A = some a → x.fs ≠ [] → lo ≤ a.block
theorem VRcN.rc {w : World} {lo : Nat} {cs : Array Value} {x : Rc} (h : VRcN w lo cs x) : VRc w w.heap.size cs x:=by
 obtain ⟨A,c,h1,h2,h3,h4,_⟩:=h
 exact ⟨A,c,h1,h2,h3,pm_ofV h4⟩
theorem VRcN.near {g : Nat} {w w' : World} {lo : Nat} {cs : Array Value} {x : Rc} (h : VRcN w lo cs x) (hn : Near g w w') (hg : g < lo) : VRcN w' lo cs x:=by
 obtain ⟨A,c,h1,h2,h3,h4,h5⟩:=h
 exact ⟨A,c,h1,h2,h3,rowMore hn.size (rowV_near hn (Nat.le_refl _) h4 (fun a ha hl => by have := h5 a ha hl;omega)),h5⟩
theorem near_row {w : World} {g : Nat} {cs : Array Value} : Near g w (w.setRow g cs) :=
 ⟨rfl,rfl,rfl,by rw [size_setRow];exact Nat.le_refl _,fun b _ hne => setRow_other w g b cs hne⟩
theorem crec_any (x : Rc) (hb : x.fs.length * 32 ≤ 140737488355328) (cs : Array Value) (w : World) (hv : VRc w w.heap.size cs x) :
 Calls Tryz.prog 47 #[.agg cs] w fun e w' => ∃ cs',e = .returned (.agg cs') ∧ VRcN w' w.heap.size cs' x ∧ Below w.heap.size w w':=by
 obtain ⟨A,c,hcs,hnl,hfl,hrow⟩:=hv
 subst hcs
 obtain ⟨n,hn⟩ : ∃ n,n = x.fs.length:=⟨_,rfl⟩
 obtain ⟨W2,hW2⟩ : ∃ W,W = (w.alloc (.cells #[.string ⟨x.nm.toArray⟩,.slice A n c] 36)).alloc (.cells zRecord 36):=⟨_,rfl⟩
 have hb2 : Below w.heap.size w W2:=by rw [hW2];exact (below_alloc w _).chain (below_alloc _ _)
 have p1:=heap_keep (o:=.cells zRecord 36) (heap_of_alloc w (.cells #[.string ⟨x.nm.toArray⟩,.slice A n c] 36))
 have p2:=heap_of_alloc (w.alloc (.cells #[.string ⟨x.nm.toArray⟩,.slice A n c] 36)) (.cells zRecord 36)
 rw [size_of_alloc] at p2
 rw [← hW2] at p1 p2
 have HC:=Lib.hid (cparams_any A c n x.fs hn (by rw [hn];exact hb) (pm_lens' (pm_rowV hrow)) W2 (rowMore hb2.size (rowB vpm_keeps (Nat.le_refl _) hb2 (pm_rowV hrow))))
 have HH:=Lib.hid (And.intro hb2 (And.intro p1 (And.intro p2 (And.intro hnl (And.intro hfl hn)))))
 have HS2 : Hid (W2.heap.size = w.heap.size + 2):=Lib.hid (by rw [hW2,World.size_alloc,World.size_alloc])
 rw [← hn]
 clear hb hnl hfl hrow hn hb2 p1 p2
 go_enter Tryz.func47,Tryz.ntmps47
 go_wp2_with fail
 rw [← hW2]
 clear hW2
 (with_reducible refine HC.out.mono ?_)
 rintro e w3 ⟨A',c',rfl,hrow,hb⟩
 rw [← HH.out.2.2.2.2.2]
 have q1:=kept_box hb HH.out.2.1
 have q2:=kept_box hb HH.out.2.2.1
 have z1:=cell_of_block q1 1 (v:=.slice A n c) rfl
 have f1:=frozen_at q1 1
 have r1:=heap_setCell_at q1 1 (.slice A' n c')
 have y0:=cell_of_block r1 0 (v:=.string ⟨x.nm.toArray⟩) rfl
 have y1:=cell_of_block r1 1 (v:=.slice A' n c') rfl
 obtain ⟨W4,hW4⟩ : ∃ W,W = w3.setCell ⟨w.heap.size,1,none⟩ (.slice A' n c'):=⟨_,rfl⟩
 have r2 : W4.heap[w.heap.size + 1]? = some (.cells zRecord 36):=by
  rw [hW4]
  exact heap_setCell_off q2 (by omega) 1 _
 have hst:=store_row r2 (cs:=#[.string ⟨x.nm.toArray⟩,.slice A' n c']) rfl (by rw [List.all_toArray];rfl)
 have z20:=cell_of_block r2 0 (v:=.string ⟨#[]⟩) rfl
 have z21:=cell_of_block r2 1 (v:=.slice none 0 0) rfl
 have f20:=frozen_at r2 0
 have f21:=frozen_at r2 1
 have hb4 : Below w.heap.size w W4:=by rw [hW4];exact (HH.out.1.chain hb).setCell (p:=⟨w.heap.size,1,none⟩) (Nat.le_refl _) _
 obtain ⟨W5,hW5⟩ : ∃ W,W = (W4.setCell ⟨w.heap.size + 1,0,none⟩ (.string ⟨x.nm.toArray⟩)).setCell ⟨w.heap.size + 1,1,none⟩ (.slice A' n c'):=⟨_,rfl⟩
 have r5 : W5.heap[w.heap.size + 1]? = some (.cells #[.string ⟨x.nm.toArray⟩,.slice A' n c'] 36 (0,0)):=by rw [hW5];exact heap_setCell_at (heap_setCell_at r2 0 (.string ⟨x.nm.toArray⟩)) 1 (.slice A' n c')
 have hb5 : Below w.heap.size w W5:=by rw [hW5];exact (hb4.setCell (p:=⟨w.heap.size + 1,0,none⟩) (Nat.le_succ _) _).setCell (p:=⟨w.heap.size + 1,1,none⟩) (Nat.le_succ _) _
 have hrow5 : RowV VPm 2 W5 W5.heap.size x.fs A':=by
  obtain ⟨w0,i1,i2⟩:=hrow
  refine rowIn_row (by decide) vpm_subs (S:=fun _ => True) ⟨w0,fun q v hq => ⟨?_,trivial⟩,i2⟩
  obtain ⟨j1,j2⟩:=i1 q v hq
  have hs2:=HS2.out
  have hq2 : q.block ≠ w.heap.size ∧ q.block ≠ w.heap.size + 1:=by have : W2.heap.size ≤ q.block:=j2;omega
  rw [hW5,hW4,World.cell?_setCell_other _ _ _ _ (fun e => hq2.2 (by rw [← e])),World.cell?_setCell_other _ _ _ _ (fun e => hq2.2 (by rw [← e])),World.cell?_setCell_other _ _ _ _ (fun e => hq2.1 (by rw [← e]))]
  exact j1
 rw [hW4] at hW5 z20 z21 f20 f21
 have hlo : ∀ a,A' = some a → x.fs ≠ [] → w.heap.size ≤ a.block:=by
  intro a ha hl
  obtain ⟨w0,i1,i2⟩:=hrow
  obtain ⟨y,hy⟩ : ∃ y,x.fs[0]? = some y:=by
   cases hx : x.fs with
   | nil => exact absurd hx hl
   | cons y l => exact ⟨y,rfl⟩
  obtain ⟨a',cs,h1,_,h3,h4,_⟩:=i2 0 y hy
  obtain rfl:=Option.some.inj (ha.symm.trans h1)
  have h5:=(i1 _ _ (h4 0 _ (Array.getElem?_eq_getElem (by omega)))).2
  rw [block_adds,block_adds] at h5
  have h6 : W2.heap.size ≤ a.block:=h5
  have := HS2.out
  omega
 have HE:=Lib.hid (And.intro r5 (And.intro hrow5 (And.intro hb5 hlo)))
 clear hlo hrow hb q1 q2 r1 r2 hb4 r5 hrow5 hb5 hst hW4
 go_wp2
 rw [← hW5]
 refine bodyPost_ret (results_cell_row rfl _ _ (w.heap.size + 1) 36 #[.string ⟨x.nm.toArray⟩,.slice A' n c'] (0,0) _ rfl HE.out.1 Tryz.underlying36 rfl (by kernel_rfl)) rfl ?_
 exact ⟨_,rfl,⟨A',c',by rw [HH.out.2.2.2.2.2],HH.out.2.2.2.1,HH.out.2.2.2.2.1,HE.out.2.1,HE.out.2.2.2⟩,HE.out.2.2.1⟩
theorem vrc_size {w : World} {B : Nat} {cs : Array Value} {x : Rc} (h : VRc w B cs x) : cs.size = 2 ∧ cs.all (·.oneCell') = true:=by
 obtain ⟨A,c,rfl,_⟩:=h
 exact ⟨rfl,by rw [List.all_toArray];rfl⟩
theorem Record_any (p : Pg) (d : GAd) (s : List UInt8) (hs : ∀ x ∈ p.rs,x.fs.length * 32 ≤ 140737488355328) (w : World) (own : PgOwn w w.heap.size d p) (nr ng nk nd nm nx : Nat) (hnr : nr = p.rs.length) :
 Calls Tryz.prog 10 #[pgA d nr ng nk nd nm nx,.string ⟨s.toArray⟩] w (ElemPost VRc ⟨[],[]⟩ (fstO (·.nm) p.rs s) w):=by
 obtain ⟨T,N,zc,hT,hN,hzc,hzz,hag,hsz,hzv⟩:=hid_RecordT
 have e1 : ∀ y : Operand,Op.load 36 y = Op.load T y:=fun y => by rw [hT]
 have e2 : ∀ y z : Operand,Op.store 36 y z = Op.store T y z:=fun y z => by rw [hT]
 have e3 : Op.alloc 36 = Op.alloc T:=by rw [hT]
 obtain ⟨W1,hW1⟩ : ∃ W1,W1 = (w.alloc (pgO d nr ng nk nd nm nx)).alloc (.cells zc T):=⟨_,rfl⟩
 have hb1 : Below w.heap.size w W1:=by rw [hW1];exact (below_alloc w _).chain (below_alloc _ _)
 have hp1 : W1.heap[w.heap.size + 1]? = some (.cells zc T):=by
  rw [hW1]
  have h:=heap_of_alloc (w.alloc (pgO d nr ng nk nd nm nx)) (.cells zc T)
  rwa [size_of_alloc] at h
 have HF:=Lib.hid (fst_Record 46 (enters_of Tryz.func46 (by kernel_rfl) rfl) (·.nm) nm_Record s p.rs d.r d.nr nr hnr (by rw [hnr];exact own.1.1) w.heap.size W1 hb1.size (rc_rowV (own.keep (fun q hq => hb1.cell hq) (Nat.le_refl _)).2.1))
 have HH:=Lib.hid (And.intro hb1 (And.intro hp1 (And.intro hN (And.intro hzc (And.intro hzz hs)))))
 have z0 : W1.cell? ⟨w.heap.size,0,none⟩ = some (.slice d.r nr d.nr):=by rw [hW1];exact cell_of_block (heap_keep (heap_of_alloc w (pgO d nr ng nk nd nm nx))) 0 rfl
 rw [hW1] at z0
 clear own hs hb1 hp1 hnr hN hzc hzz
 go_enter Tryz.func10,Tryz.ntmps10
 simp only [e1,e2,e3]
 clear e1 e2 e3
 go_wp2_with fail
 rw [← hW1]
 clear hW1 z0
 (with_reducible refine HF.out.mono ?_)
 rintro e w3 ⟨⟨cs,b,rfl,hr⟩,hb⟩
 obtain ⟨y,hy,hcase⟩ : ∃ y,VRc w3 w.heap.size cs y ∧ ((fstO (fun z : Rc => z.nm) p.rs s = none ∧ b = false ∧ y = ⟨[],[]⟩) ∨ (fstO (fun z : Rc => z.nm) p.rs s = some y ∧ b = true)):=by
  rcases hr with ⟨h1,h2,h3⟩ | ⟨h1,x,h2,h3⟩
  ·exact ⟨⟨[],[]⟩,by rw [h2];exact vrc_zero _ _,.inl ⟨h3,h1,rfl⟩⟩
  ·exact ⟨x,h3,.inr ⟨h2,h1⟩⟩
 have hfl : y.fs.length * 32 ≤ 140737488355328:=by
  rcases hcase with ⟨_,_,rfl⟩ | ⟨h,_⟩
  ·exact Nat.le_of_ble_eq_true rfl
  ·exact HH.out.2.2.2.2.2 y (List.mem_of_find?_eq_some h)
 have hszc : cs.size = N:=(vrc_size hy).1.trans HH.out.2.2.1.symm
 have hone:=(vrc_size hy).2
 have hst:=st_new (w:=w3) (t:=T) (HH.out.2.2.2.1.trans hszc.symm) hone
 have hld:=ld_new (heap_of_alloc w3 (.cells cs T)) hszc
 obtain ⟨W4,hW4⟩ : ∃ W,W = w3.alloc (.cells cs T):=⟨_,rfl⟩
 have hb34 : Below w3.heap.size w3 W4:=by rw [hW4];exact below_alloc _ _
 have hb4 : Below w.heap.size w W4:=HH.out.1.chain (hb.chain hb34)
 have hsw : w.heap.size ≤ w3.heap.size:=(HH.out.1.chain hb).size
 have HC:=Lib.hid (crec_any y hfl cs W4 (vrc_keeps _ _ _ _ _ _ (fun q hq => hb34.cell (Nat.lt_of_lt_of_le hq hsw)) hb4.size hy))
 have HE:=Lib.hid (And.intro hcase (And.intro hb4 (kept_box (hb.chain hb34) HH.out.2.1)))
 clear hr hb hy hcase hfl hone hb34 hb4 hsw
 go_wp2_with fail
 rw [← hW4]
 clear hW4 hst hld
 (with_reducible refine HC.out.mono ?_)
 rintro e w5 ⟨cs',rfl,hv,hb⟩
 have hsz5 : cs'.size = N:=(vrc_size hv.rc).1.trans HH.out.2.2.1.symm
 have p5:=kept_box hb HE.out.2.2
 have hst5:=store_row p5 (HH.out.2.2.2.1.trans hsz5.symm) (vrc_size hv.rc).2
 have hlt : w.heap.size + 1 < W4.heap.size:=(Array.getElem?_eq_some_iff.1 HE.out.2.2).1
 have H5:=Lib.hid (And.intro (hv.near (near_row (g:=w.heap.size + 1) (cs:=cs')) hlt).rc (And.intro (HE.out.2.1.chain hb) p5))
 clear hv hb p5 hlt
 go_wp2
 refine bodyPost_ret (results_row_tmp rfl _ _ (w.heap.size + 1) T cs' (0,0) _ rfl (setRow_heap _ _ zc _ _ _ H5.out.2.2) Tryz.underlying36 rfl (by rw [hsz5,HH.out.2.2.1];kernel_rfl)) rfl ?_
 exact ⟨⟨cs',b,y,rfl,H5.out.1,HE.out.1⟩,below_setRow H5.out.2.1 (Nat.le_succ _) _⟩
end Go.Proofs.YtojjfdegkooknaaGreatDoor
namespace Go.Proofs.YtojjfdegkooknaaGreatDoor
set_option maxRecDepth 100000
set_option maxHeartbeats 8000000
open Go.RowKit Go.Lib
def ixq {α : Type} (p : α → Bool) (l : List α) : Int:=match l.findIdx? p with
 | some i => i
 | none => -1
theorem findIdx_take {α : Type} (p : α → Bool) : ∀ (l : List α) (i : Nat) (x : α),l[i]? = some x → (l.take i).all (fun y => !p y) = true → p x = true → l.findIdx? p = some i
 | y :: l,0,x,h,_,hp => by
   obtain rfl : y = x:=Option.some.inj h
   rw [List.findIdx?_cons,hp]
   rfl
 | y :: l,i + 1,x,h,ha,hp => by
   rw [List.take_succ_cons,List.all_cons,Bool.and_eq_true_iff] at ha
   have hy : p y = false:=by simpa using ha.1
   rw [List.findIdx?_cons,hy,findIdx_take p l i x h ha.2 hp]
   rfl
 | [],i,x,h,_,_ => by simp at h
theorem ixq_at {α : Type} (p : α → Bool) (l : List α) (i : Nat) (x : α) (h : l[i]? = some x) (ha : (l.take i).all (fun y => !p y) = true) (hp : p x = true) : ixq p l = i:=by
 unfold ixq
 rw [findIdx_take p l i x h ha hp]
theorem ixq_none {α : Type} (p : α → Bool) (l : List α) (ha : l.all (fun y => !p y) = true) : ixq p l = -1:=by
 unfold ixq
 rw [List.findIdx?_eq_none_iff.2 (fun x hx => by simpa using List.all_eq_true.1 ha x hx)]
theorem fieldc_any (s : List UInt8) (x : Pm) (bs : Nat) (w : World) (hbs : w.cell? ⟨bs,0,none⟩ = some (.string ⟨s.toArray⟩)) :
 Calls Tryz.prog 50 #[.agg #[.string ⟨x.t.toArray⟩,.string ⟨x.nm.toArray⟩],.pointer (some ⟨bs,0,none⟩)] w fun e w' => e = .returned (.bool (x.nm == s)) ∧ Below w.heap.size w w':=by
 have hlt:=World.block_lt_of_cell? w _ hbs
 have z:=((below_alloc w (.cells #[.string ⟨x.t.toArray⟩,.string ⟨x.nm.toArray⟩] 42)).cell (p:=⟨bs,0,none⟩) hlt).trans hbs
 have HB:=Lib.hid (below_alloc w (.cells #[.string ⟨x.t.toArray⟩,.string ⟨x.nm.toArray⟩] 42))
 clear hbs hlt
 go_enter Tryz.func50,Tryz.ntmps50
 go_wp2
 go_ret
 exact ⟨rfl,HB.out⟩
theorem fieldi_any (s : List UInt8) (l : List Pm) (A : Option Addr) (c n : Nat) (hn : n = l.length) (hm : n ≤ maxLen) (bs : Nat) (B0 : Nat) (w : World) (hB0 : B0 ≤ w.heap.size) (hA : RowV VPm 2 w B0 l A) (hbs : w.cell? ⟨bs,0,none⟩ = some (.string ⟨s.toArray⟩)) :
 Calls Tryz.prog 49 #[.slice A n c,.func (.func 50) #[] #[.pointer (some ⟨bs,0,none⟩)]] w fun e w' => e = .returned (.int .i64 (ixq (fun x : Pm => x.nm == s) l)) ∧ Below w.heap.size w w':=by
 have HH:=Lib.hid (And.intro hA (And.intro hn (And.intro hbs hB0)))
 have hcl : ∀ args w,(callFunc 50 args).run Tryz.prog w = .ok (.enter 50 args) w:=enters_of Tryz.func50 (by kernel_rfl) rfl
 obtain ⟨Q,hQ⟩ : ∃ Q,Q = ixq (fun x : Pm => x.nm == s) l:=⟨_,rfl⟩
 have HQ:=Lib.hid hQ
 rw [← hQ]
 clear hA hn hbs hB0 hQ
 unfold maxLen at hm
 go_enter Tryz.func49,Tryz.ntmps49
 go_wp2
 go_loopg [8] n (fun m j wr => ∃ k : Nat,m = n - k ∧ k ≤ n ∧ j = .int .i64 k ∧ Hid (Below w.heap.size w wr ∧ (l.take k).all (fun y => !(y.nm == s)) = true))
 case atStart => exact ⟨0,rfl,Nat.zero_le _,rfl,Lib.hid ⟨Below.refl _ _,by rw [List.take_zero];rfl⟩⟩
 case round =>
  obtain ⟨k,rfl,hk,rfl,HI⟩:=hrel
  have hk0 : (0 : Int) ≤ k:=by omega
  by_cases hlt : k < n
  ·have hki : (k : Int) < n:=by omega
   obtain ⟨x,hx⟩ : ∃ x,l[k]? = some x:=⟨l[k]'(by rw [← HH.out.2.1];exact hlt),List.getElem?_eq_getElem _⟩
   obtain ⟨a,cs,rfl,hab,hcs,hca,hv⟩:=rowB vpm_keeps HH.out.2.2.2 HI.out.1 HH.out.1 k x hx
   obtain ⟨hv0,_⟩:=hv
   have e0 : wr.cell? (a.add (k * 2)) = some (.string ⟨x.t.toArray⟩):=by
    have h:=hca 0 _ (by rw [hv0];rfl)
    rwa [add_add_plain,Nat.add_zero] at h
   have e1 : wr.cell? ⟨(a.add (k * 2)).block,(a.add (k * 2)).off + 1,none⟩ = some (.string ⟨x.nm.toArray⟩):=hca 1 _ (by rw [hv0];rfl)
   have HC:=Lib.hid (fieldc_any s x bs wr ((HI.out.1.cell (World.block_lt_of_cell? w _ HH.out.2.2.1)).trans HH.out.2.2.1))
   obtain ⟨r,hr⟩ : ∃ r,r = (x.nm == s):=⟨_,rfl⟩
   rw [← hr] at HC
   have HX:=Lib.hid (And.intro hx hr)
   clear hx hr hca hcs hv0 hab
   go_wp2_with fail
   refine HC.out.mono ?_
   rintro e w3 ⟨rfl,hb⟩
   have H3:=Lib.hid (HI.out.1.chain hb)
   clear hb
   cases r
   ·go_wp2
    go_roundg (n - (k + 1))
    case measure => omega
    case rel => exact ⟨k + 1,rfl,by omega,by go_num,Lib.hid ⟨H3.out,by rw [all_take_succ (fun y : Pm => !(y.nm == s)) l k x HX.out.1,HI.out.2,← HX.out.2];rfl⟩⟩
   ·go_wp2
    go_ret
    exact ⟨by rw [HQ.out,ixq_at _ l k x HX.out.1 HI.out.2 HX.out.2.symm];rfl,H3.out⟩
  ·have hlt' : ¬ (k : Int) < n:=by omega
   obtain rfl : k = n:=by omega
   go_wp2
   go_ret
   refine ⟨?_,HI.out.1⟩
   have h:=HI.out.2
   rw [List.take_of_length_le (by rw [HH.out.2.1];exact Nat.le_refl _)] at h
   rw [HQ.out,ixq_none _ l h]
   rfl
def fldL (p : Pg) (s : List UInt8) : List Pm:=match fstO (fun r : Rc => r.nm) p.rs s with
 | some r => r.fs
 | none => []
def fldQ (p : Pg) (s f : List UInt8) : Int:=ixq (fun x : Pm => x.nm == f) (fldL p s)
def FieldPost (q : Int) (w : World) (e : Ending) (w' : World) : Prop:=(∃ (v : Int) (b : Bool),e = .returned (.tuple #[.int .i64 v,.bool b]) ∧ ((b = true ∧ v = q ∧ 0 ≤ v) ∨ (b = false ∧ v = 0 ∧ q = -1))) ∧ Below w.heap.size w w'
theorem ixq_ge {α : Type} (p : α → Bool) (l : List α) : -1 ≤ ixq p l ∧ ixq p l < l.length + 1:=by
 unfold ixq
 split
 ·rename_i i h
  have := (List.findIdx?_eq_some_iff_getElem.1 h).1
  omega
 ·omega
theorem Field_any (p : Pg) (d : GAd) (s f : List UInt8) (w : World) (own : PgOwn w w.heap.size d p) (nr ng nk nd nm nx : Nat) (hnr : nr = p.rs.length) :
 Calls Tryz.prog 12 #[pgA d nr ng nk nd nm nx,.string ⟨s.toArray⟩,.string ⟨f.toArray⟩] w (FieldPost (fldQ p s f) w):=by
 obtain ⟨W1,hW1⟩ : ∃ W1,W1 = (w.alloc (pgO d nr ng nk nd nm nx)).alloc (.cells #[.string ⟨f.toArray⟩] 9):=⟨_,rfl⟩
 have hb1 : Below w.heap.size w W1:=by rw [hW1];exact (below_alloc w _).chain (below_alloc _ _)
 have hp1 : W1.heap[w.heap.size + 1]? = some (.cells #[.string ⟨f.toArray⟩] 9):=by
  rw [hW1]
  have h:=heap_of_alloc (w.alloc (pgO d nr ng nk nd nm nx)) (.cells #[.string ⟨f.toArray⟩] 9)
  rwa [size_of_alloc] at h
 have HF:=Lib.hid (fst_Record 46 (enters_of Tryz.func46 (by kernel_rfl) rfl) (·.nm) nm_Record s p.rs d.r d.nr nr hnr (by rw [hnr];exact own.1.1) w.heap.size W1 hb1.size (rc_rowV (own.keep (fun q hq => hb1.cell hq) (Nat.le_refl _)).2.1))
 have HH:=Lib.hid (And.intro hb1 hp1)
 have z0 : W1.cell? ⟨w.heap.size,0,none⟩ = some (.slice d.r nr d.nr):=by rw [hW1];exact cell_of_block (heap_keep (heap_of_alloc w (pgO d nr ng nk nd nm nx))) 0 rfl
 rw [hW1] at z0
 have hmf : ∀ (fn : Fn) (first cap : Array Value) (w : World),(Instr.makeFunc fn first cap).run Tryz.prog w = .ok (.func fn first cap) w:=fun _ _ _ _ => rfl
 obtain ⟨q,hq⟩ : ∃ q,q = fldQ p s f:=⟨_,rfl⟩
 have HQ : Hid (q = ixq (fun x : Pm => x.nm == f) (fldL p s)):=Lib.hid hq
 have hge : -1 ≤ q:=by rw [hq];exact (ixq_ge _ _).1
 rw [← hq]
 clear own hb1 hp1 hnr hq
 go_enter Tryz.func12,Tryz.ntmps12
 go_wp2_with fail
 rw [← hW1]
 clear hW1 z0
 (with_reducible refine HF.out.mono ?_)
 rintro e w3 ⟨⟨cs,b,rfl,hr⟩,hb⟩
 obtain ⟨y,hy,hcase⟩ : ∃ y,VRc w3 w.heap.size cs y ∧ y.fs = fldL p s:=by
  rcases hr with ⟨h1,h2,h3⟩ | ⟨h1,x,h2,h3⟩
  ·exact ⟨⟨[],[]⟩,by rw [h2];exact vrc_zero _ _,by unfold fldL;rw [h3]⟩
  ·exact ⟨x,h3,by unfold fldL;rw [h2]⟩
 obtain ⟨A,c,hcs,hnl,hfl,hrow⟩:=hy
 obtain ⟨n,hn⟩ : ∃ n,n = y.fs.length:=⟨_,rfl⟩
 rw [← hn] at hcs
 subst hcs
 obtain ⟨W4,hW4⟩ : ∃ W,W = w3.alloc (.cells #[.string ⟨y.nm.toArray⟩,.slice A n c] 36):=⟨_,rfl⟩
 have hb34 : Below w3.heap.size w3 W4:=by rw [hW4];exact below_alloc _ _
 have hb4 : Below w.heap.size w W4:=HH.out.1.chain (hb.chain hb34)
 have hsw : w.heap.size ≤ w3.heap.size:=(HH.out.1.chain hb).size
 have HI:=Lib.hid (fieldi_any f y.fs A c n hn (by rw [hn];exact hfl) (w.heap.size + 1) w.heap.size W4 hb4.size (rowB vpm_keeps hsw hb34 (pm_rowV hrow)) (cell_of_block (kept_box (hb.chain hb34) HH.out.2) 0 rfl))
 rw [hcase] at HI
 have HB4:=Lib.hid hb4
 rw [← HQ.out] at HI
 clear hr hb hcase hnl hfl hrow hn hb34 hb4 hsw
 go_wp2_with fail
 rw [← hW4]
 clear hW4
 (with_reducible refine HI.out.mono ?_)
 rintro e w5 ⟨rfl,hb⟩
 have H5:=Lib.hid (HB4.out.chain hb)
 clear hb
 by_cases h0 : (0 : Int) ≤ q
 ·have hmax : max q 0 = q:=by omega
  go_wp2
  go_ret2
  exact ⟨⟨_,_,rfl,.inl ⟨rfl,by first | rfl | omega,by first | exact h0 | omega⟩⟩,H5.out⟩
 ·have hmax : max q 0 = 0:=by omega
  have hq1 : q = -1:=by omega
  subst hq1
  go_wp2
  go_ret2
  exact ⟨⟨_,_,rfl,.inr ⟨rfl,by first | rfl | omega,rfl⟩⟩,H5.out⟩
end Go.Proofs.YtojjfdegkooknaaGreatDoor
