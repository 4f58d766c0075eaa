import Derived.Test.YtojjfdegkooknaaGreatDoorQTypW
set_option linter.unusedVariables false
set_option linter.unusedSimpArgs false
namespace Go.Proofs.YtojjfdegkooknaaGreatDoor
set_option maxRecDepth 100000
set_option maxHeartbeats 8000000
open Go.RowKit
open Go.Maps (Keyed)
abbrev zParam : Array Value:=#[.string ⟨#[]⟩,.string ⟨#[]⟩]
theorem hid_ParamT : ∃ (T N : Nat) (zc : Array Value),42 = T ∧ N = 2 ∧ zc.size = N ∧ zc = zParam ∧ (∀ w : World,(isAgg T).run Tryz.prog w = .ok true w) ∧ (∀ w : World,(sizeOf T).run Tryz.prog w = .ok N w) ∧ (∀ w : World,(zeroValue T).run Tryz.prog w = .ok (.agg zc) w) :=
 ⟨_,2,zParam,rfl,rfl,rfl,rfl,fun w => by kernel_rfl,fun w => by kernel_rfl,fun w => by kernel_rfl⟩
theorem vParam_size {w : World} {B : Nat} {cs : Array Value} {x : Pm} (hv : VPm w B cs x) : cs.size = 2:=by
 obtain ⟨rfl,_⟩:=hv
 rfl
theorem vParam_one {w : World} {B : Nat} {cs : Array Value} {x : Pm} (hv : VPm w B cs x) : cs.all (·.oneCell') = true:=by
 obtain ⟨rfl,_⟩:=hv
 rw [List.all_toArray]
 rfl
theorem vParam_nm {w : World} {B : Nat} {cs : Array Value} {x : Pm} (hv : VPm w B cs x) : cs[1]? = some (.string ⟨x.nm.toArray⟩):=by
 obtain ⟨rfl,_⟩:=hv
 rfl
theorem nm_Param : NmAt 95 VPm (·.nm):=by
 intro x cs w hv
 obtain ⟨T,N,zc,hT,hN,hzc,_,hag,hsz,hzv⟩:=hid_ParamT
 have e4 : ∀ y : Operand,Op.box 42 y = Op.box T y:=fun y => by rw [hT]
 have hszc : cs.size = N:=(vParam_size hv).trans hN.symm
 have c:=cell_of_block (heap_of_alloc w (.cells cs T)) 1 (vParam_nm hv)
 have HB:=Lib.hid (below_alloc w (.cells cs T))
 clear hN hzc hv
 go_enter Tryz.func95,Tryz.ntmps95
 simp only [e4]
 clear e4 hT
 go_wp2
 go_ret
 exact ⟨rfl,HB.out⟩
theorem clo_Param (NF : Nat) (hG : ∀ args w,(callFunc NF args).run Tryz.prog w = .ok (.enter NF args) w) (nm : Pm → List UInt8) (hN0 : NmAt NF VPm nm) (s : List UInt8) (x : Pm) (cs : Array Value) (bf bs : Nat) (w : World) (hv : VPm w w.heap.size cs x)
 (hbf : w.cell? ⟨bf,0,none⟩ = some (.func (.func NF) #[] #[])) (hbs : w.cell? ⟨bs,0,none⟩ = some (.string ⟨s.toArray⟩)) :
 Calls Tryz.prog 143 #[.agg cs,.pointer (some ⟨bf,0,none⟩),.pointer (some ⟨bs,0,none⟩)] w fun e w' => e = .returned (.bool (nm x == s)) ∧ Below w.heap.size w w':=by
 obtain ⟨T,N,zc,hT,hN,hzc,_,hag,hsz,hzv⟩:=hid_ParamT
 have e1 : ∀ y : Operand,Op.load 42 y = Op.load T y:=fun y => by rw [hT]
 have e4 : ∀ y : Operand,Op.box 42 y = Op.box T y:=fun y => by rw [hT]
 have hszc : cs.size = N:=(vParam_size hv).trans hN.symm
 obtain ⟨W1,hW1⟩ : ∃ W1,W1 = w.alloc (.cells cs T):=⟨_,rfl⟩
 have hb1 : Below w.heap.size w W1:=by rw [hW1];exact below_alloc w _
 have hp1 : W1.heap[w.heap.size]? = some (.cells cs T (0,0)):=by rw [hW1];exact heap_of_alloc w _
 obtain ⟨S,hS⟩ : ∃ S : World → Prop,S = fun W => Below W1.heap.size W1 W:=⟨_,rfl⟩
 have HS2 : Hid (∀ W,Below W1.heap.size W1 W → S W):=Lib.hid (fun W hb => by rw [hS];exact hb)
 have HLD : Hid (∀ W,S W → W.cell? ⟨bf,0,none⟩ = some (.func (.func NF) #[] #[]) ∧ W.cell? ⟨bs,0,none⟩ = some (.string ⟨s.toArray⟩) ∧ (loadCellsFrom ⟨w.heap.size,0,none⟩ 0 N #[]).run Tryz.prog W = .ok cs W):=Lib.hid (fun W hs => by
  rw [hS] at hs
  have hb:=hb1.chain hs
  exact ⟨(hb.cell (World.block_lt_of_cell? w _ hbf)).trans hbf,(hb.cell (World.block_lt_of_cell? w _ hbs)).trans hbs,ld_new (kept_box hs hp1) hszc⟩)
 have HC : Hid (∀ W,Below W1.heap.size W1 W → Calls Tryz.prog NF #[.agg cs] W fun e w' => e = .returned (.string ⟨(nm x).toArray⟩) ∧ Below W.heap.size W w'):=Lib.hid (fun W hb => hN0 x cs W (kept vpm_keeps (hb1.chain hb) hv))
 have HB1:=Lib.hid hb1
 have hmx : Tryz.prog.follows .mixedOrders = true:=by kernel_rfl
 have HX0:=Lib.hid (Below.refl W1.heap.size W1).drew
 have g0:=HS2.out _ HX0.out
 obtain ⟨u,hu⟩ : ∃ u,u = nm x:=⟨_,rfl⟩
 rw [← hu] at HC ⊢
 clear hN hzc hv hbf hbs hb1 hp1 hS hu hN0
 go_enter Tryz.func143,Tryz.ntmps143
 simp only [e1,e4]
 clear e1 e4 hT
 go_wp2
 rw [← hW1]
 clear hW1
 refine wp_region_held (S:=S) hmx ?_
 change wpAnyH _ _ _ _ _ 6 #[false,false,false,false,false,false] _ W1.drew
 refine tk 0 5 (.func (.func NF) #[] #[]) g0 ?v ?_
 case v => intro Wx hSx;obtain ⟨z1,z2,z3⟩:=HLD.out Wx hSx;go_simp
 refine tk 1 6 (.agg cs) g0 ?v ?_
 case v => intro Wx hSx;obtain ⟨z1,z2,z3⟩:=HLD.out Wx hSx;go_simp
 refine tk 3 8 (.string ⟨s.toArray⟩) g0 ?v ?_
 case v => intro Wx hSx;obtain ⟨z1,z2,z3⟩:=HLD.out Wx hSx;go_simp
 try simp only [Act.put,List.setIfInBounds_toArray,List.set_cons_zero,List.set_cons_succ]
 refine o1 2 (fun K hK => ?_)
 go_simp
 refine (HC.out _ HX0.out).mono ?_
 rintro e w1 ⟨rfl,hb⟩
 have HX1:=Lib.hid (HX0.out.chain hb)
 clear hb
 have g1:=HS2.out _ HX1.out
 refine hK _ _ g1 ?_
 clear hK K g0
 refine tk 4 9 (.bool (u == s)) g1 ?v ?_
 case v => intro Wx hSx;obtain ⟨z1,z2,z3⟩:=HLD.out Wx hSx;go_simp
 refine tk 5 4 (.bool (u == s)) g1 ?v ?_
 case v => intro Wx hSx;obtain ⟨z1,z2,z3⟩:=HLD.out Wx hSx;go_simp
 try simp only [Act.put,List.setIfInBounds_toArray,List.set_cons_zero,List.set_cons_succ]
 refine wpAnyH_done (by kernel_rfl) ?_ _
 go_wp2
 go_ret
 exact ⟨rfl,HB1.out.chain HX1.out⟩
theorem idx_Param (NF : Nat) (hG : ∀ args w,(callFunc NF args).run Tryz.prog w = .ok (.enter NF args) w) (nm : Pm → List UInt8) (hN0 : NmAt NF VPm nm) (s : List UInt8) (l : List Pm) (A : Option Addr) (c n : Nat) (hn : n = l.length) (hm : n ≤ maxLen) (bf bs : Nat) (B0 : Nat) (w : World) (hB0 : B0 ≤ w.heap.size)
 (hA : RowV VPm 2 w B0 l A) (hbf : w.cell? ⟨bf,0,none⟩ = some (.func (.func NF) #[] #[])) (hbs : w.cell? ⟨bs,0,none⟩ = some (.string ⟨s.toArray⟩)) :
 Calls Tryz.prog 49 #[.slice A n c,.func (.func 143) #[] #[.pointer (some ⟨bf,0,none⟩),.pointer (some ⟨bs,0,none⟩)]] w fun e w' => ∃ q : Int,e = .returned (.int .i64 q) ∧ Ixd (fun x => nm x == s) l q ∧ Below w.heap.size w w':=by
 obtain ⟨T,N,zc,hT,hN,hzc,_,hag,hsz,hzv⟩:=hid_ParamT
 have e1 : ∀ y : Operand,Op.load 42 y = Op.load T y:=fun y => by rw [hT]
 have HB:=Lib.hid hB0
 have HH:=Lib.hid (And.intro hA (And.intro hn (And.intro hN0 (And.intro hN (And.intro hbf hbs)))))
 have HG : Hid (∀ args w,(callFunc NF args).run Tryz.prog w = .ok (.enter NF args) w):=Lib.hid hG
 have hcl : ∀ args w,(callFunc 143 args).run Tryz.prog w = .ok (.enter 143 args) w:=enters_of Tryz.func143 (by kernel_rfl) rfl
 clear hA hn hN0 hG hN hzc hzv hbf hbs hB0
 unfold maxLen at hm
 go_enter Tryz.func49,Tryz.ntmps49
 simp only [e1]
 clear e1 hT
 go_wp2
 go_loopg [8] n (fun m j wr => ∃ k : Nat,m = n - k ∧ k ≤ n ∧ j = .int .i64 k ∧ Hid (Below w.heap.size w wr ∧ (l.take k).all (fun y => !(nm y == s)) = true))
 case atStart => exact ⟨0,rfl,Nat.zero_le _,rfl,Lib.hid ⟨Below.refl _ _,by rw [List.take_zero];rfl⟩⟩
 case round =>
  obtain ⟨k,rfl,hk,rfl,HI⟩:=hrel
  have hk0 : (0 : Int) ≤ k:=by omega
  by_cases hlt : k < n
  ·have hki : (k : Int) < n:=by omega
   obtain ⟨x,hx⟩ : ∃ x,l[k]? = some x:=⟨l[k]'(by rw [← HH.out.2.1];exact hlt),List.getElem?_eq_getElem _⟩
   obtain ⟨a,cs,rfl,hab,hcs,hca,hv⟩:=HH.out.1 k x hx
   have hl1 : (loadCellsFrom (a.add (k * 2)) 0 N #[]).run Tryz.prog wr = .ok cs wr:=load_list (fun j v hv => (HI.out.1.cell (by rw [block_adds,block_adds];exact Nat.lt_of_lt_of_le hab HB.out)).trans (hca j v hv)) (hcs.trans HH.out.2.2.2.1.symm)
   have HC:=Lib.hid (clo_Param NF HG.out nm HH.out.2.2.1 s x cs bf bs wr (keptB vpm_keeps HB.out (Nat.le_trans HB.out HI.out.1.size) HI.out.1 hv) ((HI.out.1.cell (World.block_lt_of_cell? w _ HH.out.2.2.2.2.1)).trans HH.out.2.2.2.2.1) ((HI.out.1.cell (World.block_lt_of_cell? w _ HH.out.2.2.2.2.2)).trans HH.out.2.2.2.2.2))
   obtain ⟨r,hr⟩ : ∃ r,r = (nm x == s):=⟨_,rfl⟩
   rw [← hr] at HC
   have HX:=Lib.hid (And.intro hx hr)
   clear hx hr hca hcs hv hab
   go_wp2_with fail
   refine HC.out.mono ?_
   rintro e w3 ⟨rfl,hb⟩
   have H3:=Lib.hid (HI.out.1.chain hb)
   clear hb
   cases r
   ·go_wp2
    go_roundg (n - (k + 1))
    case measure => omega
    case rel => exact ⟨k + 1,rfl,by omega,by go_num,Lib.hid ⟨H3.out,by rw [all_take_succ (fun y => !(nm y == s)) l k x HX.out.1,HI.out.2,← HX.out.2];rfl⟩⟩
   ·go_wp2
    go_ret
    exact ⟨k,rfl,.inr ⟨k,x,rfl,HX.out.1,find_take _ l k x HX.out.1 HI.out.2 HX.out.2.symm⟩,H3.out⟩
  ·have hlt' : ¬ (k : Int) < n:=by omega
   obtain rfl : k = n:=by omega
   go_wp2
   go_ret
   refine ⟨-1,rfl,.inl ⟨rfl,find_none _ l ?_⟩,HI.out.1⟩
   have h:=HI.out.2
   rw [List.take_of_length_le (by rw [HH.out.2.1];exact Nat.le_refl _)] at h
   exact h
theorem fst_Param (NF : Nat) (hG : ∀ args w,(callFunc NF args).run Tryz.prog w = .ok (.enter NF args) w) (nm : Pm → List UInt8) (hN0 : NmAt NF VPm nm) (s : List UInt8) (l : List Pm) (A : Option Addr) (c n : Nat) (hn : n = l.length) (hm : n ≤ maxLen) (B0 : Nat) (w : World) (hB0 : B0 ≤ w.heap.size) (hA : RowV VPm 2 w B0 l A) :
 Calls Tryz.prog 113 #[.slice A n c,.string ⟨s.toArray⟩,.func (.func NF) #[] #[]] w (FstPost VPm zParam (fstO nm l s) B0 w):=by
 obtain ⟨T,N,zc,hT,hN,hzc,hzz,hag,hsz,hzv⟩:=hid_ParamT
 have e1 : ∀ y : Operand,Op.load 42 y = Op.load T y:=fun y => by rw [hT]
 have e2 : ∀ y z : Operand,Op.store 42 y z = Op.store T y z:=fun y z => by rw [hT]
 have e3 : Op.alloc 42 = Op.alloc T:=by rw [hT]
 obtain ⟨W1,hW1⟩ : ∃ W1,W1 = ((w.alloc (.cells #[.string ⟨s.toArray⟩] 9)).alloc (.cells #[.func (.func NF) #[] #[]] 161)).alloc (.cells zc T):=⟨_,rfl⟩
 have hb1 : Below w.heap.size w W1:=by rw [hW1];exact ((below_alloc w _).chain (below_alloc _ _)).chain (below_alloc _ _)
 have hq0 : W1.heap[w.heap.size]? = some (.cells #[.string ⟨s.toArray⟩] 9 (0,0)):=by rw [hW1];exact heap_keep (heap_keep (heap_of_alloc w _))
 have hq1 : W1.heap[w.heap.size + 1]? = some (.cells #[.func (.func NF) #[] #[]] 161 (0,0)):=by
  rw [hW1]
  have h:=heap_keep (o:=.cells zc T) (heap_of_alloc (w.alloc (.cells #[.string ⟨s.toArray⟩] 9)) (.cells #[.func (.func NF) #[] #[]] 161))
  simp only [size_of_alloc] at h
  exact h
 have hq2 : W1.heap[w.heap.size + 2]? = some (.cells zc T (0,0)):=by
  rw [hW1]
  have h:=heap_of_alloc ((w.alloc (.cells #[.string ⟨s.toArray⟩] 9)).alloc (.cells #[.func (.func NF) #[] #[]] 161)) (.cells zc T)
  simp only [size_of_alloc] at h
  exact h
 have HI:=Lib.hid (idx_Param NF hG nm hN0 s l A c n hn hm (w.heap.size + 1) w.heap.size B0 W1 (Nat.le_trans hB0 hb1.size) (rowB vpm_keeps hB0 hb1 hA) (cell_of_block hq1 0 rfl) (cell_of_block hq0 0 rfl))
 have HH:=Lib.hid (And.intro hA (And.intro hb1 (And.intro hq2 (And.intro hN (And.intro hzc (And.intro hzz hn))))))
 have HB:=Lib.hid hB0
 clear hB0
 clear hA hn hN0 hG hN hzc hb1 hq0 hq1 hq2 hzz
 unfold maxLen at hm
 go_enter Tryz.func113,Tryz.ntmps113
 simp only [e1,e2,e3]
 clear e1 e2 e3 hT
 go_wp2_with fail
 rw [← hW1]
 clear hW1
 refine HI.out.mono ?_
 rintro e w3 ⟨q,rfl,hq,hb⟩
 have H3:=Lib.hid (And.intro hq (And.intro hb (kept_box hb HH.out.2.2.1)))
 clear hb
 by_cases hq0 : q < 0
 ·have hzs : zc.size = N:=HH.out.2.2.2.2.1
  have hld:=ld_new (heap_of_alloc w3 (.cells zc T)) hzs
  have h6 : (w3.alloc (.cells zc T)).heap[w.heap.size + 1 + 1]? = some (.cells zc T (0,0)):=heap_keep H3.out.2.2
  have hzo : zc.all (·.oneCell') = true:=by rw [HH.out.2.2.2.2.2.1];rw [List.all_toArray];rfl
  have hst:=store_row h6 rfl hzo
  have H6:=Lib.hid (And.intro h6 hzo)
  clear h6 hzo
  go_wp2
  refine bodyPost_ret (results_row_tmp rfl _ _ (w.heap.size + 1 + 1) T zc (0,0) _ rfl (setRow_heap _ _ zc _ _ _ H6.out.1) Tryz.underlying42 rfl (by rw [hzs,HH.out.2.2.2.1];kernel_rfl)) rfl ?_
  refine ⟨⟨zc,false,rfl,.inl ⟨rfl,HH.out.2.2.2.2.2.1,?_⟩⟩,below_setRow ((HH.out.2.1.chain H3.out.2.1).chain (below_alloc w3 _)) (by omega) _⟩
  rcases H3.out.1 with ⟨_,h⟩ | ⟨i,x,hi,_,_⟩
  ·exact h
  ·omega
 ·rcases H3.out.1 with ⟨h,_⟩ | ⟨i,x,hi,hx,hf⟩
  ·omega
  subst hi
  have hin : i < n:=by rw [HH.out.2.2.2.2.2.2];exact (List.getElem?_eq_some_iff.1 hx).1
  have hii : (i : Int) < n:=by omega
  have hi0 : (0 : Int) ≤ i:=by omega
  obtain ⟨a,cs,rfl,hab,hcs,hca,hv⟩:=HH.out.1 i x hx
  have hszc : cs.size = N:=hcs.trans HH.out.2.2.2.1.symm
  have hl1 : (loadCellsFrom (a.add (i * 2)) 0 N #[]).run Tryz.prog w3 = .ok cs w3:=load_list (fun j v hv => ((HH.out.2.1.chain H3.out.2.1).cell (by rw [block_adds,block_adds];exact Nat.lt_of_lt_of_le hab HB.out)).trans (hca j v hv)) hszc
  have h6 : w3.heap[w.heap.size + 1 + 1]? = some (.cells zc T (0,0)):=H3.out.2.2
  have hst:=store_row h6 (HH.out.2.2.2.2.1.trans hszc.symm) (vParam_one hv)
  have HX:=Lib.hid (And.intro hf (And.intro hv h6))
  clear hf hv hx hca hcs hab h6 hin
  go_wp2
  refine bodyPost_ret (results_row_tmp rfl _ _ (w.heap.size + 1 + 1) T cs (0,0) _ rfl (setRow_heap _ _ zc _ _ _ HX.out.2.2) Tryz.underlying42 rfl (by rw [hszc,HH.out.2.2.2.1];kernel_rfl)) rfl ?_
  have hbf:=below_setRow (HH.out.2.1.chain H3.out.2.1) (show w.heap.size ≤ w.heap.size + 1 + 1 by omega) cs
  exact ⟨⟨cs,true,rfl,.inr ⟨rfl,x,HX.out.1,keptB vpm_keeps HB.out (Nat.le_refl _) hbf HX.out.2.1⟩⟩,hbf⟩
theorem fnd_Param (NF : Nat) (hG : ∀ args w,(callFunc NF args).run Tryz.prog w = .ok (.enter NF args) w) (nm : Pm → List UInt8) (hN0 : NmAt NF VPm nm) (s : List UInt8) (l : List Pm) (A : Option Addr) (c n : Nat) (hn : n = l.length) (hm : n ≤ maxLen) (B0 : Nat) (w : World) (hB0 : B0 ≤ w.heap.size) (hA : RowV VPm 2 w B0 l A) :
 Calls Tryz.prog 178 #[.slice A n c,.string ⟨s.toArray⟩,.func (.func NF) #[] #[]] w (FndPost VPm s (fstO nm l s) B0 w):=by
 obtain ⟨T,N,zc,hT,hN,hzc,hzz,hag,hsz,hzv⟩:=hid_ParamT
 have e1 : ∀ y : Operand,Op.load 42 y = Op.load T y:=fun y => by rw [hT]
 have e2 : ∀ y z : Operand,Op.store 42 y z = Op.store T y z:=fun y z => by rw [hT]
 have e3 : Op.alloc 42 = Op.alloc T:=by rw [hT]
 obtain ⟨W1,hW1⟩ : ∃ W1,W1 = w.alloc (.cells zc T):=⟨_,rfl⟩
 have hb1 : Below w.heap.size w W1:=by rw [hW1];exact below_alloc w _
 have hq2 : W1.heap[w.heap.size]? = some (.cells zc T (0,0)):=by rw [hW1];exact heap_of_alloc w _
 have HI:=Lib.hid (fst_Param NF hG nm hN0 s l A c n hn hm B0 W1 (Nat.le_trans hB0 hb1.size) (rowB vpm_keeps hB0 hb1 hA))
 have HH:=Lib.hid (And.intro hA (And.intro hb1 (And.intro hq2 (And.intro hN (And.intro hzc (And.intro hzz hn))))))
 have HB:=Lib.hid hB0
 clear hB0
 clear hA hn hN0 hG hN hzc hb1 hq2 hzz
 unfold maxLen at hm
 go_enter Tryz.func178,Tryz.ntmps178
 simp only [e1,e2,e3]
 clear e1 e2 e3 hT
 go_wp2_with fail
 rw [← hW1]
 clear hW1
 refine HI.out.mono ?_
 rintro e w3 ⟨⟨cs,b,rfl,hr⟩,hb⟩
 have hzs : zc.size = N:=HH.out.2.2.2.2.1
 have hszc : cs.size = N:=by
  rcases hr with ⟨_,h,_⟩ | ⟨_,x,_,h⟩
  ·rw [h,← HH.out.2.2.2.2.2.1];exact hzs
  ·exact (vParam_size h).trans HH.out.2.2.2.1.symm
 have hone : cs.all (·.oneCell') = true:=by
  rcases hr with ⟨_,h,_⟩ | ⟨_,x,_,h⟩
  ·rw [h];rw [List.all_toArray];rfl
  ·exact vParam_one h
 have hst:=st_new (w:=w3) (t:=T) (hzs.trans hszc.symm) hone
 have hld:=ld_new (heap_of_alloc w3 (.cells cs T)) hszc
 have h6 : (w3.alloc (.cells cs T)).heap[w.heap.size]? = some (.cells zc T (0,0)):=heap_keep (kept_box hb HH.out.2.2.1)
 have hst6:=store_row h6 (hzs.trans hszc.symm) hone
 have H3:=Lib.hid (And.intro hr (And.intro (HH.out.2.1.chain hb) h6))
 have HD:=Lib.hid (demand_any b 7 s (w3.alloc (.cells cs T)))
 clear hr hb hone h6
 go_wp2_with fail
 refine HD.out.mono ?_
 rintro e w4 ⟨he,rfl⟩
 rcases H3.out.1 with ⟨rfl,_,ho⟩ | ⟨rfl,x,ho,hv⟩
 ·obtain rfl : e = _:=he
  exact ⟨rfl,.inr ⟨ho,rfl⟩,H3.out.2.1.chain (below_alloc w3 _)⟩
 ·obtain rfl : e = _:=he
  have HV:=Lib.hid (And.intro ho hv)
  clear ho hv
  go_wp2
  refine bodyPost_ret (results_cell_row rfl _ _ w.heap.size T cs (0,0) _ rfl (setRow_heap _ _ zc _ _ _ H3.out.2.2) Tryz.underlying42 rfl (by rw [hszc,HH.out.2.2.2.1];kernel_rfl)) rfl ?_
  have hbf:=below_setRow (H3.out.2.1.chain (below_alloc w3 (.cells cs T))) (Nat.le_refl w.heap.size) cs
  refine ⟨.inl ⟨cs,x,rfl,HV.out.1,vpm_keeps _ _ _ _ _ _ (fun q hq => ?_) (Nat.le_refl _) HV.out.2⟩,hbf⟩
  have hq2:=Nat.lt_of_lt_of_le hq HB.out
  exact (hbf.cell hq2).trans (H3.out.2.1.cell hq2).symm
theorem dif_Param (NF : Nat) (hG : ∀ args w,(callFunc NF args).run Tryz.prog w = .ok (.enter NF args) w) (nm : Pm → List UInt8) (hN0 : NmAt NF VPm nm) (l : List Pm) (hnl : ∀ x ∈ l,(nm x).length ≤ maxLen) (A : Option Addr) (c n : Nat) (hn : n = l.length) (hm : n ≤ maxLen) (B0 : Nat) (w : World) (hB0 : B0 ≤ w.heap.size) (hA : RowV VPm 2 w B0 l A) :
 Calls Tryz.prog 94 #[.slice A n c,.func (.func NF) #[] #[]] w (CkPost (diffC [] (l.map nm)) w):=by
 obtain ⟨T,N,zc,hT,hN,hzc,hzz,hag,hsz,hzv⟩:=hid_ParamT
 have e1 : ∀ y : Operand,Op.load 42 y = Op.load T y:=fun y => by rw [hT]
 have e2 : ∀ y z : Operand,Op.store 42 y z = Op.store T y z:=fun y z => by rw [hT]
 have e3 : Op.alloc 42 = Op.alloc T:=by rw [hT]
 have hmm:=@run_makeMap Tryz.prog
 have HO0:=Lib.hid (World.ownsMap_made w Tryz.prog 9 (plainElem (H:=Unit) Tryz.prog 4))
 have HB0:=Lib.hid (below_alloc w (.map #[] 0))
 have HZ : Hid (∀ w : World,(zeroValue 4).run Tryz.prog w = .ok (.bool false) w):=Lib.hid (fun w => by kernel_rfl)
 have HH:=Lib.hid (And.intro hA (And.intro hn (And.intro hN0 (And.intro hN (And.intro hzc (And.intro hB0 (And.intro hnl hm)))))))
 clear hA hn hN0 hN hzc hB0 hzz hnl
 unfold maxLen at hm
 go_enter Tryz.func94,Tryz.ntmps94
 simp only [e1,e2,e3]
 clear e1 e2 e3 hT
 go_wp2
 go_loopg [11] n (fun m j wr => ∃ k : Nat,m = n - k ∧ k ≤ n ∧ j = .int .i64 k ∧ Hid (NamesAt wr w.heap.size k (kwD ((l.map nm).take k)) ∧ Below w.heap.size w wr ∧ diffC [] ((l.map nm).take k) = none))
 case atStart => exact ⟨0,rfl,Nat.zero_le _,rfl,Lib.hid ⟨HO0.out,HB0.out,rfl⟩⟩
 case round =>
  obtain ⟨k,rfl,hk,rfl,HI⟩:=hrel
  have hk0 : (0 : Int) ≤ k:=by omega
  by_cases hlt : k < n
  ·have hki : (k : Int) < n:=by omega
   obtain ⟨x,hx⟩ : ∃ x,l[k]? = some x:=⟨l[k]'(by rw [← HH.out.2.1];exact hlt),List.getElem?_eq_getElem _⟩
   obtain ⟨a,cs,rfl,hab,hcs,hca,hv⟩:=HH.out.1 k x hx
   have hszc : cs.size = N:=hcs.trans HH.out.2.2.2.1.symm
   have hl1 : (loadCellsFrom (a.add (k * 2)) 0 N #[]).run Tryz.prog wr = .ok cs wr:=load_list (fun j v hv => (HI.out.2.1.cell (by rw [block_adds,block_adds];exact Nat.lt_of_lt_of_le hab HH.out.2.2.2.2.2.1)).trans (hca j v hv)) hszc
   have hst:=st_new (w:=wr) (t:=T) (HH.out.2.2.2.2.1.trans hszc.symm) (vParam_one hv)
   have hld:=ld_new (heap_of_alloc wr (.cells cs T)) hszc
   have hb6:=HI.out.2.1.chain (below_alloc wr (.cells cs T))
   have HC:=Lib.hid (HH.out.2.2.1 x cs (wr.alloc (.cells cs T)) (keptB vpm_keeps HH.out.2.2.2.2.2.1 (Nat.le_trans HH.out.2.2.2.2.2.1 hb6.size) hb6 hv))
   have hxn : (l.map nm)[k]? = some (nm x):=by rw [List.getElem?_map,hx];rfl
   obtain ⟨d1,d2⟩:=diffC_take (l.map nm) [] k (nm x) hxn HI.out.2.2
   obtain ⟨r,hr⟩ : ∃ r,r = ((l.map nm).take k).contains (nm x):=⟨_,rfl⟩
   have HKy:=Lib.hid (Go.WideMaps.keyOf_string_mk Tryz.underlying9 (s:=⟨(nm x).toArray⟩) (HH.out.2.2.2.2.2.2.1 x (List.mem_of_getElem? hx)))
   have HAt : Hid ((kwD ((l.map nm).take k)).atKey (.string (nm x)) (.lit (.bool false)) = .lit (.bool r)):=Lib.hid (by rw [hr];exact kwD_at _ _)
   have HX:=Lib.hid (And.intro d1 (And.intro d2 (And.intro hr (And.intro hb6 (And.intro hxn (Nat.lt_of_lt_of_le hlt HH.out.2.2.2.2.2.2.2))))))
   obtain ⟨u,hu⟩ : ∃ u,u = nm x:=⟨_,rfl⟩
   rw [← hu] at HC HKy HAt HX
   clear hx hca hcs hv hab d1 d2 hr hxn hb6 hu
   go_wp2_with fail
   refine HC.out.mono ?_
   rintro e w3 ⟨rfl,hb⟩
   have HO3:=Lib.hid (own_on (HI.out.1.alloc (.cells cs T)) hb)
   have H3:=Lib.hid (HX.out.2.2.2.1.chain hb)
   clear hb
   go_wp2_with (refine wpList_lookup_bool _ rfl _ _ 183 rfl 9 4 (Keyed.of_law (Go.WideMaps.string_law Tryz.underlying9)) Tryz.underlying183 Tryz.underlying4 (HZ.out _) w.heap.size k _ rfl HO3.out _ _ rfl HKy.out r HAt.out ?_)
   refine (demand_any (!r) 8 u w3).mono ?_
   rintro e w4 ⟨he,rfl⟩
   cases r
   ·obtain rfl : e = _:=he
    go_wp2_with (at_mapUpdate;refine wpList_mapUpdate_own _ rfl _ _ _ 183 rfl 9 4 (Keyed.of_law (Go.WideMaps.string_law Tryz.underlying9)) Tryz.underlying183 _ w.heap.size _ _ rfl HO3.out HX.out.2.2.2.2.2 _ _ _ rfl rfl HKy.out _ _ (Go.plainElem_bool Tryz.underlying4 true) ?_;intro wk hown hgr;have HO2:=Lib.hid hown;have HG2:=Lib.hid (H3.out.trans (below_grownF hgr (Nat.le_refl _) H3.out.size));clear hown hgr)
    go_roundg (n - (k + 1))
    case measure => omega
    case rel =>
     have e1 : (l.map nm).take (k + 1) = (l.map nm).take k ++ [u]:=by rw [List.take_add_one,HX.out.2.2.2.2.1];rfl
     have hnc : ¬ (u ∈ ([] : List (List UInt8)) ∨ u ∈ (l.map nm).take k):=by
      have h:=HX.out.2.2.1
      rintro (h0 | h0)
      ·cases h0
      ·rw [List.contains_iff_mem.2 h0] at h
       cases h
     exact ⟨k + 1,rfl,by omega,by go_num,Lib.hid ⟨by rw [e1,kwD_snoc];exact HO2.out,HG2.out,HX.out.2.1 hnc⟩⟩
   ·obtain rfl : e = _:=he
    refine ⟨rfl,?_,H3.out⟩
    rw [HX.out.1 (.inr (List.contains_iff_mem.1 HX.out.2.2.1.symm))]
    rfl
  ·obtain rfl : k = n:=by omega
   go_wp2
   refine bodyPost_end (results_none rfl _ _ _) rfl ⟨?_,HI.out.2.1⟩
   have h:=HI.out.2.2
   rw [List.take_of_length_le (by rw [List.length_map,HH.out.2.1];exact Nat.le_refl _)] at h
   rw [h]
   rfl
end Go.Proofs.YtojjfdegkooknaaGreatDoor
namespace Go.Proofs.YtojjfdegkooknaaGreatDoor
set_option maxRecDepth 100000
set_option maxHeartbeats 8000000
open Go.RowKit
open Go.Maps (Keyed)
abbrev zRecord : Array Value:=#[.string ⟨#[]⟩,.slice none 0 0]
theorem hid_RecordT : ∃ (T N : Nat) (zc : Array Value),36 = T ∧ N = 2 ∧ zc.size = N ∧ zc = zRecord ∧ (∀ w : World,(isAgg T).run Tryz.prog w = .ok true w) ∧ (∀ w : World,(sizeOf T).run Tryz.prog w = .ok N w) ∧ (∀ w : World,(zeroValue T).run Tryz.prog w = .ok (.agg zc) w) :=
 ⟨_,2,zRecord,rfl,rfl,rfl,rfl,fun w => by kernel_rfl,fun w => by kernel_rfl,fun w => by kernel_rfl⟩
theorem vRecord_size {w : World} {B : Nat} {cs : Array Value} {x : Rc} (hv : VRc w B cs x) : cs.size = 2:=by
 obtain ⟨_,_,rfl,_⟩:=hv
 rfl
theorem vRecord_one {w : World} {B : Nat} {cs : Array Value} {x : Rc} (hv : VRc w B cs x) : cs.all (·.oneCell') = true:=by
 obtain ⟨_,_,rfl,_⟩:=hv
 rw [List.all_toArray]
 rfl
theorem vRecord_nm {w : World} {B : Nat} {cs : Array Value} {x : Rc} (hv : VRc w B cs x) : cs[0]? = some (.string ⟨x.nm.toArray⟩):=by
 obtain ⟨_,_,rfl,_⟩:=hv
 rfl
theorem nm_Record : NmAt 46 VRc (·.nm):=by
 intro x cs w hv
 obtain ⟨T,N,zc,hT,hN,hzc,_,hag,hsz,hzv⟩:=hid_RecordT
 have e4 : ∀ y : Operand,Op.box 36 y = Op.box T y:=fun y => by rw [hT]
 have hszc : cs.size = N:=(vRecord_size hv).trans hN.symm
 have c:=cell_of_block (heap_of_alloc w (.cells cs T)) 0 (vRecord_nm hv)
 have HB:=Lib.hid (below_alloc w (.cells cs T))
 clear hN hzc hv
 go_enter Tryz.func46,Tryz.ntmps46
 simp only [e4]
 clear e4 hT
 go_wp2
 go_ret
 exact ⟨rfl,HB.out⟩
theorem clo_Record (NF : Nat) (hG : ∀ args w,(callFunc NF args).run Tryz.prog w = .ok (.enter NF args) w) (nm : Rc → List UInt8) (hN0 : NmAt NF VRc nm) (s : List UInt8) (x : Rc) (cs : Array Value) (bf bs : Nat) (w : World) (hv : VRc w w.heap.size cs x)
 (hbf : w.cell? ⟨bf,0,none⟩ = some (.func (.func NF) #[] #[])) (hbs : w.cell? ⟨bs,0,none⟩ = some (.string ⟨s.toArray⟩)) :
 Calls Tryz.prog 64 #[.agg cs,.pointer (some ⟨bf,0,none⟩),.pointer (some ⟨bs,0,none⟩)] w fun e w' => e = .returned (.bool (nm x == s)) ∧ Below w.heap.size w w':=by
 obtain ⟨T,N,zc,hT,hN,hzc,_,hag,hsz,hzv⟩:=hid_RecordT
 have e1 : ∀ y : Operand,Op.load 36 y = Op.load T y:=fun y => by rw [hT]
 have e4 : ∀ y : Operand,Op.box 36 y = Op.box T y:=fun y => by rw [hT]
 have hszc : cs.size = N:=(vRecord_size hv).trans hN.symm
 obtain ⟨W1,hW1⟩ : ∃ W1,W1 = w.alloc (.cells cs T):=⟨_,rfl⟩
 have hb1 : Below w.heap.size w W1:=by rw [hW1];exact below_alloc w _
 have hp1 : W1.heap[w.heap.size]? = some (.cells cs T (0,0)):=by rw [hW1];exact heap_of_alloc w _
 obtain ⟨S,hS⟩ : ∃ S : World → Prop,S = fun W => Below W1.heap.size W1 W:=⟨_,rfl⟩
 have HS2 : Hid (∀ W,Below W1.heap.size W1 W → S W):=Lib.hid (fun W hb => by rw [hS];exact hb)
 have HLD : Hid (∀ W,S W → W.cell? ⟨bf,0,none⟩ = some (.func (.func NF) #[] #[]) ∧ W.cell? ⟨bs,0,none⟩ = some (.string ⟨s.toArray⟩) ∧ (loadCellsFrom ⟨w.heap.size,0,none⟩ 0 N #[]).run Tryz.prog W = .ok cs W):=Lib.hid (fun W hs => by
  rw [hS] at hs
  have hb:=hb1.chain hs
  exact ⟨(hb.cell (World.block_lt_of_cell? w _ hbf)).trans hbf,(hb.cell (World.block_lt_of_cell? w _ hbs)).trans hbs,ld_new (kept_box hs hp1) hszc⟩)
 have HC : Hid (∀ W,Below W1.heap.size W1 W → Calls Tryz.prog NF #[.agg cs] W fun e w' => e = .returned (.string ⟨(nm x).toArray⟩) ∧ Below W.heap.size W w'):=Lib.hid (fun W hb => hN0 x cs W (kept vrc_keeps (hb1.chain hb) hv))
 have HB1:=Lib.hid hb1
 have hmx : Tryz.prog.follows .mixedOrders = true:=by kernel_rfl
 have HX0:=Lib.hid (Below.refl W1.heap.size W1).drew
 have g0:=HS2.out _ HX0.out
 obtain ⟨u,hu⟩ : ∃ u,u = nm x:=⟨_,rfl⟩
 rw [← hu] at HC ⊢
 clear hN hzc hv hbf hbs hb1 hp1 hS hu hN0
 go_enter Tryz.func64,Tryz.ntmps64
 simp only [e1,e4]
 clear e1 e4 hT
 go_wp2
 rw [← hW1]
 clear hW1
 refine wp_region_held (S:=S) hmx ?_
 change wpAnyH _ _ _ _ _ 6 #[false,false,false,false,false,false] _ W1.drew
 refine tk 0 5 (.func (.func NF) #[] #[]) g0 ?v ?_
 case v => intro Wx hSx;obtain ⟨z1,z2,z3⟩:=HLD.out Wx hSx;go_simp
 refine tk 1 6 (.agg cs) g0 ?v ?_
 case v => intro Wx hSx;obtain ⟨z1,z2,z3⟩:=HLD.out Wx hSx;go_simp
 refine tk 3 8 (.string ⟨s.toArray⟩) g0 ?v ?_
 case v => intro Wx hSx;obtain ⟨z1,z2,z3⟩:=HLD.out Wx hSx;go_simp
 try simp only [Act.put,List.setIfInBounds_toArray,List.set_cons_zero,List.set_cons_succ]
 refine o1 2 (fun K hK => ?_)
 go_simp
 refine (HC.out _ HX0.out).mono ?_
 rintro e w1 ⟨rfl,hb⟩
 have HX1:=Lib.hid (HX0.out.chain hb)
 clear hb
 have g1:=HS2.out _ HX1.out
 refine hK _ _ g1 ?_
 clear hK K g0
 refine tk 4 9 (.bool (u == s)) g1 ?v ?_
 case v => intro Wx hSx;obtain ⟨z1,z2,z3⟩:=HLD.out Wx hSx;go_simp
 refine tk 5 4 (.bool (u == s)) g1 ?v ?_
 case v => intro Wx hSx;obtain ⟨z1,z2,z3⟩:=HLD.out Wx hSx;go_simp
 try simp only [Act.put,List.setIfInBounds_toArray,List.set_cons_zero,List.set_cons_succ]
 refine wpAnyH_done (by kernel_rfl) ?_ _
 go_wp2
 go_ret
 exact ⟨rfl,HB1.out.chain HX1.out⟩
theorem idx_Record (NF : Nat) (hG : ∀ args w,(callFunc NF args).run Tryz.prog w = .ok (.enter NF args) w) (nm : Rc → List UInt8) (hN0 : NmAt NF VRc nm) (s : List UInt8) (l : List Rc) (A : Option Addr) (c n : Nat) (hn : n = l.length) (hm : n ≤ maxLen) (bf bs : Nat) (B0 : Nat) (w : World) (hB0 : B0 ≤ w.heap.size)
 (hA : RowV VRc 2 w B0 l A) (hbf : w.cell? ⟨bf,0,none⟩ = some (.func (.func NF) #[] #[])) (hbs : w.cell? ⟨bs,0,none⟩ = some (.string ⟨s.toArray⟩)) :
 Calls Tryz.prog 63 #[.slice A n c,.func (.func 64) #[] #[.pointer (some ⟨bf,0,none⟩),.pointer (some ⟨bs,0,none⟩)]] w fun e w' => ∃ q : Int,e = .returned (.int .i64 q) ∧ Ixd (fun x => nm x == s) l q ∧ Below w.heap.size w w':=by
 obtain ⟨T,N,zc,hT,hN,hzc,_,hag,hsz,hzv⟩:=hid_RecordT
 have e1 : ∀ y : Operand,Op.load 36 y = Op.load T y:=fun y => by rw [hT]
 have HB:=Lib.hid hB0
 have HH:=Lib.hid (And.intro hA (And.intro hn (And.intro hN0 (And.intro hN (And.intro hbf hbs)))))
 have HG : Hid (∀ args w,(callFunc NF args).run Tryz.prog w = .ok (.enter NF args) w):=Lib.hid hG
 have hcl : ∀ args w,(callFunc 64 args).run Tryz.prog w = .ok (.enter 64 args) w:=enters_of Tryz.func64 (by kernel_rfl) rfl
 clear hA hn hN0 hG hN hzc hzv hbf hbs hB0
 unfold maxLen at hm
 go_enter Tryz.func63,Tryz.ntmps63
 simp only [e1]
 clear e1 hT
 go_wp2
 go_loopg [8] n (fun m j wr => ∃ k : Nat,m = n - k ∧ k ≤ n ∧ j = .int .i64 k ∧ Hid (Below w.heap.size w wr ∧ (l.take k).all (fun y => !(nm y == s)) = true))
 case atStart => exact ⟨0,rfl,Nat.zero_le _,rfl,Lib.hid ⟨Below.refl _ _,by rw [List.take_zero];rfl⟩⟩
 case round =>
  obtain ⟨k,rfl,hk,rfl,HI⟩:=hrel
  have hk0 : (0 : Int) ≤ k:=by omega
  by_cases hlt : k < n
  ·have hki : (k : Int) < n:=by omega
   obtain ⟨x,hx⟩ : ∃ x,l[k]? = some x:=⟨l[k]'(by rw [← HH.out.2.1];exact hlt),List.getElem?_eq_getElem _⟩
   obtain ⟨a,cs,rfl,hab,hcs,hca,hv⟩:=HH.out.1 k x hx
   have hl1 : (loadCellsFrom (a.add (k * 2)) 0 N #[]).run Tryz.prog wr = .ok cs wr:=load_list (fun j v hv => (HI.out.1.cell (by rw [block_adds,block_adds];exact Nat.lt_of_lt_of_le hab HB.out)).trans (hca j v hv)) (hcs.trans HH.out.2.2.2.1.symm)
   have HC:=Lib.hid (clo_Record NF HG.out nm HH.out.2.2.1 s x cs bf bs wr (keptB vrc_keeps HB.out (Nat.le_trans HB.out HI.out.1.size) HI.out.1 hv) ((HI.out.1.cell (World.block_lt_of_cell? w _ HH.out.2.2.2.2.1)).trans HH.out.2.2.2.2.1) ((HI.out.1.cell (World.block_lt_of_cell? w _ HH.out.2.2.2.2.2)).trans HH.out.2.2.2.2.2))
   obtain ⟨r,hr⟩ : ∃ r,r = (nm x == s):=⟨_,rfl⟩
   rw [← hr] at HC
   have HX:=Lib.hid (And.intro hx hr)
   clear hx hr hca hcs hv hab
   go_wp2_with fail
   refine HC.out.mono ?_
   rintro e w3 ⟨rfl,hb⟩
   have H3:=Lib.hid (HI.out.1.chain hb)
   clear hb
   cases r
   ·go_wp2
    go_roundg (n - (k + 1))
    case measure => omega
    case rel => exact ⟨k + 1,rfl,by omega,by go_num,Lib.hid ⟨H3.out,by rw [all_take_succ (fun y => !(nm y == s)) l k x HX.out.1,HI.out.2,← HX.out.2];rfl⟩⟩
   ·go_wp2
    go_ret
    exact ⟨k,rfl,.inr ⟨k,x,rfl,HX.out.1,find_take _ l k x HX.out.1 HI.out.2 HX.out.2.symm⟩,H3.out⟩
  ·have hlt' : ¬ (k : Int) < n:=by omega
   obtain rfl : k = n:=by omega
   go_wp2
   go_ret
   refine ⟨-1,rfl,.inl ⟨rfl,find_none _ l ?_⟩,HI.out.1⟩
   have h:=HI.out.2
   rw [List.take_of_length_le (by rw [HH.out.2.1];exact Nat.le_refl _)] at h
   exact h
theorem fst_Record (NF : Nat) (hG : ∀ args w,(callFunc NF args).run Tryz.prog w = .ok (.enter NF args) w) (nm : Rc → List UInt8) (hN0 : NmAt NF VRc nm) (s : List UInt8) (l : List Rc) (A : Option Addr) (c n : Nat) (hn : n = l.length) (hm : n ≤ maxLen) (B0 : Nat) (w : World) (hB0 : B0 ≤ w.heap.size) (hA : RowV VRc 2 w B0 l A) :
 Calls Tryz.prog 45 #[.slice A n c,.string ⟨s.toArray⟩,.func (.func NF) #[] #[]] w (FstPost VRc zRecord (fstO nm l s) B0 w):=by
 obtain ⟨T,N,zc,hT,hN,hzc,hzz,hag,hsz,hzv⟩:=hid_RecordT
 have e1 : ∀ y : Operand,Op.load 36 y = Op.load T y:=fun y => by rw [hT]
 have e2 : ∀ y z : Operand,Op.store 36 y z = Op.store T y z:=fun y z => by rw [hT]
 have e3 : Op.alloc 36 = Op.alloc T:=by rw [hT]
 obtain ⟨W1,hW1⟩ : ∃ W1,W1 = ((w.alloc (.cells #[.string ⟨s.toArray⟩] 9)).alloc (.cells #[.func (.func NF) #[] #[]] 109)).alloc (.cells zc T):=⟨_,rfl⟩
 have hb1 : Below w.heap.size w W1:=by rw [hW1];exact ((below_alloc w _).chain (below_alloc _ _)).chain (below_alloc _ _)
 have hq0 : W1.heap[w.heap.size]? = some (.cells #[.string ⟨s.toArray⟩] 9 (0,0)):=by rw [hW1];exact heap_keep (heap_keep (heap_of_alloc w _))
 have hq1 : W1.heap[w.heap.size + 1]? = some (.cells #[.func (.func NF) #[] #[]] 109 (0,0)):=by
  rw [hW1]
  have h:=heap_keep (o:=.cells zc T) (heap_of_alloc (w.alloc (.cells #[.string ⟨s.toArray⟩] 9)) (.cells #[.func (.func NF) #[] #[]] 109))
  simp only [size_of_alloc] at h
  exact h
 have hq2 : W1.heap[w.heap.size + 2]? = some (.cells zc T (0,0)):=by
  rw [hW1]
  have h:=heap_of_alloc ((w.alloc (.cells #[.string ⟨s.toArray⟩] 9)).alloc (.cells #[.func (.func NF) #[] #[]] 109)) (.cells zc T)
  simp only [size_of_alloc] at h
  exact h
 have HI:=Lib.hid (idx_Record NF hG nm hN0 s l A c n hn hm (w.heap.size + 1) w.heap.size B0 W1 (Nat.le_trans hB0 hb1.size) (rowB vrc_keeps hB0 hb1 hA) (cell_of_block hq1 0 rfl) (cell_of_block hq0 0 rfl))
 have HH:=Lib.hid (And.intro hA (And.intro hb1 (And.intro hq2 (And.intro hN (And.intro hzc (And.intro hzz hn))))))
 have HB:=Lib.hid hB0
 clear hB0
 clear hA hn hN0 hG hN hzc hb1 hq0 hq1 hq2 hzz
 unfold maxLen at hm
 go_enter Tryz.func45,Tryz.ntmps45
 simp only [e1,e2,e3]
 clear e1 e2 e3 hT
 go_wp2_with fail
 rw [← hW1]
 clear hW1
 refine HI.out.mono ?_
 rintro e w3 ⟨q,rfl,hq,hb⟩
 have H3:=Lib.hid (And.intro hq (And.intro hb (kept_box hb HH.out.2.2.1)))
 clear hb
 by_cases hq0 : q < 0
 ·have hzs : zc.size = N:=HH.out.2.2.2.2.1
  have hld:=ld_new (heap_of_alloc w3 (.cells zc T)) hzs
  have h6 : (w3.alloc (.cells zc T)).heap[w.heap.size + 1 + 1]? = some (.cells zc T (0,0)):=heap_keep H3.out.2.2
  have hzo : zc.all (·.oneCell') = true:=by rw [HH.out.2.2.2.2.2.1];rw [List.all_toArray];rfl
  have hst:=store_row h6 rfl hzo
  have H6:=Lib.hid (And.intro h6 hzo)
  clear h6 hzo
  go_wp2
  refine bodyPost_ret (results_row_tmp rfl _ _ (w.heap.size + 1 + 1) T zc (0,0) _ rfl (setRow_heap _ _ zc _ _ _ H6.out.1) Tryz.underlying36 rfl (by rw [hzs,HH.out.2.2.2.1];kernel_rfl)) rfl ?_
  refine ⟨⟨zc,false,rfl,.inl ⟨rfl,HH.out.2.2.2.2.2.1,?_⟩⟩,below_setRow ((HH.out.2.1.chain H3.out.2.1).chain (below_alloc w3 _)) (by omega) _⟩
  rcases H3.out.1 with ⟨_,h⟩ | ⟨i,x,hi,_,_⟩
  ·exact h
  ·omega
 ·rcases H3.out.1 with ⟨h,_⟩ | ⟨i,x,hi,hx,hf⟩
  ·omega
  subst hi
  have hin : i < n:=by rw [HH.out.2.2.2.2.2.2];exact (List.getElem?_eq_some_iff.1 hx).1
  have hii : (i : Int) < n:=by omega
  have hi0 : (0 : Int) ≤ i:=by omega
  obtain ⟨a,cs,rfl,hab,hcs,hca,hv⟩:=HH.out.1 i x hx
  have hszc : cs.size = N:=hcs.trans HH.out.2.2.2.1.symm
  have hl1 : (loadCellsFrom (a.add (i * 2)) 0 N #[]).run Tryz.prog w3 = .ok cs w3:=load_list (fun j v hv => ((HH.out.2.1.chain H3.out.2.1).cell (by rw [block_adds,block_adds];exact Nat.lt_of_lt_of_le hab HB.out)).trans (hca j v hv)) hszc
  have h6 : w3.heap[w.heap.size + 1 + 1]? = some (.cells zc T (0,0)):=H3.out.2.2
  have hst:=store_row h6 (HH.out.2.2.2.2.1.trans hszc.symm) (vRecord_one hv)
  have HX:=Lib.hid (And.intro hf (And.intro hv h6))
  clear hf hv hx hca hcs hab h6 hin
  go_wp2
  refine bodyPost_ret (results_row_tmp rfl _ _ (w.heap.size + 1 + 1) T cs (0,0) _ rfl (setRow_heap _ _ zc _ _ _ HX.out.2.2) Tryz.underlying36 rfl (by rw [hszc,HH.out.2.2.2.1];kernel_rfl)) rfl ?_
  have hbf:=below_setRow (HH.out.2.1.chain H3.out.2.1) (show w.heap.size ≤ w.heap.size + 1 + 1 by omega) cs
  exact ⟨⟨cs,true,rfl,.inr ⟨rfl,x,HX.out.1,keptB vrc_keeps HB.out (Nat.le_refl _) hbf HX.out.2.1⟩⟩,hbf⟩
theorem fnd_Record (NF : Nat) (hG : ∀ args w,(callFunc NF args).run Tryz.prog w = .ok (.enter NF args) w) (nm : Rc → List UInt8) (hN0 : NmAt NF VRc nm) (s : List UInt8) (l : List Rc) (A : Option Addr) (c n : Nat) (hn : n = l.length) (hm : n ≤ maxLen) (B0 : Nat) (w : World) (hB0 : B0 ≤ w.heap.size) (hA : RowV VRc 2 w B0 l A) :
 Calls Tryz.prog 103 #[.slice A n c,.string ⟨s.toArray⟩,.func (.func NF) #[] #[]] w (FndPost VRc s (fstO nm l s) B0 w):=by
 obtain ⟨T,N,zc,hT,hN,hzc,hzz,hag,hsz,hzv⟩:=hid_RecordT
 have e1 : ∀ y : Operand,Op.load 36 y = Op.load T y:=fun y => by rw [hT]
 have e2 : ∀ y z : Operand,Op.store 36 y z = Op.store T y z:=fun y z => by rw [hT]
 have e3 : Op.alloc 36 = Op.alloc T:=by rw [hT]
 obtain ⟨W1,hW1⟩ : ∃ W1,W1 = w.alloc (.cells zc T):=⟨_,rfl⟩
 have hb1 : Below w.heap.size w W1:=by rw [hW1];exact below_alloc w _
 have hq2 : W1.heap[w.heap.size]? = some (.cells zc T (0,0)):=by rw [hW1];exact heap_of_alloc w _
 have HI:=Lib.hid (fst_Record NF hG nm hN0 s l A c n hn hm B0 W1 (Nat.le_trans hB0 hb1.size) (rowB vrc_keeps hB0 hb1 hA))
 have HH:=Lib.hid (And.intro hA (And.intro hb1 (And.intro hq2 (And.intro hN (And.intro hzc (And.intro hzz hn))))))
 have HB:=Lib.hid hB0
 clear hB0
 clear hA hn hN0 hG hN hzc hb1 hq2 hzz
 unfold maxLen at hm
 go_enter Tryz.func103,Tryz.ntmps103
 simp only [e1,e2,e3]
 clear e1 e2 e3 hT
 go_wp2_with fail
 rw [← hW1]
 clear hW1
 refine HI.out.mono ?_
 rintro e w3 ⟨⟨cs,b,rfl,hr⟩,hb⟩
 have hzs : zc.size = N:=HH.out.2.2.2.2.1
 have hszc : cs.size = N:=by
  rcases hr with ⟨_,h,_⟩ | ⟨_,x,_,h⟩
  ·rw [h,← HH.out.2.2.2.2.2.1];exact hzs
  ·exact (vRecord_size h).trans HH.out.2.2.2.1.symm
 have hone : cs.all (·.oneCell') = true:=by
  rcases hr with ⟨_,h,_⟩ | ⟨_,x,_,h⟩
  ·rw [h];rw [List.all_toArray];rfl
  ·exact vRecord_one h
 have hst:=st_new (w:=w3) (t:=T) (hzs.trans hszc.symm) hone
 have hld:=ld_new (heap_of_alloc w3 (.cells cs T)) hszc
 have h6 : (w3.alloc (.cells cs T)).heap[w.heap.size]? = some (.cells zc T (0,0)):=heap_keep (kept_box hb HH.out.2.2.1)
 have hst6:=store_row h6 (hzs.trans hszc.symm) hone
 have H3:=Lib.hid (And.intro hr (And.intro (HH.out.2.1.chain hb) h6))
 have HD:=Lib.hid (demand_any b 7 s (w3.alloc (.cells cs T)))
 clear hr hb hone h6
 go_wp2_with fail
 refine HD.out.mono ?_
 rintro e w4 ⟨he,rfl⟩
 rcases H3.out.1 with ⟨rfl,_,ho⟩ | ⟨rfl,x,ho,hv⟩
 ·obtain rfl : e = _:=he
  exact ⟨rfl,.inr ⟨ho,rfl⟩,H3.out.2.1.chain (below_alloc w3 _)⟩
 ·obtain rfl : e = _:=he
  have HV:=Lib.hid (And.intro ho hv)
  clear ho hv
  go_wp2
  refine bodyPost_ret (results_cell_row rfl _ _ w.heap.size T cs (0,0) _ rfl (setRow_heap _ _ zc _ _ _ H3.out.2.2) Tryz.underlying36 rfl (by rw [hszc,HH.out.2.2.2.1];kernel_rfl)) rfl ?_
  have hbf:=below_setRow (H3.out.2.1.chain (below_alloc w3 (.cells cs T))) (Nat.le_refl w.heap.size) cs
  refine ⟨.inl ⟨cs,x,rfl,HV.out.1,vrc_keeps _ _ _ _ _ _ (fun q hq => ?_) (Nat.le_refl _) HV.out.2⟩,hbf⟩
  have hq2:=Nat.lt_of_lt_of_le hq HB.out
  exact (hbf.cell hq2).trans (H3.out.2.1.cell hq2).symm
theorem dif_Record (NF : Nat) (hG : ∀ args w,(callFunc NF args).run Tryz.prog w = .ok (.enter NF args) w) (nm : Rc → List UInt8) (hN0 : NmAt NF VRc nm) (l : List Rc) (hnl : ∀ x ∈ l,(nm x).length ≤ maxLen) (A : Option Addr) (c n : Nat) (hn : n = l.length) (hm : n ≤ maxLen) (B0 : Nat) (w : World) (hB0 : B0 ≤ w.heap.size) (hA : RowV VRc 2 w B0 l A) :
 Calls Tryz.prog 93 #[.slice A n c,.func (.func NF) #[] #[]] w (CkPost (diffC [] (l.map nm)) w):=by
 obtain ⟨T,N,zc,hT,hN,hzc,hzz,hag,hsz,hzv⟩:=hid_RecordT
 have e1 : ∀ y : Operand,Op.load 36 y = Op.load T y:=fun y => by rw [hT]
 have e2 : ∀ y z : Operand,Op.store 36 y z = Op.store T y z:=fun y z => by rw [hT]
 have e3 : Op.alloc 36 = Op.alloc T:=by rw [hT]
 have hmm:=@run_makeMap Tryz.prog
 have HO0:=Lib.hid (World.ownsMap_made w Tryz.prog 9 (plainElem (H:=Unit) Tryz.prog 4))
 have HB0:=Lib.hid (below_alloc w (.map #[] 0))
 have HZ : Hid (∀ w : World,(zeroValue 4).run Tryz.prog w = .ok (.bool false) w):=Lib.hid (fun w => by kernel_rfl)
 have HH:=Lib.hid (And.intro hA (And.intro hn (And.intro hN0 (And.intro hN (And.intro hzc (And.intro hB0 (And.intro hnl hm)))))))
 clear hA hn hN0 hN hzc hB0 hzz hnl
 unfold maxLen at hm
 go_enter Tryz.func93,Tryz.ntmps93
 simp only [e1,e2,e3]
 clear e1 e2 e3 hT
 go_wp2
 go_loopg [11] n (fun m j wr => ∃ k : Nat,m = n - k ∧ k ≤ n ∧ j = .int .i64 k ∧ Hid (NamesAt wr w.heap.size k (kwD ((l.map nm).take k)) ∧ Below w.heap.size w wr ∧ diffC [] ((l.map nm).take k) = none))
 case atStart => exact ⟨0,rfl,Nat.zero_le _,rfl,Lib.hid ⟨HO0.out,HB0.out,rfl⟩⟩
 case round =>
  obtain ⟨k,rfl,hk,rfl,HI⟩:=hrel
  have hk0 : (0 : Int) ≤ k:=by omega
  by_cases hlt : k < n
  ·have hki : (k : Int) < n:=by omega
   obtain ⟨x,hx⟩ : ∃ x,l[k]? = some x:=⟨l[k]'(by rw [← HH.out.2.1];exact hlt),List.getElem?_eq_getElem _⟩
   obtain ⟨a,cs,rfl,hab,hcs,hca,hv⟩:=HH.out.1 k x hx
   have hszc : cs.size = N:=hcs.trans HH.out.2.2.2.1.symm
   have hl1 : (loadCellsFrom (a.add (k * 2)) 0 N #[]).run Tryz.prog wr = .ok cs wr:=load_list (fun j v hv => (HI.out.2.1.cell (by rw [block_adds,block_adds];exact Nat.lt_of_lt_of_le hab HH.out.2.2.2.2.2.1)).trans (hca j v hv)) hszc
   have hst:=st_new (w:=wr) (t:=T) (HH.out.2.2.2.2.1.trans hszc.symm) (vRecord_one hv)
   have hld:=ld_new (heap_of_alloc wr (.cells cs T)) hszc
   have hb6:=HI.out.2.1.chain (below_alloc wr (.cells cs T))
   have HC:=Lib.hid (HH.out.2.2.1 x cs (wr.alloc (.cells cs T)) (keptB vrc_keeps HH.out.2.2.2.2.2.1 (Nat.le_trans HH.out.2.2.2.2.2.1 hb6.size) hb6 hv))
   have hxn : (l.map nm)[k]? = some (nm x):=by rw [List.getElem?_map,hx];rfl
   obtain ⟨d1,d2⟩:=diffC_take (l.map nm) [] k (nm x) hxn HI.out.2.2
   obtain ⟨r,hr⟩ : ∃ r,r = ((l.map nm).take k).contains (nm x):=⟨_,rfl⟩
   have HKy:=Lib.hid (Go.WideMaps.keyOf_string_mk Tryz.underlying9 (s:=⟨(nm x).toArray⟩) (HH.out.2.2.2.2.2.2.1 x (List.mem_of_getElem? hx)))
   have HAt : Hid ((kwD ((l.map nm).take k)).atKey (.string (nm x)) (.lit (.bool false)) = .lit (.bool r)):=Lib.hid (by rw [hr];exact kwD_at _ _)
   have HX:=Lib.hid (And.intro d1 (And.intro d2 (And.intro hr (And.intro hb6 (And.intro hxn (Nat.lt_of_lt_of_le hlt HH.out.2.2.2.2.2.2.2))))))
   obtain ⟨u,hu⟩ : ∃ u,u = nm x:=⟨_,rfl⟩
   rw [← hu] at HC HKy HAt HX
   clear hx hca hcs hv hab d1 d2 hr hxn hb6 hu
   go_wp2_with fail
   refine HC.out.mono ?_
   rintro e w3 ⟨rfl,hb⟩
   have HO3:=Lib.hid (own_on (HI.out.1.alloc (.cells cs T)) hb)
   have H3:=Lib.hid (HX.out.2.2.2.1.chain hb)
   clear hb
   go_wp2_with (refine wpList_lookup_bool _ rfl _ _ 183 rfl 9 4 (Keyed.of_law (Go.WideMaps.string_law Tryz.underlying9)) Tryz.underlying183 Tryz.underlying4 (HZ.out _) w.heap.size k _ rfl HO3.out _ _ rfl HKy.out r HAt.out ?_)
   refine (demand_any (!r) 8 u w3).mono ?_
   rintro e w4 ⟨he,rfl⟩
   cases r
   ·obtain rfl : e = _:=he
    go_wp2_with (at_mapUpdate;refine wpList_mapUpdate_own _ rfl _ _ _ 183 rfl 9 4 (Keyed.of_law (Go.WideMaps.string_law Tryz.underlying9)) Tryz.underlying183 _ w.heap.size _ _ rfl HO3.out HX.out.2.2.2.2.2 _ _ _ rfl rfl HKy.out _ _ (Go.plainElem_bool Tryz.underlying4 true) ?_;intro wk hown hgr;have HO2:=Lib.hid hown;have HG2:=Lib.hid (H3.out.trans (below_grownF hgr (Nat.le_refl _) H3.out.size));clear hown hgr)
    go_roundg (n - (k + 1))
    case measure => omega
    case rel =>
     have e1 : (l.map nm).take (k + 1) = (l.map nm).take k ++ [u]:=by rw [List.take_add_one,HX.out.2.2.2.2.1];rfl
     have hnc : ¬ (u ∈ ([] : List (List UInt8)) ∨ u ∈ (l.map nm).take k):=by
      have h:=HX.out.2.2.1
      rintro (h0 | h0)
      ·cases h0
      ·rw [List.contains_iff_mem.2 h0] at h
       cases h
     exact ⟨k + 1,rfl,by omega,by go_num,Lib.hid ⟨by rw [e1,kwD_snoc];exact HO2.out,HG2.out,HX.out.2.1 hnc⟩⟩
   ·obtain rfl : e = _:=he
    refine ⟨rfl,?_,H3.out⟩
    rw [HX.out.1 (.inr (List.contains_iff_mem.1 HX.out.2.2.1.symm))]
    rfl
  ·obtain rfl : k = n:=by omega
   go_wp2
   refine bodyPost_end (results_none rfl _ _ _) rfl ⟨?_,HI.out.2.1⟩
   have h:=HI.out.2.2
   rw [List.take_of_length_le (by rw [List.length_map,HH.out.2.1];exact Nat.le_refl _)] at h
   rw [h]
   rfl
end Go.Proofs.YtojjfdegkooknaaGreatDoor
