import Derived.Test.YtojjfdegkooknaaGreatDoorSTypT
import Derived.Test.YtojjfdegkooknaaGreatDoorSTreeMo
set_option linter.unusedVariables false
set_option linter.unusedSimpArgs false
namespace Go.Proofs.YtojjfdegkooknaaGreatDoor
section
set_option maxRecDepth 100000
set_option maxHeartbeats 8000000
open Go.RowKit Go.Lib
def qY : List Pm -> List Value
 | [] => []
 | x :: l => .string ⟨x.t.toArray⟩ :: .string ⟨x.nm.toArray⟩ :: qY l
theorem vL : ∀ l : List Pm,∀ u ∈ qY l,u.oneCell' = true
 | [],u,h => by simp [qY] at h
 | x :: l,u,h => by
   rcases List.mem_cons.1 h with rfl | h
   ·rfl
   rcases List.mem_cons.1 h with rfl | h
   ·rfl
   exact vL l u h
theorem qs2 (A1 A2 A3 A4 A5 : Option Addr) (n1 c1 n2 c2 n3 c3 n4 c4 n5 c5 S : Nat) (L1 L2 L3 L4 L5 : List Pm) (hn : n1 + n2 + n3 + n4 + n5 <= 4000000000000) (w : World) (r1 : qI w w.heap.size 2 A1 n1 (qY L1)) (r2 : qI w w.heap.size 2 A2 n2 (qY L2)) (r3 : qI w w.heap.size 2 A3 n3 (qY L3)) (r4 : qI w w.heap.size 2 A4 n4 (qY L4)) (r5 : qI w w.heap.size 2 A5 n5 (qY L5)) (k1 : w.cell? ⟨S,0,none⟩ = some (.slice A1 n1 c1)) (k2 : w.cell? ⟨S,1,none⟩ = some (.slice A2 n2 c2)) (k3 : w.cell? ⟨S,2,none⟩ = some (.slice A3 n3 c3)) (k4 : w.cell? ⟨S,3,none⟩ = some (.slice A4 n4 c4)) (k5 : w.cell? ⟨S,4,none⟩ = some (.slice A5 n5 c5)) (hS : S < w.heap.size) :
 Calls Tryz.prog 61 #[.slice (some ⟨S,0,none⟩) 5 5] w fun e w' => ∃ v,e = .returned v /\ w'.ownsRow w.heap.size 42 2 v (n1 + n2 + n3 + n4 + n5) (qY L1 ++ qY L2 ++ qY L3 ++ qY L4 ++ qY L5) /\ Below w.heap.size w w':=by
 have xW:=hZ r1
 have HR2:=hZ r2
 have HR3:=hZ r3
 have HR4:=hZ r4
 have HR5:=hZ r5
 have HK:=hZ (aZ k1 (aZ k2 (aZ k3 (aZ k4 k5))))
 obtain ⟨i0,hi,hiz,his,yM⟩:=info_parts qgu
 have zt:=hZ (aZ hi (aZ hiz (aZ his yM)))
 obtain ⟨t2,ht2⟩ : ∃ t,t = n1 + n2:=⟨_,rfl⟩
 obtain ⟨t3,ht3⟩ : ∃ t,t = t2 + n3:=⟨_,rfl⟩
 obtain ⟨t4,ht4⟩ : ∃ t,t = t3 + n4:=⟨_,rfl⟩
 obtain ⟨t5,ht5⟩ : ∃ t,t = t4 + n5:=⟨_,rfl⟩
 have hw1 : IntKind.i64.wrap (0 + (n1 : Int)) = (n1 : Int):=by rw [IntKind.wrap_i64];omega
 have hw1' : IntKind.i64.wrap (n1 : Int) = (n1 : Int):=by rw [IntKind.wrap_i64];omega
 have qk : ¬ (n1 : Int) < 0:=by omega
 have hw2 : IntKind.i64.wrap ((n1 : Int) + n2) = (t2 : Int):=by rw [IntKind.wrap_i64];omega
 have zF : ¬ (t2 : Int) < 0:=by omega
 have hw3 : IntKind.i64.wrap ((t2 : Int) + n3) = (t3 : Int):=by rw [IntKind.wrap_i64];omega
 have qt : ¬ (t3 : Int) < 0:=by omega
 have hw4 : IntKind.i64.wrap ((t3 : Int) + n4) = (t4 : Int):=by rw [IntKind.wrap_i64];omega
 have xp : ¬ (t4 : Int) < 0:=by omega
 have hw5 : IntKind.i64.wrap ((t4 : Int) + n5) = (t5 : Int):=by rw [IntKind.wrap_i64];omega
 have hb5 : ¬ (t5 : Int) < 0:=by omega
 have hN : t5 <= 4000000000000:=by omega
 rw [show n1 + n2 + n3 + n4 + n5 = t5 by omega]
 have xL:=hZ ht2
 have vS:=hZ ht3
 have HT4:=hZ ht4
 have HT5:=hZ ht5
 have HN:=hZ hn
 clear r1 r2 r3 r4 r5 hi hiz his yM ht2 ht3 ht4 ht5 hn
 go_enter Tryz.func61,Tryz.ntmps61
 go_wp2
 refine wp_loop_rounds 6 ?_
 rw [rounds_succ]
 go_wp2
 rw [rounds_succ]
 go_wp2
 rw [rounds_succ]
 go_wp2
 rw [rounds_succ]
 go_wp2
 rw [rounds_succ]
 go_wp2
 rw [rounds_succ]
 go_wp2_with (go_at_call 85;refine (qjm t5 _ rfl hN _).mono ?_;rintro e w2 ⟨v0,rfl,q1,q2⟩;have H0 : Hid (Below w.heap.size w w2 /\ w2.ownsRow w.heap.size 42 2 v0 0 []):=hZ ⟨q2,q1⟩;have d1:=(q2.cell (p:=⟨S,0,none⟩) hS).trans HK.out.1;have d2:=(q2.cell (p:=⟨S,1,none⟩) hS).trans HK.out.2.1;have d3:=(q2.cell (p:=⟨S,2,none⟩) hS).trans HK.out.2.2.1;have d4:=(q2.cell (p:=⟨S,3,none⟩) hS).trans HK.out.2.2.2.1;have d5:=(q2.cell (p:=⟨S,4,none⟩) hS).trans HK.out.2.2.2.2;clear q1 q2 k1 k2 k3 k4 k5)
 refine wp_loop_rounds 6 ?_
 rw [rounds_succ]
 go_wp2_with (at_builtin;refine qQ (o:=⟨some 33,_,_,_,_,_⟩) _ rfl _ _ 23 rfl w.heap.size 42 i0 _ 2 32 Tryz.underlying23 zt.out.1 zt.out.2.1 zt.out.2.2.1 zt.out.2.2.2 rfl (by decide) _ 0 [] rfl H0.out.2 w.heap.size A1 n1 _ (qY L1) rfl (xW.out.below H0.out.1) (vL _) (by unfold maxLen;have := HN.out;have := xL.out;have := vS.out;have := HT4.out;have := HT5.out;omega) (by have := HN.out;have := xL.out;have := vS.out;have := HT4.out;have := HT5.out;omega) H0.out.1.size ?_;intro v1 w3 o1 g1 _;have H1 : Hid (Below w.heap.size w w3 /\ w3.ownsRow w.heap.size 42 2 v1 n1 (qY L1)):=hZ ⟨H0.out.1.trans (zi H0.out.2 g1 H0.out.1.size),by simpa using o1⟩;clear o1 g1;clear d1 d2 d3 d4 d5;have d2:=(H1.out.1.cell (p:=⟨S,1,none⟩) hS).trans HK.out.2.1;have d3:=(H1.out.1.cell (p:=⟨S,2,none⟩) hS).trans HK.out.2.2.1;have d4:=(H1.out.1.cell (p:=⟨S,3,none⟩) hS).trans HK.out.2.2.2.1;have d5:=(H1.out.1.cell (p:=⟨S,4,none⟩) hS).trans HK.out.2.2.2.2)
 rw [rounds_succ]
 go_wp2_with (at_builtin;refine qQ (o:=⟨some 33,_,_,_,_,_⟩) _ rfl _ _ 23 rfl w.heap.size 42 i0 _ 2 32 Tryz.underlying23 zt.out.1 zt.out.2.1 zt.out.2.2.1 zt.out.2.2.2 rfl (by decide) _ n1 (qY L1) rfl H1.out.2 w.heap.size A2 n2 _ (qY L2) rfl (HR2.out.below H1.out.1) (vL _) (by unfold maxLen;have := HN.out;have := xL.out;have := vS.out;have := HT4.out;have := HT5.out;omega) (by have := HN.out;have := xL.out;have := vS.out;have := HT4.out;have := HT5.out;omega) H1.out.1.size ?_;intro v2 w4 o1 g1 _;have H2 : Hid (Below w.heap.size w w4 /\ w4.ownsRow w.heap.size 42 2 v2 t2 (qY L1 ++ qY L2)):=hZ ⟨H1.out.1.trans (zi H1.out.2 g1 H1.out.1.size),by rw [xL.out];exact o1⟩;clear o1 g1;clear d2 d3 d4 d5;have d3:=(H2.out.1.cell (p:=⟨S,2,none⟩) hS).trans HK.out.2.2.1;have d4:=(H2.out.1.cell (p:=⟨S,3,none⟩) hS).trans HK.out.2.2.2.1;have d5:=(H2.out.1.cell (p:=⟨S,4,none⟩) hS).trans HK.out.2.2.2.2)
 rw [rounds_succ]
 go_wp2_with (at_builtin;refine qQ (o:=⟨some 33,_,_,_,_,_⟩) _ rfl _ _ 23 rfl w.heap.size 42 i0 _ 2 32 Tryz.underlying23 zt.out.1 zt.out.2.1 zt.out.2.2.1 zt.out.2.2.2 rfl (by decide) _ t2 (qY L1 ++ qY L2) rfl H2.out.2 w.heap.size A3 n3 _ (qY L3) rfl (HR3.out.below H2.out.1) (vL _) (by unfold maxLen;have := HN.out;have := xL.out;have := vS.out;have := HT4.out;have := HT5.out;omega) (by have := HN.out;have := xL.out;have := vS.out;have := HT4.out;have := HT5.out;omega) H2.out.1.size ?_;intro v3 w5 o1 g1 _;have H3 : Hid (Below w.heap.size w w5 /\ w5.ownsRow w.heap.size 42 2 v3 t3 (qY L1 ++ qY L2 ++ qY L3)):=hZ ⟨H2.out.1.trans (zi H2.out.2 g1 H2.out.1.size),by rw [vS.out];exact o1⟩;clear o1 g1;clear d3 d4 d5;have d4:=(H3.out.1.cell (p:=⟨S,3,none⟩) hS).trans HK.out.2.2.2.1;have d5:=(H3.out.1.cell (p:=⟨S,4,none⟩) hS).trans HK.out.2.2.2.2)
 rw [rounds_succ]
 go_wp2_with (at_builtin;refine qQ (o:=⟨some 33,_,_,_,_,_⟩) _ rfl _ _ 23 rfl w.heap.size 42 i0 _ 2 32 Tryz.underlying23 zt.out.1 zt.out.2.1 zt.out.2.2.1 zt.out.2.2.2 rfl (by decide) _ t3 (qY L1 ++ qY L2 ++ qY L3) rfl H3.out.2 w.heap.size A4 n4 _ (qY L4) rfl (HR4.out.below H3.out.1) (vL _) (by unfold maxLen;have := HN.out;have := xL.out;have := vS.out;have := HT4.out;have := HT5.out;omega) (by have := HN.out;have := xL.out;have := vS.out;have := HT4.out;have := HT5.out;omega) H3.out.1.size ?_;intro v4 w6 o1 g1 _;have H4 : Hid (Below w.heap.size w w6 /\ w6.ownsRow w.heap.size 42 2 v4 t4 (qY L1 ++ qY L2 ++ qY L3 ++ qY L4)):=hZ ⟨H3.out.1.trans (zi H3.out.2 g1 H3.out.1.size),by rw [HT4.out];exact o1⟩;clear o1 g1;clear d4 d5;have d5:=(H4.out.1.cell (p:=⟨S,4,none⟩) hS).trans HK.out.2.2.2.2)
 rw [rounds_succ]
 go_wp2_with (at_builtin;refine qQ (o:=⟨some 33,_,_,_,_,_⟩) _ rfl _ _ 23 rfl w.heap.size 42 i0 _ 2 32 Tryz.underlying23 zt.out.1 zt.out.2.1 zt.out.2.2.1 zt.out.2.2.2 rfl (by decide) _ t4 (qY L1 ++ qY L2 ++ qY L3 ++ qY L4) rfl H4.out.2 w.heap.size A5 n5 _ (qY L5) rfl (HR5.out.below H4.out.1) (vL _) (by unfold maxLen;have := HN.out;have := xL.out;have := vS.out;have := HT4.out;have := HT5.out;omega) (by have := HN.out;have := xL.out;have := vS.out;have := HT4.out;have := HT5.out;omega) H4.out.1.size ?_;intro v5 w7 o1 g1 _;have H5 : Hid (Below w.heap.size w w7 /\ w7.ownsRow w.heap.size 42 2 v5 t5 (qY L1 ++ qY L2 ++ qY L3 ++ qY L4 ++ qY L5)):=hZ ⟨H4.out.1.trans (zi H4.out.2 g1 H4.out.1.size),by rw [HT5.out];exact o1⟩;clear o1 g1;clear d5)
 rw [rounds_succ]
 go_wp2
 go_ret
 exact ⟨_,rfl,H5.out.2,H5.out.1⟩
end
section
open Go.RowKit Go.Lib
theorem xG : ∀ l m : List Pm,qY (l ++ m) = qY l ++ qY m
 | [],_ => rfl
 | x :: l,m => by rw [List.cons_append,qY,qY,xG l m];rfl
theorem qlJ : ∀ l : List Pm,(qY l).length = l.length * 2
 | [] => rfl
 | x :: l => by
   rw [qY,List.length_cons,List.length_cons,qlJ l,List.length_cons]
   omega
theorem qix : ∀ (l : List Pm) (i j : Nat),j < 2 -> (qY l)[i * 2 + j]? = (l[i]?).bind fun x => ([.string ⟨x.t.toArray⟩,.string ⟨x.nm.toArray⟩] : List Value)[j]?
 | [],i,j,_ => by simp [qY]
 | x :: l,0,0,_ => by simp [qY]
 | x :: l,0,1,_ => by simp [qY]
 | x :: l,0,j + 2,h => by omega
 | x :: l,i + 1,j,hj => by
   rw [qY,show (i + 1) * 2 + j = i * 2 + j + 1 + 1 from by omega,List.getElem?_cons_succ,List.getElem?_cons_succ,qix l i j hj,List.getElem?_cons_succ]
theorem yh {w : World} {B : Nat} {l : List Pm} {A : Option Addr} (h : qD zp 2 w B l A) : qI w B 2 A l.length (qY l):=by
 refine ⟨qlJ l,fun h0 => ?_⟩
 obtain ⟨a,cs,rfl,qx,_⟩:=h 0 l[0] (List.getElem?_eq_getElem h0)
 refine ⟨a,rfl,qx,fun p u hu => ?_⟩
 have h2:=qix l (p / 2) (p % 2) (by omega)
 rw [show p / 2 * 2 + p % 2 = p from by omega,hu] at h2
 cases e : l[p / 2]? with
 | none => rw [e] at h2;cases h2
 | some x =>
   rw [e] at h2
   obtain ⟨a',cs',ha,_,_,hc,hv,_⟩:=h (p / 2) x e
   obtain rfl:=Option.some.inj ha
   have h3:=hc (p % 2) u (by rw [hv];rw [List.getElem?_toArray];exact h2.symm)
   rw [jz,show p / 2 * 2 + p % 2 = p from by omega] at h3
   exact h3
theorem qhH {w : World} {B n : Nat} {l : List Pm} {A : Option Addr} (hn : n = l.length) (h : qI w B 2 A n (qY l)) (hl : ∀ x ∈ l,x.t.length <= maxLen /\ x.nm.length <= maxLen) : qD zp 2 w B l A:=by
 intro i x hx
 obtain ⟨hi,_⟩:=List.getElem?_eq_some_iff.1 hx
 obtain ⟨a,hA,qx,hc⟩:=h.2 (by omega)
 refine ⟨a,#[.string ⟨x.t.toArray⟩,.string ⟨x.nm.toArray⟩],hA,qx,rfl,fun j v hv => ?_,rfl,hl x (List.mem_of_getElem? hx)⟩
 have hj : j < 2:=by
  obtain ⟨h,_⟩:=Array.getElem?_eq_some_iff.1 hv
  exact h
 rw [jz]
 refine hc _ _ ?_
 rw [qix l i j hj,hx]
 simpa using hv
theorem yv {w : World} {B : Nat} {l : List Pm} {A : Option Addr} (h : qD zp 2 w B l A) : ∀ x ∈ l,x.t.length <= maxLen /\ x.nm.length <= maxLen:=by
 intro x hx
 obtain ⟨i,hi,he⟩:=List.getElem_of_mem hx
 obtain ⟨_,_,_,_,_,_,hv⟩:=h i x (by rw [List.getElem?_eq_getElem hi,he])
 exact hv.2
theorem qg7 {w : World} {base : Nat} {e : TypeId} {size n c : Nat} {A : Option Addr} {xs : List Value} (h : w.ownsRow base e size (.slice A n c) n xs) : ∀ a,A = some a -> base <= a.block:=by
 intro a ha
 rcases h.2 with ⟨h1,_⟩ | ⟨g,cap,cur,h1,h2,_⟩
 ·injection h1 with h1
  rw [h1] at ha
  cases ha
 ·injection h1 with h1
  rw [h1] at ha
  obtain rfl:=Option.some.inj ha
  exact h2
end
section
set_option maxRecDepth 100000
set_option maxHeartbeats 8000000
open Go.RowKit Go.Lib
def yE (gs : List Pm) (x : Pr) : List Pm:=gs ++ x.ps ++ x.lg ++ yb x ++ x.lo
theorem qnY (gs : List Pm) (x : Pr) (d : PAd) (G : Option Addr) (n c B0 : Nat) (hn : n = gs.length) (w : World) (hB : B0 <= w.heap.size) (hG : qD zp 2 w B0 gs G) (hP : xJ w B0 d x) (hs : n + x.ps.length + x.lg.length + x.lo.length <= 3999999999999) :
 Calls Tryz.prog 44 #[.slice G n c,.agg (jJ d x)] w fun e w' => (∃ (A : Option Addr) (m k : Nat),e = .returned (.slice A m k) /\ m = (yE gs x).length /\ qD zp 2 w' w'.heap.size (yE gs x) A /\ (∀ a,A = some a -> w.heap.size <= a.block)) /\ Below w.heap.size w w':=by
 obtain ⟨W6,qW⟩ : ∃ W6,W6 = w.alloc (.cells (jJ d x) 46):=⟨_,rfl⟩
 have qR : Below w.heap.size w W6:=by rw [qW];exact qd w _
 have xu : W6.heap[w.heap.size]? = some (.cells (jJ d x) 46):=by rw [qW];exact qe w _
 have zE : Tryz.prog.follows .mixedOrders = true:=by kernel_rfl
 have HF : Hid (∀ W,Calls Tryz.prog 62 #[.agg (jJ d x)] W fun e w' => (∃ (R : Option Addr) (n c : Nat),e = .returned (.slice R n c) /\ n = (yb x).length /\ qD zp 2 w' w'.heap.size (yb x) R) /\ Below W.heap.size W w'):=hZ (fun W => qhF x d W hP.1.2.2.2.1 hP.1.2.2.2.2.1)
 obtain ⟨n1,h1⟩ : ∃ n,n = x.ps.length:=⟨_,rfl⟩
 obtain ⟨n2,h2⟩ : ∃ n,n = x.lg.length:=⟨_,rfl⟩
 obtain ⟨n3,h3⟩ : ∃ n,n = x.rq.length:=⟨_,rfl⟩
 obtain ⟨n4,h4⟩ : ∃ n,n = x.es.length:=⟨_,rfl⟩
 obtain ⟨n5,h5⟩ : ∃ n,n = x.lo.length:=⟨_,rfl⟩
 obtain ⟨n6,h6⟩ : ∃ n,n = x.bd.length:=⟨_,rfl⟩
 have HH:=hZ (aZ hB (aZ hG (aZ hP (aZ hn (aZ h1 (aZ h2 (aZ h5 hs)))))))
 unfold jJ at xu qW HF ⊢
 rw [<- h1,<- h2,<- h3,<- h4,<- h5,<- h6] at xu qW HF
 rw [<- h1,<- h2,<- h3,<- h4,<- h5,<- h6]
 clear h1 h2 h3 h4 h5 h6 hs hG hP hn hB
 obtain ⟨S,hS⟩ : ∃ S : World -> Prop,S = fun W => Below W6.heap.size W6 W:=⟨_,rfl⟩
 have qo : Hid (∀ W,Below W6.heap.size W6 W -> S W):=hZ (fun W hb => by rw [hS];exact hb)
 have qX : Hid (∀ W,S W -> W.heap[w.heap.size]? = some (.cells #[.string ⟨x.nm.toArray⟩,.int .i64 x.ln,.int .i64 x.co,.slice d.p n1 d.np,.slice d.g n2 d.ng,.string ⟨x.rt.toArray⟩,.string ⟨x.rn.toArray⟩,.bool x.ct,.slice d.r n3 d.nr,.slice d.e n4 d.ne,.slice d.l n5 d.nl,.slice d.b n6 d.nb] 46)):=hZ (fun W hs => by
  rw [hS] at hs
  exact qg hs xu)
 have ze:=hZ (Below.refl W6.heap.size W6).drew
 have H6:=hZ qR
 have g0:=qo.out _ ze.out
 clear qR xu hS
 go_enter Tryz.func44,Tryz.ntmps44
 go_wp2
 rw [<- qW]
 clear qW
 refine wp_region_held (S:=S) zE ?_
 change wpAnyH _ _ _ _ _ 12 #[false,false,false,false,false,false,false,false,false,false,false,false] _ W6.drew
 refine tk 0 5 (.slice G n c) g0 ?v ?_
 case v => intro Wx hSx;go_simp
 refine tk 1 6 (.pointer (some ⟨w.heap.size,3,none⟩)) g0 ?v ?_
 case v => intro Wx hSx;go_simp
 refine tk 3 8 (.pointer (some ⟨w.heap.size,4,none⟩)) g0 ?v ?_
 case v => intro Wx hSx;go_simp
 refine tk 5 10 (.agg #[.string ⟨x.nm.toArray⟩,.int .i64 x.ln,.int .i64 x.co,.slice d.p n1 d.np,.slice d.g n2 d.ng,.string ⟨x.rt.toArray⟩,.string ⟨x.rn.toArray⟩,.bool x.ct,.slice d.r n3 d.nr,.slice d.e n4 d.ne,.slice d.l n5 d.nl,.slice d.b n6 d.nb]) g0 ?v ?_
 case v =>
  intro Wx hSx
  have hq:=qX.out Wx hSx
  have z0:=qc hq 0 rfl
  have z1:=qc hq 1 rfl
  have z2:=qc hq 2 rfl
  have z3:=qc hq 3 rfl
  have z4:=qc hq 4 rfl
  have z5:=qc hq 5 rfl
  have z6:=qc hq 6 rfl
  have z7:=qc hq 7 rfl
  have z8:=qc hq 8 rfl
  have z9:=qc hq 9 rfl
  have z10:=qc hq 10 rfl
  have z11:=qc hq 11 rfl
  clear hq
  go_simp
 refine tk 7 12 (.pointer (some ⟨w.heap.size,10,none⟩)) g0 ?v ?_
 case v => intro Wx hSx;go_simp
 try simp only [qf]
 refine tk 2 7 (.slice d.p n1 d.np) g0 ?v ?_
 case v => intro Wx hSx;have z:=qc (qX.out Wx hSx) 3 rfl;go_simp
 refine tk 4 9 (.slice d.g n2 d.ng) g0 ?v ?_
 case v => intro Wx hSx;have z:=qc (qX.out Wx hSx) 4 rfl;go_simp
 refine tk 8 13 (.slice d.l n5 d.nl) g0 ?v ?_
 case v => intro Wx hSx;have z:=qc (qX.out Wx hSx) 10 rfl;go_simp
 try simp only [qf]
 refine o1 6 (fun K hK => ?_)
 go_simp
 (with_reducible refine (HF.out _).mono ?_)
 rintro e w3 ⟨⟨R,rn,rc,rfl,hrn,qL⟩,qt⟩
 have H3:=hZ (ze.out.chain qt)
 have HR:=hZ (aZ hrn qL)
 clear qt hrn qL
 refine hK _ _ (qo.out _ H3.out) ?_
 clear hK K
 try simp only [qf]
 refine o1 9 (fun K hK => ?_)
 go_simp
 obtain ⟨W4,hW4⟩ : ∃ W4,W4 = w3.alloc (.cells #[.slice G n c,.slice d.p n1 d.np,.slice d.g n2 d.ng,.slice R rn rc,.slice d.l n5 d.nl] 23):=⟨_,rfl⟩
 rw [<- hW4]
 have qf5 : Below w3.heap.size w3 W4:=by rw [hW4];exact qd w3 _
 have hp4 : W4.heap[w3.heap.size]? = some (.cells #[.slice G n c,.slice d.p n1 d.np,.slice d.g n2 d.ng,.slice R rn rc,.slice d.l n5 d.nl] 23):=by rw [hW4];exact qe w3 _
 have h34 : w3.heap.size < W4.heap.size:=by rw [hW4,World.size_alloc];exact Nat.lt_succ_self _
 have H4:=hZ (H3.out.chain qf5)
 have yA:=H6.out.chain H4.out
 obtain ⟨hB,hG,hP,hn,h1,h2,h5,hs⟩:=HH.out
 obtain ⟨_,rp,rg,_,_,rl,_⟩:=hP
 have hB4 : B0 <= W4.heap.size:=Nat.le_trans hB yA.size
 have HC : Hid (Calls Tryz.prog 61 #[.slice (some ⟨w3.heap.size,0,none⟩) 5 5] W4 fun e w' => ∃ v,e = .returned v /\ w'.ownsRow W4.heap.size 42 2 v (n + n1 + n2 + rn + n5) (qY gs ++ qY x.ps ++ qY x.lg ++ qY (yb x) ++ qY x.lo) /\ Below W4.heap.size W4 w'):=hZ (by
  refine qs2 G d.p d.g R d.l n c n1 d.np n2 d.ng rn rc n5 d.nl w3.heap.size gs x.ps x.lg (yb x) x.lo ?_ W4 ?_ ?_ ?_ ?_ ?_ ?_ ?_ ?_ ?_ ?_ h34
  ·have := qgo x
   have := HR.out.1
   omega
  ·have := (yh (yB qT hB yA hG)).more hB4
   rw [hn]
   exact this
  ·have := (yh (yB qT hB yA (zm rp))).more hB4
   rw [h1]
   exact this
  ·have := (yh (yB qT hB yA (zm rg))).more hB4
   rw [h2]
   exact this
  ·have := (yh (yB qT (Nat.le_refl _) qf5 HR.out.2)).more (Nat.le_of_lt h34)
   rw [HR.out.1]
   exact this
  ·have := (yh (yB qT hB yA (zm rl))).more hB4
   rw [h5]
   exact this
  all_goals exact qc hp4 _ rfl)
 have HL : Hid ((∀ y ∈ yE gs x,y.t.length <= maxLen /\ y.nm.length <= maxLen) /\ n + n1 + n2 + rn + n5 = (yE gs x).length /\ qY gs ++ qY x.ps ++ qY x.lg ++ qY (yb x) ++ qY x.lo = qY (yE gs x)):=hZ (by
  refine ⟨fun y hy => ?_,?_,?_⟩
  ·unfold yE at hy
   simp only [List.mem_append] at hy
   rcases hy with (((h | h) | h) | h) | h
   ·exact yv hG y h
   ·exact yv (zm rp) y h
   ·exact yv (zm rg) y h
   ·exact yv HR.out.2 y h
   ·exact yv (zm rl) y h
  ·unfold yE
   simp only [List.length_append]
   rw [<- hn,<- h1,<- h2,<- HR.out.1,<- h5]
  ·unfold yE
   simp only [xG])
 refine hK _ _ (qo.out _ H4.out) ?_
 clear hK K qf5 hp4 h34 yA hB hG hn h1 h2 h5 hs rp rg rl hB4 hW4
 try simp only [qf]
 refine o1 10 (fun K hK => ?_)
 go_simp
 (with_reducible refine HC.out.mono ?_)
 rintro e w5 ⟨v,rfl,hv,hb5⟩
 have H5:=hZ (H4.out.chain hb5)
 have HV:=hZ hv
 clear hb5 hv
 refine hK _ _ (qo.out _ H5.out) ?_
 clear hK K
 try simp only [qf]
 refine o1 11 (fun K hK => ?_)
 go_simp
 refine hK _ _ (qo.out _ H5.out) ?_
 clear hK K
 refine wpAnyH_done (by kernel_rfl) ?_ _
 go_wp2
 go_ret
 obtain ⟨A,k,rfl⟩:=yq HV.out
 refine ⟨⟨A,_,k,rfl,HL.out.2.1,?_,fun a ha => Nat.le_trans (H6.out.chain H4.out).size (qg7 HV.out a ha)⟩,H6.out.chain H5.out⟩
 refine qhH HL.out.2.1 ?_ HL.out.1
 have h:=qI.of_own HV.out
 rw [HL.out.2.2] at h
 exact h
end
end Go.Proofs.YtojjfdegkooknaaGreatDoor
