import Derived.Test.YtojjfdegkooknaaGreatDoorQTypT
import Derived.Test.YtojjfdegkooknaaGreatDoorQTreeMo
set_option linter.unusedVariables false
set_option linter.unusedSimpArgs false
namespace Go.Proofs.YtojjfdegkooknaaGreatDoor
set_option maxRecDepth 100000
set_option maxHeartbeats 8000000
open Go.RowKit Go.Lib
def pcL : List Pm → List Value
 | [] => []
 | x :: l => .string ⟨x.t.toArray⟩ :: .string ⟨x.nm.toArray⟩ :: pcL l
theorem pcL_one : ∀ l : List Pm,∀ u ∈ pcL l,u.oneCell' = true
 | [],u,h => by simp [pcL] at h
 | x :: l,u,h => by
   rcases List.mem_cons.1 h with rfl | h
   ·rfl
   rcases List.mem_cons.1 h with rfl | h
   ·rfl
   exact pcL_one l u h
theorem concat5 (A1 A2 A3 A4 A5 : Option Addr) (n1 c1 n2 c2 n3 c3 n4 c4 n5 c5 S : Nat) (L1 L2 L3 L4 L5 : List Pm) (hn : n1 + n2 + n3 + n4 + n5 ≤ 4000000000000) (w : World) (r1 : Reads w w.heap.size 2 A1 n1 (pcL L1)) (r2 : Reads w w.heap.size 2 A2 n2 (pcL L2)) (r3 : Reads w w.heap.size 2 A3 n3 (pcL L3)) (r4 : Reads w w.heap.size 2 A4 n4 (pcL L4)) (r5 : Reads w w.heap.size 2 A5 n5 (pcL L5)) (k1 : w.cell? ⟨S,0,none⟩ = some (.slice A1 n1 c1)) (k2 : w.cell? ⟨S,1,none⟩ = some (.slice A2 n2 c2)) (k3 : w.cell? ⟨S,2,none⟩ = some (.slice A3 n3 c3)) (k4 : w.cell? ⟨S,3,none⟩ = some (.slice A4 n4 c4)) (k5 : w.cell? ⟨S,4,none⟩ = some (.slice A5 n5 c5)) (hS : S < w.heap.size) :
 Calls Tryz.prog 61 #[.slice (some ⟨S,0,none⟩) 5 5] w fun e w' => ∃ v,e = .returned v ∧ w'.ownsRow w.heap.size 42 2 v (n1 + n2 + n3 + n4 + n5) (pcL L1 ++ pcL L2 ++ pcL L3 ++ pcL L4 ++ pcL L5) ∧ Below w.heap.size w w':=by
 have HR1:=Lib.hid r1
 have HR2:=Lib.hid r2
 have HR3:=Lib.hid r3
 have HR4:=Lib.hid r4
 have HR5:=Lib.hid r5
 have HK:=Lib.hid (And.intro k1 (And.intro k2 (And.intro k3 (And.intro k4 k5))))
 obtain ⟨i0,hi,hiz,his,hib⟩:=info_parts infoPmV
 have HI0:=Lib.hid (And.intro hi (And.intro hiz (And.intro his hib)))
 obtain ⟨t2,ht2⟩ : ∃ t,t = n1 + n2:=⟨_,rfl⟩
 obtain ⟨t3,ht3⟩ : ∃ t,t = t2 + n3:=⟨_,rfl⟩
 obtain ⟨t4,ht4⟩ : ∃ t,t = t3 + n4:=⟨_,rfl⟩
 obtain ⟨t5,ht5⟩ : ∃ t,t = t4 + n5:=⟨_,rfl⟩
 have hw1 : IntKind.i64.wrap (0 + (n1 : Int)) = (n1 : Int):=by rw [IntKind.wrap_i64];omega
 have hw1' : IntKind.i64.wrap (n1 : Int) = (n1 : Int):=by rw [IntKind.wrap_i64];omega
 have hb1 : ¬ (n1 : Int) < 0:=by omega
 have hw2 : IntKind.i64.wrap ((n1 : Int) + n2) = (t2 : Int):=by rw [IntKind.wrap_i64];omega
 have hb2 : ¬ (t2 : Int) < 0:=by omega
 have hw3 : IntKind.i64.wrap ((t2 : Int) + n3) = (t3 : Int):=by rw [IntKind.wrap_i64];omega
 have hb3 : ¬ (t3 : Int) < 0:=by omega
 have hw4 : IntKind.i64.wrap ((t3 : Int) + n4) = (t4 : Int):=by rw [IntKind.wrap_i64];omega
 have hb4 : ¬ (t4 : Int) < 0:=by omega
 have hw5 : IntKind.i64.wrap ((t4 : Int) + n5) = (t5 : Int):=by rw [IntKind.wrap_i64];omega
 have hb5 : ¬ (t5 : Int) < 0:=by omega
 have hN : t5 ≤ 4000000000000:=by omega
 rw [show n1 + n2 + n3 + n4 + n5 = t5 by omega]
 have HT2:=Lib.hid ht2
 have HT3:=Lib.hid ht3
 have HT4:=Lib.hid ht4
 have HT5:=Lib.hid ht5
 have HN:=Lib.hid hn
 clear r1 r2 r3 r4 r5 hi hiz his hib ht2 ht3 ht4 ht5 hn
 go_enter Tryz.func61,Tryz.ntmps61
 go_wp2
 refine wp_loop_rounds 6 ?_
 rw [rounds_succ]
 go_wp2
 rw [rounds_succ]
 go_wp2
 rw [rounds_succ]
 go_wp2
 rw [rounds_succ]
 go_wp2
 rw [rounds_succ]
 go_wp2
 rw [rounds_succ]
 go_wp2_with (go_at_call 85;refine (growp_nil t5 _ rfl hN _).mono ?_;rintro e w2 ⟨v0,rfl,q1,q2⟩;have H0 : Hid (Below w.heap.size w w2 ∧ w2.ownsRow w.heap.size 42 2 v0 0 []):=Lib.hid ⟨q2,q1⟩;have d1:=(q2.cell (p:=⟨S,0,none⟩) hS).trans HK.out.1;have d2:=(q2.cell (p:=⟨S,1,none⟩) hS).trans HK.out.2.1;have d3:=(q2.cell (p:=⟨S,2,none⟩) hS).trans HK.out.2.2.1;have d4:=(q2.cell (p:=⟨S,3,none⟩) hS).trans HK.out.2.2.2.1;have d5:=(q2.cell (p:=⟨S,4,none⟩) hS).trans HK.out.2.2.2.2;clear q1 q2 k1 k2 k3 k4 k5)
 refine wp_loop_rounds 6 ?_
 rw [rounds_succ]
 go_wp2_with (at_builtin;refine wpList_append_any (o:=⟨some 33,_,_,_,_,_⟩) _ rfl _ _ 23 rfl w.heap.size 42 i0 _ 2 32 Tryz.underlying23 HI0.out.1 HI0.out.2.1 HI0.out.2.2.1 HI0.out.2.2.2 rfl (by decide) _ 0 [] rfl H0.out.2 w.heap.size A1 n1 _ (pcL L1) rfl (HR1.out.below H0.out.1) (pcL_one _) (by unfold maxLen;have := HN.out;have := HT2.out;have := HT3.out;have := HT4.out;have := HT5.out;omega) (by have := HN.out;have := HT2.out;have := HT3.out;have := HT4.out;have := HT5.out;omega) H0.out.1.size ?_;intro v1 w3 o1 g1 _;have H1 : Hid (Below w.heap.size w w3 ∧ w3.ownsRow w.heap.size 42 2 v1 n1 (pcL L1)):=Lib.hid ⟨H0.out.1.trans (below_grown H0.out.2 g1 H0.out.1.size),by simpa using o1⟩;clear o1 g1;clear d1 d2 d3 d4 d5;have d2:=(H1.out.1.cell (p:=⟨S,1,none⟩) hS).trans HK.out.2.1;have d3:=(H1.out.1.cell (p:=⟨S,2,none⟩) hS).trans HK.out.2.2.1;have d4:=(H1.out.1.cell (p:=⟨S,3,none⟩) hS).trans HK.out.2.2.2.1;have d5:=(H1.out.1.cell (p:=⟨S,4,none⟩) hS).trans HK.out.2.2.2.2)
 rw [rounds_succ]
 go_wp2_with (at_builtin;refine wpList_append_any (o:=⟨some 33,_,_,_,_,_⟩) _ rfl _ _ 23 rfl w.heap.size 42 i0 _ 2 32 Tryz.underlying23 HI0.out.1 HI0.out.2.1 HI0.out.2.2.1 HI0.out.2.2.2 rfl (by decide) _ n1 (pcL L1) rfl H1.out.2 w.heap.size A2 n2 _ (pcL L2) rfl (HR2.out.below H1.out.1) (pcL_one _) (by unfold maxLen;have := HN.out;have := HT2.out;have := HT3.out;have := HT4.out;have := HT5.out;omega) (by have := HN.out;have := HT2.out;have := HT3.out;have := HT4.out;have := HT5.out;omega) H1.out.1.size ?_;intro v2 w4 o1 g1 _;have H2 : Hid (Below w.heap.size w w4 ∧ w4.ownsRow w.heap.size 42 2 v2 t2 (pcL L1 ++ pcL L2)):=Lib.hid ⟨H1.out.1.trans (below_grown H1.out.2 g1 H1.out.1.size),by rw [HT2.out];exact o1⟩;clear o1 g1;clear d2 d3 d4 d5;have d3:=(H2.out.1.cell (p:=⟨S,2,none⟩) hS).trans HK.out.2.2.1;have d4:=(H2.out.1.cell (p:=⟨S,3,none⟩) hS).trans HK.out.2.2.2.1;have d5:=(H2.out.1.cell (p:=⟨S,4,none⟩) hS).trans HK.out.2.2.2.2)
 rw [rounds_succ]
 go_wp2_with (at_builtin;refine wpList_append_any (o:=⟨some 33,_,_,_,_,_⟩) _ rfl _ _ 23 rfl w.heap.size 42 i0 _ 2 32 Tryz.underlying23 HI0.out.1 HI0.out.2.1 HI0.out.2.2.1 HI0.out.2.2.2 rfl (by decide) _ t2 (pcL L1 ++ pcL L2) rfl H2.out.2 w.heap.size A3 n3 _ (pcL L3) rfl (HR3.out.below H2.out.1) (pcL_one _) (by unfold maxLen;have := HN.out;have := HT2.out;have := HT3.out;have := HT4.out;have := HT5.out;omega) (by have := HN.out;have := HT2.out;have := HT3.out;have := HT4.out;have := HT5.out;omega) H2.out.1.size ?_;intro v3 w5 o1 g1 _;have H3 : Hid (Below w.heap.size w w5 ∧ w5.ownsRow w.heap.size 42 2 v3 t3 (pcL L1 ++ pcL L2 ++ pcL L3)):=Lib.hid ⟨H2.out.1.trans (below_grown H2.out.2 g1 H2.out.1.size),by rw [HT3.out];exact o1⟩;clear o1 g1;clear d3 d4 d5;have d4:=(H3.out.1.cell (p:=⟨S,3,none⟩) hS).trans HK.out.2.2.2.1;have d5:=(H3.out.1.cell (p:=⟨S,4,none⟩) hS).trans HK.out.2.2.2.2)
 rw [rounds_succ]
 go_wp2_with (at_builtin;refine wpList_append_any (o:=⟨some 33,_,_,_,_,_⟩) _ rfl _ _ 23 rfl w.heap.size 42 i0 _ 2 32 Tryz.underlying23 HI0.out.1 HI0.out.2.1 HI0.out.2.2.1 HI0.out.2.2.2 rfl (by decide) _ t3 (pcL L1 ++ pcL L2 ++ pcL L3) rfl H3.out.2 w.heap.size A4 n4 _ (pcL L4) rfl (HR4.out.below H3.out.1) (pcL_one _) (by unfold maxLen;have := HN.out;have := HT2.out;have := HT3.out;have := HT4.out;have := HT5.out;omega) (by have := HN.out;have := HT2.out;have := HT3.out;have := HT4.out;have := HT5.out;omega) H3.out.1.size ?_;intro v4 w6 o1 g1 _;have H4 : Hid (Below w.heap.size w w6 ∧ w6.ownsRow w.heap.size 42 2 v4 t4 (pcL L1 ++ pcL L2 ++ pcL L3 ++ pcL L4)):=Lib.hid ⟨H3.out.1.trans (below_grown H3.out.2 g1 H3.out.1.size),by rw [HT4.out];exact o1⟩;clear o1 g1;clear d4 d5;have d5:=(H4.out.1.cell (p:=⟨S,4,none⟩) hS).trans HK.out.2.2.2.2)
 rw [rounds_succ]
 go_wp2_with (at_builtin;refine wpList_append_any (o:=⟨some 33,_,_,_,_,_⟩) _ rfl _ _ 23 rfl w.heap.size 42 i0 _ 2 32 Tryz.underlying23 HI0.out.1 HI0.out.2.1 HI0.out.2.2.1 HI0.out.2.2.2 rfl (by decide) _ t4 (pcL L1 ++ pcL L2 ++ pcL L3 ++ pcL L4) rfl H4.out.2 w.heap.size A5 n5 _ (pcL L5) rfl (HR5.out.below H4.out.1) (pcL_one _) (by unfold maxLen;have := HN.out;have := HT2.out;have := HT3.out;have := HT4.out;have := HT5.out;omega) (by have := HN.out;have := HT2.out;have := HT3.out;have := HT4.out;have := HT5.out;omega) H4.out.1.size ?_;intro v5 w7 o1 g1 _;have H5 : Hid (Below w.heap.size w w7 ∧ w7.ownsRow w.heap.size 42 2 v5 t5 (pcL L1 ++ pcL L2 ++ pcL L3 ++ pcL L4 ++ pcL L5)):=Lib.hid ⟨H4.out.1.trans (below_grown H4.out.2 g1 H4.out.1.size),by rw [HT5.out];exact o1⟩;clear o1 g1;clear d5)
 rw [rounds_succ]
 go_wp2
 go_ret
 exact ⟨_,rfl,H5.out.2,H5.out.1⟩
end Go.Proofs.YtojjfdegkooknaaGreatDoor
namespace Go.Proofs.YtojjfdegkooknaaGreatDoor
open Go.RowKit Go.Lib
theorem pcL_append : ∀ l m : List Pm,pcL (l ++ m) = pcL l ++ pcL m
 | [],_ => rfl
 | x :: l,m => by rw [List.cons_append,pcL,pcL,pcL_append l m];rfl
theorem pcL_len : ∀ l : List Pm,(pcL l).length = l.length * 2
 | [] => rfl
 | x :: l => by
   rw [pcL,List.length_cons,List.length_cons,pcL_len l,List.length_cons]
   omega
theorem pcL_get : ∀ (l : List Pm) (i j : Nat),j < 2 → (pcL l)[i * 2 + j]? = (l[i]?).bind fun x => ([.string ⟨x.t.toArray⟩,.string ⟨x.nm.toArray⟩] : List Value)[j]?
 | [],i,j,_ => by simp [pcL]
 | x :: l,0,0,_ => by simp [pcL]
 | x :: l,0,1,_ => by simp [pcL]
 | x :: l,0,j + 2,h => by omega
 | x :: l,i + 1,j,hj => by
   rw [pcL,show (i + 1) * 2 + j = i * 2 + j + 1 + 1 from by omega,List.getElem?_cons_succ,List.getElem?_cons_succ,pcL_get l i j hj,List.getElem?_cons_succ]
theorem pc_reads {w : World} {B : Nat} {l : List Pm} {A : Option Addr} (h : RowV VPm 2 w B l A) : Reads w B 2 A l.length (pcL l):=by
 refine ⟨pcL_len l,fun h0 => ?_⟩
 obtain ⟨a,cs,rfl,hab,_⟩:=h 0 l[0] (List.getElem?_eq_getElem h0)
 refine ⟨a,rfl,hab,fun p u hu => ?_⟩
 have h2:=pcL_get l (p / 2) (p % 2) (by omega)
 rw [show p / 2 * 2 + p % 2 = p from by omega,hu] at h2
 cases e : l[p / 2]? with
 | none => rw [e] at h2;cases h2
 | some x =>
   rw [e] at h2
   obtain ⟨a',cs',ha,_,_,hc,hv,_⟩:=h (p / 2) x e
   obtain rfl:=Option.some.inj ha
   have h3:=hc (p % 2) u (by rw [hv];rw [List.getElem?_toArray];exact h2.symm)
   rw [add_of_add,show p / 2 * 2 + p % 2 = p from by omega] at h3
   exact h3
theorem pc_row {w : World} {B n : Nat} {l : List Pm} {A : Option Addr} (hn : n = l.length) (h : Reads w B 2 A n (pcL l)) (hl : ∀ x ∈ l,x.t.length ≤ maxLen ∧ x.nm.length ≤ maxLen) : RowV VPm 2 w B l A:=by
 intro i x hx
 obtain ⟨hi,_⟩:=List.getElem?_eq_some_iff.1 hx
 obtain ⟨a,hA,hab,hc⟩:=h.2 (by omega)
 refine ⟨a,#[.string ⟨x.t.toArray⟩,.string ⟨x.nm.toArray⟩],hA,hab,rfl,fun j v hv => ?_,rfl,hl x (List.mem_of_getElem? hx)⟩
 have hj : j < 2:=by
  obtain ⟨h,_⟩:=Array.getElem?_eq_some_iff.1 hv
  exact h
 rw [add_of_add]
 refine hc _ _ ?_
 rw [pcL_get l i j hj,hx]
 simpa using hv
theorem pm_lens' {w : World} {B : Nat} {l : List Pm} {A : Option Addr} (h : RowV VPm 2 w B l A) : ∀ x ∈ l,x.t.length ≤ maxLen ∧ x.nm.length ≤ maxLen:=by
 intro x hx
 obtain ⟨i,hi,he⟩:=List.getElem_of_mem hx
 obtain ⟨_,_,_,_,_,_,hv⟩:=h i x (by rw [List.getElem?_eq_getElem hi,he])
 exact hv.2
theorem own_addr {w : World} {base : Nat} {e : TypeId} {size n c : Nat} {A : Option Addr} {xs : List Value} (h : w.ownsRow base e size (.slice A n c) n xs) : ∀ a,A = some a → base ≤ a.block:=by
 intro a ha
 rcases h.2 with ⟨h1,_⟩ | ⟨g,cap,cur,h1,h2,_⟩
 ·injection h1 with h1
  rw [h1] at ha
  cases ha
 ·injection h1 with h1
  rw [h1] at ha
  obtain rfl:=Option.some.inj ha
  exact h2
end Go.Proofs.YtojjfdegkooknaaGreatDoor
namespace Go.Proofs.YtojjfdegkooknaaGreatDoor
set_option maxRecDepth 100000
set_option maxHeartbeats 8000000
open Go.RowKit Go.Lib
def scopeL (gs : List Pm) (x : Pr) : List Pm:=gs ++ x.ps ++ x.lg ++ resL x ++ x.lo
theorem scope_any (gs : List Pm) (x : Pr) (d : PAd) (G : Option Addr) (n c B0 : Nat) (hn : n = gs.length) (w : World) (hB : B0 ≤ w.heap.size) (hG : RowV VPm 2 w B0 gs G) (hP : PrOwn w B0 d x) (hs : n + x.ps.length + x.lg.length + x.lo.length ≤ 3999999999999) :
 Calls Tryz.prog 44 #[.slice G n c,.agg (prCs d x)] w fun e w' => (∃ (A : Option Addr) (m k : Nat),e = .returned (.slice A m k) ∧ m = (scopeL gs x).length ∧ RowV VPm 2 w' w'.heap.size (scopeL gs x) A ∧ (∀ a,A = some a → w.heap.size ≤ a.block)) ∧ Below w.heap.size w w':=by
 obtain ⟨W6,hW6⟩ : ∃ W6,W6 = w.alloc (.cells (prCs d x) 46):=⟨_,rfl⟩
 have hb6 : Below w.heap.size w W6:=by rw [hW6];exact below_alloc w _
 have hp6 : W6.heap[w.heap.size]? = some (.cells (prCs d x) 46):=by rw [hW6];exact heap_of_alloc w _
 have hmx : Tryz.prog.follows .mixedOrders = true:=by kernel_rfl
 have HF : Hid (∀ W,Calls Tryz.prog 62 #[.agg (prCs d x)] W fun e w' => (∃ (R : Option Addr) (n c : Nat),e = .returned (.slice R n c) ∧ n = (resL x).length ∧ RowV VPm 2 w' w'.heap.size (resL x) R) ∧ Below W.heap.size W w'):=Lib.hid (fun W => result_any x d W hP.1.2.2.2.1 hP.1.2.2.2.2.1)
 obtain ⟨n1,h1⟩ : ∃ n,n = x.ps.length:=⟨_,rfl⟩
 obtain ⟨n2,h2⟩ : ∃ n,n = x.lg.length:=⟨_,rfl⟩
 obtain ⟨n3,h3⟩ : ∃ n,n = x.rq.length:=⟨_,rfl⟩
 obtain ⟨n4,h4⟩ : ∃ n,n = x.es.length:=⟨_,rfl⟩
 obtain ⟨n5,h5⟩ : ∃ n,n = x.lo.length:=⟨_,rfl⟩
 obtain ⟨n6,h6⟩ : ∃ n,n = x.bd.length:=⟨_,rfl⟩
 have HH:=Lib.hid (And.intro hB (And.intro hG (And.intro hP (And.intro hn (And.intro h1 (And.intro h2 (And.intro h5 hs)))))))
 unfold prCs at hp6 hW6 HF ⊢
 rw [← h1,← h2,← h3,← h4,← h5,← h6] at hp6 hW6 HF
 rw [← h1,← h2,← h3,← h4,← h5,← h6]
 clear h1 h2 h3 h4 h5 h6 hs hG hP hn hB
 obtain ⟨S,hS⟩ : ∃ S : World → Prop,S = fun W => Below W6.heap.size W6 W:=⟨_,rfl⟩
 have HS2 : Hid (∀ W,Below W6.heap.size W6 W → S W):=Lib.hid (fun W hb => by rw [hS];exact hb)
 have HLD : Hid (∀ W,S W → W.heap[w.heap.size]? = some (.cells #[.string ⟨x.nm.toArray⟩,.int .i64 x.ln,.int .i64 x.co,.slice d.p n1 d.np,.slice d.g n2 d.ng,.string ⟨x.rt.toArray⟩,.string ⟨x.rn.toArray⟩,.bool x.ct,.slice d.r n3 d.nr,.slice d.e n4 d.ne,.slice d.l n5 d.nl,.slice d.b n6 d.nb] 46)):=Lib.hid (fun W hs => by
  rw [hS] at hs
  exact kept_box hs hp6)
 have HX0:=Lib.hid (Below.refl W6.heap.size W6).drew
 have H6:=Lib.hid hb6
 have g0:=HS2.out _ HX0.out
 clear hb6 hp6 hS
 go_enter Tryz.func44,Tryz.ntmps44
 go_wp2
 rw [← hW6]
 clear hW6
 refine wp_region_held (S:=S) hmx ?_
 change wpAnyH _ _ _ _ _ 12 #[false,false,false,false,false,false,false,false,false,false,false,false] _ W6.drew
 refine tk 0 5 (.slice G n c) g0 ?v ?_
 case v => intro Wx hSx;go_simp
 refine tk 1 6 (.pointer (some ⟨w.heap.size,3,none⟩)) g0 ?v ?_
 case v => intro Wx hSx;go_simp
 refine tk 3 8 (.pointer (some ⟨w.heap.size,4,none⟩)) g0 ?v ?_
 case v => intro Wx hSx;go_simp
 refine tk 5 10 (.agg #[.string ⟨x.nm.toArray⟩,.int .i64 x.ln,.int .i64 x.co,.slice d.p n1 d.np,.slice d.g n2 d.ng,.string ⟨x.rt.toArray⟩,.string ⟨x.rn.toArray⟩,.bool x.ct,.slice d.r n3 d.nr,.slice d.e n4 d.ne,.slice d.l n5 d.nl,.slice d.b n6 d.nb]) g0 ?v ?_
 case v =>
  intro Wx hSx
  have hq:=HLD.out Wx hSx
  have z0:=cell_of_block hq 0 rfl
  have z1:=cell_of_block hq 1 rfl
  have z2:=cell_of_block hq 2 rfl
  have z3:=cell_of_block hq 3 rfl
  have z4:=cell_of_block hq 4 rfl
  have z5:=cell_of_block hq 5 rfl
  have z6:=cell_of_block hq 6 rfl
  have z7:=cell_of_block hq 7 rfl
  have z8:=cell_of_block hq 8 rfl
  have z9:=cell_of_block hq 9 rfl
  have z10:=cell_of_block hq 10 rfl
  have z11:=cell_of_block hq 11 rfl
  clear hq
  go_simp
 refine tk 7 12 (.pointer (some ⟨w.heap.size,10,none⟩)) g0 ?v ?_
 case v => intro Wx hSx;go_simp
 try simp only [Act.put,List.setIfInBounds_toArray,List.set_cons_zero,List.set_cons_succ]
 refine tk 2 7 (.slice d.p n1 d.np) g0 ?v ?_
 case v => intro Wx hSx;have z:=cell_of_block (HLD.out Wx hSx) 3 rfl;go_simp
 refine tk 4 9 (.slice d.g n2 d.ng) g0 ?v ?_
 case v => intro Wx hSx;have z:=cell_of_block (HLD.out Wx hSx) 4 rfl;go_simp
 refine tk 8 13 (.slice d.l n5 d.nl) g0 ?v ?_
 case v => intro Wx hSx;have z:=cell_of_block (HLD.out Wx hSx) 10 rfl;go_simp
 try simp only [Act.put,List.setIfInBounds_toArray,List.set_cons_zero,List.set_cons_succ]
 refine o1 6 (fun K hK => ?_)
 go_simp
 (with_reducible refine (HF.out _).mono ?_)
 rintro e w3 ⟨⟨R,rn,rc,rfl,hrn,hrow⟩,hb3⟩
 have H3:=Lib.hid (HX0.out.chain hb3)
 have HR:=Lib.hid (And.intro hrn hrow)
 clear hb3 hrn hrow
 refine hK _ _ (HS2.out _ H3.out) ?_
 clear hK K
 try simp only [Act.put,List.setIfInBounds_toArray,List.set_cons_zero,List.set_cons_succ]
 refine o1 9 (fun K hK => ?_)
 go_simp
 obtain ⟨W4,hW4⟩ : ∃ W4,W4 = w3.alloc (.cells #[.slice G n c,.slice d.p n1 d.np,.slice d.g n2 d.ng,.slice R rn rc,.slice d.l n5 d.nl] 23):=⟨_,rfl⟩
 rw [← hW4]
 have hb34 : Below w3.heap.size w3 W4:=by rw [hW4];exact below_alloc w3 _
 have hp4 : W4.heap[w3.heap.size]? = some (.cells #[.slice G n c,.slice d.p n1 d.np,.slice d.g n2 d.ng,.slice R rn rc,.slice d.l n5 d.nl] 23):=by rw [hW4];exact heap_of_alloc w3 _
 have h34 : w3.heap.size < W4.heap.size:=by rw [hW4,World.size_alloc];exact Nat.lt_succ_self _
 have H4:=Lib.hid (H3.out.chain hb34)
 have hbw:=H6.out.chain H4.out
 obtain ⟨hB,hG,hP,hn,h1,h2,h5,hs⟩:=HH.out
 obtain ⟨_,rp,rg,_,_,rl,_⟩:=hP
 have hB4 : B0 ≤ W4.heap.size:=Nat.le_trans hB hbw.size
 have HC : Hid (Calls Tryz.prog 61 #[.slice (some ⟨w3.heap.size,0,none⟩) 5 5] W4 fun e w' => ∃ v,e = .returned v ∧ w'.ownsRow W4.heap.size 42 2 v (n + n1 + n2 + rn + n5) (pcL gs ++ pcL x.ps ++ pcL x.lg ++ pcL (resL x) ++ pcL x.lo) ∧ Below W4.heap.size W4 w'):=Lib.hid (by
  refine concat5 G d.p d.g R d.l n c n1 d.np n2 d.ng rn rc n5 d.nl w3.heap.size gs x.ps x.lg (resL x) x.lo ?_ W4 ?_ ?_ ?_ ?_ ?_ ?_ ?_ ?_ ?_ ?_ h34
  ·have := resL_le x
   have := HR.out.1
   omega
  ·have := (pc_reads (rowB vpm_keeps hB hbw hG)).more hB4
   rw [hn]
   exact this
  ·have := (pc_reads (rowB vpm_keeps hB hbw (pm_rowV rp))).more hB4
   rw [h1]
   exact this
  ·have := (pc_reads (rowB vpm_keeps hB hbw (pm_rowV rg))).more hB4
   rw [h2]
   exact this
  ·have := (pc_reads (rowB vpm_keeps (Nat.le_refl _) hb34 HR.out.2)).more (Nat.le_of_lt h34)
   rw [HR.out.1]
   exact this
  ·have := (pc_reads (rowB vpm_keeps hB hbw (pm_rowV rl))).more hB4
   rw [h5]
   exact this
  all_goals exact cell_of_block hp4 _ rfl)
 have HL : Hid ((∀ y ∈ scopeL gs x,y.t.length ≤ maxLen ∧ y.nm.length ≤ maxLen) ∧ n + n1 + n2 + rn + n5 = (scopeL gs x).length ∧ pcL gs ++ pcL x.ps ++ pcL x.lg ++ pcL (resL x) ++ pcL x.lo = pcL (scopeL gs x)):=Lib.hid (by
  refine ⟨fun y hy => ?_,?_,?_⟩
  ·unfold scopeL at hy
   simp only [List.mem_append] at hy
   rcases hy with (((h | h) | h) | h) | h
   ·exact pm_lens' hG y h
   ·exact pm_lens' (pm_rowV rp) y h
   ·exact pm_lens' (pm_rowV rg) y h
   ·exact pm_lens' HR.out.2 y h
   ·exact pm_lens' (pm_rowV rl) y h
  ·unfold scopeL
   simp only [List.length_append]
   rw [← hn,← h1,← h2,← HR.out.1,← h5]
  ·unfold scopeL
   simp only [pcL_append])
 refine hK _ _ (HS2.out _ H4.out) ?_
 clear hK K hb34 hp4 h34 hbw hB hG hn h1 h2 h5 hs rp rg rl hB4 hW4
 try simp only [Act.put,List.setIfInBounds_toArray,List.set_cons_zero,List.set_cons_succ]
 refine o1 10 (fun K hK => ?_)
 go_simp
 (with_reducible refine HC.out.mono ?_)
 rintro e w5 ⟨v,rfl,hv,hb5⟩
 have H5:=Lib.hid (H4.out.chain hb5)
 have HV:=Lib.hid hv
 clear hb5 hv
 refine hK _ _ (HS2.out _ H5.out) ?_
 clear hK K
 try simp only [Act.put,List.setIfInBounds_toArray,List.set_cons_zero,List.set_cons_succ]
 refine o1 11 (fun K hK => ?_)
 go_simp
 refine hK _ _ (HS2.out _ H5.out) ?_
 clear hK K
 refine wpAnyH_done (by kernel_rfl) ?_ _
 go_wp2
 go_ret
 obtain ⟨A,k,rfl⟩:=own_sliceM HV.out
 refine ⟨⟨A,_,k,rfl,HL.out.2.1,?_,fun a ha => Nat.le_trans (H6.out.chain H4.out).size (own_addr HV.out a ha)⟩,H6.out.chain H5.out⟩
 refine pc_row HL.out.2.1 ?_ HL.out.1
 have h:=Reads.of_own HV.out
 rw [HL.out.2.2] at h
 exact h
end Go.Proofs.YtojjfdegkooknaaGreatDoor
