import Derived.Test.YtojjfdegkooknaaGreatDoorQTypFParam
import Derived.Below
import Derived.Laws.OwnMore
import Derived.Deep.AppendLies
import Derived.Deep.Draws
import Derived.Maps.AppendAt
import Derived.RegionTactic
import Derived.OwnWalk
import Derived.Lib.AppendZerosOnto
set_option linter.unusedVariables false
set_option linter.unusedSimpArgs false
namespace Go.Proofs.YtojjfdegkooknaaGreatDoor
set_option maxRecDepth 100000
set_option maxHeartbeats 8000000
open Go.RowKit
structure ChkAt (w : World) (B0 cb : Nat) (d : GAd) (p : Pg) : Prop where
 lt : cb < w.heap.size
 le : B0 ≤ cb
 c0 : w.cell? ⟨cb,0,none⟩ = some (.slice d.r p.rs.length d.nr)
 c1 : w.cell? ⟨cb,1,none⟩ = some (.slice d.g p.gs.length d.ng)
 c2 : w.cell? ⟨cb,2,none⟩ = some (.slice d.k p.ks.length d.nk)
 c3 : w.cell? ⟨cb,3,none⟩ = some (.slice d.d p.ds.length d.nd)
 c4 : w.cell? ⟨cb,4,none⟩ = some (.slice d.m p.ms.length d.nm)
 c5 : w.cell? ⟨cb,5,none⟩ = some (.slice d.x p.xs.length d.nx)
 own : PgOwn w B0 d p
theorem ChkAt.on {w w' : World} {B0 cb : Nat} {d : GAd} {p : Pg} (h : ChkAt w B0 cb d p) (hb : Below w.heap.size w w') : ChkAt w' B0 cb d p :=
 ⟨Nat.lt_of_lt_of_le h.lt hb.size,h.le,(hb.cell (p:=⟨cb,0,none⟩) h.lt).trans h.c0,(hb.cell (p:=⟨cb,1,none⟩) h.lt).trans h.c1,(hb.cell (p:=⟨cb,2,none⟩) h.lt).trans h.c2,(hb.cell (p:=⟨cb,3,none⟩) h.lt).trans h.c3,(hb.cell (p:=⟨cb,4,none⟩) h.lt).trans h.c4,(hb.cell (p:=⟨cb,5,none⟩) h.lt).trans h.c5,
   h.own.keep (fun q hq => hb.cell (Nat.lt_of_lt_of_le hq (Nat.le_trans h.le (Nat.le_of_lt h.lt)))) (Nat.le_refl _)⟩
theorem types_any (p : Pg) (d : GAd) (B0 cb : Nat) (l : List Pm) (A : Option Addr) (c n : Nat) (hn : n = l.length) (hm : n ≤ maxLen) (B1 : Nat) (w : World) (hB1 : B1 ≤ w.heap.size) (hA : RowV VPm 2 w B1 l A) (hC : ChkAt w B0 cb d p) :
 Calls Tryz.prog 73 #[.pointer (some ⟨cb,0,none⟩),.slice A n c] w (CkPost (tysC p.rs l) w):=by
 obtain ⟨nr,hnr⟩ : ∃ nr,nr = p.rs.length:=⟨_,rfl⟩
 have hfz : w.frozen? ⟨cb,0,none⟩ = w.frozen? ⟨cb,0,none⟩:=rfl
 have HH:=Lib.hid (And.intro hA (And.intro hn (And.intro hB1 (And.intro hC hnr))))
 obtain ⟨R,hR⟩ : ∃ R : Ck,R = tysC p.rs l:=⟨_,rfl⟩
 have HR:=Lib.hid hR
 have hmx : Tryz.prog.follows .mixedOrders = true:=by kernel_rfl
 rw [← hR]
 clear hA hn hB1 hC hR hfz hnr
 unfold maxLen at hm
 go_enter Tryz.func73,Tryz.ntmps73
 go_wp2
 go_loopg [8] n (fun mm j wr => ∃ i : Nat,mm = n - i ∧ i ≤ n ∧ j = .int .i64 i ∧ Hid (Below w.heap.size w wr ∧ tysC p.rs (l.take i) = none))
 case atStart => exact ⟨0,rfl,Nat.zero_le _,rfl,Lib.hid ⟨Below.refl _ _,rfl⟩⟩
 case round =>
  obtain ⟨i,rfl,hi,rfl,HI⟩:=hrel
  have hi0 : (0 : Int) ≤ i:=by omega
  by_cases hlt : i < n
  ·have hii : (i : Int) < n:=by omega
   obtain ⟨x,hx⟩ : ∃ x,l[i]? = some x:=⟨l[i]'(by rw [← HH.out.2.1];exact hlt),List.getElem?_eq_getElem _⟩
   obtain ⟨a,cs,rfl,hab,hcs,hca,hv⟩:=HH.out.1 i x hx
   obtain ⟨hv0,hv1,hv2⟩:=hv
   have e0 : wr.cell? (a.add (i * 2)) = some (.string ⟨x.t.toArray⟩):=by
    have h:=(HI.out.1.cell (p:=(a.add (i * 2)).add 0) (by rw [block_adds,block_adds];exact Nat.lt_of_lt_of_le hab HH.out.2.2.1)).trans (hca 0 _ (by rw [hv0];rfl))
    rwa [add_add_plain,Nat.add_zero] at h
   have e1 : wr.cell? ⟨(a.add (i * 2)).block,(a.add (i * 2)).off + 1,none⟩ = some (.string ⟨x.nm.toArray⟩):=(HI.out.1.cell (p:=(a.add (i * 2)).add 1) (by rw [block_adds,block_adds];exact Nat.lt_of_lt_of_le hab HH.out.2.2.1)).trans (hca 1 _ (by rw [hv0];rfl))
   obtain ⟨u,hu⟩ : ∃ u,u = x.t:=⟨_,rfl⟩
   obtain ⟨q,hq⟩ : ∃ q,q = fstO (fun y : Rc => y.nm) p.rs u:=⟨_,rfl⟩
   have hstep : tyC p.rs x = tyQ u q:=by unfold tyC;rw [hq,hu]
   have HX:=Lib.hid (And.intro hx hstep)
   rw [← hu] at e0
   clear hca hab hcs hv0 hv1 hv2 hx hstep
   by_cases hint : u = [105,110,116]
   ·have hb : (u == [105,110,116]) = true:=by rw [hint];rfl
    have HN : Hid (tysC p.rs (l.take (i + 1)) = none):=Lib.hid (by
     unfold tysC
     rw [allC_take_succ _ l i x HX.out.1,show allC _ (l.take i) = none from HI.out.2]
     exact HX.out.2.trans (tyQ_int u q hint))
    have H6:=Lib.hid (HI.out.1.chain (below_alloc wr (.cells #[.string ⟨u.toArray⟩,.string ⟨x.nm.toArray⟩] 42)))
    clear hint hu
    go_wp2
    go_roundg (n - (i + 1))
    case measure => omega
    case rel => exact ⟨i + 1,rfl,by omega,by go_num,Lib.hid ⟨H6.out,HN.out⟩⟩
   ·have hb : (u == [105,110,116]) = false:=beq_eq_false_iff_ne.2 hint
    obtain ⟨W6,hW6⟩ : ∃ W6,W6 = wr.alloc (.cells #[.string ⟨u.toArray⟩,.string ⟨x.nm.toArray⟩] 42):=⟨_,rfl⟩
    have hb6 : Below w.heap.size w W6:=by rw [hW6];exact HI.out.1.chain (below_alloc wr _)
    have hp6 : W6.heap[wr.heap.size]? = some (.cells #[.string ⟨u.toArray⟩,.string ⟨x.nm.toArray⟩] 42 (0,0)):=by rw [hW6];exact heap_of_alloc wr _
    obtain ⟨S,hS⟩ : ∃ S : World → Prop,S = fun W => Below W6.heap.size W6 W:=⟨_,rfl⟩
    have HS2 : Hid (∀ W,Below W6.heap.size W6 W → S W):=Lib.hid (fun W hb => by rw [hS];exact hb)
    have HLD : Hid (∀ W,S W → W.cell? ⟨cb,0,none⟩ = some (.slice d.r nr d.nr) ∧ W.cell? ⟨wr.heap.size,0,none⟩ = some (.string ⟨u.toArray⟩)):=Lib.hid (fun W hs => by
     rw [hS] at hs
     exact ⟨by rw [HH.out.2.2.2.2];exact (HH.out.2.2.2.1.on (hb6.chain hs)).c0,cell_of_block (kept_box hs hp6) 0 rfl⟩)
    have HF : Hid (∀ W,Below W6.heap.size W6 W → Calls Tryz.prog 103 #[.slice d.r nr d.nr,.string ⟨u.toArray⟩,.func (.func 46) #[] #[]] W (FndPost VRc u q B0 W)):=Lib.hid (fun W hb => by
     have hk:=HH.out.2.2.2.1.on (hb6.chain hb)
     rw [hq]
     exact fnd_Record 46 (enters_of Tryz.func46 (by kernel_rfl) rfl) (·.nm) nm_Record u p.rs d.r d.nr nr HH.out.2.2.2.2 (by rw [HH.out.2.2.2.2];exact hk.own.1.1) B0 W (Nat.le_trans hk.le (Nat.le_of_lt hk.lt)) (rc_rowV hk.own.2.1))
    have HX0:=Lib.hid (Below.refl W6.heap.size W6).drew
    have H6:=Lib.hid hb6
    have hni:=Lib.hid hint
    have g0:=HS2.out _ HX0.out
    clear hb6 hp6 hS hint hu hq
    go_wp2
    rw [← hW6]
    clear hW6
    refine wp_region_held (S:=S) hmx ?_
    change wpAnyH _ _ _ _ _ 8 #[false,false,false,false,false,false,false,false] _ W6.drew
    refine tk 0 15 (.pointer (some ⟨cb,0,none⟩)) g0 ?v ?_
    case v => intro Wx hSx;go_simp
    refine tk 1 16 (.pointer (some ⟨cb,0,none⟩)) g0 ?v ?_
    case v => intro Wx hSx;go_simp
    refine tk 2 17 (.pointer (some ⟨cb,0,none⟩)) g0 ?v ?_
    case v => intro Wx hSx;go_simp
    refine tk 3 18 (.pointer (some ⟨cb,0,none⟩)) g0 ?v ?_
    case v => intro Wx hSx;go_simp
    try simp only [Act.put,List.setIfInBounds_toArray,List.set_cons_zero,List.set_cons_succ]
    refine tk 4 19 (.slice d.r nr d.nr) g0 ?v ?_
    case v => intro Wx hSx;obtain ⟨z1,z2⟩:=HLD.out Wx hSx;go_simp
    refine tk 5 20 (.pointer (some ⟨wr.heap.size,0,none⟩)) g0 ?v ?_
    case v => intro Wx hSx;go_simp
    refine tk 6 21 (.string ⟨u.toArray⟩) g0 ?v ?_
    case v => intro Wx hSx;obtain ⟨z1,z2⟩:=HLD.out Wx hSx;go_simp
    try simp only [Act.put,List.setIfInBounds_toArray,List.set_cons_zero,List.set_cons_succ]
    refine o1 7 (fun K hK => ?_)
    go_simp
    (with_reducible refine (HF.out _ HX0.out).mono ?_)
    rintro e w3 ⟨hr,hb3⟩
    have H3:=Lib.hid (HX0.out.chain hb3)
    clear hb3
    rcases hr with ⟨cs',y,rfl,ho,_⟩ | ⟨ho,he⟩
    ·refine hK _ _ (HS2.out _ H3.out) ?_
     refine wpAnyH_done (by kernel_rfl) ?_ _
     have HN : Hid (tysC p.rs (l.take (i + 1)) = none):=Lib.hid (by
      unfold tysC
      rw [allC_take_succ _ l i x HX.out.1,show allC _ (l.take i) = none from HI.out.2]
      exact HX.out.2.trans (by rw [ho];exact tyQ_some u y))
     clear ho
     go_wp2
     go_roundg (n - (i + 1))
     case measure => omega
     case rel => exact ⟨i + 1,rfl,by omega,by go_num,Lib.hid ⟨H6.out.chain H3.out,HN.out⟩⟩
    ·subst he
     refine ⟨rfl,?_,H6.out.chain H3.out⟩
     rw [HR.out]
     unfold tysC
     rw [allC_some _ l i x (u,7) HX.out.1 HI.out.2 (HX.out.2.trans (by rw [ho];exact tyQ_none u hni.out))]
     rfl
  ·have hlt' : ¬ (i : Int) < n:=by omega
   obtain rfl : i = n:=by omega
   go_wp2
   refine bodyPost_end (results_none rfl _ _ _) rfl ⟨?_,HI.out.1⟩
   have h:=HI.out.2
   rw [List.take_of_length_le (by rw [HH.out.2.1];exact Nat.le_refl _)] at h
   rw [HR.out,h]
   rfl
end Go.Proofs.YtojjfdegkooknaaGreatDoor
namespace Go.Proofs.YtojjfdegkooknaaGreatDoor
set_option maxRecDepth 100000
set_option maxHeartbeats 4000000
open Go.RowKit
theorem pm_names {w : World} {B0 : Nat} {l : List Pm} {A : Option Addr} (hA : RowV VPm 2 w B0 l A) : ∀ x ∈ l,x.nm.length ≤ maxLen:=by
 intro x hx
 obtain ⟨i,hi,h⟩:=List.getElem_of_mem hx
 obtain ⟨a,cs,_,_,_,_,hv⟩:=hA i x (by rw [List.getElem?_eq_getElem hi,h])
 exact hv.2.2
theorem ck_then {c1 c2 : Ck} {e : Ending} (h : CkEnd c1 e) : (c1 = none ∧ e = .returned (.tuple #[])) ∨ ∃ t,c1 = some t ∧ e = .panicked [{ v:=thrV t,recovered:=false }]:=by
 cases c1 with
 | none => exact Or.inl ⟨rfl,h⟩
 | some t => exact Or.inr ⟨t,rfl,h⟩
theorem tparams_any (p : Pg) (d : GAd) (B0 cb : Nat) (l : List Pm) (A : Option Addr) (c n : Nat) (hn : n = l.length) (hm : n ≤ maxLen) (B1 : Nat) (w : World) (hB1 : B1 ≤ w.heap.size) (hA : RowV VPm 2 w B1 l A) (hC : ChkAt w B0 cb d p) :
 Calls Tryz.prog 72 #[.pointer (some ⟨cb,0,none⟩),.slice A n c] w (CkPost (paramsC p.rs l) w):=by
 have HD:=Lib.hid (dif_Param 95 (enters_of Tryz.func95 (by kernel_rfl) rfl) (·.nm) nm_Param l (pm_names hA) A c n hn hm B1 w hB1 hA)
 have HT : Hid (∀ W,Below w.heap.size w W → Calls Tryz.prog 73 #[.pointer (some ⟨cb,0,none⟩),.slice A n c] W (CkPost (tysC p.rs l) W)):=Lib.hid (fun W hb =>
  types_any p d B0 cb l A c n hn hm B1 W (Nat.le_trans hB1 hb.size) (rowB vpm_keeps hB1 hb hA) (hC.on hb))
 obtain ⟨R,hR⟩ : ∃ R : Ck,R = paramsC p.rs l:=⟨_,rfl⟩
 obtain ⟨R1,hR1⟩ : ∃ R : Ck,R = diffC [] (l.map fun x => x.nm):=⟨_,rfl⟩
 obtain ⟨R2,hR2⟩ : ∃ R : Ck,R = tysC p.rs l:=⟨_,rfl⟩
 have HR : Hid (R = seqC R1 R2):=Lib.hid (by rw [hR,hR1,hR2];rfl)
 rw [← hR]
 rw [← hR1] at HD
 rw [← hR2] at HT
 clear hA hn hm hB1 hC hR hR1 hR2
 go_enter Tryz.func72,Tryz.ntmps72
 go_wp2_with fail
 (with_reducible refine HD.out.mono ?_)
 rintro e w1 ⟨he,hb⟩
 rcases ck_then (c2:=R2) he with ⟨h1,rfl⟩ | ⟨t,h1,rfl⟩
 ·have H1:=Lib.hid hb
  have HRR : Hid (R = R2):=Lib.hid (by rw [HR.out,h1];rfl)
  clear he hb h1
  go_wp2_with fail
  (with_reducible refine (HT.out _ H1.out).mono ?_)
  rintro e w2 ⟨he,hb⟩
  have H2:=Lib.hid (H1.out.chain hb)
  rw [← HRR.out] at he
  rcases ck_then (c2:=R2) he with ⟨h2,rfl⟩ | ⟨t,h2,rfl⟩
  ·clear hb
   go_wp2
   exact bodyPost_end (results_none rfl _ _ _) rfl ⟨he,H2.out⟩
  ·exact ⟨rfl,he,H2.out⟩
 ·exact ⟨rfl,by rw [HR.out,h1];exact rfl,hb⟩
end Go.Proofs.YtojjfdegkooknaaGreatDoor
namespace Go.Proofs.YtojjfdegkooknaaGreatDoor
set_option maxRecDepth 100000
set_option maxHeartbeats 4000000
open Go.RowKit
def resL (x : Pr) : List Pm:=if x.rn = [] then [] else [⟨x.rt,x.rn⟩]
theorem resL_le (x : Pr) : (resL x).length ≤ 1:=by
 unfold resL
 split <;> simp
theorem pm_one {t n : List UInt8} (W : World) (T : TypeId) (ht : t.length ≤ maxLen) (hn : n.length ≤ maxLen) {g : Nat} (hg : g = W.heap.size) :
 RowV VPm 2 (W.alloc (.cells #[.string ⟨t.toArray⟩,.string ⟨n.toArray⟩] T)) (W.alloc (.cells #[.string ⟨t.toArray⟩,.string ⟨n.toArray⟩] T)).heap.size [⟨t,n⟩] (some ⟨g,0,none⟩):=by
 subst hg
 intro i y hy
 match i,hy with
 | i + 1,hy => exact absurd hy (by simp)
 | 0,hy =>
   obtain rfl : _ = y:=Option.some.inj hy
   refine ⟨_,#[.string ⟨t.toArray⟩,.string ⟨n.toArray⟩],rfl,?_,rfl,?_,rfl,ht,hn⟩
   ·rw [World.size_alloc];exact Nat.lt_succ_self _
   ·intro j v hj
    have hbl:=heap_of_alloc W (.cells #[.string ⟨t.toArray⟩,.string ⟨n.toArray⟩] T)
    match j,hj with
    | 0,hj => exact cell_of_block hbl 0 hj
    | 1,hj => exact cell_of_block hbl 1 hj
    | j + 2,hj => exact absurd hj (by simp)
theorem result_any (x : Pr) (d : PAd) (w : World) (ht : x.rt.length ≤ maxLen) (hn : x.rn.length ≤ maxLen) :
 Calls Tryz.prog 62 #[.agg (prCs d x)] w fun e w' => (∃ (R : Option Addr) (n c : Nat),e = .returned (.slice R n c) ∧ n = (resL x).length ∧ RowV VPm 2 w' w'.heap.size (resL x) R) ∧ Below w.heap.size w w':=by
 unfold prCs
 obtain ⟨n1,h1⟩ : ∃ n,n = x.ps.length:=⟨_,rfl⟩
 obtain ⟨n2,h2⟩ : ∃ n,n = x.lg.length:=⟨_,rfl⟩
 obtain ⟨n3,h3⟩ : ∃ n,n = x.rq.length:=⟨_,rfl⟩
 obtain ⟨n4,h4⟩ : ∃ n,n = x.es.length:=⟨_,rfl⟩
 obtain ⟨n5,h5⟩ : ∃ n,n = x.lo.length:=⟨_,rfl⟩
 obtain ⟨n6,h6⟩ : ∃ n,n = x.bd.length:=⟨_,rfl⟩
 rw [← h1,← h2,← h3,← h4,← h5,← h6]
 clear h1 h2 h3 h4 h5 h6
 by_cases hz : x.rn = []
 ·have hb : (x.rn == []) = true:=by rw [hz];rfl
  have hR : resL x = []:=if_pos hz
  rw [hR]
  go_enter Tryz.func62,Tryz.ntmps62
  go_wp2
  go_ret
  exact ⟨⟨none,0,0,rfl,rfl,fun i x h => by simp at h⟩,below_alloc w _⟩
 ·have hb : (x.rn == []) = false:=beq_eq_false_iff_ne.2 hz
  have hR : resL x = [⟨x.rt,x.rn⟩]:=if_neg hz
  rw [hR]
  have HH:=Lib.hid (And.intro ht hn)
  clear hR ht hn hz
  go_enter Tryz.func62,Tryz.ntmps62
  go_wp2
  go_ret
  refine ⟨⟨some ⟨w.heap.size + 1,0,none⟩,1,1,rfl,rfl,?_⟩,(below_alloc w _).chain (below_alloc _ _)⟩
  exact pm_one _ _ HH.out.1 HH.out.2 (World.size_alloc _ _).symm
end Go.Proofs.YtojjfdegkooknaaGreatDoor
namespace Go.Proofs.YtojjfdegkooknaaGreatDoor
set_option maxRecDepth 100000
set_option maxHeartbeats 2000000
open Go.RowKit Go.Lib
theorem infoPmV : (Tryz.prog.info? 42).map (fun i => (i.zero,i.size,i.bytes)) = some (some (.agg #[.string ⟨#[]⟩,.string ⟨#[]⟩]),2,32):=by kernel_rfl
theorem zeroCells_pm (k : Nat) : (Builtin.zeroCells (Value.agg #[.string ⟨#[]⟩,.string ⟨#[]⟩]).cells k).size = k * 2:=by simp [Builtin.zeroCells,Value.cells]
theorem growp_nilW (n : Nat) (z : Int) (hz : z = (n : Int)) (hn : n ≤ 4400000000000) (w : World) :
 Calls Tryz.prog 85 #[.slice none 0 0,.int .i64 z] w fun e w' => ∃ v,e = .returned v ∧ w'.ownsRow w.heap.size 42 2 v 0 [] ∧ Below w.heap.size w w':=by
 subst hz
 have hnn : ¬ (n : Int) < 0:=by omega
 by_cases h0 : n = 0
 ·subst h0
  go_enter Tryz.func85,Tryz.ntmps85
  go_wp2
  go_ret
  exact ⟨_,rfl,World.ownsRow_nil w _ _ 2,Below.refl _ _⟩
 have hpos : 0 < n:=by omega
 have hpos' : (0 : Int) < n:=by omega
 obtain ⟨i0,hi,hiz,his,hib⟩:=info_parts infoPmV
 have hold : (Builtin.firstCells i0.size 0 (.slice none 0 0)).run Tryz.prog w.drew = .ok #[] w.drew:=by
  simp [Builtin.firstCells]
 obtain ⟨G,hG⟩ : ∃ G,G = grownCap w n 0 42:=⟨_,rfl⟩
 have hGn : n ≤ G:=by rw [hG];exact grownCap_ge w _ _ _
 have hGM : G ≤ maxLen:=by rw [hG];exact grownCap_le_maxLen w n 0 _ (by unfold maxLen;omega)
 have hG63 : G ≤ 9223372036854775807:=by unfold maxLen at hGM;omega
 obtain ⟨ROW,hROW⟩ : ∃ ROW : Array Value,ROW = (#[] : Array Value) ++ Builtin.zeroCells (Value.agg #[.string ⟨#[]⟩,.string ⟨#[]⟩]).cells n ++ Builtin.zeroCells (Value.agg #[.string ⟨#[]⟩,.string ⟨#[]⟩]).cells (G - n):=⟨_,rfl⟩
 have hrz : ∀ ty,(Builtin.append_ #[23,3] ty #[.slice none 0 0,.int .i64 (n : Int)]).run Tryz.prog w = .ok (.slice (some ⟨w.heap.size,0,none⟩) n G) (w.drew.alloc (.cells ROW 42)):=fun ty => by
  have h:=Lib.run_append_grow_zeros (P:=Tryz.prog) w 23 3 ty 42 i0 _ .i64 .i64 Tryz.underlying23 Tryz.underlying3 hi hiz none 0 0 [] hold n (by omega) (by rw [his];decide) (by omega) (by omega) (by rw [hib];omega) (by rw [hib,Nat.zero_add,show Builtin.nextslicecap n 0 = n from if_pos (by omega)];omega)
  rw [Nat.zero_add,← hG] at h
  rw [h,hROW]
 have hR : ROW.size = G * 2:=by
  rw [hROW,Array.size_append,Array.size_append,zeroCells_pm,zeroCells_pm]
  simp
  omega
 have HZ:=Lib.hid hrz
 have HO:=Lib.hid (And.intro hGn (And.intro hGM hR))
 have hG64 : (G : Int) ≤ 9223372036854775807:=by omega
 clear hrz hG hROW hi hiz his hib hold hGn hR hGM
 go_enter Tryz.func85,Tryz.ntmps85
 go_wp2_with (at_builtin;refine Lib.wpList_append_run _ rfl _ _ _ _ rfl _ _ rfl rfl _ _ (HZ.out _) ?_)
 go_ret
 refine ⟨_,rfl,⟨rfl,.inr ⟨w.heap.size,G,ROW,rfl,Nat.le_refl _,heap_of_alloc w.drew _,Nat.zero_le _,HO.out.2.1,HO.out.2.2,by simp⟩⟩,(Below.refl w.heap.size w).drew.alloc (Nat.le_refl _) _⟩
theorem growp_nil (n : Nat) (z : Int) (hz : z = (n : Int)) (hn : n ≤ 4000000000000) (w : World) :
 Calls Tryz.prog 85 #[.slice none 0 0,.int .i64 z] w fun e w' => ∃ v,e = .returned v ∧ w'.ownsRow w.heap.size 42 2 v 0 [] ∧ Below w.heap.size w w':=growp_nilW n z hz (by omega) w
end Go.Proofs.YtojjfdegkooknaaGreatDoor
