import Derived.Test.YtojjfdegkooknaaGreatDoorSTypFParam
import Derived.Below
import Derived.Laws.OwnMore
import Derived.Deep.AppendLies
import Derived.Deep.Draws
import Derived.Maps.AppendAt
import Derived.RegionTactic
import Derived.OwnWalk
import Derived.Lib.AppendZerosOnto
import Derived.Test.YtojjfdegkooknaaGreatDoorSTreeMo
import Derived.Deep.DeepAppendWide
set_option linter.unusedVariables false
set_option linter.unusedSimpArgs false
namespace Go.Proofs.YtojjfdegkooknaaGreatDoor
section
set_option maxRecDepth 100000
set_option maxHeartbeats 8000000
open Go.RowKit
structure ChkAt (w : World) (B0 cb : Nat) (d : GAd) (p : Pg) : Prop where
 lt : cb < w.heap.size
 le : B0 <= cb
 c0 : w.cell? ⟨cb,0,none⟩ = some (.slice d.r p.rs.length d.nr)
 c1 : w.cell? ⟨cb,1,none⟩ = some (.slice d.g p.gs.length d.ng)
 c2 : w.cell? ⟨cb,2,none⟩ = some (.slice d.k p.ks.length d.nk)
 c3 : w.cell? ⟨cb,3,none⟩ = some (.slice d.d p.ds.length d.nd)
 c4 : w.cell? ⟨cb,4,none⟩ = some (.slice d.m p.ms.length d.nm)
 c5 : w.cell? ⟨cb,5,none⟩ = some (.slice d.x p.xs.length d.nx)
 own : xK w B0 d p
theorem ChkAt.on {w w' : World} {B0 cb : Nat} {d : GAd} {p : Pg} (h : ChkAt w B0 cb d p) (hb : Below w.heap.size w w') : ChkAt w' B0 cb d p :=
 ⟨Nat.lt_of_lt_of_le h.lt hb.size,h.le,(hb.cell (p:=⟨cb,0,none⟩) h.lt).trans h.c0,(hb.cell (p:=⟨cb,1,none⟩) h.lt).trans h.c1,(hb.cell (p:=⟨cb,2,none⟩) h.lt).trans h.c2,(hb.cell (p:=⟨cb,3,none⟩) h.lt).trans h.c3,(hb.cell (p:=⟨cb,4,none⟩) h.lt).trans h.c4,(hb.cell (p:=⟨cb,5,none⟩) h.lt).trans h.c5,
   h.own.keep (fun q hq => hb.cell (Nat.lt_of_lt_of_le hq (Nat.le_trans h.le (Nat.le_of_lt h.lt)))) (Nat.le_refl _)⟩
theorem qfH (p : Pg) (d : GAd) (B0 cb : Nat) (l : List Pm) (A : Option Addr) (c n : Nat) (hn : n = l.length) (hm : n <= maxLen) (B1 : Nat) (w : World) (hB1 : B1 <= w.heap.size) (hA : qD zp 2 w B1 l A) (hC : ChkAt w B0 cb d p) :
 Calls Tryz.prog 73 #[.pointer (some ⟨cb,0,none⟩),.slice A n c] w (qV (jU p.rs l) w):=by
 obtain ⟨nr,xU⟩ : ∃ nr,nr = p.rs.length:=⟨_,rfl⟩
 have hfz : w.frozen? ⟨cb,0,none⟩ = w.frozen? ⟨cb,0,none⟩:=rfl
 have HH:=hZ (aZ hA (aZ hn (aZ hB1 (aZ hC xU))))
 obtain ⟨R,hR⟩ : ∃ R : Ck,R = jU p.rs l:=⟨_,rfl⟩
 have HR:=hZ hR
 have zE : Tryz.prog.follows .mixedOrders = true:=by kernel_rfl
 rw [<- hR]
 clear hA hn hB1 hC hR hfz xU
 unfold maxLen at hm
 go_enter Tryz.func73,Tryz.ntmps73
 go_wp2
 go_loopg [8] n (fun mm j wr => ∃ i : Nat,mm = n - i /\ i <= n /\ j = .int .i64 i /\ Hid (Below w.heap.size w wr /\ jU p.rs (l.take i) = none))
 case atStart => exact ⟨0,rfl,Nat.zero_le _,rfl,hZ ⟨Below.refl _ _,rfl⟩⟩
 case round =>
  obtain ⟨i,rfl,hi,rfl,HI⟩:=hrel
  have xj : (0 : Int) <= i:=by omega
  by_cases qB : i < n
  ·have hii : (i : Int) < n:=by omega
   obtain ⟨x,hx⟩ : ∃ x,l[i]? = some x:=⟨l[i]'(by rw [<- HH.out.2.1];exact qB),List.getElem?_eq_getElem _⟩
   obtain ⟨a,cs,rfl,qx,qn,qP,hv⟩:=HH.out.1 i x hx
   obtain ⟨xh,jo,je⟩:=hv
   have e0 : wr.cell? (a.add (i * 2)) = some (.string ⟨x.t.toArray⟩):=by
    have h:=(HI.out.1.cell (p:=(a.add (i * 2)).add 0) (by rw [qm,qm];exact Nat.lt_of_lt_of_le qx HH.out.2.2.1)).trans (qP 0 _ (by rw [xh];rfl))
    rwa [yl,Nat.add_zero] at h
   have e1 : wr.cell? ⟨(a.add (i * 2)).block,(a.add (i * 2)).off + 1,none⟩ = some (.string ⟨x.nm.toArray⟩):=(HI.out.1.cell (p:=(a.add (i * 2)).add 1) (by rw [qm,qm];exact Nat.lt_of_lt_of_le qx HH.out.2.2.1)).trans (qP 1 _ (by rw [xh];rfl))
   obtain ⟨u,hu⟩ : ∃ u,u = x.t:=⟨_,rfl⟩
   obtain ⟨q,hq⟩ : ∃ q,q = qG (fun y : Rc => y.nm) p.rs u:=⟨_,rfl⟩
   have qrp : tyC p.rs x = tyQ u q:=by unfold tyC;rw [hq,hu]
   have HX:=hZ (aZ hx qrp)
   rw [<- hu] at e0
   clear qP qx qn xh jo je hx qrp
   by_cases hint : u = [105,110,116]
   ·have hb : (u == [105,110,116]) = true:=by rw [hint];rfl
    have HN : Hid (jU p.rs (l.take (i + 1)) = none):=hZ (by
     unfold jU
     rw [zR _ l i x HX.out.1,show zJ _ (l.take i) = none from HI.out.2]
     exact HX.out.2.trans (qsi u q hint))
    have H6:=hZ (HI.out.1.chain (qd wr (.cells #[.string ⟨u.toArray⟩,.string ⟨x.nm.toArray⟩] 42)))
    clear hint hu
    go_wp2
    go_roundg (n - (i + 1))
    case measure => omega
    case rel => exact ⟨i + 1,rfl,by omega,by go_num,hZ ⟨H6.out,HN.out⟩⟩
   ·have hb : (u == [105,110,116]) = false:=beq_eq_false_iff_ne.2 hint
    obtain ⟨W6,qW⟩ : ∃ W6,W6 = wr.alloc (.cells #[.string ⟨u.toArray⟩,.string ⟨x.nm.toArray⟩] 42):=⟨_,rfl⟩
    have qR : Below w.heap.size w W6:=by rw [qW];exact HI.out.1.chain (qd wr _)
    have xu : W6.heap[wr.heap.size]? = some (.cells #[.string ⟨u.toArray⟩,.string ⟨x.nm.toArray⟩] 42 (0,0)):=by rw [qW];exact qe wr _
    obtain ⟨S,hS⟩ : ∃ S : World -> Prop,S = fun W => Below W6.heap.size W6 W:=⟨_,rfl⟩
    have qo : Hid (∀ W,Below W6.heap.size W6 W -> S W):=hZ (fun W hb => by rw [hS];exact hb)
    have qX : Hid (∀ W,S W -> W.cell? ⟨cb,0,none⟩ = some (.slice d.r nr d.nr) /\ W.cell? ⟨wr.heap.size,0,none⟩ = some (.string ⟨u.toArray⟩)):=hZ (fun W hs => by
     rw [hS] at hs
     exact ⟨by rw [HH.out.2.2.2.2];exact (HH.out.2.2.2.1.on (qR.chain hs)).c0,qc (qg hs xu) 0 rfl⟩)
    have HF : Hid (∀ W,Below W6.heap.size W6 W -> Calls Tryz.prog 103 #[.slice d.r nr d.nr,.string ⟨u.toArray⟩,.func (.func 46) #[] #[]] W (jr yW u q B0 W)):=hZ (fun W hb => by
     have hk:=HH.out.2.2.2.1.on (qR.chain hb)
     rw [hq]
     exact qe8 46 (enters_of Tryz.func46 (by kernel_rfl) rfl) (·.nm) qcC u p.rs d.r d.nr nr HH.out.2.2.2.2 (by rw [HH.out.2.2.2.2];exact hk.own.1.1) B0 W (Nat.le_trans hk.le (Nat.le_of_lt hk.lt)) (qbp hk.own.2.1))
    have ze:=hZ (Below.refl W6.heap.size W6).drew
    have H6:=hZ qR
    have hni:=hZ hint
    have g0:=qo.out _ ze.out
    clear qR xu hS hint hu hq
    go_wp2
    rw [<- qW]
    clear qW
    refine wp_region_held (S:=S) zE ?_
    change wpAnyH _ _ _ _ _ 8 #[false,false,false,false,false,false,false,false] _ W6.drew
    refine tk 0 15 (.pointer (some ⟨cb,0,none⟩)) g0 ?v ?_
    case v => intro Wx hSx;go_simp
    refine tk 1 16 (.pointer (some ⟨cb,0,none⟩)) g0 ?v ?_
    case v => intro Wx hSx;go_simp
    refine tk 2 17 (.pointer (some ⟨cb,0,none⟩)) g0 ?v ?_
    case v => intro Wx hSx;go_simp
    refine tk 3 18 (.pointer (some ⟨cb,0,none⟩)) g0 ?v ?_
    case v => intro Wx hSx;go_simp
    try simp only [qf]
    refine tk 4 19 (.slice d.r nr d.nr) g0 ?v ?_
    case v => intro Wx hSx;obtain ⟨z1,z2⟩:=qX.out Wx hSx;go_simp
    refine tk 5 20 (.pointer (some ⟨wr.heap.size,0,none⟩)) g0 ?v ?_
    case v => intro Wx hSx;go_simp
    refine tk 6 21 (.string ⟨u.toArray⟩) g0 ?v ?_
    case v => intro Wx hSx;obtain ⟨z1,z2⟩:=qX.out Wx hSx;go_simp
    try simp only [qf]
    refine o1 7 (fun K hK => ?_)
    go_simp
    (with_reducible refine (HF.out _ ze.out).mono ?_)
    rintro e w3 ⟨hr,qt⟩
    have H3:=hZ (ze.out.chain qt)
    clear qt
    rcases hr with ⟨cs',y,rfl,ho,_⟩ | ⟨ho,he⟩
    ·refine hK _ _ (qo.out _ H3.out) ?_
     refine wpAnyH_done (by kernel_rfl) ?_ _
     have HN : Hid (jU p.rs (l.take (i + 1)) = none):=hZ (by
      unfold jU
      rw [zR _ l i x HX.out.1,show zJ _ (l.take i) = none from HI.out.2]
      exact HX.out.2.trans (by rw [ho];exact qpO u y))
     clear ho
     go_wp2
     go_roundg (n - (i + 1))
     case measure => omega
     case rel => exact ⟨i + 1,rfl,by omega,by go_num,hZ ⟨H6.out.chain H3.out,HN.out⟩⟩
    ·subst he
     refine ⟨rfl,?_,H6.out.chain H3.out⟩
     rw [HR.out]
     unfold jU
     rw [yP _ l i x (u,7) HX.out.1 HI.out.2 (HX.out.2.trans (by rw [ho];exact qpP u hni.out))]
     rfl
  ·have hlt' : ¬ (i : Int) < n:=by omega
   obtain rfl : i = n:=by omega
   go_wp2
   refine bodyPost_end (results_none rfl _ _ _) rfl ⟨?_,HI.out.1⟩
   have h:=HI.out.2
   rw [List.take_of_length_le (by rw [HH.out.2.1];exact Nat.le_refl _)] at h
   rw [HR.out,h]
   rfl
end
section
set_option maxRecDepth 100000
set_option maxHeartbeats 4000000
open Go.RowKit
theorem qka {w : World} {B0 : Nat} {l : List Pm} {A : Option Addr} (hA : qD zp 2 w B0 l A) : ∀ x ∈ l,x.nm.length <= maxLen:=by
 intro x hx
 obtain ⟨i,hi,h⟩:=List.getElem_of_mem hx
 obtain ⟨a,cs,_,_,_,_,hv⟩:=hA i x (by rw [List.getElem?_eq_getElem hi,h])
 exact hv.2.2
theorem qan {c1 c2 : Ck} {e : Ending} (h : qbe c1 e) : (c1 = none /\ e = .returned (.tuple #[])) \/ ∃ t,c1 = some t /\ e = .panicked [{ v:=qfI t,recovered:=false }]:=by
 cases c1 with
 | none => exact Or.inl ⟨rfl,h⟩
 | some t => exact Or.inr ⟨t,rfl,h⟩
theorem qcr (p : Pg) (d : GAd) (B0 cb : Nat) (l : List Pm) (A : Option Addr) (c n : Nat) (hn : n = l.length) (hm : n <= maxLen) (B1 : Nat) (w : World) (hB1 : B1 <= w.heap.size) (hA : qD zp 2 w B1 l A) (hC : ChkAt w B0 cb d p) :
 Calls Tryz.prog 72 #[.pointer (some ⟨cb,0,none⟩),.slice A n c] w (qV (yU p.rs l) w):=by
 have HD:=hZ (qjs 95 (enters_of Tryz.func95 (by kernel_rfl) rfl) (·.nm) qbh l (qka hA) A c n hn hm B1 w hB1 hA)
 have HT : Hid (∀ W,Below w.heap.size w W -> Calls Tryz.prog 73 #[.pointer (some ⟨cb,0,none⟩),.slice A n c] W (qV (jU p.rs l) W)):=hZ (fun W hb =>
  qfH p d B0 cb l A c n hn hm B1 W (Nat.le_trans hB1 hb.size) (yB qT hB1 hb hA) (hC.on hb))
 obtain ⟨R,hR⟩ : ∃ R : Ck,R = yU p.rs l:=⟨_,rfl⟩
 obtain ⟨R1,hR1⟩ : ∃ R : Ck,R = zH [] (l.map fun x => x.nm):=⟨_,rfl⟩
 obtain ⟨R2,hR2⟩ : ∃ R : Ck,R = jU p.rs l:=⟨_,rfl⟩
 have HR : Hid (R = zw R1 R2):=hZ (by rw [hR,hR1,hR2];rfl)
 rw [<- hR]
 rw [<- hR1] at HD
 rw [<- hR2] at HT
 clear hA hn hm hB1 hC hR hR1 hR2
 go_enter Tryz.func72,Tryz.ntmps72
 go_wp2_with fail
 (with_reducible refine HD.out.mono ?_)
 rintro e w1 ⟨he,hb⟩
 rcases qan (c2:=R2) he with ⟨h1,rfl⟩ | ⟨t,h1,rfl⟩
 ·have H1:=hZ hb
  have HRR : Hid (R = R2):=hZ (by rw [HR.out,h1];rfl)
  clear he hb h1
  go_wp2_with fail
  (with_reducible refine (HT.out _ H1.out).mono ?_)
  rintro e w2 ⟨he,hb⟩
  have H2:=hZ (H1.out.chain hb)
  rw [<- HRR.out] at he
  rcases qan (c2:=R2) he with ⟨h2,rfl⟩ | ⟨t,h2,rfl⟩
  ·clear hb
   go_wp2
   exact bodyPost_end (results_none rfl _ _ _) rfl ⟨he,H2.out⟩
  ·exact ⟨rfl,he,H2.out⟩
 ·exact ⟨rfl,by rw [HR.out,h1];exact rfl,hb⟩
end
section
set_option maxRecDepth 100000
set_option maxHeartbeats 4000000
open Go.RowKit
def yb (x : Pr) : List Pm:=if x.rn = [] then [] else [⟨x.rt,x.rn⟩]
theorem qgo (x : Pr) : (yb x).length <= 1:=by
 unfold yb
 split <;> simp
theorem qn5 {t n : List UInt8} (W : World) (T : TypeId) (ht : t.length <= maxLen) (hn : n.length <= maxLen) {g : Nat} (hg : g = W.heap.size) :
 qD zp 2 (W.alloc (.cells #[.string ⟨t.toArray⟩,.string ⟨n.toArray⟩] T)) (W.alloc (.cells #[.string ⟨t.toArray⟩,.string ⟨n.toArray⟩] T)).heap.size [⟨t,n⟩] (some ⟨g,0,none⟩):=by
 subst hg
 intro i y hy
 match i,hy with
 | i + 1,hy => exact absurd hy (by simp)
 | 0,hy =>
   obtain rfl : _ = y:=Option.some.inj hy
   refine ⟨_,#[.string ⟨t.toArray⟩,.string ⟨n.toArray⟩],rfl,?_,rfl,?_,rfl,ht,hn⟩
   ·rw [World.size_alloc];exact Nat.lt_succ_self _
   ·intro j v hj
    have hbl:=qe W (.cells #[.string ⟨t.toArray⟩,.string ⟨n.toArray⟩] T)
    match j,hj with
    | 0,hj => exact qc hbl 0 hj
    | 1,hj => exact qc hbl 1 hj
    | j + 2,hj => exact absurd hj (by simp)
theorem qhF (x : Pr) (d : PAd) (w : World) (ht : x.rt.length <= maxLen) (hn : x.rn.length <= maxLen) :
 Calls Tryz.prog 62 #[.agg (jJ d x)] w fun e w' => (∃ (R : Option Addr) (n c : Nat),e = .returned (.slice R n c) /\ n = (yb x).length /\ qD zp 2 w' w'.heap.size (yb x) R) /\ Below w.heap.size w w':=by
 unfold jJ
 obtain ⟨n1,h1⟩ : ∃ n,n = x.ps.length:=⟨_,rfl⟩
 obtain ⟨n2,h2⟩ : ∃ n,n = x.lg.length:=⟨_,rfl⟩
 obtain ⟨n3,h3⟩ : ∃ n,n = x.rq.length:=⟨_,rfl⟩
 obtain ⟨n4,h4⟩ : ∃ n,n = x.es.length:=⟨_,rfl⟩
 obtain ⟨n5,h5⟩ : ∃ n,n = x.lo.length:=⟨_,rfl⟩
 obtain ⟨n6,h6⟩ : ∃ n,n = x.bd.length:=⟨_,rfl⟩
 rw [<- h1,<- h2,<- h3,<- h4,<- h5,<- h6]
 clear h1 h2 h3 h4 h5 h6
 by_cases hz : x.rn = []
 ·have hb : (x.rn == []) = true:=by rw [hz];rfl
  have hR : yb x = []:=if_pos hz
  rw [hR]
  go_enter Tryz.func62,Tryz.ntmps62
  go_wp2
  go_ret
  exact ⟨⟨none,0,0,rfl,rfl,fun i x h => by simp at h⟩,qd w _⟩
 ·have hb : (x.rn == []) = false:=beq_eq_false_iff_ne.2 hz
  have hR : yb x = [⟨x.rt,x.rn⟩]:=if_neg hz
  rw [hR]
  have HH:=hZ (aZ ht hn)
  clear hR ht hn hz
  go_enter Tryz.func62,Tryz.ntmps62
  go_wp2
  go_ret
  refine ⟨⟨some ⟨w.heap.size + 1,0,none⟩,1,1,rfl,rfl,?_⟩,(qd w _).chain (qd _ _)⟩
  exact qn5 _ _ HH.out.1 HH.out.2 (World.size_alloc _ _).symm
end
section
set_option maxRecDepth 100000
set_option maxHeartbeats 2000000
open Go.RowKit Go.Lib
theorem qgu : (Tryz.prog.info? 42).map (fun i => (i.zero,i.size,i.bytes)) = some (some (.agg #[.string ⟨#[]⟩,.string ⟨#[]⟩]),2,32):=by kernel_rfl
theorem qfD (k : Nat) : (Builtin.zeroCells (Value.agg #[.string ⟨#[]⟩,.string ⟨#[]⟩]).cells k).size = k * 2:=by simp [Builtin.zeroCells,Value.cells]
theorem qh5 (n : Nat) (z : Int) (hz : z = (n : Int)) (hn : n <= 4400000000000) (w : World) :
 Calls Tryz.prog 85 #[.slice none 0 0,.int .i64 z] w fun e w' => ∃ v,e = .returned v /\ w'.ownsRow w.heap.size 42 2 v 0 [] /\ Below w.heap.size w w':=by
 subst hz
 have zS : ¬ (n : Int) < 0:=by omega
 by_cases h0 : n = 0
 ·subst h0
  go_enter Tryz.func85,Tryz.ntmps85
  go_wp2
  go_ret
  exact ⟨_,rfl,World.ownsRow_nil w _ _ 2,Below.refl _ _⟩
 have hpos : 0 < n:=by omega
 have hpos' : (0 : Int) < n:=by omega
 obtain ⟨i0,hi,hiz,his,yM⟩:=info_parts qgu
 have qiB : (Builtin.firstCells i0.size 0 (.slice none 0 0)).run Tryz.prog w.drew = .ok #[] w.drew:=by
  simp [Builtin.firstCells]
 obtain ⟨G,hG⟩ : ∃ G,G = grownCap w n 0 42:=⟨_,rfl⟩
 have hGn : n <= G:=by rw [hG];exact grownCap_ge w _ _ _
 have hGM : G <= maxLen:=by rw [hG];exact grownCap_le_maxLen w n 0 _ (by unfold maxLen;omega)
 have hG63 : G <= 9223372036854775807:=by unfold maxLen at hGM;omega
 obtain ⟨ROW,qhh⟩ : ∃ ROW : Array Value,ROW = (#[] : Array Value) ++ Builtin.zeroCells (Value.agg #[.string ⟨#[]⟩,.string ⟨#[]⟩]).cells n ++ Builtin.zeroCells (Value.agg #[.string ⟨#[]⟩,.string ⟨#[]⟩]).cells (G - n):=⟨_,rfl⟩
 have hrz : ∀ ty,(Builtin.append_ #[23,3] ty #[.slice none 0 0,.int .i64 (n : Int)]).run Tryz.prog w = .ok (.slice (some ⟨w.heap.size,0,none⟩) n G) (w.drew.alloc (.cells ROW 42)):=fun ty => by
  have h:=Lib.run_append_grow_zeros (P:=Tryz.prog) w 23 3 ty 42 i0 _ .i64 .i64 Tryz.underlying23 Tryz.underlying3 hi hiz none 0 0 [] qiB n (by omega) (by rw [his];decide) (by omega) (by omega) (by rw [yM];omega) (by rw [yM,Nat.zero_add,show Builtin.nextslicecap n 0 = n from if_pos (by omega)];omega)
  rw [Nat.zero_add,<- hG] at h
  rw [h,qhh]
 have hR : ROW.size = G * 2:=by
  rw [qhh,Array.size_append,Array.size_append,qfD,qfD]
  simp
  omega
 have HZ:=hZ hrz
 have HO:=hZ (aZ hGn (aZ hGM hR))
 have hG64 : (G : Int) <= 9223372036854775807:=by omega
 clear hrz hG qhh hi hiz his yM qiB hGn hR hGM
 go_enter Tryz.func85,Tryz.ntmps85
 go_wp2_with (at_builtin;refine Lib.wpList_append_run _ rfl _ _ _ _ rfl _ _ rfl rfl _ _ (HZ.out _) ?_)
 go_ret
 refine ⟨_,rfl,⟨rfl,.inr ⟨w.heap.size,G,ROW,rfl,Nat.le_refl _,qe w.drew _,Nat.zero_le _,HO.out.2.1,HO.out.2.2,by simp⟩⟩,(Below.refl w.heap.size w).drew.alloc (Nat.le_refl _) _⟩
theorem qjm (n : Nat) (z : Int) (hz : z = (n : Int)) (hn : n <= 4000000000000) (w : World) :
 Calls Tryz.prog 85 #[.slice none 0 0,.int .i64 z] w fun e w' => ∃ v,e = .returned v /\ w'.ownsRow w.heap.size 42 2 v 0 [] /\ Below w.heap.size w w':=qh5 n z hz (by omega) w
end
section
open Go.RowKit
section
variable {P : Program} (w : World)
theorem qhE (base : Nat) (t ty e : TypeId) (i : TypeInfo) (z : Value) (size bytes : Nat) (ht : P.underlying t = some (.slice e)) (hi : P.info? e = some i) (hz : i.zero = some z)
 (hsize : i.size = size) (hby : i.bytes = bytes) (xg : z.cells.size = size) (qK : 0 < size)
 (v : Value) (n : Nat) (xs : List Value) (qA : w.ownsRow base e size v n xs)
 (B : Nat) (A : Option Addr) (m c : Nat) (news : List Value) (hr : qI w B size A m news) (h1 : ∀ u ∈ news,u.oneCell' = true)
 (h63 : n + m <= maxLen) (hbytes : ((n + m) + (n + m) / 4 + 192) * bytes <= 281474976710656) (hbase : base <= w.heap.size) :
 ∃ v' w',(Builtin.append_ #[t,t] ty #[v,.slice A m c]).run P w = .ok v' w' /\ w'.ownsRow base e size v' (n + m) (xs ++ news) /\ w.grownBy w' v.ownBlock:=by
 rcases A with _ | ad
 ·have hm : m = 0:=by
   rcases Nat.eq_zero_or_pos m with h0 | h0
   ·exact h0
   ·obtain ⟨ad,h,_⟩:=hr.2 h0
    cases h
  subst hm
  have hn : news = []:=List.eq_nil_of_length_eq_zero (by simpa using hr.1)
  subst hn
  exact ⟨v,w,qc1 w base t ty e i size ht hi v n xs qA c,by simpa using qA,World.grownBy.refl w _⟩
 ·have qaH : ∀ j u,news[j]? = some u -> w.cell? (ad.add j) = some u:=by
   intro j u hu
   rcases Nat.eq_zero_or_pos m with h0 | h0
   ·subst h0
    have hn : news = []:=List.eq_nil_of_length_eq_zero (by simpa using hr.1)
    subst hn
    simp at hu
   ·obtain ⟨ad',h,_,hc⟩:=hr.2 h0
    injection h with h
    subst h
    exact hc j u hu
  obtain ⟨v',w',vp,h2,h3,_⟩:=run_append_own_wide (P:=P) w base t ty e i z size bytes ht hi hz hsize hby xg qK v n xs qA ad m c news hr.1 qaH h1 h63 hbytes hbase
  exact ⟨v',w',vp,h2,h3⟩
theorem qcw {ops : Array Oper} {rest : List Oper} {o : Oper} {a : Act} {Q : Exit -> Act -> World -> Prop} (hgd : o.guard = none) (s x : Operand) (t : TypeId)
 (ho : o.op = .call { callee:=.builtin .append,args:=#[s,x],argTypes:=#[t,t] })
 (base : Nat) (e : TypeId) (i : TypeInfo) (z : Value) (size bytes : Nat) (ht : P.underlying t = some (.slice e)) (hi : P.info? e = some i) (hz : i.zero = some z)
 (hsize : i.size = size) (hby : i.bytes = bytes) (xg : z.cells.size = size) (qK : 0 < size)
 (v : Value) (n : Nat) (xs : List Value) (hs : a.eval s = v) (qA : w.ownsRow base e size v n xs)
 (B : Nat) (A : Option Addr) (m c : Nat) (news : List Value) (hx : a.eval x = .slice A m c) (hr : qI w B size A m news) (h1 : ∀ u ∈ news,u.oneCell' = true)
 (h63 : n + m <= maxLen) (hbytes : ((n + m) + (n + m) / 4 + 192) * bytes <= 281474976710656) (hbase : base <= w.heap.size)
 (h : ∀ v' w',w'.ownsRow base e size v' (n + m) (xs ++ news) -> w.grownBy w' v.ownBlock -> wpList P ops Q rest (a.put o.dst v') w') : wpList P ops Q (o :: rest) a w:=by
 refine wpList_plain hgd fun _ hK => ?_
 obtain ⟨v',w',vp,h2,h3⟩:=qhE (P:=P) w base t o.type e i z size bytes ht hi hz hsize hby xg qK v n xs qA B A m c news hr h1 h63 hbytes hbase
 unfold Oper.wp execOp
 simp only [ho,resolve,invoke,builtin,Sem.run_bind,Sem.run_pure,Result.andThen_ok,List.map_toArray,List.map_cons,List.map_nil,hs,hx,vp]
 exact hK _ _ (h v' w' h2 h3)
end
end
end Go.Proofs.YtojjfdegkooknaaGreatDoor
