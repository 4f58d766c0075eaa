import Derived.Test.YtojjfdegkooknaaGreatDoorSTypQf
import Derived.Test.YtojjfdegkooknaaGreatDoorSTypSu
import Derived.Test.YtojjfdegkooknaaGreatDoorSTreeO
import Derived.WalkSpells
import Derived.Outline
import Derived.Test.YtojjfdegkooknaaGreatDoorSTypAx
import Derived.Test.YtojjfdegkooknaaGreatDoorSTypFw
set_option linter.unusedVariables false
set_option linter.unusedSimpArgs false
namespace Go.Proofs.YtojjfdegkooknaaGreatDoor
section
set_option maxRecDepth 100000
set_option maxHeartbeats 8000000
open Go.RowKit Go.Lib
theorem qha : (Tryz.prog.info? 90).map (fun i => (i.zero,i.size,i.bytes)) = some (some (.agg #[.int .i64 0,.int .i64 0,.int .i64 0,.string ⟨#[]⟩,.string ⟨#[]⟩,.string ⟨#[]⟩,.int .i64 0,.int .i64 0,.string ⟨#[]⟩,.slice none 0 0,.int .i64 0,.int .i64 0,.int .i64 0,.string ⟨#[]⟩,.slice none 0 0,.int .i64 0,.int .i64 0,.string ⟨#[]⟩,.slice none 0 0,.slice none 0 0,.slice none 0 0,.slice none 0 0,.slice none 0 0,.slice none 0 0]),24,368):=by kernel_rfl
theorem qfC (k : Nat) : (Builtin.zeroCells (Value.agg #[.int .i64 0,.int .i64 0,.int .i64 0,.string ⟨#[]⟩,.string ⟨#[]⟩,.string ⟨#[]⟩,.int .i64 0,.int .i64 0,.string ⟨#[]⟩,.slice none 0 0,.int .i64 0,.int .i64 0,.int .i64 0,.string ⟨#[]⟩,.slice none 0 0,.int .i64 0,.int .i64 0,.string ⟨#[]⟩,.slice none 0 0,.slice none 0 0,.slice none 0 0,.slice none 0 0,.slice none 0 0,.slice none 0 0]).cells k).size = k * 24:=by simp [Builtin.zeroCells,Value.cells]
theorem qjl (n : Nat) (z : Int) (hz : z = (n : Int)) (hn : n <= 1000000) (w : World) :
 Calls Tryz.prog 53 #[.slice none 0 0,.int .i64 z] w fun e w' => ∃ v,e = .returned v /\ w'.ownsRow w.heap.size 90 24 v 0 [] /\ Below w.heap.size w w':=by
 subst hz
 have zS : ¬ (n : Int) < 0:=by omega
 by_cases h0 : n = 0
 ·subst h0
  go_enter Tryz.func53,Tryz.ntmps53
  go_wp2
  go_ret
  exact ⟨_,rfl,World.ownsRow_nil w _ _ 24,Below.refl _ _⟩
 have hpos : 0 < n:=by omega
 have hpos' : (0 : Int) < n:=by omega
 obtain ⟨i0,hi,hiz,his,yM⟩:=info_parts qha
 have qiB : (Builtin.firstCells i0.size 0 (.slice none 0 0)).run Tryz.prog w.drew = .ok #[] w.drew:=by
  simp [Builtin.firstCells]
 obtain ⟨G,hG⟩ : ∃ G,G = grownCap w n 0 90:=⟨_,rfl⟩
 have hGn : n <= G:=by rw [hG];exact grownCap_ge w _ _ _
 have hGM : G <= maxLen:=by rw [hG];exact grownCap_le_maxLen w n 0 _ (by unfold maxLen;omega)
 have hG63 : G <= 9223372036854775807:=by unfold maxLen at hGM;omega
 obtain ⟨ROW,qhh⟩ : ∃ ROW : Array Value,ROW = (#[] : Array Value) ++ Builtin.zeroCells (Value.agg #[.int .i64 0,.int .i64 0,.int .i64 0,.string ⟨#[]⟩,.string ⟨#[]⟩,.string ⟨#[]⟩,.int .i64 0,.int .i64 0,.string ⟨#[]⟩,.slice none 0 0,.int .i64 0,.int .i64 0,.int .i64 0,.string ⟨#[]⟩,.slice none 0 0,.int .i64 0,.int .i64 0,.string ⟨#[]⟩,.slice none 0 0,.slice none 0 0,.slice none 0 0,.slice none 0 0,.slice none 0 0,.slice none 0 0]).cells n ++ Builtin.zeroCells (Value.agg #[.int .i64 0,.int .i64 0,.int .i64 0,.string ⟨#[]⟩,.string ⟨#[]⟩,.string ⟨#[]⟩,.int .i64 0,.int .i64 0,.string ⟨#[]⟩,.slice none 0 0,.int .i64 0,.int .i64 0,.int .i64 0,.string ⟨#[]⟩,.slice none 0 0,.int .i64 0,.int .i64 0,.string ⟨#[]⟩,.slice none 0 0,.slice none 0 0,.slice none 0 0,.slice none 0 0,.slice none 0 0,.slice none 0 0]).cells (G - n):=⟨_,rfl⟩
 have hrz : ∀ ty,(Builtin.append_ #[44,3] ty #[.slice none 0 0,.int .i64 (n : Int)]).run Tryz.prog w = .ok (.slice (some ⟨w.heap.size,0,none⟩) n G) (w.drew.alloc (.cells ROW 90)):=fun ty => by
  have h:=Lib.run_append_grow_zeros (P:=Tryz.prog) w 44 3 ty 90 i0 _ .i64 .i64 Tryz.underlying44 Tryz.underlying3 hi hiz none 0 0 [] qiB n (by omega) (by rw [his];decide) (by omega) (by omega) (by rw [yM];omega) (by rw [yM,Nat.zero_add,show Builtin.nextslicecap n 0 = n from if_pos (by omega)];omega)
  rw [Nat.zero_add,<- hG] at h
  rw [h,qhh]
 have hR : ROW.size = G * 24:=by
  rw [qhh,Array.size_append,Array.size_append,qfC,qfC]
  simp
  omega
 have HZ:=hZ hrz
 have HO:=hZ (aZ hGn (aZ hGM hR))
 have hG64 : (G : Int) <= 9223372036854775807:=by omega
 clear hrz hG qhh hi hiz his yM qiB hGn hR hGM
 go_enter Tryz.func53,Tryz.ntmps53
 go_wp2_with (at_builtin;refine Lib.wpList_append_run _ rfl _ _ _ _ rfl _ _ rfl rfl _ _ (HZ.out _) ?_)
 go_ret
 refine ⟨_,rfl,⟨rfl,.inr ⟨w.heap.size,G,ROW,rfl,Nat.le_refl _,qe w.drew _,Nat.zero_le _,HO.out.2.1,HO.out.2.2,by simp⟩⟩,(Below.refl w.heap.size w).drew.alloc (Nat.le_refl _) _⟩
theorem qqV (A1 A2 : Option Addr) (n1 c1 n2 c2 S : Nat) (X1 X2 : List Value) (hn : n1 + n2 <= 1000000) (w : World) (r1 : qI w w.heap.size 24 A1 n1 X1) (u1 : ∀ v ∈ X1,v.oneCell' = true) (r2 : qI w w.heap.size 24 A2 n2 X2) (u2 : ∀ v ∈ X2,v.oneCell' = true) (k1 : w.cell? ⟨S,0,none⟩ = some (.slice A1 n1 c1)) (k2 : w.cell? ⟨S,1,none⟩ = some (.slice A2 n2 c2)) (hS : S < w.heap.size) :
 Calls Tryz.prog 30 #[.slice (some ⟨S,0,none⟩) 2 2] w fun e w' => ∃ v,e = .returned v /\ w'.ownsRow w.heap.size 90 24 v (n1 + n2) (X1 ++ X2) /\ Below w.heap.size w w':=by
 have xW:=hZ r1
 have HU1:=hZ u1
 have HR2:=hZ r2
 have HU2:=hZ u2
 have HK:=hZ (aZ k1 k2)
 obtain ⟨i0,hi,hiz,his,yM⟩:=info_parts qha
 have zt:=hZ (aZ hi (aZ hiz (aZ his yM)))
 obtain ⟨t2,ht2⟩ : ∃ t,t = n1 + n2:=⟨_,rfl⟩
 have hw1 : IntKind.i64.wrap (0 + (n1 : Int)) = (n1 : Int):=by rw [IntKind.wrap_i64];omega
 have hw1' : IntKind.i64.wrap (n1 : Int) = (n1 : Int):=by rw [IntKind.wrap_i64];omega
 have qk : ¬ (n1 : Int) < 0:=by omega
 have hw2 : IntKind.i64.wrap ((n1 : Int) + n2) = (t2 : Int):=by rw [IntKind.wrap_i64];omega
 have zF : ¬ (t2 : Int) < 0:=by omega
 have hN : t2 <= 1000000:=by omega
 rw [show n1 + n2 = t2 by omega]
 have xL:=hZ ht2
 have HN:=hZ hn
 clear r1 r2 u1 u2 hi hiz his yM ht2 hn
 go_enter Tryz.func30,Tryz.ntmps30
 go_wp2
 refine wp_loop_rounds 3 ?_
 rw [rounds_succ]
 go_wp2
 rw [rounds_succ]
 go_wp2
 rw [rounds_succ]
 go_wp2_with (go_at_call 53;refine (qjl t2 _ rfl hN _).mono ?_;rintro e w2 ⟨v0,rfl,q1,q2⟩;have H0 : Hid (Below w.heap.size w w2 /\ w2.ownsRow w.heap.size 90 24 v0 0 []):=hZ ⟨q2,q1⟩;have d1:=(q2.cell (p:=⟨S,0,none⟩) hS).trans HK.out.1;have d2:=(q2.cell (p:=⟨S,1,none⟩) hS).trans HK.out.2;clear q1 q2 k1 k2)
 refine wp_loop_rounds 3 ?_
 rw [rounds_succ]
 go_wp2_with (at_builtin;refine qQ (o:=⟨some 33,_,_,_,_,_⟩) _ rfl _ _ 44 rfl w.heap.size 90 i0 _ 24 368 Tryz.underlying44 zt.out.1 zt.out.2.1 zt.out.2.2.1 zt.out.2.2.2 rfl (by decide) _ 0 [] rfl H0.out.2 w.heap.size A1 n1 _ X1 rfl (xW.out.below H0.out.1) HU1.out (by unfold maxLen;have := HN.out;have := xL.out;omega) (by have := HN.out;have := xL.out;omega) H0.out.1.size ?_;intro v1 w3 o1 g1 _;have H1 : Hid (Below w.heap.size w w3 /\ w3.ownsRow w.heap.size 90 24 v1 n1 (X1)):=hZ ⟨H0.out.1.trans (zi H0.out.2 g1 H0.out.1.size),by simpa using o1⟩;clear o1 g1;clear d1 d2;have d2:=(H1.out.1.cell (p:=⟨S,1,none⟩) hS).trans HK.out.2)
 rw [rounds_succ]
 go_wp2_with (at_builtin;refine qQ (o:=⟨some 33,_,_,_,_,_⟩) _ rfl _ _ 44 rfl w.heap.size 90 i0 _ 24 368 Tryz.underlying44 zt.out.1 zt.out.2.1 zt.out.2.2.1 zt.out.2.2.2 rfl (by decide) _ n1 (X1) rfl H1.out.2 w.heap.size A2 n2 _ X2 rfl (HR2.out.below H1.out.1) HU2.out (by unfold maxLen;have := HN.out;have := xL.out;omega) (by have := HN.out;have := xL.out;omega) H1.out.1.size ?_;intro v2 w4 o1 g1 _;have H2 : Hid (Below w.heap.size w w4 /\ w4.ownsRow w.heap.size 90 24 v2 t2 (X1 ++ X2)):=hZ ⟨H1.out.1.trans (zi H1.out.2 g1 H1.out.1.size),by rw [xL.out];exact o1⟩;clear o1 g1;clear d2)
 rw [rounds_succ]
 go_wp2
 go_ret
 exact ⟨_,rfl,H2.out.2,H2.out.1⟩
theorem qqU (A1 A2 A3 : Option Addr) (n1 c1 n2 c2 n3 c3 S : Nat) (X1 X2 X3 : List Value) (hn : n1 + n2 + n3 <= 1000000) (w : World) (r1 : qI w w.heap.size 24 A1 n1 X1) (u1 : ∀ v ∈ X1,v.oneCell' = true) (r2 : qI w w.heap.size 24 A2 n2 X2) (u2 : ∀ v ∈ X2,v.oneCell' = true) (r3 : qI w w.heap.size 24 A3 n3 X3) (u3 : ∀ v ∈ X3,v.oneCell' = true) (k1 : w.cell? ⟨S,0,none⟩ = some (.slice A1 n1 c1)) (k2 : w.cell? ⟨S,1,none⟩ = some (.slice A2 n2 c2)) (k3 : w.cell? ⟨S,2,none⟩ = some (.slice A3 n3 c3)) (hS : S < w.heap.size) :
 Calls Tryz.prog 30 #[.slice (some ⟨S,0,none⟩) 3 3] w fun e w' => ∃ v,e = .returned v /\ w'.ownsRow w.heap.size 90 24 v (n1 + n2 + n3) (X1 ++ X2 ++ X3) /\ Below w.heap.size w w':=by
 have xW:=hZ r1
 have HU1:=hZ u1
 have HR2:=hZ r2
 have HU2:=hZ u2
 have HR3:=hZ r3
 have HU3:=hZ u3
 have HK:=hZ (aZ k1 (aZ k2 k3))
 obtain ⟨i0,hi,hiz,his,yM⟩:=info_parts qha
 have zt:=hZ (aZ hi (aZ hiz (aZ his yM)))
 obtain ⟨t2,ht2⟩ : ∃ t,t = n1 + n2:=⟨_,rfl⟩
 obtain ⟨t3,ht3⟩ : ∃ t,t = t2 + n3:=⟨_,rfl⟩
 have hw1 : IntKind.i64.wrap (0 + (n1 : Int)) = (n1 : Int):=by rw [IntKind.wrap_i64];omega
 have hw1' : IntKind.i64.wrap (n1 : Int) = (n1 : Int):=by rw [IntKind.wrap_i64];omega
 have qk : ¬ (n1 : Int) < 0:=by omega
 have hw2 : IntKind.i64.wrap ((n1 : Int) + n2) = (t2 : Int):=by rw [IntKind.wrap_i64];omega
 have zF : ¬ (t2 : Int) < 0:=by omega
 have hw3 : IntKind.i64.wrap ((t2 : Int) + n3) = (t3 : Int):=by rw [IntKind.wrap_i64];omega
 have qt : ¬ (t3 : Int) < 0:=by omega
 have hN : t3 <= 1000000:=by omega
 rw [show n1 + n2 + n3 = t3 by omega]
 have xL:=hZ ht2
 have vS:=hZ ht3
 have HN:=hZ hn
 clear r1 r2 r3 u1 u2 u3 hi hiz his yM ht2 ht3 hn
 go_enter Tryz.func30,Tryz.ntmps30
 go_wp2
 refine wp_loop_rounds 4 ?_
 rw [rounds_succ]
 go_wp2
 rw [rounds_succ]
 go_wp2
 rw [rounds_succ]
 go_wp2
 rw [rounds_succ]
 go_wp2_with (go_at_call 53;refine (qjl t3 _ rfl hN _).mono ?_;rintro e w2 ⟨v0,rfl,q1,q2⟩;have H0 : Hid (Below w.heap.size w w2 /\ w2.ownsRow w.heap.size 90 24 v0 0 []):=hZ ⟨q2,q1⟩;have d1:=(q2.cell (p:=⟨S,0,none⟩) hS).trans HK.out.1;have d2:=(q2.cell (p:=⟨S,1,none⟩) hS).trans HK.out.2.1;have d3:=(q2.cell (p:=⟨S,2,none⟩) hS).trans HK.out.2.2;clear q1 q2 k1 k2 k3)
 refine wp_loop_rounds 4 ?_
 rw [rounds_succ]
 go_wp2_with (at_builtin;refine qQ (o:=⟨some 33,_,_,_,_,_⟩) _ rfl _ _ 44 rfl w.heap.size 90 i0 _ 24 368 Tryz.underlying44 zt.out.1 zt.out.2.1 zt.out.2.2.1 zt.out.2.2.2 rfl (by decide) _ 0 [] rfl H0.out.2 w.heap.size A1 n1 _ X1 rfl (xW.out.below H0.out.1) HU1.out (by unfold maxLen;have := HN.out;have := xL.out;have := vS.out;omega) (by have := HN.out;have := xL.out;have := vS.out;omega) H0.out.1.size ?_;intro v1 w3 o1 g1 _;have H1 : Hid (Below w.heap.size w w3 /\ w3.ownsRow w.heap.size 90 24 v1 n1 (X1)):=hZ ⟨H0.out.1.trans (zi H0.out.2 g1 H0.out.1.size),by simpa using o1⟩;clear o1 g1;clear d1 d2 d3;have d2:=(H1.out.1.cell (p:=⟨S,1,none⟩) hS).trans HK.out.2.1;have d3:=(H1.out.1.cell (p:=⟨S,2,none⟩) hS).trans HK.out.2.2)
 rw [rounds_succ]
 go_wp2_with (at_builtin;refine qQ (o:=⟨some 33,_,_,_,_,_⟩) _ rfl _ _ 44 rfl w.heap.size 90 i0 _ 24 368 Tryz.underlying44 zt.out.1 zt.out.2.1 zt.out.2.2.1 zt.out.2.2.2 rfl (by decide) _ n1 (X1) rfl H1.out.2 w.heap.size A2 n2 _ X2 rfl (HR2.out.below H1.out.1) HU2.out (by unfold maxLen;have := HN.out;have := xL.out;have := vS.out;omega) (by have := HN.out;have := xL.out;have := vS.out;omega) H1.out.1.size ?_;intro v2 w4 o1 g1 _;have H2 : Hid (Below w.heap.size w w4 /\ w4.ownsRow w.heap.size 90 24 v2 t2 (X1 ++ X2)):=hZ ⟨H1.out.1.trans (zi H1.out.2 g1 H1.out.1.size),by rw [xL.out];exact o1⟩;clear o1 g1;clear d2 d3;have d3:=(H2.out.1.cell (p:=⟨S,2,none⟩) hS).trans HK.out.2.2)
 rw [rounds_succ]
 go_wp2_with (at_builtin;refine qQ (o:=⟨some 33,_,_,_,_,_⟩) _ rfl _ _ 44 rfl w.heap.size 90 i0 _ 24 368 Tryz.underlying44 zt.out.1 zt.out.2.1 zt.out.2.2.1 zt.out.2.2.2 rfl (by decide) _ t2 (X1 ++ X2) rfl H2.out.2 w.heap.size A3 n3 _ X3 rfl (HR3.out.below H2.out.1) HU3.out (by unfold maxLen;have := HN.out;have := xL.out;have := vS.out;omega) (by have := HN.out;have := xL.out;have := vS.out;omega) H2.out.1.size ?_;intro v3 w5 o1 g1 _;have H3 : Hid (Below w.heap.size w w5 /\ w5.ownsRow w.heap.size 90 24 v3 t3 (X1 ++ X2 ++ X3)):=hZ ⟨H2.out.1.trans (zi H2.out.2 g1 H2.out.1.size),by rw [vS.out];exact o1⟩;clear o1 g1;clear d3)
 rw [rounds_succ]
 go_wp2
 go_ret
 exact ⟨_,rfl,H3.out.2,H3.out.1⟩
end
section
set_option maxRecDepth 100000
open Go.RowKit Go.ChangeShapes Go.WideShapes Go.Deep
def qgD (w : World) (B : Nat) (p : Addr) (x : Pr) : Prop :=
 ∃ d : PAd,(∀ j v,(jJ d x)[j]? = some v -> w.cell? (p.add j) = some v) /\ xJ w B d x /\ x.bd.length <= d.nb
def qhl (w : World) (B : Nat) (cs : Array Value) (x : Pr) : Prop:=∃ d : PAd,cs = jJ d x /\ xJ w B d x /\ x.bd.length <= d.nb
theorem qsC {w : World} {B : Nat} {l : List Pr} {A : Option Addr} (h : RowX qgD 12 w B l A) : qnB w B l A:=by
 cases h with
 | nil => exact .nil A
 | row a l hb cells => exact .row a l hb fun i x hi => match cells i x hi with | ⟨d,h1,h2,_⟩ => ⟨d,h1,h2⟩
variable {H : Type} {enc : TypeId × Value -> H} {w : World} {spare : Nat -> Bool} {held : Bool}
theorem qmR {x : DataW H × List MemPlace} {fuel : Nat} {cs : List Value} (p : Addr) (h : DataW.trod enc Tryz.prog w 0 spare held fuel 46 cs = some x) (hc : w.cells? 0 p 12 = some cs) : ∃ e,qgD w w.heap.size p e:=by
 obtain ⟨ys,n,_,jL,qE,jj,hf⟩:=DataW.trod_struct (fs:=_) Tryz.underlying46 h
 have yt : cs.length = 12:=qE.trans (by kernel_rfl)
 have e0:=hf 0 _ rfl
 have e1:=hf 1 _ rfl
 have e2:=hf 2 _ rfl
 have e3:=hf 3 _ rfl
 have e4:=hf 4 _ rfl
 have e5:=hf 5 _ rfl
 have e6:=hf 6 _ rfl
 have e7:=hf 7 _ rfl
 have e8:=hf 8 _ rfl
 have e9:=hf 9 _ rfl
 match cs,yt with
 | [u0,u1,u2,u3,u4,u5,u6,u7,u8,u9,u10,u11],_ =>
   match ys,jj with
   | [y0,y1,y2,y3,y4,y5,y6,y7,y8,y9],_ =>
     have k1 : Tryz.prog.cellsOf 3 = 1:=by kernel_rfl
     have k2 : Tryz.prog.cellsOf 9 = 1:=by kernel_rfl
     have k3 : Tryz.prog.cellsOf 23 = 1:=by kernel_rfl
     have k4 : Tryz.prog.cellsOf 43 = 1:=by kernel_rfl
     have k5 : Tryz.prog.cellsOf 40 = 2:=by kernel_rfl
     have k6 : Tryz.prog.cellsOf 42 = 2:=by kernel_rfl
     have k7 : Tryz.prog.cellsOf 4 = 1:=by kernel_rfl
     have k8 : Tryz.prog.cellsOf 44 = 1:=by kernel_rfl
     obtain ⟨s,hs,_,hz⟩:=DataW.trod_string (x:=y0) (cs:=[u0]) Tryz.underlying9 (by simpa [k2] using e0)
     have e1' : DataW.trod enc Tryz.prog w 0 spare held n 40 [u1,u2] = some y1:=by simpa [k5] using e1
     have e4' : DataW.trod enc Tryz.prog w 0 spare held n 42 [u5,u6] = some y4:=by simpa [k6] using e4
     obtain ⟨zs,n2,_,_,_,hzl,hg⟩:=DataW.trod_struct (fs:=_) Tryz.underlying40 e1'
     obtain ⟨ts,n3,_,_,_,htl,hk⟩:=DataW.trod_struct (fs:=_) Tryz.underlying42 e4'
     have g0:=hg 0 _ rfl
     have g1:=hg 1 _ rfl
     have t0:=hk 0 _ rfl
     have t1:=hk 1 _ rfl
     match zs,hzl,ts,htl with
     | [z0,z1],_,[v0,v1],_ =>
       obtain ⟨ln,jC,_⟩:=DataW.trod_int (x:=z0) (cs:=[u1]) Tryz.underlying3 (by simpa [k1] using g0)
       obtain ⟨co,hco,_⟩:=DataW.trod_int (x:=z1) (cs:=[u2]) Tryz.underlying3 (by simpa [k1] using g1)
       obtain ⟨rt,hrt,_,mrt⟩:=DataW.trod_string (x:=v0) (cs:=[u5]) Tryz.underlying9 (by simpa [k2] using t0)
       obtain ⟨rn,hrn,_,mrn⟩:=DataW.trod_string (x:=v1) (cs:=[u6]) Tryz.underlying9 (by simpa [k2] using t1)
       obtain ⟨A1,c1,ps,h1,r1,l1⟩:=xi (x:=y2) (fuel:=n) (cs:=[u3]) (by simpa [k3] using e2)
       obtain ⟨A2,c2,lg,h2,r2,l2⟩:=xi (x:=y3) (fuel:=n) (cs:=[u4]) (by simpa [k3] using e3)
       obtain ⟨b,hb,_⟩:=DataW.trod_bool (x:=y5) (cs:=[u7]) Tryz.underlying4 (by simpa [k7] using e5)
       obtain ⟨A3,c3,rq,h3,r3,l3⟩:=jX (x:=y6) (fuel:=n) (cs:=[u8]) (by simpa [k4] using e6)
       obtain ⟨A4,c4,es,h4,r4,l4⟩:=jX (x:=y7) (fuel:=n) (cs:=[u9]) (by simpa [k4] using e7)
       obtain ⟨A5,c5,lo,h5,r5,l5⟩:=xi (x:=y8) (fuel:=n) (cs:=[u10]) (by simpa [k3] using e8)
       have e9' : DataW.trod enc Tryz.prog w 0 spare held n 44 [u11] = some y9:=by simpa [k8] using e9
       obtain ⟨A6,c6,bd,h6,r6,l6⟩:=qhI _ y9 (Nat.lt_succ_self _) n [u11] e9'
       injection hs with hs;injection jC with jC;injection hco with hco;injection hrt with hrt;injection hrn with hrn;injection hb with hb
       injection h1 with h1;injection h2 with h2;injection h3 with h3;injection h4 with h4;injection h5 with h5;injection h6 with h6
       subst hs jC hco hrt hrn hb h1 h2 h3 h4 h5 h6
       refine ⟨⟨s.data.toList,ln,co,ps,lg,rt.data.toList,rn.data.toList,b,rq,es,lo,bd⟩,⟨A1,A2,A3,A4,A5,A6,c1,c2,c3,c4,c5,c6⟩,fun j v hv => ?_,⟨⟨hz,l1,l2,mrt,mrn,l3,l4,l5,l6⟩,r1,r2,r3,r4,r5,r6⟩,qiW Tryz.underlying44 e9'⟩
       have hj : j < 12:=(Array.getElem?_eq_some_iff.1 hv).1
       rw [qN hc hj]
       unfold jJ at hv
       rw [List.getElem?_toArray] at hv
       exact hv
theorem qjF {b0 : Nat} {v : Value} {d : DataW H} {p : List MemPlace} (hv : Value.okWide Tryz.prog w .any b0 29 v) (h : DataW.Trod enc Tryz.prog w 0 spare held 29 v d p) :
 ∃ (e : Pg) (g : GAd),v = qc7 g e /\ xK w w.heap.size g e /\ RowX qgD 12 w w.heap.size e.xs g.x:=by
 obtain ⟨cs,rfl,_⟩:=okWide_struct Tryz.underlying29 hv
 obtain ⟨fuel,hf⟩:=h
 have hf : DataW.trod enc Tryz.prog w 0 spare held fuel 29 cs.toList = some (d,p):=by simpa [Value.cells] using hf
 obtain ⟨ys,n,_,jL,qE,jj,hf⟩:=DataW.trod_struct (fs:=_) Tryz.underlying29 hf
 have yt : cs.toList.length = 6:=qE.trans (by kernel_rfl)
 obtain ⟨us,hus⟩ : ∃ us,us = cs.toList:=⟨_,rfl⟩
 rw [<- hus] at yt hf
 have e0:=hf 0 _ rfl
 have e1:=hf 1 _ rfl
 have e2:=hf 2 _ rfl
 have e3:=hf 3 _ rfl
 have e4:=hf 4 _ rfl
 have e5:=hf 5 _ rfl
 match us,yt with
 | [u0,u1,u2,u3,u4,u5],_ =>
   match ys,jj with
   | [y0,y1,y2,y3,y4,y5],_ =>
     have k1 : Tryz.prog.cellsOf 22 = 1:=by kernel_rfl
     have k2 : Tryz.prog.cellsOf 23 = 1:=by kernel_rfl
     have k3 : Tryz.prog.cellsOf 24 = 1:=by kernel_rfl
     have k4 : Tryz.prog.cellsOf 25 = 1:=by kernel_rfl
     have k5 : Tryz.prog.cellsOf 26 = 1:=by kernel_rfl
     have k6 : Tryz.prog.cellsOf 27 = 1:=by kernel_rfl
     obtain ⟨A0,c0,l0,h0,r0,b0⟩:=yF (P:=qhm) (n:=2) (by decide) Tryz.underlying22 (by kernel_rfl) (fun x fuel cs p h1 h2 => qgM p h1 h2) (x:=y0) (fuel:=n) (cs:=[u0]) (by simpa [k1] using e0)
     obtain ⟨A1,c1,l1,h1,r1,b1⟩:=xi (x:=y1) (fuel:=n) (cs:=[u1]) (by simpa [k2] using e1)
     obtain ⟨A2,c2,l2,h2,r2,b2⟩:=yF (P:=qho) (n:=2) (by decide) Tryz.underlying24 (by kernel_rfl) (fun x fuel cs p h1 h2 => qi6 p h1 h2) (x:=y2) (fuel:=n) (cs:=[u2]) (by simpa [k3] using e2)
     obtain ⟨A3,c3,l3,h3,r3,b3⟩:=yF (P:=qhs) (n:=3) (by decide) Tryz.underlying25 (by kernel_rfl) (fun x fuel cs p h1 h2 => qkf p h1 h2) (x:=y3) (fuel:=n) (cs:=[u3]) (by simpa [k4] using e3)
     obtain ⟨A4,c4,l4,h4,r4,b4⟩:=yF (P:=qhn) (n:=8) (by decide) Tryz.underlying26 (by kernel_rfl) (fun x fuel cs p h1 h2 => qhK p h1 h2) (x:=y4) (fuel:=n) (cs:=[u4]) (by simpa [k5] using e4)
     obtain ⟨A5,c5,l5,h5,r5,b5⟩:=yF (P:=qgD) (n:=12) (by decide) Tryz.underlying27 (by kernel_rfl) (fun x fuel cs p h1 h2 => qmR p h1 h2) (x:=y5) (fuel:=n) (cs:=[u5]) (by simpa [k6] using e5)
     injection h0 with h0;injection h1 with h1;injection h2 with h2;injection h3 with h3;injection h4 with h4;injection h5 with h5
     subst h0 h1 h2 h3 h4 h5
     refine ⟨⟨l0,l1,l2,l3,l4,l5⟩,⟨A0,A1,A2,A3,A4,A5,c0,c1,c2,c3,c4,c5⟩,?_,⟨⟨b0,b1,b2,b3,b4,b5⟩,r0,r1,r2,r3,r4,qsC r5⟩,r5⟩
     rw [show cs = #[.slice A0 l0.length c0,.slice A1 l1.length c1,.slice A2 l2.length c2,.slice A3 l3.length c3,.slice A4 l4.length c4,.slice A5 l5.length c5] from by apply Array.toList_inj.1;exact hus.symm]
end
section
set_option maxRecDepth 100000
set_option maxHeartbeats 1000000
open Go.RowKit Go.Lib
theorem qmv : ju qhl:=by
 rintro w w' B B' cs x hk hB ⟨d,h1,h2,h3⟩
 exact ⟨d,h1,h2.keep hk hB,h3⟩
theorem qp6 : qfi qhl:=by
 rintro w B cs x ⟨d,rfl,_⟩
 exact qco (by unfold jJ;rw [List.all_toArray];rfl)
theorem qp5 {w : World} {B : Nat} {l : List Pr} {A : Option Addr} (h : RowX qgD 12 w B l A) : qD qhl 12 w B l A:=by
 intro i x hi
 obtain ⟨a,rfl,qx,d,hc,h1,h2⟩:=h.at_ hi
 exact ⟨a,jJ d x,rfl,qx,rfl,hc,d,rfl,h1,h2⟩
theorem qnp (A : Option Addr) (c n : Nat) (l : List Pr) (hn : n = l.length) (hb : n <= 1000000) (w : World) (B : Nat) (hBB : B <= w.heap.size) (hf : qD qhl 12 w B l A) :
 Calls Tryz.prog 24 #[.slice A n c] w (vj 46 12 qhl B l n w):=by
 obtain ⟨vs,hv,hr⟩:=qbk (by decide) qp6 hf
 rw [<- hn] at hr
 have zz:=hv.fl_one
 have HF:=hZ (aZ hr (aZ hn (aZ hv zz)))
 clear hf hn hr hv zz
 cases A with
 | none =>
   have h0 : n = 0:=by
    rcases Nat.eq_zero_or_pos n with h | h
    ·exact h
    ·obtain ⟨a,ha,_⟩:=HF.out.1.2 h
     cases ha
   subst h0
   have hq:=Lib.run_eql_slice_nil (P:=Tryz.prog) w 27 46 none 0 c 0 0 Tryz.underlying27
   go_enter Tryz.func24,Tryz.ntmps24
   go_wp2
   go_ret
   have h1 : vs = []:=List.eq_nil_of_length_eq_zero (by rw [HF.out.2.2.1.len];exact HF.out.2.1.symm)
   refine ⟨none,0,vs,rfl,?_,HF.out.2.2.1,Below.refl _ _⟩
   rw [h1]
   exact World.ownsRow_nil _ _ _ _
 | some a =>
   obtain ⟨i0,hi,hiz,his,yM⟩:=info_parts qhb
   have HR:=hZ (aZ (World.ownsRow_made w #[] 0 (base:=w.heap.size) (e:=46) (size:=12) (Nat.le_refl _) (by unfold maxLen;omega) rfl) (HF.out.1.alloc hBB (.cells #[] 46)))
   have HI:=hZ (aZ hi (aZ hiz (aZ his yM)))
   clear hi hiz his yM
   have hq:=Lib.run_eql_slice_nil (P:=Tryz.prog) w 27 46 (some a) n c 0 0 Tryz.underlying27
   go_enter Tryz.func24,Tryz.ntmps24
   go_wp2_with (at_builtin;refine qQ _ rfl _ _ 27 rfl w.heap.size 46 i0 _ 12 216 Tryz.underlying27 HI.out.1 HI.out.2.1 HI.out.2.2.1 HI.out.2.2.2 rfl (by decide) _ 0 [] rfl HR.out.1 B (some a) n c (zx vs) rfl HR.out.2 HF.out.2.2.2 (by unfold maxLen;omega) (by omega) (by rw [qj];omega) ?_;intro v' w2 qA hgrow hat;have HO:=hZ (aZ qA (aZ hgrow hat));clear qA hgrow hat)
   go_ret
   have hb : Below w.heap.size w w2:=((qd w _).trans (zi HR.out.1 HO.out.2.1 (by rw [qj];omega)))
   have h1:=HO.out.1
   rw [Nat.zero_add,List.nil_append] at h1
   obtain ⟨A',c',hv⟩:=yq h1
   rw [hv] at h1
   exact ⟨A',c',vs,by rw [hv] <;> rfl,h1,HF.out.2.2.1,hb⟩
end
section
open Go.RowKit Go.Lib
structure RAt (w : World) (p : Pg) (d : GAd) (T : TypeId) (g n c lo : Nat) (vs : List (Array Value)) (c0 : Array Value) (u : Value) (W : World) : Prop where
 blw : Below w.heap.size w W
 box : W.heap[w.heap.size]? = some (.cells (xY { d with x:=some ⟨g,0,none⟩,nx:=c } p) T (0,0))
 row : VRow xP 12 w w.heap.size p.xs vs
 first : vs[0]? = some c0
 own : W.ownsRow lo 46 12 (.slice (some ⟨g,0,none⟩) n c) n (zx (vs.set 0 (c0.setIfInBounds 11 u)))
 lo : w.heap.size < lo
 n : n = p.xs.length
section
variable {w W W' : World} {p : Pg} {d : GAd} {T : TypeId} {g n c lo : Nat} {vs : List (Array Value)} {c0 : Array Value} {u : Value}
theorem RAt.next (h : RAt w p d T g n c lo vs c0 u W) (hb : Below W.heap.size W W') : RAt w p d T g n c lo vs c0 u W' :=
 { blw:=h.blw.chain hb,box:=qg hb h.box,row:=h.row,first:=h.first,own:=qy h.own hb fun g hg => (qs h.own g hg).2,lo:=h.lo,n:=h.n }
theorem RAt.glo (h : RAt w p d T g n c lo vs c0 u W) : lo <= g /\ g < W.heap.size:=qs h.own g rfl
theorem RAt.pos (h : RAt w p d T g n c lo vs c0 u W) : 0 < n:=by
 have := (List.getElem?_eq_some_iff.1 h.first).1
 rw [h.row.len,<- h.n] at this
 exact this
theorem RAt.size (h : RAt w p d T g n c lo vs c0 u W) : c0.size = 12:=h.row.sz _ (List.mem_of_getElem? h.first)
theorem RAt.cell (h : RAt w p d T g n c lo vs c0 u W) : W.cell? ⟨g,11,none⟩ = some u /\ W.frozen? ⟨g,11,none⟩ = false:=by
 have hp:=h.pos
 have hs : ∀ e ∈ vs.set 0 (c0.setIfInBounds 11 u),e.size = 12:=fun e he => by
  rcases List.mem_or_eq_of_mem_set he with he | rfl
  ·exact h.row.sz e he
  ·rw [Array.size_setIfInBounds];exact h.size
 have h4:=qaU hs 0 11 (by decide)
 rw [List.getElem?_set_self (by rw [h.row.len,<- h.n];exact hp),Option.bind_some,Array.getElem?_setIfInBounds_self_of_lt (by rw [h.size];decide)] at h4
 refine ⟨?_,h.own.frozenAt _⟩
 rw [h.own.cellAt 11 (by omega)]
 simpa using h4
theorem RAt.store (h : RAt w p d T g n c lo vs c0 u W) (u' : Value) : RAt w p d T g n c lo vs c0 u' (W.setCell ⟨g,11,none⟩ u'):=by
 have hp:=h.pos
 have hg:=h.glo
 have hl:=h.lo
 refine { blw:=h.blw.setCell (p:=⟨g,11,none⟩) (by show w.heap.size <= g;omega) _,box:=(Below.heap_setCell W ⟨g,11,none⟩ _ _ (show w.heap.size ≠ g by omega)).trans h.box,row:=h.row,first:=h.first,own:=?_,lo:=h.lo,n:=h.n }
 have h5:=qlK h.own 11 (by omega) u'
 have hs : ∀ e ∈ vs.set 0 (c0.setIfInBounds 11 u),e.size = 12:=fun e he => by
  rcases List.mem_or_eq_of_mem_set he with he | rfl
  ·exact h.row.sz e he
  ·rw [Array.size_setIfInBounds];exact h.size
 have h6:=qeo hs (k:=0) (List.getElem?_set_self (by rw [h.row.len,<- h.n];exact hp)) 11 u' (by decide)
 rw [Nat.zero_mul,Nat.zero_add] at h6
 rw [h6,List.set_set] at h5
 have h7 : (c0.setIfInBounds 11 u).setIfInBounds 11 u' = c0.setIfInBounds 11 u':=by simp
 rw [h7] at h5
 exact h5
theorem RAt.own_ {x : Pr} {l : List Pr} {b : List St} {A : Option Addr} {cb : Nat} (hp : xK w w.heap.size d p) (hx : p.xs = x :: l) (h : RAt w p d T g n c lo vs c0 (.slice A b.length cb) W) (hb : StRow W W.heap.size b A) (hm : b.length <= maxLen) :
 xK W W.heap.size { d with x:=some ⟨g,0,none⟩,nx:=c } (jQ p b):=by
 have hk : ∀ q : Addr,q.block < w.heap.size -> W.cell? q = w.cell? q:=fun q hq => h.blw.cell hq
 obtain ⟨⟨m1,m2,m3,m4,m5,m6⟩,o1,o2,o3,o4,o5,o6⟩:=hp
 have hn:=h.n
 have he : c0 = c0:=rfl
 have xh : xP W W.heap.size c0 x:=xf _ _ _ _ _ _ hk h.blw.size (h.row.el 0 x c0 (by rw [hx];rfl) h.first)
 obtain ⟨dd,hc,⟨a0,a1,a2,a3,a4,a5,a6,a7,a8⟩,b1,b2,b3,b4,b5,b6⟩:=xh
 have hv : xP W W.heap.size (c0.setIfInBounds 11 (.slice A b.length cb)) { x with bd:=b }:=⟨{ dd with b:=A,nb:=cb },by rw [hc];rfl,⟨a0,a1,a2,a3,a4,a5,a6,a7,hm⟩,b1,b2,b3,b4,b5,hb⟩
 have hr:=(h.row.keep xf hk h.blw.size).set 0 { x with bd:=b } _ (by rw [Array.size_setIfInBounds];exact h.size) (qgp _ _ _ _ hv) hv
 have hxs : (jQ p b).xs = p.xs.set 0 { x with bd:=b }:=by
  unfold jQ
  rw [hx]
  rfl
 have hl : (jQ p b).xs.length = n:=by rw [hxs,List.length_set,hn]
 have qL:=hr.row (n:=n) (by rw [List.length_set];exact hn) (qI.of_own h.own)
 have ex : jQ p b = { p with xs:=p.xs.set 0 { x with bd:=b } }:=by
  unfold jQ
  rw [hx]
  simp only [List.set_cons_zero]
 rw [ex]
 exact ⟨⟨m1,m2,m3,m4,m5,by rw [List.length_set];exact m6⟩,o1.keep qeX hk h.blw.size,o2.keep zj hk h.blw.size,o3.keep qe3 hk h.blw.size,o4.keep qfd hk h.blw.size,o5.keep qe2 hk h.blw.size,qcf qlG qL⟩
theorem qi4 {g c : Nat} {x : Pr} {l : List Pr} (hx : p.xs = x :: l) (b : List St) : xY { d with x:=some ⟨g,0,none⟩,nx:=c } p = xY { d with x:=some ⟨g,0,none⟩,nx:=c } (jQ p b):=by
 unfold jQ
 rw [hx]
 simp only [xY,hx]
 rfl
end
theorem qcz {w : World} {B : Nat} {a : Addr} {n : Nat} {vs : List (Array Value)} (hs : ∀ c ∈ vs,c.size = 24) (h : qI w B 24 (some a) n (zx vs)) (hn : n = vs.length) (i m : Nat) (him : i + m <= n) (b : Addr) (hb : 0 < m -> b = a.add (i * 24)) : qI w B 24 (some b) m (zx ((vs.drop i).take m)):=by
 have hl : ((vs.drop i).take m).length = m:=by
  rw [List.length_take,List.length_drop]
  omega
 refine ⟨by rw [qdk fun c hc => hs c (List.mem_of_mem_drop (List.mem_of_mem_take hc)),hl],fun h0 => ?_⟩
 obtain ⟨a',ha,qx,hc⟩:=h.2 (by omega)
 obtain rfl:=Option.some.inj ha
 refine ⟨b,rfl,by rw [hb h0,qm];exact qx,fun j u hu => ?_⟩
 rw [hb h0,jz]
 refine hc _ _ ?_
 have h1:=qaU (vs:=(vs.drop i).take m) (fun c hc => hs c (List.mem_of_mem_drop (List.mem_of_mem_take hc))) (j / 24) (j % 24) (Nat.mod_lt _ (by decide))
 have h2:=qaU hs (i + j / 24) (j % 24) (Nat.mod_lt _ (by decide))
 rw [show j / 24 * 24 + j % 24 = j by omega,hu] at h1
 rw [show (i + j / 24) * 24 + j % 24 = i * 24 + j by omega] at h2
 rw [h2]
 have h3 : j / 24 < m:=by
  have := (List.getElem?_eq_some_iff.1 hu).1
  rw [qdk fun c hc => hs c (List.mem_of_mem_drop (List.mem_of_mem_take hc)),hl] at this
  omega
 rw [List.getElem?_take,if_pos h3,List.getElem?_drop] at h1
 exact h1.symm
theorem VRow.sub {α : Type} {V : World -> Nat -> Array Value -> α -> Prop} {K : Nat} {w : World} {B : Nat} {l : List α} {vs : List (Array Value)} (h : VRow V K w B l vs) (i m : Nat) : VRow V K w B ((l.drop i).take m) ((vs.drop i).take m):=by
 refine ⟨by rw [List.length_take,List.length_drop,List.length_take,List.length_drop,h.len],fun c hc => h.sz c (List.mem_of_mem_drop (List.mem_of_mem_take hc)),fun c hc => h.one c (List.mem_of_mem_drop (List.mem_of_mem_take hc)),fun j x c hx hc => ?_⟩
 rw [List.getElem?_take] at hx hc
 split at hx
 ·rename_i hj
  rw [if_pos hj,List.getElem?_drop] at hc
  rw [List.getElem?_drop] at hx
  exact h.el _ x c hx hc
 ·cases hx
theorem qnX {c0 : Array Value} {u : Value} (h : c0[11]? = some u) : c0.setIfInBounds 11 u = c0:=by
 apply Array.ext
 ·rw [Array.size_setIfInBounds]
 ·intro i h1 h2
  rw [Array.getElem_setIfInBounds]
  split
  ·rename_i e
   subst e
   exact ((Array.getElem?_eq_some_iff.1 h).2).symm
  ·rfl
theorem RAt.start {w W W' : World} {p : Pg} {d : GAd} {T : TypeId} {n c : Nat} {A : Option Addr} {vs : List (Array Value)} {x : Pr} {l : List Pr} (hx : p.xs = x :: l) (hn : n = p.xs.length) (qk : Below w.heap.size w W) (hbox : W.heap[w.heap.size]? = some (.cells (xY d p) T (0,0))) (ho : W'.ownsRow W.heap.size 46 12 (.slice A n c) n (zx vs)) (hv : VRow qhl 12 W w.heap.size p.xs vs) (hb : Below W.heap.size W W') :
 ∃ g c0 Ab cb,A = some ⟨g,0,none⟩ /\ StRow w w.heap.size x.bd Ab /\ x.bd.length <= cb /\ x.bd.length <= maxLen /\ RAt w p d T g n c W.heap.size vs c0 (.slice Ab x.bd.length cb) (W'.setCell ⟨w.heap.size,5,none⟩ (.slice A n c)):=by
 obtain ⟨g,hA⟩:=qdt ho (by rw [hn,hx];exact Nat.succ_pos _)
 subst hA
 obtain ⟨c0,hc,qn,_,dd,hcc,how,qbj⟩:=hv.at_ (i:=0) (x:=x) (by rw [hx];rfl)
 have hg:=qs ho g rfl
 have hw:=(Array.getElem?_eq_some_iff.1 hbox).1
 have je : VRow xP 12 w w.heap.size p.xs vs:=⟨hv.len,hv.sz,hv.one,fun i y e h1 h2 => by
  obtain ⟨d2,q1,q2,_⟩:=hv.el i y e h1 h2
  exact ⟨d2,q1,q2.keep (fun q hq => (qk.cell hq).symm) (Nat.le_refl _)⟩⟩
 refine ⟨g,c0,dd.b,dd.nb,rfl,(how.2.2.2.2.2.2).keep (fun q hq => (qk.cell hq).symm) (Nat.le_refl _),qbj,how.1.2.2.2.2.2.2.2.2,{ blw:=(qk.chain hb).setCell (p:=⟨w.heap.size,5,none⟩) (Nat.le_refl _) _,box:=?_,row:=je,first:=hc,own:=?_,lo:=hw,n:=hn }⟩
 ·rw [qC (qg hb hbox),hn]
  rfl
 ·have e : vs.set 0 (c0.setIfInBounds 11 (.slice dd.b x.bd.length dd.nb)) = vs:=by
   rw [qnX (by rw [hcc];rfl)]
   apply List.ext_getElem?
   intro i
   by_cases hi : i = 0
   ·subst hi
    rw [List.getElem?_set_self (List.getElem?_eq_some_iff.1 hc).1,hc]
   ·rw [List.getElem?_set_ne (fun e => hi e.symm)]
  rw [e]
  exact qdr ho fun g' hg' => Below.heap_setCell W' ⟨w.heap.size,5,none⟩ _ g' (by
   have h2 : g = g':=Option.some.inj hg'
   show g' ≠ w.heap.size
   omega)
theorem qso : qfi VSt:=by
 intro w B cs x h v hv
 obtain ⟨sd,h1,_⟩:=h
 rw [h1] at hv
 exact qnV sd x v hv
end
section
set_option maxRecDepth 100000
set_option maxHeartbeats 40000000
open Go.RowKit Go.Lib
theorem qq4 {p : Pg} (hv : xT p = true) {x : Pr} (hx : x ∈ p.xs) : x.bd.length <= 100:=by
 have h:=(qbl hv).2.2.2.2.2 x hx
 unfold vPr at h
 simp only [Bool.and_eq_true_iff] at h
 have hb:=h.2
 unfold vx at hb
 rcases Bool.or_eq_true_iff.1 hb with h1 | h1
 ·rw [List.isEmpty_iff.1 h1];exact Nat.zero_le _
 ·simp only [Bool.and_eq_true_iff] at h1
  have := of_decide_eq_true h1.1.2
  omega
theorem qlk (p : Pg) (d : GAd) (k : Nat) (hk : k <= 255) (w : World) (hP : yY w) (qA : xK w w.heap.size d p) (hR : RowX qgD 12 w w.heap.size p.xs d.x) :
 Calls Tryz.prog 5 #[qc7 d p,.int .u8 (k : Int)] w fun e w' => e = .returned (.bool true) /\ Below w.heap.size w w':=by
 obtain ⟨T,N,zc,hT,hN,zd,hag,qK,yR⟩:=qje
 have e1 : ∀ y : Operand,Op.load 29 y = Op.load T y:=fun y => by rw [hT]
 have e4 : ∀ y : Operand,Op.box 29 y = Op.box T y:=fun y => by rw [hT]
 obtain ⟨cp,hcp⟩ : ∃ cp,cp = xY d p:=⟨_,rfl⟩
 obtain ⟨n,hn⟩ : ∃ n,n = p.xs.length:=⟨_,rfl⟩
 obtain ⟨Ax,hAx⟩ : ∃ A,A = d.x:=⟨_,rfl⟩
 obtain ⟨cx,hcx⟩ : ∃ c,c = d.nx:=⟨_,rfl⟩
 have hpv : qc7 d p = .agg cp:=by rw [hcp];rfl
 have kp : cp[5]? = some (.slice Ax n cx):=by rw [hcp,hn,hAx,hcx];rfl
 have szp : cp.size = N:=by rw [hcp,hN];exact (vV d p).1
 obtain ⟨W1,qh⟩ : ∃ W1,W1 = w.alloc (.cells cp T):=⟨_,rfl⟩
 have qk : Below w.heap.size w W1:=by rw [qh];exact qd w _
 have p0 : W1.heap[w.heap.size]? = some (.cells cp T (0,0)):=by rw [qh];exact qe w _
 have HAw : Hid (Calls Tryz.prog 7 #[] W1 fun e w' => e = .returned (.bool true) /\ Below W1.heap.size W1 w'):=hZ (qlz W1 (hP.on qk))
 have qk6 : Hid (∀ W,Below W1.heap.size W1 W -> Calls Tryz.prog 8 #[.agg cp] W fun e w' => ((∃ v : Int,e = .returned (.int .i64 v) /\ (v = 0 \/ v = 1))) /\ Below W.heap.size W w'):=hZ (fun W hb => by rw [<- hpv];exact qmf p d W (qA.on (qk.chain hb)))
 obtain ⟨vb,hvb⟩ : ∃ b,b = qaj p:=⟨_,rfl⟩
 have qk0 : Hid (BC W1 18 #[.agg cp] vb):=hZ (fun W hb => by rw [<- hpv,hvb];exact qbx p d W (hP.on (qk.chain hb)) (qA.on (qk.chain hb)))
 have HC0 : Hid (∀ W,Below W1.heap.size W1 W -> (loadCellsFrom ⟨w.heap.size,0,none⟩ 0 N #[]).run Tryz.prog W = .ok cp W):=hZ (fun W hb => qZ (fun j v hv => by rw [zD];exact qc (qg hb p0) j hv) szp)
 have HBX : Hid (∀ W,Below W1.heap.size W1 W -> W.heap[w.heap.size]? = some (.cells (xY d p) T (0,0)) /\ W.cell? ⟨w.heap.size,5,none⟩ = some (.slice Ax n cx) /\ W.frozen? ⟨w.heap.size,5,none⟩ = false):=hZ (fun W hb => by
  have h:=qg hb p0
  exact ⟨by rw [<- hcp];exact h,qc h 5 kp,zh h 5⟩)
 have zL : vb = true -> xT p = true:=fun h => qiP (hvb.symm.trans h)
 have HCl : Hid (vb = true -> ∀ W,Below W1.heap.size W1 W -> Calls Tryz.prog 24 #[.slice Ax n cx] W (vj 46 12 qhl w.heap.size p.xs n W)):=hZ (fun hv W hb => qnp Ax cx n p.xs hn (by have := vT (zL hv);omega) W w.heap.size (qk.chain hb).size (by rw [hAx];exact qbf qmv (qp5 hR) (qk.chain hb)))
 have qw:=hZ qk
 have HP:=hZ hP
 have HX:=hZ (aZ hN zd)
 have qjN : Hid (vb = true -> Good p /\ xT p = true):=hZ (fun h => ⟨vZ.1 (hvb.symm.trans h),zL h⟩)
 have zE : Tryz.prog.follows .mixedOrders = true:=by kernel_rfl
 have HO:=hZ (aZ hn (aZ qA (aZ hAx hR)))
 rw [hpv]
 clear qA hP qk p0 hcp kp zL hvb hN zd hpv hcx hn hAx hR
 go_enter Tryz.func5,Tryz.ntmps5
 simp only [e1,e4]
 clear e1 e4 hT
 go_wp2_with fail
 rw [<- qh]
 clear qh
 (with_reducible refine HAw.out.mono ?_)
 rintro e w2 ⟨rfl,hb⟩
 have H2:=hZ hb
 clear hb HAw
 have l2:=HC0.out _ H2.out
 go_wp2_with fail
 clear l2
 (with_reducible refine (qk6.out _ H2.out).mono ?_)
 rintro e w3 ⟨⟨q,rfl,hq⟩,hb⟩
 have H3:=hZ (H2.out.chain hb)
 clear hb qk6
 rcases hq with rfl | rfl
 ·go_wp2
  go_ret
  exact ⟨rfl,qw.out.chain H3.out⟩
 have l3:=HC0.out _ H3.out
 go_wp2_with fail
 clear l3
 (with_reducible refine (qk0.out _ H3.out).mono ?_)
 rintro e w4 ⟨rfl,hb⟩
 have H4:=hZ (H3.out.chain hb)
 clear hb qk0
 cases vb with
 | false =>
   go_wp2
   go_ret
   exact ⟨rfl,qw.out.chain H4.out⟩
 | true =>
   have HG:=hZ (qjN.out rfl)
   obtain ⟨b4,z4,_⟩:=HBX.out _ H4.out
   cases hxs : p.xs with
   | nil =>
     have hn0 : n = 0:=by rw [HO.out.1,hxs];rfl
     subst hn0
     go_wp2
     go_ret
     exact ⟨rfl,qw.out.chain H4.out⟩
   | cons x l =>
     have jZ : 0 < n:=by rw [HO.out.1,hxs];exact Nat.succ_pos _
     have zN : ¬ (n : Int) = 0:=by omega
     have qcX : ((n : Int) == 0) = false:=beq_eq_false_iff_ne.2 zN
     have hnz : ¬ n = 0:=by omega
     obtain ⟨a,hA,qx,dd,qn,how,qbj⟩:=HO.out.2.2.2.at_ (i:=0) (x:=x) (by rw [hxs];rfl)
     have hA : Ax = some a:=HO.out.2.2.1.trans hA
     subst hA
     obtain ⟨nb,xv⟩ : ∃ nb,nb = x.bd.length:=⟨_,rfl⟩
     have c11 : w4.cell? ⟨a.block,a.off + 11,none⟩ = some (.slice dd.b nb dd.nb):=by
      have h : w.cell? ((a.add (0 * 12)).add 11) = some (.slice dd.b nb dd.nb):=qn 11 _ (by rw [xv];rfl)
      rw [jz] at h
      exact ((qw.out.chain H4.out).cell (p:=a.add (0 * 12 + 11)) (by rw [qm];exact qx)).trans h
     have HXS:=hZ (aZ hxs xv)
     have xj : (0 : Int) < n:=by omega
     clear qn how qbj qx xv hxs
     by_cases yw : nb = 0
     ·subst yw
      go_wp2
      go_ret
      exact ⟨rfl,qw.out.chain H4.out⟩
     have vO : ¬ (nb : Int) = 0:=by omega
     have hbe2 : ((nb : Int) == 0) = false:=beq_eq_false_iff_ne.2 vO
     go_wp2_with fail
     clear c11 z4
     (with_reducible refine (HCl.out (by trivial) _ H4.out).mono ?_)
     rintro e w6 ⟨A6,c6,vs,rfl,ho,hv,hb⟩
     obtain ⟨b6,z6,f6⟩:=HBX.out _ (H4.out.chain hb)
     obtain ⟨g,c0,Ab,cb,rfl,zv,qbj,hmax,hra⟩:=RAt.start HXS.out.1 HO.out.1 (qw.out.chain H4.out) b4 ho hv hb
     obtain ⟨W7,vX⟩ : ∃ W,W = w6.setCell ⟨w.heap.size,5,none⟩ (.slice (some ⟨g,0,none⟩) n c6):=⟨_,rfl⟩
     rw [<- vX,<- HXS.out.2] at hra
     have z7 : W7.cell? ⟨w.heap.size,5,none⟩ = some (.slice (some ⟨g,0,none⟩) n c6):=qc hra.box 5 (by rw [hra.n];rfl)
     have y7:=hra.cell.1
     have HRA:=hZ hra
     have HST:=hZ (aZ zv (aZ qbj hmax))
     have z7':=z7
     have y7':=y7
     rw [vX] at z7' y7'
     clear hra ho hv hb zv qbj hmax b4 b6
     go_wp2_with fail
     rw [<- vX]
     clear vX z7' y7' z6 f6
     obtain ⟨i,hi⟩ : ∃ i,i = k % nb:=⟨_,rfl⟩
     have hir : (k : Int) % (nb : Int) = (i : Int):=by rw [hi];rfl
     rw [hir]
     have hin : i < nb:=by rw [hi];exact Nat.mod_lt _ (by omega)
     have hik : i <= k:=by rw [hi];exact Nat.mod_le _ _
     have HIR:=hZ hin
     clear hir hi
     obtain ⟨vt,hvt,hrt⟩:=qbk (by decide) qso HST.out.1.rowV
     rw [<- HXS.out.2] at hrt
     obtain ⟨aB,hAB,haB,_⟩:=hrt.2 (by omega)
     subst hAB
     have HVT:=hZ (aZ hvt hrt)
     have HBD : Hid (nb <= 100):=hZ (by rw [HXS.out.2];exact qq4 HG.out.2 (by rw [HXS.out.1];exact List.mem_cons_self ..))
     have hcbn : nb <= cb:=by rw [HXS.out.2];exact HST.out.2.1
     have jt : ¬ cb = 0:=by omega
     have hic : (i : Int) <= cb:=by omega
     have hi0' : (0 : Int) <= i:=by omega
     have hi1 : (i : Int) + 1 <= nb:=by omega
     have hi1c : (i : Int) + 1 <= cb:=by omega
     have hi2 : (0 : Int) <= (i : Int) + 1:=by omega
     have hil : (i : Int) <= (i : Int) + 1:=by omega
     have hwi : IntKind.i64.wrap ((i : Int) + 1) = (i : Int) + 1:=by rw [IntKind.wrap_i64];omega
     have hci : ¬ cb = i:=by omega
     have hi1n : i + 1 - i = 1:=by omega
     have hti : ((i : Int)).toNat = i:=Int.toNat_natCast i
     have hti1 : ((i : Int) + 1).toNat = i + 1:=by omega
     obtain ⟨B2,hB2⟩ : ∃ B,B = (if cb = i + 1 then some aB else some (aB.add ((i + 1) * 24))):=⟨_,rfl⟩
     obtain ⟨n2,hn2⟩ : ∃ m,m = nb - (i + 1):=⟨_,rfl⟩
     obtain ⟨c2,hc2⟩ : ∃ m,m = cb - (i + 1):=⟨_,rfl⟩
     have zq:=hZ (aZ hB2 (aZ hn2 hc2))
     clear hB2 hn2 hc2
     have HLE:=hZ (aZ hcbn (aZ hin hik))
     obtain ⟨aC,haC,haC2⟩ : ∃ a,B2 = some a /\ (0 < n2 -> a = aB.add ((i + 1) * 24)):=by
      rw [zq.out.1]
      by_cases hq : cb = i + 1
      ·exact ⟨aB,if_pos hq,fun h => by have := HLE.out;have := zq.out.2.1;omega⟩
      ·exact ⟨_,if_neg hq,fun _ => rfl⟩
     subst haC
     have HAC:=hZ haC2
     clear haC2
     obtain ⟨S,hS⟩ : ∃ S : World -> Prop,S = fun W => W.cell? ⟨w.heap.size,5,none⟩ = some (.slice (some ⟨g,0,none⟩) n c6):=⟨_,rfl⟩
     have qo : Hid (∀ W,W.cell? ⟨w.heap.size,5,none⟩ = some (.slice (some ⟨g,0,none⟩) n c6) -> S W):=hZ (fun W h => by rw [hS];exact h)
     have qX : Hid (∀ W,S W -> W.cell? ⟨w.heap.size,5,none⟩ = some (.slice (some ⟨g,0,none⟩) n c6)):=hZ (fun W h => by rw [hS] at h;exact h)
     have HSA : Hid (∀ W u,RAt w p d T g n c6 w4.heap.size vs c0 u W -> S W):=hZ (fun W u h => qo.out _ (qc h.box 5 (by rw [h.n];rfl)))
     have hng : 0 < n:=jZ
     clear hS hvt hrt z7 y7
     refine wp_region_held (S:=S) zE ?_
     change wpAnyH _ _ _ _ _ 14 #[false,false,false,false,false,false,false,false,false,false,false,false,false,false] _ W7.drew
     have HV0 : Hid (Below W7.heap.size W7 W7.drew):=hZ (Below.refl _ _).drew
     generalize W7.drew = V0 at HV0 ⊢
     have g0:=HSA.out _ _ (HRA.out.next HV0.out)
     refine tk 0 46 (.pointer (some ⟨w.heap.size,5,none⟩)) g0 ?v ?_
     case v => intro Wx hSx;go_simp
     refine tk 1 47 (.slice (some ⟨g,0,none⟩) n c6) g0 ?v ?_
     case v => intro Wx hSx;have f0:=qX.out Wx hSx;go_simp
     refine tk 2 48 (.slice (some aB) nb cb) g0 ?v ?_
     case v => intro Wx hSx;go_simp
     refine tk 3 49 (.int .i64 i) g0 ?v ?_
     case v => intro Wx hSx;go_simp
     try simp only [qf]
     refine tk 4 50 (.slice (some aB) i cb) g0 ?v ?_
     case v => intro Wx hSx;go_simp
     refine tk 5 51 (.slice (some aB) nb cb) g0 ?v ?_
     case v => intro Wx hSx;go_simp
     refine tk 6 52 (.int .i64 i) g0 ?v ?_
     case v => intro Wx hSx;go_simp
     refine tk 7 53 (.int .i64 ((i : Int) + 1)) g0 ?v ?_
     case v => intro Wx hSx;go_simp
     try simp only [qf]
     refine tk 8 54 (.slice (some aC) n2 c2) g0 ?v ?_
     case v => intro Wx hSx;rw [zq.out.1,zq.out.2.1,zq.out.2.2];go_simp
     try simp only [qf]
     refine o1 9 (fun K hK => ?_)
     go_simp
     obtain ⟨V1,hV1⟩ : ∃ V,V = V0.alloc (.cells #[.slice (some aB) i cb,.slice (some aC) n2 c2] 44):=⟨_,rfl⟩
     rw [<- hV1]
     have hbv : Below V0.heap.size V0 V1:=by rw [hV1];exact qd _ _
     have hpv : V1.heap[V0.heap.size]? = some (.cells #[.slice (some aB) i cb,.slice (some aC) n2 c2] 44):=by rw [hV1];exact qe _ _
     have HV1:=hZ (HV0.out.chain hbv)
     have yA:=HRA.out.blw.chain HV1.out
     have hrd:=HVT.out.2.below yA
     have hvl : nb = vt.length:=by rw [HVT.out.1.len];exact HXS.out.2
     have HCc : Hid (Calls Tryz.prog 30 #[.slice (some ⟨V0.heap.size,0,none⟩) 2 2] V1 fun e w' => ∃ v,e = .returned v /\ w'.ownsRow V1.heap.size 90 24 v (i + n2) (zx ((vt.drop 0).take i) ++ zx ((vt.drop (i + 1)).take n2)) /\ Below V1.heap.size V1 w'):=hZ (qqV (some aB) (some aC) i cb n2 c2 V0.heap.size (zx ((vt.drop 0).take i)) (zx ((vt.drop (i + 1)).take n2)) (by have := HLE.out;have := zq.out.2.1;have := HBD.out;omega) V1 ((qcz HVT.out.1.sz hrd hvl 0 i (by have := HLE.out;omega) aB (fun _ => by rw [Nat.zero_mul,qbw])).more yA.size) (VRow.fl_one (HVT.out.1.sub 0 i)) ((qcz HVT.out.1.sz hrd hvl (i + 1) n2 (by have := HLE.out;have := zq.out.2.1;omega) aC HAC.out).more yA.size) (VRow.fl_one (HVT.out.1.sub (i + 1) n2)) (qc hpv 0 rfl) (qc hpv 1 rfl) (World.block_lt_of_cell? _ _ (qc hpv 0 rfl)))
     refine hK _ _ (HSA.out _ _ (HRA.out.next HV1.out)) ?_
     clear hK K hV1 hbv hpv yA hrd hvl
     try simp only [qf]
     refine o1 10 (fun K hK => ?_)
     go_simp
     (with_reducible refine HCc.out.mono ?_)
     rintro e V2 ⟨v,rfl,ho,hb⟩
     obtain ⟨A2,e2,rfl⟩:=yq ho
     have jm:=hZ (aZ ho hb)
     have HV2:=hZ (HV1.out.chain hb)
     clear ho hb HCc
     have qdz:=HRA.out.next HV2.out
     have g0:=HSA.out _ _ qdz
     have y2:=qdz.cell.1
     have y3:=qdz.cell.2
     refine hK _ _ g0 ?_
     clear hK K
     try simp only [qf]
     refine tk 11 57 (.pointer (some ⟨g,0,none⟩)) g0 ?v ?_
     case v => intro Wx hSx;go_simp
     refine tk 12 58 (.pointer (some ⟨g,11,none⟩)) g0 ?v ?_
     case v => intro Wx hSx;go_simp
     obtain ⟨nz,hnz⟩ : ∃ z,z = i + n2:=⟨_,rfl⟩
     rw [<- hnz]
     rw [<- hnz] at jm
     have HNZ:=hZ hnz
     clear hnz
     obtain ⟨W9,hW9⟩ : ∃ W,W = V2.setCell ⟨g,11,none⟩ (.slice A2 nz e2):=⟨_,rfl⟩
     have vq:=qdz.store (.slice A2 nz e2)
     rw [<- hW9] at vq
     refine o1 13 (fun K hK => ?_)
     go_simp
     rw [<- hW9]
     refine hK _ _ (HSA.out _ _ vq) ?_
     clear hK K y2 y3
     try simp only [qf]
     obtain ⟨bz,hbz⟩ : ∃ b,b = (x.bd.drop 0).take i ++ (x.bd.drop (i + 1)).take n2:=⟨_,rfl⟩
     have hvb : VRow VSt 24 w w.heap.size bz ((vt.drop 0).take i ++ (vt.drop (i + 1)).take n2):=by rw [hbz];exact (HVT.out.1.sub 0 i).append (HVT.out.1.sub (i + 1) n2)
     have hbl : nz = bz.length:=by
      have h:=hvb.len
      have h2:=jm.out.1.1
      have h3:=hvb.fl_len
      rw [show zx ((vt.drop 0).take i ++ (vt.drop (i + 1)).take n2) = zx ((vt.drop 0).take i) ++ zx ((vt.drop (i + 1)).take n2) by simp only [qbO]] at h3
      omega
     have ho9 : W9.ownsRow V1.heap.size 90 24 (.slice A2 nz e2) nz (zx ((vt.drop 0).take i ++ (vt.drop (i + 1)).take n2)):=by
      rw [show zx ((vt.drop 0).take i ++ (vt.drop (i + 1)).take n2) = zx ((vt.drop 0).take i) ++ zx ((vt.drop (i + 1)).take n2) by simp only [qbO],hW9]
      refine qdr jm.out.1 fun q hq => Below.heap_setCell V2 ⟨g,11,none⟩ _ q ?_
      have h1:=(qs jm.out.1 q hq).1
      have h2:=HRA.out.glo.2
      have h3:=HV1.out.size
      show q ≠ g
      omega
     have qfV : StRow W9 W9.heap.size bz A2:=StRow.ofV ((hvb.keep qiO (fun q hq => vq.blw.cell hq) vq.blw.size).row hbl (qI.of_own ho9))
     rw [hbl] at vq
     have hm9 : bz.length <= maxLen:=by rw [<- hbl];unfold maxLen;have := HNZ.out;have := HLE.out;have := zq.out.2.1;have := HBD.out;omega
     have qkv : bz = x.bd.take i ++ x.bd.drop (i + 1):=by
      rw [hbz,List.drop_zero,zq.out.2.1,HXS.out.2,List.take_of_length_le (l:=x.bd.drop (i + 1)) (by rw [List.length_drop];exact Nat.le_refl _)]
     have HPO:=hZ (vq.own_ HO.out.2.1 HXS.out.1 qfV hm9)
     have HGD : Hid (Good (jQ p bz)):=hZ (by rw [qkv];exact qkA HG.out.1 HXS.out.1 i (by rw [<- HXS.out.2];exact HLE.out.2.1))
     have H9:=hZ vq
     obtain ⟨cq,hcq⟩ : ∃ c,c = xY { d with x:=some ⟨g,0,none⟩,nx:=c6 } (jQ p bz):=⟨_,rfl⟩
     have qdD : W9.heap[w.heap.size]? = some (.cells cq T (0,0)):=by rw [hcq,<- qi4 HXS.out.1 bz];exact vq.box
     have szq : cq.size = N:=by rw [hcq,HX.out.1];exact (vV _ _).1
     have l9 : (loadCellsFrom ⟨w.heap.size,0,none⟩ 0 N #[]).run Tryz.prog W9 = .ok cq W9:=qZ (fun j v hv => by rw [zD];exact qc qdD j hv) szq
     have HV : Hid (Calls Tryz.prog 18 #[.agg cq] W9 fun e w' => e = .returned (.bool true) /\ Below W9.heap.size W9 w'):=hZ (by
      rw [hcq,<- vZ.2 HGD.out]
      exact qbx (jQ p bz) _ W9 (HP.out.on vq.blw) HPO.out)
     clear hW9 vq qdz hbz hvb hbl ho9 qfV hm9 qkv hcq qdD jm HV0 HV1 HV2
     refine wpAnyH_done (by kernel_rfl) ?_ _
     go_wp2_with fail
     clear l9
     (with_reducible refine HV.out.mono ?_)
     rintro e w10 ⟨rfl,hb⟩
     have HRB:=hZ (H9.out.next hb)
     clear hb HV szq HPO HGD H9 HRA
     go_wp2_with fail
     refine wp_region_held (S:=S) zE ?_
     change wpAnyH _ _ _ _ _ 19 #[false,false,false,false,false,false,false,false,false,false,false,false,false,false,false,false,false,false,false] _ w10.drew
     have HV0 : Hid (Below w10.heap.size w10 w10.drew):=hZ (Below.refl _ _).drew
     generalize w10.drew = V0 at HV0 ⊢
     have g0:=HSA.out _ _ (HRB.out.next HV0.out)
     refine tk 0 62 (.pointer (some ⟨w.heap.size,5,none⟩)) g0 ?v ?_
     case v => intro Wx hSx;go_simp
     refine tk 1 63 (.slice (some ⟨g,0,none⟩) n c6) g0 ?v ?_
     case v => intro Wx hSx;have f0:=qX.out Wx hSx;go_simp
     refine tk 2 64 (.slice (some aB) nb cb) g0 ?v ?_
     case v => intro Wx hSx;go_simp
     refine tk 3 65 (.int .i64 i) g0 ?v ?_
     case v => intro Wx hSx;go_simp
     try simp only [qf]
     refine tk 4 66 (.int .i64 i) g0 ?v ?_
     case v => intro Wx hSx;go_simp
     refine tk 5 67 (.int .i64 ((i : Int) + 1)) g0 ?v ?_
     case v => intro Wx hSx;go_simp
     refine tk 6 68 (.slice (some (aB.add (i * 24))) 1 (cb - i)) g0 ?v ?_
     case v => intro Wx hSx;go_simp
     refine tk 7 69 (.slice (some aB) nb cb) g0 ?v ?_
     case v => intro Wx hSx;go_simp
     try simp only [qf]
     refine tk 8 70 (.int .i64 i) g0 ?v ?_
     case v => intro Wx hSx;go_simp
     refine tk 9 71 (.slice (some aB) i cb) g0 ?v ?_
     case v => intro Wx hSx;go_simp
     refine tk 10 72 (.slice (some aB) nb cb) g0 ?v ?_
     case v => intro Wx hSx;go_simp
     refine tk 11 73 (.int .i64 i) g0 ?v ?_
     case v => intro Wx hSx;go_simp
     try simp only [qf]
     refine tk 12 74 (.int .i64 ((i : Int) + 1)) g0 ?v ?_
     case v => intro Wx hSx;go_simp
     refine tk 13 75 (.slice (some aC) n2 c2) g0 ?v ?_
     case v => intro Wx hSx;rw [zq.out.1,zq.out.2.1,zq.out.2.2];go_simp
     try simp only [qf]
     refine o1 14 (fun K hK => ?_)
     go_simp
     obtain ⟨V1,hV1⟩ : ∃ V,V = V0.alloc (.cells #[.slice (some (aB.add (i * 24))) 1 (cb - i),.slice (some aB) i cb,.slice (some aC) n2 c2] 44):=⟨_,rfl⟩
     rw [<- hV1]
     have hbv : Below V0.heap.size V0 V1:=by rw [hV1];exact qd _ _
     have hpv : V1.heap[V0.heap.size]? = some (.cells #[.slice (some (aB.add (i * 24))) 1 (cb - i),.slice (some aB) i cb,.slice (some aC) n2 c2] 44):=by rw [hV1];exact qe _ _
     have HV1:=hZ (HV0.out.chain hbv)
     have yA:=HRB.out.blw.chain HV1.out
     have hrd:=HVT.out.2.below yA
     have hvl : nb = vt.length:=by rw [HVT.out.1.len];exact HXS.out.2
     have HCc : Hid (Calls Tryz.prog 30 #[.slice (some ⟨V0.heap.size,0,none⟩) 3 3] V1 fun e w' => ∃ v,e = .returned v /\ w'.ownsRow V1.heap.size 90 24 v (1 + i + n2) (zx ((vt.drop i).take 1) ++ zx ((vt.drop 0).take i) ++ zx ((vt.drop (i + 1)).take n2)) /\ Below V1.heap.size V1 w'):=hZ (qqU (some (aB.add (i * 24))) (some aB) (some aC) 1 (cb - i) i cb n2 c2 V0.heap.size (zx ((vt.drop i).take 1)) (zx ((vt.drop 0).take i)) (zx ((vt.drop (i + 1)).take n2)) (by have := HLE.out;have := zq.out.2.1;have := HBD.out;omega) V1 ((qcz HVT.out.1.sz hrd hvl i 1 (by have := HLE.out;omega) (aB.add (i * 24)) (fun _ => rfl)).more yA.size) (VRow.fl_one (HVT.out.1.sub i 1)) ((qcz HVT.out.1.sz hrd hvl 0 i (by have := HLE.out;omega) aB (fun _ => by rw [Nat.zero_mul,qbw])).more yA.size) (VRow.fl_one (HVT.out.1.sub 0 i)) ((qcz HVT.out.1.sz hrd hvl (i + 1) n2 (by have := HLE.out;have := zq.out.2.1;omega) aC HAC.out).more yA.size) (VRow.fl_one (HVT.out.1.sub (i + 1) n2)) (qc hpv 0 rfl) (qc hpv 1 rfl) (qc hpv 2 rfl) (World.block_lt_of_cell? _ _ (qc hpv 0 rfl)))
     refine hK _ _ (HSA.out _ _ (HRB.out.next HV1.out)) ?_
     clear hK K hV1 hbv hpv yA hrd hvl
     try simp only [qf]
     refine o1 15 (fun K hK => ?_)
     go_simp
     (with_reducible refine HCc.out.mono ?_)
     rintro e V2 ⟨v,rfl,ho,hb⟩
     obtain ⟨A2,e2,rfl⟩:=yq ho
     have jm:=hZ (aZ ho hb)
     have HV2:=hZ (HV1.out.chain hb)
     clear ho hb HCc
     have qdz:=HRB.out.next HV2.out
     have g0:=HSA.out _ _ qdz
     have y2:=qdz.cell.1
     have y3:=qdz.cell.2
     refine hK _ _ g0 ?_
     clear hK K
     try simp only [qf]
     refine tk 16 78 (.pointer (some ⟨g,0,none⟩)) g0 ?v ?_
     case v => intro Wx hSx;go_simp
     refine tk 17 79 (.pointer (some ⟨g,11,none⟩)) g0 ?v ?_
     case v => intro Wx hSx;go_simp
     obtain ⟨nz,hnz⟩ : ∃ z,z = 1 + i + n2:=⟨_,rfl⟩
     rw [<- hnz]
     rw [<- hnz] at jm
     have HNZ:=hZ hnz
     clear hnz
     obtain ⟨W9,hW9⟩ : ∃ W,W = V2.setCell ⟨g,11,none⟩ (.slice A2 nz e2):=⟨_,rfl⟩
     have vq:=qdz.store (.slice A2 nz e2)
     rw [<- hW9] at vq
     refine o1 18 (fun K hK => ?_)
     go_simp
     rw [<- hW9]
     refine hK _ _ (HSA.out _ _ vq) ?_
     clear hK K y2 y3
     try simp only [qf]
     obtain ⟨bz,hbz⟩ : ∃ b,b = (x.bd.drop i).take 1 ++ (x.bd.drop 0).take i ++ (x.bd.drop (i + 1)).take n2:=⟨_,rfl⟩
     have hvb : VRow VSt 24 w w.heap.size bz ((vt.drop i).take 1 ++ (vt.drop 0).take i ++ (vt.drop (i + 1)).take n2):=by rw [hbz];exact ((HVT.out.1.sub i 1).append (HVT.out.1.sub 0 i)).append (HVT.out.1.sub (i + 1) n2)
     have hbl : nz = bz.length:=by
      have h:=hvb.len
      have h2:=jm.out.1.1
      have h3:=hvb.fl_len
      rw [show zx ((vt.drop i).take 1 ++ (vt.drop 0).take i ++ (vt.drop (i + 1)).take n2) = zx ((vt.drop i).take 1) ++ zx ((vt.drop 0).take i) ++ zx ((vt.drop (i + 1)).take n2) by simp only [qbO]] at h3
      omega
     have ho9 : W9.ownsRow V1.heap.size 90 24 (.slice A2 nz e2) nz (zx ((vt.drop i).take 1 ++ (vt.drop 0).take i ++ (vt.drop (i + 1)).take n2)):=by
      rw [show zx ((vt.drop i).take 1 ++ (vt.drop 0).take i ++ (vt.drop (i + 1)).take n2) = zx ((vt.drop i).take 1) ++ zx ((vt.drop 0).take i) ++ zx ((vt.drop (i + 1)).take n2) by simp only [qbO],hW9]
      refine qdr jm.out.1 fun q hq => Below.heap_setCell V2 ⟨g,11,none⟩ _ q ?_
      have h1:=(qs jm.out.1 q hq).1
      have h2:=HRB.out.glo.2
      have h3:=HV1.out.size
      show q ≠ g
      omega
     have qfV : StRow W9 W9.heap.size bz A2:=StRow.ofV ((hvb.keep qiO (fun q hq => vq.blw.cell hq) vq.blw.size).row hbl (qI.of_own ho9))
     rw [hbl] at vq
     have hm9 : bz.length <= maxLen:=by rw [<- hbl];unfold maxLen;have := HNZ.out;have := HLE.out;have := zq.out.2.1;have := HBD.out;omega
     have qkv : bz = (x.bd.drop i).take 1 ++ x.bd.take i ++ x.bd.drop (i + 1):=by
      rw [hbz,List.drop_zero,zq.out.2.1,HXS.out.2,List.take_of_length_le (l:=x.bd.drop (i + 1)) (by rw [List.length_drop];exact Nat.le_refl _)]
     have HPO:=hZ (vq.own_ HO.out.2.1 HXS.out.1 qfV hm9)
     have HGD : Hid (Good (jQ p bz)):=hZ (by rw [qkv];exact qnj HG.out.1 HXS.out.1 i (by rw [<- HXS.out.2];exact HLE.out.2.1))
     have H9:=hZ vq
     obtain ⟨cq,hcq⟩ : ∃ c,c = xY { d with x:=some ⟨g,0,none⟩,nx:=c6 } (jQ p bz):=⟨_,rfl⟩
     have qdD : W9.heap[w.heap.size]? = some (.cells cq T (0,0)):=by rw [hcq,<- qi4 HXS.out.1 bz];exact vq.box
     have szq : cq.size = N:=by rw [hcq,HX.out.1];exact (vV _ _).1
     have l9 : (loadCellsFrom ⟨w.heap.size,0,none⟩ 0 N #[]).run Tryz.prog W9 = .ok cq W9:=qZ (fun j v hv => by rw [zD];exact qc qdD j hv) szq
     have HV : Hid (Calls Tryz.prog 18 #[.agg cq] W9 fun e w' => e = .returned (.bool true) /\ Below W9.heap.size W9 w'):=hZ (by
      rw [hcq,<- vZ.2 HGD.out]
      exact qbx (jQ p bz) _ W9 (HP.out.on vq.blw) HPO.out)
     clear hW9 vq qdz hbz hvb hbl ho9 qfV hm9 qkv hcq qdD jm HV0 HV1 HV2
     refine wpAnyH_done (by kernel_rfl) ?_ _
     go_wp2_with fail
     clear l9
     (with_reducible refine HV.out.mono ?_)
     rintro e w10 ⟨rfl,hb⟩
     have HFB:=hZ (H9.out.blw.chain hb)
     clear hb
     go_wp2
     go_ret
     exact ⟨rfl,HFB.out⟩
end
end Go.Proofs.YtojjfdegkooknaaGreatDoor
