import Derived.Test.YtojjfdegkooknaaGreatDoorQTreeRp
import Derived.Deep.RegionHeld3
import Derived.Test.YtojjfdegkooknaaGreatDoorQTreeSh
import Derived.Test.YtojjfdegkooknaaGreatDoorQTreeGa
import Derived.Test.YtojjfdegkooknaaGreatDoorQTreeGf
set_option linter.unusedVariables false
set_option linter.unusedSimpArgs false
namespace Go.Proofs.YtojjfdegkooknaaGreatDoor
set_option maxRecDepth 100000
set_option maxHeartbeats 40000000
open Go.RowKit
theorem names_c0 (fv : Nat) (nu ex : Int) (nm fd fr : List UInt8) (p : Int) (cs : Array Value) (_h24 : cs.size = 24) (k3 : cs[3]? = some (.string ⟨nm.toArray⟩)) (k4 : cs[4]? = some (.string ⟨fd.toArray⟩)) (k5 : cs[5]? = some (.string ⟨fr.toArray⟩)) (w : World)
 (hw0 : BC w 249 #[rulesV fv nu ex,.string ⟨nm.toArray⟩,.bool (hasB p 1),.bool (hasB p 2)] false) :
 Calls Tryz.prog 225 #[rulesV fv nu ex,.agg cs,.int .i64 p] w fun e w' => e = .returned (.bool false) ∧ Below w.heap.size w w':=by
 have HW0:=Lib.hid hw0
 have HH:=Lib.hid phas_any
 obtain ⟨T,N,hT,hN,_,_⟩:=stmt_hidden
 have e4 : ∀ y : Operand,Op.box 90 y = Op.box T y:=fun y => by rw [hT]
 obtain ⟨W1,hW1⟩ : ∃ W1,W1 = (w.alloc (rulesC fv nu ex)).alloc (.cells cs T):=⟨_,rfl⟩
 have HB : Hid (Below w.heap.size w W1):=Lib.hid (by rw [hW1];exact (below_alloc w _).chain (below_alloc _ _))
 have q1:=heap_keep (o:=.cells cs T) (heap_of_alloc w (rulesC fv nu ex))
 have q2:=heap_of_alloc (w.alloc (rulesC fv nu ex)) (.cells cs T)
 rw [size_of_alloc] at q2
 rw [← hW1] at q1 q2
 obtain ⟨S,hS⟩ : ∃ S : World → Prop,S = fun W => Below W1.heap.size W1 W:=⟨_,rfl⟩
 have HS2 : Hid (∀ W,Below W1.heap.size W1 W → S W):=Lib.hid (fun W hb => by rw [hS];exact hb)
 have HX0:=Lib.hid (Below.refl W1.heap.size W1).drew
 have hmx : Tryz.prog.follows .mixedOrders = true:=by kernel_rfl
 have HSo : Hid (∀ W,S W → (W.cell? ⟨w.heap.size,0,none⟩ = some (.func (.func fv) #[] #[]) ∧ W.cell? ⟨w.heap.size,1,none⟩ = some (.int .i64 nu) ∧ W.cell? ⟨w.heap.size,2,none⟩ = some (.int .i64 ex)) ∧ W.cell? ⟨w.heap.size + 1,3,none⟩ = some (.string ⟨nm.toArray⟩) ∧ W.cell? ⟨w.heap.size + 1,5,none⟩ = some (.string ⟨fr.toArray⟩) ∧ W.cell? ⟨w.heap.size + 1,4,none⟩ = some (.string ⟨fd.toArray⟩)):=Lib.hid (fun W hs => by
  rw [hS] at hs
  exact ⟨box3 (kept_box hs q1),cell_of_block (kept_box hs q2) 3 k3,cell_of_block (kept_box hs q2) 5 k5,cell_of_block (kept_box hs q2) 4 k4⟩)
 clear hw0 hN q1 q2 hS k3 k4 k5 _h24
 go_enter Tryz.func225,Tryz.ntmps225
 simp only [e4]
 clear e4 hT
 go_wp2
 rw [← hW1]
 clear hW1
 refine wp_region_held (S:=S) hmx ?_
 change wpAnyH _ _ _ _ _ 27 #[false,false,false,false,false,false,false,false,false,false,false,false,false,false,false,false,false,false,false,false,false,false,false,false,false,false,false] _ W1.drew
 have g0:=HS2.out _ HX0.out
 refine tk 0 7 (rulesV fv nu ex) g0 ?v0 ?_
 case v0 =>
  intro Wx hSx
  obtain ⟨r0,r1,r2⟩:=(HSo.out Wx hSx).1
  go_simp
 try simp only [pset]
 refine tk 1 8 (.pointer (some ⟨w.heap.size + 1,3,none⟩)) g0 ?v1 ?_
 case v1 =>
  intro Wx hSx
  go_simp
 try simp only [pset]
 refine tk 2 9 (.string ⟨nm.toArray⟩) g0 ?v2 ?_
 case v2 =>
  intro Wx hSx
  have q:=(HSo.out Wx hSx).2.1
  go_simp
 try simp only [pset]
 refine tk 3 10 (.int .i64 p) g0 ?v3 ?_
 case v3 =>
  intro Wx hSx
  go_simp
 try simp only [pset]
 refine tk 5 12 (.int .i64 p) g0 ?v5 ?_
 case v5 =>
  intro Wx hSx
  go_simp
 try simp only [pset]
 refine o1 4 (fun K hK => ?_)
 go_simp
 refine (HH.out _ _ _).mono ?_
 rintro e wz ⟨rfl,rfl⟩
 refine hK _ _ g0 ?_
 clear hK K
 refine o1 6 (fun K hK => ?_)
 go_simp
 refine (HH.out _ _ _).mono ?_
 rintro e wz ⟨rfl,rfl⟩
 refine hK _ _ g0 ?_
 clear hK K
 refine o1 7 (fun K hK => ?_)
 go_simp
 refine (HW0.out _ (HB.out.chain HX0.out)).mono ?_
 rintro e w1 ⟨rfl,hb⟩
 have HX1:=Lib.hid (HX0.out.chain hb)
 clear hb
 have g1:=HS2.out _ HX1.out
 refine hK _ _ g1 ?_
 clear hK K g0
 refine tk 8 15 (.bool false) g1 ?v8 ?_
 case v8 =>
  intro Wx hSx
  go_simp
 try simp only [pset]
 refine sk 9 16 g1 ?_
 try simp only [pset]
 refine sk 10 17 g1 ?_
 try simp only [pset]
 refine sk 11 18 g1 ?_
 try simp only [pset]
 refine sk 12 19 g1 ?_
 try simp only [pset]
 refine sk 13 20 g1 ?_
 try simp only [pset]
 refine sk 14 21 g1 ?_
 try simp only [pset]
 refine sk 15 22 g1 ?_
 try simp only [pset]
 refine sk 16 23 g1 ?_
 try simp only [pset]
 refine tk 17 24 (.bool false) g1 ?v17 ?_
 case v17 =>
  intro Wx hSx
  go_simp
 try simp only [pset]
 refine tk 18 25 (.bool false) g1 ?v18 ?_
 case v18 =>
  intro Wx hSx
  go_simp
 try simp only [pset]
 refine sk 19 26 g1 ?_
 try simp only [pset]
 refine sk 20 27 g1 ?_
 try simp only [pset]
 refine sk 21 28 g1 ?_
 try simp only [pset]
 refine sk 22 29 g1 ?_
 try simp only [pset]
 refine sk 23 30 g1 ?_
 try simp only [pset]
 refine sk 24 31 g1 ?_
 try simp only [pset]
 refine tk 25 32 (.bool false) g1 ?v25 ?_
 case v25 =>
  intro Wx hSx
  go_simp
 try simp only [pset]
 refine tk 26 6 (.bool false) g1 ?v26 ?_
 case v26 =>
  intro Wx hSx
  go_simp
 try simp only [pset]
 refine wpAnyH_done (by kernel_rfl) ?_ _
 go_wp2
 go_ret
 exact ⟨rfl,HB.out.chain HX1.out⟩
theorem names_c1 (fv : Nat) (nu ex : Int) (nm fd fr : List UInt8) (p : Int) (cs : Array Value) (_h24 : cs.size = 24) (k3 : cs[3]? = some (.string ⟨nm.toArray⟩)) (k4 : cs[4]? = some (.string ⟨fd.toArray⟩)) (k5 : cs[5]? = some (.string ⟨fr.toArray⟩)) (w : World)
 (hw0 : BC w 249 #[rulesV fv nu ex,.string ⟨nm.toArray⟩,.bool (hasB p 1),.bool (hasB p 2)] true)
 (hw1 : BC w 249 #[rulesV fv nu ex,.string ⟨fr.toArray⟩,.bool (hasB p 4),.bool (hasB p 8)] false) :
 Calls Tryz.prog 225 #[rulesV fv nu ex,.agg cs,.int .i64 p] w fun e w' => e = .returned (.bool false) ∧ Below w.heap.size w w':=by
 have HW0:=Lib.hid hw0
 have HW1:=Lib.hid hw1
 have HH:=Lib.hid phas_any
 obtain ⟨T,N,hT,hN,_,_⟩:=stmt_hidden
 have e4 : ∀ y : Operand,Op.box 90 y = Op.box T y:=fun y => by rw [hT]
 obtain ⟨W1,hW1⟩ : ∃ W1,W1 = (w.alloc (rulesC fv nu ex)).alloc (.cells cs T):=⟨_,rfl⟩
 have HB : Hid (Below w.heap.size w W1):=Lib.hid (by rw [hW1];exact (below_alloc w _).chain (below_alloc _ _))
 have q1:=heap_keep (o:=.cells cs T) (heap_of_alloc w (rulesC fv nu ex))
 have q2:=heap_of_alloc (w.alloc (rulesC fv nu ex)) (.cells cs T)
 rw [size_of_alloc] at q2
 rw [← hW1] at q1 q2
 obtain ⟨S,hS⟩ : ∃ S : World → Prop,S = fun W => Below W1.heap.size W1 W:=⟨_,rfl⟩
 have HS2 : Hid (∀ W,Below W1.heap.size W1 W → S W):=Lib.hid (fun W hb => by rw [hS];exact hb)
 have HX0:=Lib.hid (Below.refl W1.heap.size W1).drew
 have hmx : Tryz.prog.follows .mixedOrders = true:=by kernel_rfl
 have HSo : Hid (∀ W,S W → (W.cell? ⟨w.heap.size,0,none⟩ = some (.func (.func fv) #[] #[]) ∧ W.cell? ⟨w.heap.size,1,none⟩ = some (.int .i64 nu) ∧ W.cell? ⟨w.heap.size,2,none⟩ = some (.int .i64 ex)) ∧ W.cell? ⟨w.heap.size + 1,3,none⟩ = some (.string ⟨nm.toArray⟩) ∧ W.cell? ⟨w.heap.size + 1,5,none⟩ = some (.string ⟨fr.toArray⟩) ∧ W.cell? ⟨w.heap.size + 1,4,none⟩ = some (.string ⟨fd.toArray⟩)):=Lib.hid (fun W hs => by
  rw [hS] at hs
  exact ⟨box3 (kept_box hs q1),cell_of_block (kept_box hs q2) 3 k3,cell_of_block (kept_box hs q2) 5 k5,cell_of_block (kept_box hs q2) 4 k4⟩)
 clear hw0 hw1 hN q1 q2 hS k3 k4 k5 _h24
 go_enter Tryz.func225,Tryz.ntmps225
 simp only [e4]
 clear e4 hT
 go_wp2
 rw [← hW1]
 clear hW1
 refine wp_region_held (S:=S) hmx ?_
 change wpAnyH _ _ _ _ _ 27 #[false,false,false,false,false,false,false,false,false,false,false,false,false,false,false,false,false,false,false,false,false,false,false,false,false,false,false] _ W1.drew
 have g0:=HS2.out _ HX0.out
 refine tk 0 7 (rulesV fv nu ex) g0 ?v0 ?_
 case v0 =>
  intro Wx hSx
  obtain ⟨r0,r1,r2⟩:=(HSo.out Wx hSx).1
  go_simp
 try simp only [pset]
 refine tk 1 8 (.pointer (some ⟨w.heap.size + 1,3,none⟩)) g0 ?v1 ?_
 case v1 =>
  intro Wx hSx
  go_simp
 try simp only [pset]
 refine tk 2 9 (.string ⟨nm.toArray⟩) g0 ?v2 ?_
 case v2 =>
  intro Wx hSx
  have q:=(HSo.out Wx hSx).2.1
  go_simp
 try simp only [pset]
 refine tk 3 10 (.int .i64 p) g0 ?v3 ?_
 case v3 =>
  intro Wx hSx
  go_simp
 try simp only [pset]
 refine tk 5 12 (.int .i64 p) g0 ?v5 ?_
 case v5 =>
  intro Wx hSx
  go_simp
 try simp only [pset]
 refine o1 4 (fun K hK => ?_)
 go_simp
 refine (HH.out _ _ _).mono ?_
 rintro e wz ⟨rfl,rfl⟩
 refine hK _ _ g0 ?_
 clear hK K
 refine o1 6 (fun K hK => ?_)
 go_simp
 refine (HH.out _ _ _).mono ?_
 rintro e wz ⟨rfl,rfl⟩
 refine hK _ _ g0 ?_
 clear hK K
 refine o1 7 (fun K hK => ?_)
 go_simp
 refine (HW0.out _ (HB.out.chain HX0.out)).mono ?_
 rintro e w1 ⟨rfl,hb⟩
 have HX1:=Lib.hid (HX0.out.chain hb)
 clear hb
 have g1:=HS2.out _ HX1.out
 refine hK _ _ g1 ?_
 clear hK K g0
 refine tk 8 15 (.bool true) g1 ?v8 ?_
 case v8 =>
  intro Wx hSx
  go_simp
 try simp only [pset]
 refine tk 9 16 (rulesV fv nu ex) g1 ?v9 ?_
 case v9 =>
  intro Wx hSx
  obtain ⟨r0,r1,r2⟩:=(HSo.out Wx hSx).1
  go_simp
 try simp only [pset]
 refine tk 10 17 (.pointer (some ⟨w.heap.size + 1,5,none⟩)) g1 ?v10 ?_
 case v10 =>
  intro Wx hSx
  go_simp
 try simp only [pset]
 refine tk 11 18 (.string ⟨fr.toArray⟩) g1 ?v11 ?_
 case v11 =>
  intro Wx hSx
  have q:=(HSo.out Wx hSx).2.2.1
  go_simp
 try simp only [pset]
 refine tk 12 19 (.int .i64 p) g1 ?v12 ?_
 case v12 =>
  intro Wx hSx
  go_simp
 try simp only [pset]
 refine tk 14 21 (.int .i64 p) g1 ?v14 ?_
 case v14 =>
  intro Wx hSx
  go_simp
 try simp only [pset]
 refine o1 13 (fun K hK => ?_)
 go_simp
 refine (HH.out _ _ _).mono ?_
 rintro e wz ⟨rfl,rfl⟩
 refine hK _ _ g1 ?_
 clear hK K
 refine o1 15 (fun K hK => ?_)
 go_simp
 refine (HH.out _ _ _).mono ?_
 rintro e wz ⟨rfl,rfl⟩
 refine hK _ _ g1 ?_
 clear hK K
 refine o1 16 (fun K hK => ?_)
 go_simp
 refine (HW1.out _ (HB.out.chain HX1.out)).mono ?_
 rintro e w2 ⟨rfl,hb⟩
 have HX2:=Lib.hid (HX1.out.chain hb)
 clear hb
 have g2:=HS2.out _ HX2.out
 refine hK _ _ g2 ?_
 clear hK K g1
 refine tk 17 24 (.bool false) g2 ?v17 ?_
 case v17 =>
  intro Wx hSx
  go_simp
 try simp only [pset]
 refine tk 18 25 (.bool false) g2 ?v18 ?_
 case v18 =>
  intro Wx hSx
  go_simp
 try simp only [pset]
 refine sk 19 26 g2 ?_
 try simp only [pset]
 refine sk 20 27 g2 ?_
 try simp only [pset]
 refine sk 21 28 g2 ?_
 try simp only [pset]
 refine sk 22 29 g2 ?_
 try simp only [pset]
 refine sk 23 30 g2 ?_
 try simp only [pset]
 refine sk 24 31 g2 ?_
 try simp only [pset]
 refine tk 25 32 (.bool false) g2 ?v25 ?_
 case v25 =>
  intro Wx hSx
  go_simp
 try simp only [pset]
 refine tk 26 6 (.bool false) g2 ?v26 ?_
 case v26 =>
  intro Wx hSx
  go_simp
 try simp only [pset]
 refine wpAnyH_done (by kernel_rfl) ?_ _
 go_wp2
 go_ret
 exact ⟨rfl,HB.out.chain HX2.out⟩
theorem names_c2 (fv : Nat) (nu ex : Int) (nm fd fr : List UInt8) (p : Int) (cs : Array Value) (_h24 : cs.size = 24) (k3 : cs[3]? = some (.string ⟨nm.toArray⟩)) (k4 : cs[4]? = some (.string ⟨fd.toArray⟩)) (k5 : cs[5]? = some (.string ⟨fr.toArray⟩)) (v2 : Bool) (w : World)
 (hw0 : BC w 249 #[rulesV fv nu ex,.string ⟨nm.toArray⟩,.bool (hasB p 1),.bool (hasB p 2)] true)
 (hw1 : BC w 249 #[rulesV fv nu ex,.string ⟨fr.toArray⟩,.bool (hasB p 4),.bool (hasB p 8)] true)
 (hw2 : BC w 249 #[rulesV fv nu ex,.string ⟨fd.toArray⟩,.bool false,.bool (hasB p 16)] v2) :
 Calls Tryz.prog 225 #[rulesV fv nu ex,.agg cs,.int .i64 p] w fun e w' => e = .returned (.bool v2) ∧ Below w.heap.size w w':=by
 have HW0:=Lib.hid hw0
 have HW1:=Lib.hid hw1
 have HW2:=Lib.hid hw2
 have HH:=Lib.hid phas_any
 obtain ⟨T,N,hT,hN,_,_⟩:=stmt_hidden
 have e4 : ∀ y : Operand,Op.box 90 y = Op.box T y:=fun y => by rw [hT]
 obtain ⟨W1,hW1⟩ : ∃ W1,W1 = (w.alloc (rulesC fv nu ex)).alloc (.cells cs T):=⟨_,rfl⟩
 have HB : Hid (Below w.heap.size w W1):=Lib.hid (by rw [hW1];exact (below_alloc w _).chain (below_alloc _ _))
 have q1:=heap_keep (o:=.cells cs T) (heap_of_alloc w (rulesC fv nu ex))
 have q2:=heap_of_alloc (w.alloc (rulesC fv nu ex)) (.cells cs T)
 rw [size_of_alloc] at q2
 rw [← hW1] at q1 q2
 obtain ⟨S,hS⟩ : ∃ S : World → Prop,S = fun W => Below W1.heap.size W1 W:=⟨_,rfl⟩
 have HS2 : Hid (∀ W,Below W1.heap.size W1 W → S W):=Lib.hid (fun W hb => by rw [hS];exact hb)
 have HX0:=Lib.hid (Below.refl W1.heap.size W1).drew
 have hmx : Tryz.prog.follows .mixedOrders = true:=by kernel_rfl
 have HSo : Hid (∀ W,S W → (W.cell? ⟨w.heap.size,0,none⟩ = some (.func (.func fv) #[] #[]) ∧ W.cell? ⟨w.heap.size,1,none⟩ = some (.int .i64 nu) ∧ W.cell? ⟨w.heap.size,2,none⟩ = some (.int .i64 ex)) ∧ W.cell? ⟨w.heap.size + 1,3,none⟩ = some (.string ⟨nm.toArray⟩) ∧ W.cell? ⟨w.heap.size + 1,5,none⟩ = some (.string ⟨fr.toArray⟩) ∧ W.cell? ⟨w.heap.size + 1,4,none⟩ = some (.string ⟨fd.toArray⟩)):=Lib.hid (fun W hs => by
  rw [hS] at hs
  exact ⟨box3 (kept_box hs q1),cell_of_block (kept_box hs q2) 3 k3,cell_of_block (kept_box hs q2) 5 k5,cell_of_block (kept_box hs q2) 4 k4⟩)
 clear hw0 hw1 hw2 hN q1 q2 hS k3 k4 k5 _h24
 go_enter Tryz.func225,Tryz.ntmps225
 simp only [e4]
 clear e4 hT
 go_wp2
 rw [← hW1]
 clear hW1
 refine wp_region_held (S:=S) hmx ?_
 change wpAnyH _ _ _ _ _ 27 #[false,false,false,false,false,false,false,false,false,false,false,false,false,false,false,false,false,false,false,false,false,false,false,false,false,false,false] _ W1.drew
 have g0:=HS2.out _ HX0.out
 refine tk 0 7 (rulesV fv nu ex) g0 ?v0 ?_
 case v0 =>
  intro Wx hSx
  obtain ⟨r0,r1,r2⟩:=(HSo.out Wx hSx).1
  go_simp
 try simp only [pset]
 refine tk 1 8 (.pointer (some ⟨w.heap.size + 1,3,none⟩)) g0 ?v1 ?_
 case v1 =>
  intro Wx hSx
  go_simp
 try simp only [pset]
 refine tk 2 9 (.string ⟨nm.toArray⟩) g0 ?v2 ?_
 case v2 =>
  intro Wx hSx
  have q:=(HSo.out Wx hSx).2.1
  go_simp
 try simp only [pset]
 refine tk 3 10 (.int .i64 p) g0 ?v3 ?_
 case v3 =>
  intro Wx hSx
  go_simp
 try simp only [pset]
 refine tk 5 12 (.int .i64 p) g0 ?v5 ?_
 case v5 =>
  intro Wx hSx
  go_simp
 try simp only [pset]
 refine o1 4 (fun K hK => ?_)
 go_simp
 refine (HH.out _ _ _).mono ?_
 rintro e wz ⟨rfl,rfl⟩
 refine hK _ _ g0 ?_
 clear hK K
 refine o1 6 (fun K hK => ?_)
 go_simp
 refine (HH.out _ _ _).mono ?_
 rintro e wz ⟨rfl,rfl⟩
 refine hK _ _ g0 ?_
 clear hK K
 refine o1 7 (fun K hK => ?_)
 go_simp
 refine (HW0.out _ (HB.out.chain HX0.out)).mono ?_
 rintro e w1 ⟨rfl,hb⟩
 have HX1:=Lib.hid (HX0.out.chain hb)
 clear hb
 have g1:=HS2.out _ HX1.out
 refine hK _ _ g1 ?_
 clear hK K g0
 refine tk 8 15 (.bool true) g1 ?v8 ?_
 case v8 =>
  intro Wx hSx
  go_simp
 try simp only [pset]
 refine tk 9 16 (rulesV fv nu ex) g1 ?v9 ?_
 case v9 =>
  intro Wx hSx
  obtain ⟨r0,r1,r2⟩:=(HSo.out Wx hSx).1
  go_simp
 try simp only [pset]
 refine tk 10 17 (.pointer (some ⟨w.heap.size + 1,5,none⟩)) g1 ?v10 ?_
 case v10 =>
  intro Wx hSx
  go_simp
 try simp only [pset]
 refine tk 11 18 (.string ⟨fr.toArray⟩) g1 ?v11 ?_
 case v11 =>
  intro Wx hSx
  have q:=(HSo.out Wx hSx).2.2.1
  go_simp
 try simp only [pset]
 refine tk 12 19 (.int .i64 p) g1 ?v12 ?_
 case v12 =>
  intro Wx hSx
  go_simp
 try simp only [pset]
 refine tk 14 21 (.int .i64 p) g1 ?v14 ?_
 case v14 =>
  intro Wx hSx
  go_simp
 try simp only [pset]
 refine o1 13 (fun K hK => ?_)
 go_simp
 refine (HH.out _ _ _).mono ?_
 rintro e wz ⟨rfl,rfl⟩
 refine hK _ _ g1 ?_
 clear hK K
 refine o1 15 (fun K hK => ?_)
 go_simp
 refine (HH.out _ _ _).mono ?_
 rintro e wz ⟨rfl,rfl⟩
 refine hK _ _ g1 ?_
 clear hK K
 refine o1 16 (fun K hK => ?_)
 go_simp
 refine (HW1.out _ (HB.out.chain HX1.out)).mono ?_
 rintro e w2 ⟨rfl,hb⟩
 have HX2:=Lib.hid (HX1.out.chain hb)
 clear hb
 have g2:=HS2.out _ HX2.out
 refine hK _ _ g2 ?_
 clear hK K g1
 refine tk 17 24 (.bool true) g2 ?v17 ?_
 case v17 =>
  intro Wx hSx
  go_simp
 try simp only [pset]
 refine tk 18 25 (.bool true) g2 ?v18 ?_
 case v18 =>
  intro Wx hSx
  go_simp
 try simp only [pset]
 refine tk 19 26 (rulesV fv nu ex) g2 ?v19 ?_
 case v19 =>
  intro Wx hSx
  obtain ⟨r0,r1,r2⟩:=(HSo.out Wx hSx).1
  go_simp
 try simp only [pset]
 refine tk 20 27 (.pointer (some ⟨w.heap.size + 1,4,none⟩)) g2 ?v20 ?_
 case v20 =>
  intro Wx hSx
  go_simp
 try simp only [pset]
 refine tk 21 28 (.string ⟨fd.toArray⟩) g2 ?v21 ?_
 case v21 =>
  intro Wx hSx
  have q:=(HSo.out Wx hSx).2.2.2
  go_simp
 try simp only [pset]
 refine tk 22 29 (.int .i64 p) g2 ?v22 ?_
 case v22 =>
  intro Wx hSx
  go_simp
 try simp only [pset]
 refine o1 23 (fun K hK => ?_)
 go_simp
 refine (HH.out _ _ _).mono ?_
 rintro e wz ⟨rfl,rfl⟩
 refine hK _ _ g2 ?_
 clear hK K
 refine o1 24 (fun K hK => ?_)
 go_simp
 refine (HW2.out _ (HB.out.chain HX2.out)).mono ?_
 rintro e w3 ⟨rfl,hb⟩
 have HX3:=Lib.hid (HX2.out.chain hb)
 clear hb
 have g3:=HS2.out _ HX3.out
 refine hK _ _ g3 ?_
 clear hK K g2
 refine tk 25 32 (.bool v2) g3 ?v25 ?_
 case v25 =>
  intro Wx hSx
  go_simp
 try simp only [pset]
 refine tk 26 6 (.bool v2) g3 ?v26 ?_
 case v26 =>
  intro Wx hSx
  go_simp
 try simp only [pset]
 refine wpAnyH_done (by kernel_rfl) ?_ _
 go_wp2
 go_ret
 exact ⟨rfl,HB.out.chain HX3.out⟩
theorem names_core (fv : Nat) (nu ex : Int) (nm fd fr : List UInt8) (p : Int) (cs : Array Value) (h24 : cs.size = 24) (k3 : cs[3]? = some (.string ⟨nm.toArray⟩)) (k4 : cs[4]? = some (.string ⟨fd.toArray⟩)) (k5 : cs[5]? = some (.string ⟨fr.toArray⟩)) (v0 v1 v2 : Bool) (w : World)
 (hw0 : BC w 249 #[rulesV fv nu ex,.string ⟨nm.toArray⟩,.bool (hasB p 1),.bool (hasB p 2)] v0)
 (hw1 : BC w 249 #[rulesV fv nu ex,.string ⟨fr.toArray⟩,.bool (hasB p 4),.bool (hasB p 8)] v1)
 (hw2 : BC w 249 #[rulesV fv nu ex,.string ⟨fd.toArray⟩,.bool false,.bool (hasB p 16)] v2) :
 Calls Tryz.prog 225 #[rulesV fv nu ex,.agg cs,.int .i64 p] w fun e w' => e = .returned (.bool (v0 && v1 && v2)) ∧ Below w.heap.size w w':=by
 cases v0 with
 | false => exact names_c0 fv nu ex nm fd fr p cs h24 k3 k4 k5 w hw0
 | true =>
   cases v1 with
   | false => exact names_c1 fv nu ex nm fd fr p cs h24 k3 k4 k5 w hw0 hw1
   | true => exact names_c2 fv nu ex nm fd fr p cs h24 k3 k4 k5 v2 w hw0 hw1 hw2
theorem vl_call (ok : Cal → Bool) (G : Nat) (Fi Ca : Array Value) (hG : ∀ args w,(callFunc G args).run Tryz.prog w = .ok (.enter G args) w) (es : List Cal) (A : Option Addr) (c : Nat) (least most : Int) (w : World) (hn : es.length ≤ maxLen) (hr : RowX CalAt 3 w w.heap.size es A)
 (hC : ∀ r p l A c W,(⟨r,p,l⟩ : Cal) ∈ es → Below w.heap.size w W → ExRow W W.heap.size l A → r.length ≤ maxLen → p.length ≤ maxLen → l.length ≤ maxLen →
   Calls Tryz.prog G (Fi.push (callV ⟨r.toArray⟩ ⟨p.toArray⟩ (.slice A l.length c)) ++ Ca) W fun e w' => e = .returned (.bool (ok ⟨r,p,l⟩)) ∧ Below W.heap.size W w') :
 Calls Tryz.prog 232 #[.slice A es.length c,.int .i64 least,.int .i64 most,.func (.func G) Fi Ca] w fun e w' =>
  e = .returned (.bool (decide (least ≤ es.length) && decide ((es.length : Int) ≤ most) && es.all ok)) ∧ Below w.heap.size w w':=by
 obtain ⟨n,hnn⟩ : ∃ n,n = es.length:=⟨_,rfl⟩
 have HH:=Lib.hid (And.intro hr (And.intro hC hnn))
 have HB0:=Lib.hid (Below.refl w.heap.size w)
 rw [← hnn] at hn ⊢
 clear hr hC hnn
 unfold maxLen at hn
 go_enter Tryz.func232,Tryz.ntmps232
 by_cases hl : (n : Int) < least
 ·go_wp2
  go_ret
  exact ⟨by rw [show decide (least ≤ (n : Int)) = false by simp;omega];rfl,HB0.out⟩
 by_cases hm : (n : Int) > most
 ·go_wp2
  go_ret
  exact ⟨by rw [show decide ((n : Int) ≤ most) = false by simp;omega];simp,HB0.out⟩
 go_wp2
 go_loopg [23] n (fun m j wr => ∃ k : Nat,m = n - k ∧ k ≤ n ∧ j = .int .i64 k ∧ Hid (Below w.heap.size w wr ∧ (es.take k).all ok = true))
 case atStart => exact ⟨0,rfl,Nat.zero_le _,rfl,Lib.hid ⟨HB0.out,rfl⟩⟩
 case round =>
  obtain ⟨k,rfl,hk,rfl,HI⟩:=hrel
  by_cases hlt : k < n
  ·have hki : (k : Int) < n:=by omega
   obtain ⟨⟨r,p,l⟩,hi⟩ : ∃ x,es[k]? = some x:=⟨es[k]'(by rw [← HH.out.2.2];exact hlt),List.getElem?_eq_getElem _⟩
   obtain ⟨a,rfl,hab,hp⟩:=(HH.out.1.stay cal_keeps HI.out.1 (Nat.le_refl _)).at_ hi
   obtain ⟨Al,cl,d0,d1,d2,hrl,hpl,hll,rl⟩:=hp
   simp only at d0 d1 d2 hrl hpl hll rl
   have c0 : wr.cell? (a.add (k * 3)) = some (.string ⟨r.toArray⟩):=d0
   have c1 : wr.cell? ⟨(a.add (k * 3)).block,(a.add (k * 3)).off + 1,none⟩ = some (.string ⟨p.toArray⟩):=d1
   have c2 : wr.cell? ⟨(a.add (k * 3)).block,(a.add (k * 3)).off + 2,none⟩ = some (.slice Al l.length cl):=d2
   have HJ:=Lib.hid (HI.out.1.alloc HI.out.1.size (.cells #[.string ⟨r.toArray⟩,.string ⟨p.toArray⟩,.slice Al l.length cl] 217))
   have HC2:=Lib.hid (HH.out.2.1 r p l Al cl (wr.alloc (.cells #[.string ⟨r.toArray⟩,.string ⟨p.toArray⟩,.slice Al l.length cl] 217)) (List.mem_of_getElem? hi) HJ.out ((rl.stay (below_alloc wr _) HI.out.1.size).more HJ.out.size) hrl hpl hll)
   obtain ⟨okx,hokx⟩ : ∃ b,b = ok ⟨r,p,l⟩:=⟨_,rfl⟩
   have HX:=Lib.hid (And.intro hi (all_take_succ ok es k _ hi))
   rw [← hokx] at HC2 HX
   have HO:=Lib.hid hokx
   clear hokx hi d0 d1 d2 hrl hpl hll rl
   go_wp2_with (refine HC2.out.mono ?_;rintro e w3 ⟨rfl,hb⟩;have HB3:=Lib.hid (HJ.out.trans (hb.mono HJ.out.size));clear hb)
   ·rename_i hf
    have hf' : ok ⟨r,p,l⟩ = false:=by rw [← HO.out];simpa using hf
    go_ret
    exact ⟨by rw [all_of_false ok es k _ HX.out.1 hf',Bool.and_false];rfl,HB3.out⟩
   ·rename_i hf
    have hf' : okx = true:=by simpa using hf
    go_roundg (n - (k + 1))
    case measure => omega
    case rel => exact ⟨k + 1,rfl,by omega,by go_num,Lib.hid ⟨HB3.out,by rw [HX.out.2,HI.out.2,hf'];rfl⟩⟩
  ·obtain rfl : k = n:=by omega
   go_wp2
   go_ret
   refine ⟨?_,HI.out.1⟩
   have := HI.out.2
   rw [List.take_of_length_le (by rw [HH.out.2.2];exact Nat.le_refl _)] at this
   rw [this,Bool.and_true,show decide (least ≤ (k : Int)) = true by simp;omega,show decide ((k : Int) ≤ most) = true by simp;omega]
   rfl
theorem vl_formula (ok : Fm → Bool) (G : Nat) (Fi Ca : Array Value) (hG : ∀ args w,(callFunc G args).run Tryz.prog w = .ok (.enter G args) w) (es : List Fm) (A : Option Addr) (c : Nat) (least most : Int) (w : World) (hn : es.length ≤ maxLen) (hr : RowX FmAt 3 w w.heap.size es A)
 (hC : ∀ (x : Fm) Ap cp Aa ca Ac cc W,x ∈ es → Below w.heap.size w W → PmRow W W.heap.size x.ps Ap → AtRow W W.heap.size x.ats Aa → ClRow W W.heap.size x.cls Ac → x.ps.length ≤ maxLen → x.ats.length ≤ maxLen → x.cls.length ≤ maxLen →
   Calls Tryz.prog G (Fi.push (formulaV (.slice Ap x.ps.length cp) (.slice Aa x.ats.length ca) (.slice Ac x.cls.length cc)) ++ Ca) W fun e w' => e = .returned (.bool (ok x)) ∧ Below W.heap.size W w') :
 Calls Tryz.prog 194 #[.slice A es.length c,.int .i64 least,.int .i64 most,.func (.func G) Fi Ca] w fun e w' =>
  e = .returned (.bool (decide (least ≤ es.length) && decide ((es.length : Int) ≤ most) && es.all ok)) ∧ Below w.heap.size w w':=by
 obtain ⟨n,hnn⟩ : ∃ n,n = es.length:=⟨_,rfl⟩
 have HH:=Lib.hid (And.intro hr (And.intro hC hnn))
 have HB0:=Lib.hid (Below.refl w.heap.size w)
 rw [← hnn] at hn ⊢
 clear hr hC hnn
 unfold maxLen at hn
 go_enter Tryz.func194,Tryz.ntmps194
 by_cases hl : (n : Int) < least
 ·go_wp2
  go_ret
  exact ⟨by rw [show decide (least ≤ (n : Int)) = false by simp;omega];rfl,HB0.out⟩
 by_cases hm : (n : Int) > most
 ·go_wp2
  go_ret
  exact ⟨by rw [show decide ((n : Int) ≤ most) = false by simp;omega];simp,HB0.out⟩
 go_wp2
 go_loopg [23] n (fun m j wr => ∃ k : Nat,m = n - k ∧ k ≤ n ∧ j = .int .i64 k ∧ Hid (Below w.heap.size w wr ∧ (es.take k).all ok = true))
 case atStart => exact ⟨0,rfl,Nat.zero_le _,rfl,Lib.hid ⟨HB0.out,rfl⟩⟩
 case round =>
  obtain ⟨k,rfl,hk,rfl,HI⟩:=hrel
  by_cases hlt : k < n
  ·have hki : (k : Int) < n:=by omega
   obtain ⟨x,hi⟩ : ∃ x,es[k]? = some x:=⟨es[k]'(by rw [← HH.out.2.2];exact hlt),List.getElem?_eq_getElem _⟩
   obtain ⟨a,rfl,hab,hp⟩:=(HH.out.1.stay fm_keeps HI.out.1 (Nat.le_refl _)).at_ hi
   obtain ⟨Ap,cp,Aa,ca,Ac,cc,d0,d1,d2,⟨b0,b1,b2⟩,rp,ra,rc⟩:=hp
   have c0 : wr.cell? (a.add (k * 3)) = some (.slice Ap x.ps.length cp):=d0
   have c1 : wr.cell? ⟨(a.add (k * 3)).block,(a.add (k * 3)).off + 1,none⟩ = some (.slice Aa x.ats.length ca):=d1
   have c2 : wr.cell? ⟨(a.add (k * 3)).block,(a.add (k * 3)).off + 2,none⟩ = some (.slice Ac x.cls.length cc):=d2
   have HJ:=Lib.hid (HI.out.1.alloc HI.out.1.size (.cells #[.slice Ap x.ps.length cp,.slice Aa x.ats.length ca,.slice Ac x.cls.length cc] 69))
   have HC2:=Lib.hid (HH.out.2.1 x Ap cp Aa ca Ac cc (wr.alloc (.cells #[.slice Ap x.ps.length cp,.slice Aa x.ats.length ca,.slice Ac x.cls.length cc] 69)) (List.mem_of_getElem? hi) HJ.out ((rp.stay pm_keeps (below_alloc wr _) HI.out.1.size).more pm_keeps HJ.out.size) ((ra.stay at_keeps (below_alloc wr _) HI.out.1.size).more at_keeps HJ.out.size) ((rc.stay cl_keeps (below_alloc wr _) HI.out.1.size).more cl_keeps HJ.out.size) b0 b1 b2)
   obtain ⟨okx,hokx⟩ : ∃ b,b = ok x:=⟨_,rfl⟩
   have HX:=Lib.hid (And.intro hi (all_take_succ ok es k _ hi))
   rw [← hokx] at HC2 HX
   have HO:=Lib.hid hokx
   clear hokx hi d0 d1 d2 b0 b1 b2 rp ra rc
   go_wp2_with (refine HC2.out.mono ?_;rintro e w3 ⟨rfl,hb⟩;have HB3:=Lib.hid (HJ.out.trans (hb.mono HJ.out.size));clear hb)
   ·rename_i hf
    have hf' : ok x = false:=by rw [← HO.out];simpa using hf
    go_ret
    exact ⟨by rw [all_of_false ok es k _ HX.out.1 hf',Bool.and_false];rfl,HB3.out⟩
   ·rename_i hf
    have hf' : okx = true:=by simpa using hf
    go_roundg (n - (k + 1))
    case measure => omega
    case rel => exact ⟨k + 1,rfl,by omega,by go_num,Lib.hid ⟨HB3.out,by rw [HX.out.2,HI.out.2,hf'];rfl⟩⟩
  ·obtain rfl : k = n:=by omega
   go_wp2
   go_ret
   refine ⟨?_,HI.out.1⟩
   have := HI.out.2
   rw [List.take_of_length_le (by rw [HH.out.2.2];exact Nat.le_refl _)] at this
   rw [this,Bool.and_true,show decide (least ≤ (k : Int)) = true by simp;omega,show decide ((k : Int) ≤ most) = true by simp;omega]
   rfl
theorem vlr_call (fv : Nat) (var : List UInt8 → Bool) (hv : VarOk fv var) (nu ex : Int) (h0 : 0 ≤ nu) (h1 : nu ≤ 4611686018427387904) (es : List Cal) (A : Option Addr) (c : Nat) (least most : Int) (w : World) (hn : es.length ≤ maxLen) (hr : CalRow w w.heap.size es A) :
 Calls Tryz.prog 232 #[.slice A es.length c,.int .i64 least,.int .i64 most,.func (.func 233) #[rulesV fv nu ex] #[]] w fun e w' =>
  e = .returned (.bool (decide (least ≤ es.length) && decide ((es.length : Int) ≤ most) && es.all (vCal var nu))) ∧ Below w.heap.size w w':=by
 refine vl_call (vCal var nu) 233 #[rulesV fv nu ex] #[] (enters_of Tryz.func233 (by kernel_rfl) rfl) es A c least most w hn hr (fun r p l A' c' W _ hb rl hrl hpl hl => ?_)
 exact call_any fv var hv nu ex h0 h1 r p l A' c' W rl hrl hpl hl
theorem vlr_formula (fv : Nat) (var : List UInt8 → Bool) (hv : VarOk fv var) (nu ex : Int) (h0 : 0 ≤ nu) (h1 : nu ≤ 4611686018427387904) (es : List Fm) (A : Option Addr) (c : Nat) (least most : Int) (w : World) (hn : es.length ≤ maxLen) (hr : FmRow w w.heap.size es A) :
 Calls Tryz.prog 194 #[.slice A es.length c,.int .i64 least,.int .i64 most,.func (.func 79) #[rulesV fv nu ex] #[]] w fun e w' =>
  e = .returned (.bool (decide (least ≤ es.length) && decide ((es.length : Int) ≤ most) && es.all (vF var nu ex))) ∧ Below w.heap.size w w':=by
 refine vl_formula (vF var nu ex) 79 #[rulesV fv nu ex] #[] (enters_of Tryz.func79 (by kernel_rfl) rfl) es A c least most w hn hr (fun x Ap cp Aa ca Ac cc W _ hb rp ra rc b0 b1 b2 => ?_)
 exact formula_any fv var hv nu ex h0 h1 x Ap cp Aa ca Ac cc W b0 b1 b2 rp ra rc
theorem vl_stmt (ok : St → Bool) (G : Nat) (Fi Ca : Array Value) (hG : ∀ args w,(callFunc G args).run Tryz.prog w = .ok (.enter G args) w) (ss : List St) (A : Option Addr) (c : Nat) (least most : Int) (w : World) (hn : ss.length ≤ maxLen) (hr : StRow w w.heap.size ss A)
 (hC : ∀ s d W,s ∈ ss → Below w.heap.size w W → StOwn W W.heap.size d s → StRow W W.heap.size s.body d.s → StRow W W.heap.size s.els d.t →
   Calls Tryz.prog G (Fi.push (.agg (stCs d s)) ++ Ca) W fun e w' => e = .returned (.bool (ok s)) ∧ Below W.heap.size W w') :
 Calls Tryz.prog 213 #[.slice A ss.length c,.int .i64 least,.int .i64 most,.func (.func G) Fi Ca] w fun e w' =>
  e = .returned (.bool (decide (least ≤ ss.length) && decide ((ss.length : Int) ≤ most) && ss.all ok)) ∧ Below w.heap.size w w':=by
 obtain ⟨n,hnn⟩ : ∃ n,n = ss.length:=⟨_,rfl⟩
 have HH:=Lib.hid (And.intro hr (And.intro hC hnn))
 have HB0:=Lib.hid (Below.refl w.heap.size w)
 rw [← hnn] at hn ⊢
 clear hr hC hnn
 unfold maxLen at hn
 obtain ⟨T,M,hT,hM,hag,hsz⟩:=stmt_hidden
 have e1 : ∀ y : Operand,Op.load 90 y = Op.load T y:=fun y => by rw [hT]
 have e2 : ∀ y z : Operand,Op.store 90 y z = Op.store T y z:=fun y z => by rw [hT]
 have HM:=Lib.hid hM
 clear hM
 go_enter Tryz.func213,Tryz.ntmps213
 simp only [e1,e2]
 clear e1 e2 hT
 by_cases hl : (n : Int) < least
 ·go_wp2
  go_ret
  exact ⟨by rw [show decide (least ≤ (n : Int)) = false by simp;omega];rfl,HB0.out⟩
 by_cases hm : (n : Int) > most
 ·go_wp2
  go_ret
  exact ⟨by rw [show decide ((n : Int) ≤ most) = false by simp;omega];simp,HB0.out⟩
 go_wp2
 go_loopg [23] n (fun m j wr => ∃ k : Nat,m = n - k ∧ k ≤ n ∧ j = .int .i64 k ∧ Hid (Below w.heap.size w wr ∧ (ss.take k).all ok = true))
 case atStart => exact ⟨0,rfl,Nat.zero_le _,rfl,Lib.hid ⟨HB0.out,rfl⟩⟩
 case round =>
  obtain ⟨k,rfl,hk,rfl,HI⟩:=hrel
  by_cases hlt : k < n
  ·have hki : (k : Int) < n:=by omega
   obtain ⟨s,hi⟩ : ∃ x,ss[k]? = some x:=⟨ss[k]'(by rw [← HH.out.2.2];exact hlt),List.getElem?_eq_getElem _⟩
   obtain ⟨a,d,rfl,hab,hc,hown,hb1,hb2⟩:=(HH.out.1.on HI.out.1).at_ hi
   obtain ⟨cs,hcs⟩ : ∃ cs,cs = stCs d s:=⟨_,rfl⟩
   have h24 : cs.size = 24:=by rw [hcs];exact stCs_size d s
   have h1c : cs.all (·.oneCell') = true:=by rw [hcs];exact stCs_one d s
   have hszc : cs.size = M:=h24.trans HM.out.symm
   rw [← hcs] at hc
   have hl1:=load_list (N:=M) hc hszc
   have hst:=store_new (w:=wr) h24 h1c
   have hbx:=heap_of_alloc wr (.cells cs 90)
   have hl2:=load_list (W:=wr.alloc (.cells cs 90)) (a:=⟨wr.heap.size,0,none⟩) (N:=M) (cs:=cs) (fun j v hv => by rw [add_block0];exact cell_of_block hbx j hv) hszc
   have HJ:=Lib.hid (HI.out.1.alloc HI.out.1.size (.cells cs 90))
   have hba:=below_alloc wr (.cells cs 90)
   have HC2:=Lib.hid (HH.out.2.1 s d (wr.alloc (.cells cs 90)) (List.mem_of_getElem? hi) HJ.out (hown.on hba) (hb1.on hba) (hb2.on hba))
   rw [← hcs] at HC2
   have HX:=Lib.hid (And.intro hi (all_take_succ ok ss k _ hi))
   obtain ⟨okx,hokx⟩ : ∃ b,b = ok s:=⟨_,rfl⟩
   rw [← hokx] at HC2 HX
   have HO:=Lib.hid hokx
   clear hokx hi hc hown hb1 hb2 hbx hba h24 h1c hcs
   go_wp2_with (refine HC2.out.mono ?_;rintro e w3 ⟨rfl,hb⟩;have HB3:=Lib.hid (HJ.out.trans (hb.mono HJ.out.size));clear hb)
   ·rename_i hf
    have hf' : ok s = false:=by rw [← HO.out];simpa using hf
    go_ret
    exact ⟨by rw [all_of_false ok ss k _ HX.out.1 hf',Bool.and_false];rfl,HB3.out⟩
   ·rename_i hf
    have hf' : okx = true:=by simpa using hf
    go_roundg (n - (k + 1))
    case measure => omega
    case rel => exact ⟨k + 1,rfl,by omega,by go_num,Lib.hid ⟨HB3.out,by rw [HX.out.2,HI.out.2,hf'];rfl⟩⟩
  ·obtain rfl : k = n:=by omega
   go_wp2
   go_ret
   refine ⟨?_,HI.out.1⟩
   have := HI.out.2
   rw [List.take_of_length_le (by rw [HH.out.2.2];exact Nat.le_refl _)] at this
   rw [this,Bool.and_true,show decide (least ≤ (k : Int)) = true by simp;omega,show decide ((k : Int) ≤ most) = true by simp;omega]
   rfl
theorem stmt_core (fv : Nat) (nu ex : Int) (k ln co ek en ck ak an bk bn : Int) (es sa sb : List UInt8) (ve va vb vl vc vi vs vt : Value) (cs : Array Value) (h24 : cs.size = 24) (k0 : cs[0]? = some (.int .i64 k)) (k1 : cs[1]? = some (.int .i64 ln)) (k2 : cs[2]? = some (.int .i64 co)) (k6 : cs[6]? = some (.int .i64 ek)) (k7 : cs[7]? = some (.int .i64 en)) (k8 : cs[8]? = some (.string ⟨es.toArray⟩)) (k9 : cs[9]? = some ve) (k10 : cs[10]? = some (.int .i64 ck)) (k11 : cs[11]? = some (.int .i64 ak)) (k12 : cs[12]? = some (.int .i64 an)) (k13 : cs[13]? = some (.string ⟨sa.toArray⟩)) (k14 : cs[14]? = some va) (k15 : cs[15]? = some (.int .i64 bk)) (k16 : cs[16]? = some (.int .i64 bn)) (k17 : cs[17]? = some (.string ⟨sb.toArray⟩)) (k18 : cs[18]? = some vb) (k19 : cs[19]? = some vl) (k20 : cs[20]? = some vc) (k21 : cs[21]? = some vi) (k22 : cs[22]? = some vs) (k23 : cs[23]? = some vt) (kn : Nat) (hk : k = kn) (hk1 : 1 ≤ kn) (hk2 : kn ≤ 12) (p dp : Int) (v0 v1 v2 v3 v4 v5 v6 v7 : Bool) (w : World) (hp : w.cell? ⟨0,kn,none⟩ = some (.int .i64 p))
 (hv0 : BC w 156 #[posV ln co] v0)
 (hv1 : BC w 225 #[rulesV fv nu ex,.agg cs,.int .i64 p] v1)
 (hv2 : BC w 226 #[.bool (hasB p 32),exprV ek en ⟨es.toArray⟩ ve,.func (.func 141) #[rulesV fv nu ex] #[],.func (.func 228) #[] #[]] v2)
 (hv3 : BC w 229 #[.bool (hasB p 64),condV2 ck ak an ⟨sa.toArray⟩ va bk bn ⟨sb.toArray⟩ vb vl,.func (.func 230) #[rulesV fv nu ex] #[],.func (.func 231) #[] #[]] v3)
 (hv4 : BC w 232 #[vc,.int .i64 (mostB p 128 1 + mostB p 256 1),.int .i64 (mostB p 128 1 + mostB p 256 1),.func (.func 233) #[rulesV fv nu ex] #[]] v4)
 (hv5 : BC w 194 #[vi,.int .i64 0,.int .i64 (mostB p 512 100),.func (.func 79) #[rulesV fv nu ex] #[]] v5)
 (hv6 : BC w 195 #[rulesV fv nu ex,vs,.int .i64 (mostB p 1024 dp)] v6)
 (hv7 : BC w 195 #[rulesV fv nu ex,vt,.int .i64 (mostB p 2048 dp)] v7) :
 Calls Tryz.prog 215 #[rulesV fv nu ex,.agg cs,.int .i64 dp] w fun e w' => e = .returned (.bool (v0 && v1 && v2 && v3 && v4 && v5 && v6 && v7)) ∧ Below w.heap.size w w':=by
 have HV0:=Lib.hid hv0
 have HV1:=Lib.hid hv1
 have HV2:=Lib.hid hv2
 have HV3:=Lib.hid hv3
 have HV4:=Lib.hid hv4
 have HV5:=Lib.hid hv5
 have HV6:=Lib.hid hv6
 have HV7:=Lib.hid hv7
 have HM1:=Lib.hid (most_any p 128 1)
 have HM2:=Lib.hid (most_any p 256 1)
 have hm1:=most_01 p 128
 have hm2:=most_01 p 256
 generalize mostB p 128 1 = m1 at *
 generalize mostB p 256 1 = m2 at *
 have HH2:=Lib.hid (phas_any p 32)
 generalize hasB p 32 = a2 at *
 have HH3:=Lib.hid (phas_any p 64)
 generalize hasB p 64 = a3 at *
 have HM5:=Lib.hid (most_any p 512 100)
 generalize mostB p 512 100 = m5 at *
 have HM6:=Lib.hid (most_any p 1024 dp)
 generalize mostB p 1024 dp = m6 at *
 have HM7:=Lib.hid (most_any p 2048 dp)
 generalize mostB p 2048 dp = m7 at *
 subst hk
 obtain ⟨T,N,hT,hN,hag,hsz⟩:=stmt_hidden
 have e1 : ∀ y : Operand,Op.load 90 y = Op.load T y:=fun y => by rw [hT]
 have e4 : ∀ y : Operand,Op.box 90 y = Op.box T y:=fun y => by rw [hT]
 obtain ⟨W1,hW1⟩ : ∃ W1,W1 = (w.alloc (rulesC fv nu ex)).alloc (.cells cs T):=⟨_,rfl⟩
 have HB : Hid (Below w.heap.size w W1):=Lib.hid (by rw [hW1];exact (below_alloc w _).chain (below_alloc _ _))
 have q1:=heap_keep (o:=.cells cs T) (heap_of_alloc w (rulesC fv nu ex))
 have q2:=heap_of_alloc (w.alloc (rulesC fv nu ex)) (.cells cs T)
 rw [size_of_alloc] at q2
 rw [← hW1] at q1 q2
 have hszc : cs.size = N:=h24.trans hN.symm
 obtain ⟨S,hS⟩ : ∃ S : World → Prop,S = fun W => Below W1.heap.size W1 W:=⟨_,rfl⟩
 have HS2 : Hid (∀ W,Below W1.heap.size W1 W → S W):=Lib.hid (fun W hb => by rw [hS];exact hb)
 have HX0:=Lib.hid (Below.refl W1.heap.size W1).drew
 have hmx : Tryz.prog.follows .mixedOrders = true:=by kernel_rfl
 have HSo : Hid (∀ W,S W → (W.cell? ⟨w.heap.size,0,none⟩ = some (.func (.func fv) #[] #[]) ∧ W.cell? ⟨w.heap.size,1,none⟩ = some (.int .i64 nu) ∧ W.cell? ⟨w.heap.size,2,none⟩ = some (.int .i64 ex)) ∧ (W.cell? ⟨w.heap.size + 1,1,none⟩ = some (.int .i64 ln) ∧ W.cell? ⟨w.heap.size + 1,2,none⟩ = some (.int .i64 co)) ∧ (W.cell? ⟨w.heap.size + 1,6,none⟩ = some (.int .i64 ek) ∧ W.cell? ⟨w.heap.size + 1,7,none⟩ = some (.int .i64 en) ∧ W.cell? ⟨w.heap.size + 1,8,none⟩ = some (.string ⟨es.toArray⟩) ∧ W.cell? ⟨w.heap.size + 1,9,none⟩ = some ve) ∧ (W.cell? ⟨w.heap.size + 1,10,none⟩ = some (.int .i64 ck) ∧ W.cell? ⟨w.heap.size + 1,11,none⟩ = some (.int .i64 ak) ∧ W.cell? ⟨w.heap.size + 1,12,none⟩ = some (.int .i64 an) ∧ W.cell? ⟨w.heap.size + 1,13,none⟩ = some (.string ⟨sa.toArray⟩) ∧ W.cell? ⟨w.heap.size + 1,14,none⟩ = some va ∧ W.cell? ⟨w.heap.size + 1,15,none⟩ = some (.int .i64 bk) ∧ W.cell? ⟨w.heap.size + 1,16,none⟩ = some (.int .i64 bn) ∧ W.cell? ⟨w.heap.size + 1,17,none⟩ = some (.string ⟨sb.toArray⟩) ∧ W.cell? ⟨w.heap.size + 1,18,none⟩ = some vb ∧ W.cell? ⟨w.heap.size + 1,19,none⟩ = some vl) ∧ W.cell? ⟨w.heap.size + 1,20,none⟩ = some vc ∧ W.cell? ⟨w.heap.size + 1,21,none⟩ = some vi ∧ W.cell? ⟨w.heap.size + 1,22,none⟩ = some vs ∧ W.cell? ⟨w.heap.size + 1,23,none⟩ = some vt ∧ (loadCellsFrom ⟨w.heap.size + 1,0,none⟩ 0 N #[]).run Tryz.prog W = .ok cs W):=Lib.hid (fun W hs => by
  rw [hS] at hs
  have g2:=kept_box hs q2
  exact ⟨box3 (kept_box hs q1),⟨cell_of_block g2 1 k1,cell_of_block g2 2 k2⟩,⟨cell_of_block g2 6 k6,cell_of_block g2 7 k7,cell_of_block g2 8 k8,cell_of_block g2 9 k9⟩,⟨cell_of_block g2 10 k10,cell_of_block g2 11 k11,cell_of_block g2 12 k12,cell_of_block g2 13 k13,cell_of_block g2 14 k14,cell_of_block g2 15 k15,cell_of_block g2 16 k16,cell_of_block g2 17 k17,cell_of_block g2 18 k18,cell_of_block g2 19 k19⟩,cell_of_block g2 20 k20,cell_of_block g2 21 k21,cell_of_block g2 22 k22,cell_of_block g2 23 k23,load_list (fun j v hv => by rw [add_block0];exact cell_of_block g2 j hv) hszc⟩)
 have c0:=cell_of_block q2 0 k0
 have hpW:=(HB.out.cell (p:=⟨0,kn,none⟩) (cell_lt2S hp)).trans hp
 rw [hW1] at c0 hpW
 clear hv0 hv1 hv2 hv3 hv4 hv5 hv6 hv7 hN q1 q2 hS h24 hp k0 k1 k2 k6 k7 k8 k9 k10 k11 k12 k13 k14 k15 k16 k17 k18 k19 k20 k21 k22 k23
 go_enter Tryz.func215,Tryz.ntmps215
 simp only [e1,e4]
 clear e1 e4 hT
 go_wp2_with (first
  | (go_at_call 224;rw [← hW1];clear hW1;with_reducible refine (HM1.out _).mono ?_;rintro e w2 ⟨rfl,rfl⟩)
  | (go_at_call 224;with_reducible refine (HM2.out _).mono ?_;rintro e w2 ⟨rfl,rfl⟩))
 refine wp_region_held (S:=S) hmx ?_
 change wpAnyH _ _ _ _ _ 64 #[false,false,false,false,false,false,false,false,false,false,false,false,false,false,false,false,false,false,false,false,false,false,false,false,false,false,false,false,false,false,false,false,false,false,false,false,false,false,false,false,false,false,false,false,false,false,false,false,false,false,false,false,false,false,false,false,false,false,false,false,false,false,false,false] _ W1.drew
 have g0:=HS2.out _ HX0.out
 refine tk 0 26 (.pointer (some ⟨w.heap.size + 1,1,none⟩)) g0 ?v0 ?_
 case v0 =>
  intro Wx hSx
  go_simp
 try simp only [pset]
 refine tk 1 27 (posV ln co) g0 ?v1 ?_
 case v1 =>
  intro Wx hSx
  obtain ⟨q0,q1⟩:=(HSo.out Wx hSx).2.1
  go_simp
 try simp only [pset]
 refine o1 2 (fun K hK => ?_)
 go_simp
 refine (HV0.out _ (HB.out.chain HX0.out)).mono ?_
 rintro e w1 ⟨rfl,hb⟩
 have HX1:=Lib.hid (HX0.out.chain hb)
 clear hb
 have g1:=HS2.out _ HX1.out
 refine hK _ _ g1 ?_
 clear hK K g0
 cases v0
 ·refine tk 3 29 (.bool false) g1 ?v3 ?_
  case v3 =>
   intro Wx hSx
   go_simp
  try simp only [pset]
  refine sk 4 30 g1 ?_
  try simp only [pset]
  refine sk 5 31 g1 ?_
  try simp only [pset]
  refine sk 6 32 g1 ?_
  try simp only [pset]
  refine sk 7 33 g1 ?_
  try simp only [pset]
  refine tk 8 34 (.bool false) g1 ?v8 ?_
  case v8 =>
   intro Wx hSx
   go_simp
  try simp only [pset]
  refine tk 9 35 (.bool false) g1 ?v9 ?_
  case v9 =>
   intro Wx hSx
   go_simp
  try simp only [pset]
  refine sk 10 36 g1 ?_
  try simp only [pset]
  refine sk 11 37 g1 ?_
  try simp only [pset]
  refine sk 12 38 g1 ?_
  try simp only [pset]
  refine sk 13 39 g1 ?_
  try simp only [pset]
  refine sk 14 40 g1 ?_
  try simp only [pset]
  refine sk 15 41 g1 ?_
  try simp only [pset]
  refine sk 16 42 g1 ?_
  try simp only [pset]
  refine tk 17 43 (.bool false) g1 ?v17 ?_
  case v17 =>
   intro Wx hSx
   go_simp
  try simp only [pset]
  refine tk 18 44 (.bool false) g1 ?v18 ?_
  case v18 =>
   intro Wx hSx
   go_simp
  try simp only [pset]
  refine sk 19 45 g1 ?_
  try simp only [pset]
  refine sk 20 46 g1 ?_
  try simp only [pset]
  refine sk 21 47 g1 ?_
  try simp only [pset]
  refine sk 22 48 g1 ?_
  try simp only [pset]
  refine sk 23 49 g1 ?_
  try simp only [pset]
  refine sk 24 50 g1 ?_
  try simp only [pset]
  refine sk 25 51 g1 ?_
  try simp only [pset]
  refine tk 26 52 (.bool false) g1 ?v26 ?_
  case v26 =>
   intro Wx hSx
   go_simp
  try simp only [pset]
  refine tk 27 53 (.bool false) g1 ?v27 ?_
  case v27 =>
   intro Wx hSx
   go_simp
  try simp only [pset]
  refine sk 28 54 g1 ?_
  try simp only [pset]
  refine sk 29 55 g1 ?_
  try simp only [pset]
  refine sk 30 56 g1 ?_
  try simp only [pset]
  refine sk 31 57 g1 ?_
  try simp only [pset]
  refine sk 32 58 g1 ?_
  try simp only [pset]
  refine sk 33 59 g1 ?_
  try simp only [pset]
  refine sk 34 60 g1 ?_
  try simp only [pset]
  refine tk 35 61 (.bool false) g1 ?v35 ?_
  case v35 =>
   intro Wx hSx
   go_simp
  try simp only [pset]
  refine tk 36 62 (.bool false) g1 ?v36 ?_
  case v36 =>
   intro Wx hSx
   go_simp
  try simp only [pset]
  refine sk 37 63 g1 ?_
  try simp only [pset]
  refine sk 38 64 g1 ?_
  try simp only [pset]
  refine sk 39 65 g1 ?_
  try simp only [pset]
  refine sk 40 66 g1 ?_
  try simp only [pset]
  refine sk 41 67 g1 ?_
  try simp only [pset]
  refine sk 42 68 g1 ?_
  try simp only [pset]
  refine sk 43 69 g1 ?_
  try simp only [pset]
  refine tk 44 70 (.bool false) g1 ?v44 ?_
  case v44 =>
   intro Wx hSx
   go_simp
  try simp only [pset]
  refine tk 45 71 (.bool false) g1 ?v45 ?_
  case v45 =>
   intro Wx hSx
   go_simp
  try simp only [pset]
  refine sk 46 72 g1 ?_
  try simp only [pset]
  refine sk 47 73 g1 ?_
  try simp only [pset]
  refine sk 48 74 g1 ?_
  try simp only [pset]
  refine sk 49 75 g1 ?_
  try simp only [pset]
  refine sk 50 76 g1 ?_
  try simp only [pset]
  refine sk 51 77 g1 ?_
  try simp only [pset]
  refine sk 52 78 g1 ?_
  try simp only [pset]
  refine tk 53 79 (.bool false) g1 ?v53 ?_
  case v53 =>
   intro Wx hSx
   go_simp
  try simp only [pset]
  refine tk 54 80 (.bool false) g1 ?v54 ?_
  case v54 =>
   intro Wx hSx
   go_simp
  try simp only [pset]
  refine sk 55 81 g1 ?_
  try simp only [pset]
  refine sk 56 82 g1 ?_
  try simp only [pset]
  refine sk 57 83 g1 ?_
  try simp only [pset]
  refine sk 58 84 g1 ?_
  try simp only [pset]
  refine sk 59 85 g1 ?_
  try simp only [pset]
  refine sk 60 86 g1 ?_
  try simp only [pset]
  refine sk 61 87 g1 ?_
  try simp only [pset]
  refine tk 62 88 (.bool false) g1 ?v62 ?_
  case v62 =>
   intro Wx hSx
   go_simp
  try simp only [pset]
  refine tk 63 6 (.bool false) g1 ?v63 ?_
  case v63 =>
   intro Wx hSx
   go_simp
  try simp only [pset]
  refine wpAnyH_done (by kernel_rfl) ?_ _
  go_wp2
  go_ret
  exact ⟨rfl,HB.out.chain HX1.out⟩
 refine tk 3 29 (.bool true) g1 ?v3 ?_
 case v3 =>
  intro Wx hSx
  go_simp
 try simp only [pset]
 refine tk 4 30 (rulesV fv nu ex) g1 ?v4 ?_
 case v4 =>
  intro Wx hSx
  obtain ⟨r0,r1,r2⟩:=(HSo.out Wx hSx).1
  go_simp
 try simp only [pset]
 refine tk 5 31 (.agg cs) g1 ?v5 ?_
 case v5 =>
  intro Wx hSx
  have q0:=(HSo.out Wx hSx).2.2.2.2.2.2.2.2
  go_simp
 try simp only [pset]
 refine tk 6 32 (.int .i64 p) g1 ?v6 ?_
 case v6 =>
  intro Wx hSx
  go_simp
 try simp only [pset]
 refine o1 7 (fun K hK => ?_)
 go_simp
 refine (HV1.out _ (HB.out.chain HX1.out)).mono ?_
 rintro e w2 ⟨rfl,hb⟩
 have HX2:=Lib.hid (HX1.out.chain hb)
 clear hb
 have g2:=HS2.out _ HX2.out
 refine hK _ _ g2 ?_
 clear hK K g1
 cases v1
 ·refine tk 8 34 (.bool false) g2 ?v8 ?_
  case v8 =>
   intro Wx hSx
   go_simp
  try simp only [pset]
  refine tk 9 35 (.bool false) g2 ?v9 ?_
  case v9 =>
   intro Wx hSx
   go_simp
  try simp only [pset]
  refine sk 10 36 g2 ?_
  try simp only [pset]
  refine sk 11 37 g2 ?_
  try simp only [pset]
  refine sk 12 38 g2 ?_
  try simp only [pset]
  refine sk 13 39 g2 ?_
  try simp only [pset]
  refine sk 14 40 g2 ?_
  try simp only [pset]
  refine sk 15 41 g2 ?_
  try simp only [pset]
  refine sk 16 42 g2 ?_
  try simp only [pset]
  refine tk 17 43 (.bool false) g2 ?v17 ?_
  case v17 =>
   intro Wx hSx
   go_simp
  try simp only [pset]
  refine tk 18 44 (.bool false) g2 ?v18 ?_
  case v18 =>
   intro Wx hSx
   go_simp
  try simp only [pset]
  refine sk 19 45 g2 ?_
  try simp only [pset]
  refine sk 20 46 g2 ?_
  try simp only [pset]
  refine sk 21 47 g2 ?_
  try simp only [pset]
  refine sk 22 48 g2 ?_
  try simp only [pset]
  refine sk 23 49 g2 ?_
  try simp only [pset]
  refine sk 24 50 g2 ?_
  try simp only [pset]
  refine sk 25 51 g2 ?_
  try simp only [pset]
  refine tk 26 52 (.bool false) g2 ?v26 ?_
  case v26 =>
   intro Wx hSx
   go_simp
  try simp only [pset]
  refine tk 27 53 (.bool false) g2 ?v27 ?_
  case v27 =>
   intro Wx hSx
   go_simp
  try simp only [pset]
  refine sk 28 54 g2 ?_
  try simp only [pset]
  refine sk 29 55 g2 ?_
  try simp only [pset]
  refine sk 30 56 g2 ?_
  try simp only [pset]
  refine sk 31 57 g2 ?_
  try simp only [pset]
  refine sk 32 58 g2 ?_
  try simp only [pset]
  refine sk 33 59 g2 ?_
  try simp only [pset]
  refine sk 34 60 g2 ?_
  try simp only [pset]
  refine tk 35 61 (.bool false) g2 ?v35 ?_
  case v35 =>
   intro Wx hSx
   go_simp
  try simp only [pset]
  refine tk 36 62 (.bool false) g2 ?v36 ?_
  case v36 =>
   intro Wx hSx
   go_simp
  try simp only [pset]
  refine sk 37 63 g2 ?_
  try simp only [pset]
  refine sk 38 64 g2 ?_
  try simp only [pset]
  refine sk 39 65 g2 ?_
  try simp only [pset]
  refine sk 40 66 g2 ?_
  try simp only [pset]
  refine sk 41 67 g2 ?_
  try simp only [pset]
  refine sk 42 68 g2 ?_
  try simp only [pset]
  refine sk 43 69 g2 ?_
  try simp only [pset]
  refine tk 44 70 (.bool false) g2 ?v44 ?_
  case v44 =>
   intro Wx hSx
   go_simp
  try simp only [pset]
  refine tk 45 71 (.bool false) g2 ?v45 ?_
  case v45 =>
   intro Wx hSx
   go_simp
  try simp only [pset]
  refine sk 46 72 g2 ?_
  try simp only [pset]
  refine sk 47 73 g2 ?_
  try simp only [pset]
  refine sk 48 74 g2 ?_
  try simp only [pset]
  refine sk 49 75 g2 ?_
  try simp only [pset]
  refine sk 50 76 g2 ?_
  try simp only [pset]
  refine sk 51 77 g2 ?_
  try simp only [pset]
  refine sk 52 78 g2 ?_
  try simp only [pset]
  refine tk 53 79 (.bool false) g2 ?v53 ?_
  case v53 =>
   intro Wx hSx
   go_simp
  try simp only [pset]
  refine tk 54 80 (.bool false) g2 ?v54 ?_
  case v54 =>
   intro Wx hSx
   go_simp
  try simp only [pset]
  refine sk 55 81 g2 ?_
  try simp only [pset]
  refine sk 56 82 g2 ?_
  try simp only [pset]
  refine sk 57 83 g2 ?_
  try simp only [pset]
  refine sk 58 84 g2 ?_
  try simp only [pset]
  refine sk 59 85 g2 ?_
  try simp only [pset]
  refine sk 60 86 g2 ?_
  try simp only [pset]
  refine sk 61 87 g2 ?_
  try simp only [pset]
  refine tk 62 88 (.bool false) g2 ?v62 ?_
  case v62 =>
   intro Wx hSx
   go_simp
  try simp only [pset]
  refine tk 63 6 (.bool false) g2 ?v63 ?_
  case v63 =>
   intro Wx hSx
   go_simp
  try simp only [pset]
  refine wpAnyH_done (by kernel_rfl) ?_ _
  go_wp2
  go_ret
  exact ⟨rfl,HB.out.chain HX2.out⟩
 refine tk 8 34 (.bool true) g2 ?v8 ?_
 case v8 =>
  intro Wx hSx
  go_simp
 try simp only [pset]
 refine tk 9 35 (.bool true) g2 ?v9 ?_
 case v9 =>
  intro Wx hSx
  go_simp
 try simp only [pset]
 refine tk 10 36 (.int .i64 p) g2 ?v10 ?_
 case v10 =>
  intro Wx hSx
  go_simp
 try simp only [pset]
 refine tk 12 38 (.pointer (some ⟨w.heap.size + 1,6,none⟩)) g2 ?v12 ?_
 case v12 =>
  intro Wx hSx
  go_simp
 try simp only [pset]
 refine tk 13 39 (exprV ek en ⟨es.toArray⟩ ve) g2 ?v13 ?_
 case v13 =>
  intro Wx hSx
  obtain ⟨q0,q1,q2,q3⟩:=(HSo.out Wx hSx).2.2.1
  go_simp
 try simp only [pset]
 refine tk 14 40 (rulesV fv nu ex) g2 ?v14 ?_
 case v14 =>
  intro Wx hSx
  obtain ⟨r0,r1,r2⟩:=(HSo.out Wx hSx).1
  go_simp
 try simp only [pset]
 refine tk 15 41 (.func (.func 141) #[rulesV fv nu ex] #[]) g2 ?v15 ?_
 case v15 =>
  intro Wx hSx
  go_simp
 try simp only [pset]
 refine o1 11 (fun K hK => ?_)
 go_simp
 refine (HH2.out _).mono ?_
 rintro e wz ⟨rfl,rfl⟩
 refine hK _ _ g2 ?_
 clear hK K
 refine o1 16 (fun K hK => ?_)
 go_simp
 refine (HV2.out _ (HB.out.chain HX2.out)).mono ?_
 rintro e w3 ⟨rfl,hb⟩
 have HX3:=Lib.hid (HX2.out.chain hb)
 clear hb
 have g3:=HS2.out _ HX3.out
 refine hK _ _ g3 ?_
 clear hK K g2
 cases v2
 ·refine tk 17 43 (.bool false) g3 ?v17 ?_
  case v17 =>
   intro Wx hSx
   go_simp
  try simp only [pset]
  refine tk 18 44 (.bool false) g3 ?v18 ?_
  case v18 =>
   intro Wx hSx
   go_simp
  try simp only [pset]
  refine sk 19 45 g3 ?_
  try simp only [pset]
  refine sk 20 46 g3 ?_
  try simp only [pset]
  refine sk 21 47 g3 ?_
  try simp only [pset]
  refine sk 22 48 g3 ?_
  try simp only [pset]
  refine sk 23 49 g3 ?_
  try simp only [pset]
  refine sk 24 50 g3 ?_
  try simp only [pset]
  refine sk 25 51 g3 ?_
  try simp only [pset]
  refine tk 26 52 (.bool false) g3 ?v26 ?_
  case v26 =>
   intro Wx hSx
   go_simp
  try simp only [pset]
  refine tk 27 53 (.bool false) g3 ?v27 ?_
  case v27 =>
   intro Wx hSx
   go_simp
  try simp only [pset]
  refine sk 28 54 g3 ?_
  try simp only [pset]
  refine sk 29 55 g3 ?_
  try simp only [pset]
  refine sk 30 56 g3 ?_
  try simp only [pset]
  refine sk 31 57 g3 ?_
  try simp only [pset]
  refine sk 32 58 g3 ?_
  try simp only [pset]
  refine sk 33 59 g3 ?_
  try simp only [pset]
  refine sk 34 60 g3 ?_
  try simp only [pset]
  refine tk 35 61 (.bool false) g3 ?v35 ?_
  case v35 =>
   intro Wx hSx
   go_simp
  try simp only [pset]
  refine tk 36 62 (.bool false) g3 ?v36 ?_
  case v36 =>
   intro Wx hSx
   go_simp
  try simp only [pset]
  refine sk 37 63 g3 ?_
  try simp only [pset]
  refine sk 38 64 g3 ?_
  try simp only [pset]
  refine sk 39 65 g3 ?_
  try simp only [pset]
  refine sk 40 66 g3 ?_
  try simp only [pset]
  refine sk 41 67 g3 ?_
  try simp only [pset]
  refine sk 42 68 g3 ?_
  try simp only [pset]
  refine sk 43 69 g3 ?_
  try simp only [pset]
  refine tk 44 70 (.bool false) g3 ?v44 ?_
  case v44 =>
   intro Wx hSx
   go_simp
  try simp only [pset]
  refine tk 45 71 (.bool false) g3 ?v45 ?_
  case v45 =>
   intro Wx hSx
   go_simp
  try simp only [pset]
  refine sk 46 72 g3 ?_
  try simp only [pset]
  refine sk 47 73 g3 ?_
  try simp only [pset]
  refine sk 48 74 g3 ?_
  try simp only [pset]
  refine sk 49 75 g3 ?_
  try simp only [pset]
  refine sk 50 76 g3 ?_
  try simp only [pset]
  refine sk 51 77 g3 ?_
  try simp only [pset]
  refine sk 52 78 g3 ?_
  try simp only [pset]
  refine tk 53 79 (.bool false) g3 ?v53 ?_
  case v53 =>
   intro Wx hSx
   go_simp
  try simp only [pset]
  refine tk 54 80 (.bool false) g3 ?v54 ?_
  case v54 =>
   intro Wx hSx
   go_simp
  try simp only [pset]
  refine sk 55 81 g3 ?_
  try simp only [pset]
  refine sk 56 82 g3 ?_
  try simp only [pset]
  refine sk 57 83 g3 ?_
  try simp only [pset]
  refine sk 58 84 g3 ?_
  try simp only [pset]
  refine sk 59 85 g3 ?_
  try simp only [pset]
  refine sk 60 86 g3 ?_
  try simp only [pset]
  refine sk 61 87 g3 ?_
  try simp only [pset]
  refine tk 62 88 (.bool false) g3 ?v62 ?_
  case v62 =>
   intro Wx hSx
   go_simp
  try simp only [pset]
  refine tk 63 6 (.bool false) g3 ?v63 ?_
  case v63 =>
   intro Wx hSx
   go_simp
  try simp only [pset]
  refine wpAnyH_done (by kernel_rfl) ?_ _
  go_wp2
  go_ret
  exact ⟨rfl,HB.out.chain HX3.out⟩
 refine tk 17 43 (.bool true) g3 ?v17 ?_
 case v17 =>
  intro Wx hSx
  go_simp
 try simp only [pset]
 refine tk 18 44 (.bool true) g3 ?v18 ?_
 case v18 =>
  intro Wx hSx
  go_simp
 try simp only [pset]
 refine tk 19 45 (.int .i64 p) g3 ?v19 ?_
 case v19 =>
  intro Wx hSx
  go_simp
 try simp only [pset]
 refine tk 21 47 (.pointer (some ⟨w.heap.size + 1,10,none⟩)) g3 ?v21 ?_
 case v21 =>
  intro Wx hSx
  go_simp
 try simp only [pset]
 refine tk 22 48 (condV2 ck ak an ⟨sa.toArray⟩ va bk bn ⟨sb.toArray⟩ vb vl) g3 ?v22 ?_
 case v22 =>
  intro Wx hSx
  obtain ⟨q0,q1,q2,q3,q4,q5,q6,q7,q8,q9⟩:=(HSo.out Wx hSx).2.2.2.1
  go_simp
 try simp only [pset]
 refine tk 23 49 (rulesV fv nu ex) g3 ?v23 ?_
 case v23 =>
  intro Wx hSx
  obtain ⟨r0,r1,r2⟩:=(HSo.out Wx hSx).1
  go_simp
 try simp only [pset]
 refine tk 24 50 (.func (.func 230) #[rulesV fv nu ex] #[]) g3 ?v24 ?_
 case v24 =>
  intro Wx hSx
  go_simp
 try simp only [pset]
 refine o1 20 (fun K hK => ?_)
 go_simp
 refine (HH3.out _).mono ?_
 rintro e wz ⟨rfl,rfl⟩
 refine hK _ _ g3 ?_
 clear hK K
 refine o1 25 (fun K hK => ?_)
 go_simp
 refine (HV3.out _ (HB.out.chain HX3.out)).mono ?_
 rintro e w4 ⟨rfl,hb⟩
 have HX4:=Lib.hid (HX3.out.chain hb)
 clear hb
 have g4:=HS2.out _ HX4.out
 refine hK _ _ g4 ?_
 clear hK K g3
 cases v3
 ·refine tk 26 52 (.bool false) g4 ?v26 ?_
  case v26 =>
   intro Wx hSx
   go_simp
  try simp only [pset]
  refine tk 27 53 (.bool false) g4 ?v27 ?_
  case v27 =>
   intro Wx hSx
   go_simp
  try simp only [pset]
  refine sk 28 54 g4 ?_
  try simp only [pset]
  refine sk 29 55 g4 ?_
  try simp only [pset]
  refine sk 30 56 g4 ?_
  try simp only [pset]
  refine sk 31 57 g4 ?_
  try simp only [pset]
  refine sk 32 58 g4 ?_
  try simp only [pset]
  refine sk 33 59 g4 ?_
  try simp only [pset]
  refine sk 34 60 g4 ?_
  try simp only [pset]
  refine tk 35 61 (.bool false) g4 ?v35 ?_
  case v35 =>
   intro Wx hSx
   go_simp
  try simp only [pset]
  refine tk 36 62 (.bool false) g4 ?v36 ?_
  case v36 =>
   intro Wx hSx
   go_simp
  try simp only [pset]
  refine sk 37 63 g4 ?_
  try simp only [pset]
  refine sk 38 64 g4 ?_
  try simp only [pset]
  refine sk 39 65 g4 ?_
  try simp only [pset]
  refine sk 40 66 g4 ?_
  try simp only [pset]
  refine sk 41 67 g4 ?_
  try simp only [pset]
  refine sk 42 68 g4 ?_
  try simp only [pset]
  refine sk 43 69 g4 ?_
  try simp only [pset]
  refine tk 44 70 (.bool false) g4 ?v44 ?_
  case v44 =>
   intro Wx hSx
   go_simp
  try simp only [pset]
  refine tk 45 71 (.bool false) g4 ?v45 ?_
  case v45 =>
   intro Wx hSx
   go_simp
  try simp only [pset]
  refine sk 46 72 g4 ?_
  try simp only [pset]
  refine sk 47 73 g4 ?_
  try simp only [pset]
  refine sk 48 74 g4 ?_
  try simp only [pset]
  refine sk 49 75 g4 ?_
  try simp only [pset]
  refine sk 50 76 g4 ?_
  try simp only [pset]
  refine sk 51 77 g4 ?_
  try simp only [pset]
  refine sk 52 78 g4 ?_
  try simp only [pset]
  refine tk 53 79 (.bool false) g4 ?v53 ?_
  case v53 =>
   intro Wx hSx
   go_simp
  try simp only [pset]
  refine tk 54 80 (.bool false) g4 ?v54 ?_
  case v54 =>
   intro Wx hSx
   go_simp
  try simp only [pset]
  refine sk 55 81 g4 ?_
  try simp only [pset]
  refine sk 56 82 g4 ?_
  try simp only [pset]
  refine sk 57 83 g4 ?_
  try simp only [pset]
  refine sk 58 84 g4 ?_
  try simp only [pset]
  refine sk 59 85 g4 ?_
  try simp only [pset]
  refine sk 60 86 g4 ?_
  try simp only [pset]
  refine sk 61 87 g4 ?_
  try simp only [pset]
  refine tk 62 88 (.bool false) g4 ?v62 ?_
  case v62 =>
   intro Wx hSx
   go_simp
  try simp only [pset]
  refine tk 63 6 (.bool false) g4 ?v63 ?_
  case v63 =>
   intro Wx hSx
   go_simp
  try simp only [pset]
  refine wpAnyH_done (by kernel_rfl) ?_ _
  go_wp2
  go_ret
  exact ⟨rfl,HB.out.chain HX4.out⟩
 refine tk 26 52 (.bool true) g4 ?v26 ?_
 case v26 =>
  intro Wx hSx
  go_simp
 try simp only [pset]
 refine tk 27 53 (.bool true) g4 ?v27 ?_
 case v27 =>
  intro Wx hSx
  go_simp
 try simp only [pset]
 refine tk 28 54 (.pointer (some ⟨w.heap.size + 1,20,none⟩)) g4 ?v28 ?_
 case v28 =>
  intro Wx hSx
  go_simp
 try simp only [pset]
 refine tk 29 55 (vc) g4 ?v29 ?_
 case v29 =>
  intro Wx hSx
  have q0:=(HSo.out Wx hSx).2.2.2.2.1
  go_simp
 try simp only [pset]
 refine tk 30 56 (.int .i64 (m1 + m2)) g4 ?v30 ?_
 case v30 =>
  intro Wx hSx
  go_simp
 try simp only [pset]
 refine tk 31 57 (.int .i64 (m1 + m2)) g4 ?v31 ?_
 case v31 =>
  intro Wx hSx
  go_simp
 try simp only [pset]
 refine tk 32 58 (rulesV fv nu ex) g4 ?v32 ?_
 case v32 =>
  intro Wx hSx
  obtain ⟨r0,r1,r2⟩:=(HSo.out Wx hSx).1
  go_simp
 try simp only [pset]
 refine tk 33 59 (.func (.func 233) #[rulesV fv nu ex] #[]) g4 ?v33 ?_
 case v33 =>
  intro Wx hSx
  go_simp
 try simp only [pset]
 refine o1 34 (fun K hK => ?_)
 go_simp
 refine (HV4.out _ (HB.out.chain HX4.out)).mono ?_
 rintro e w5 ⟨rfl,hb⟩
 have HX5:=Lib.hid (HX4.out.chain hb)
 clear hb
 have g5:=HS2.out _ HX5.out
 refine hK _ _ g5 ?_
 clear hK K g4
 cases v4
 ·refine tk 35 61 (.bool false) g5 ?v35 ?_
  case v35 =>
   intro Wx hSx
   go_simp
  try simp only [pset]
  refine tk 36 62 (.bool false) g5 ?v36 ?_
  case v36 =>
   intro Wx hSx
   go_simp
  try simp only [pset]
  refine sk 37 63 g5 ?_
  try simp only [pset]
  refine sk 38 64 g5 ?_
  try simp only [pset]
  refine sk 39 65 g5 ?_
  try simp only [pset]
  refine sk 40 66 g5 ?_
  try simp only [pset]
  refine sk 41 67 g5 ?_
  try simp only [pset]
  refine sk 42 68 g5 ?_
  try simp only [pset]
  refine sk 43 69 g5 ?_
  try simp only [pset]
  refine tk 44 70 (.bool false) g5 ?v44 ?_
  case v44 =>
   intro Wx hSx
   go_simp
  try simp only [pset]
  refine tk 45 71 (.bool false) g5 ?v45 ?_
  case v45 =>
   intro Wx hSx
   go_simp
  try simp only [pset]
  refine sk 46 72 g5 ?_
  try simp only [pset]
  refine sk 47 73 g5 ?_
  try simp only [pset]
  refine sk 48 74 g5 ?_
  try simp only [pset]
  refine sk 49 75 g5 ?_
  try simp only [pset]
  refine sk 50 76 g5 ?_
  try simp only [pset]
  refine sk 51 77 g5 ?_
  try simp only [pset]
  refine sk 52 78 g5 ?_
  try simp only [pset]
  refine tk 53 79 (.bool false) g5 ?v53 ?_
  case v53 =>
   intro Wx hSx
   go_simp
  try simp only [pset]
  refine tk 54 80 (.bool false) g5 ?v54 ?_
  case v54 =>
   intro Wx hSx
   go_simp
  try simp only [pset]
  refine sk 55 81 g5 ?_
  try simp only [pset]
  refine sk 56 82 g5 ?_
  try simp only [pset]
  refine sk 57 83 g5 ?_
  try simp only [pset]
  refine sk 58 84 g5 ?_
  try simp only [pset]
  refine sk 59 85 g5 ?_
  try simp only [pset]
  refine sk 60 86 g5 ?_
  try simp only [pset]
  refine sk 61 87 g5 ?_
  try simp only [pset]
  refine tk 62 88 (.bool false) g5 ?v62 ?_
  case v62 =>
   intro Wx hSx
   go_simp
  try simp only [pset]
  refine tk 63 6 (.bool false) g5 ?v63 ?_
  case v63 =>
   intro Wx hSx
   go_simp
  try simp only [pset]
  refine wpAnyH_done (by kernel_rfl) ?_ _
  go_wp2
  go_ret
  exact ⟨rfl,HB.out.chain HX5.out⟩
 refine tk 35 61 (.bool true) g5 ?v35 ?_
 case v35 =>
  intro Wx hSx
  go_simp
 try simp only [pset]
 refine tk 36 62 (.bool true) g5 ?v36 ?_
 case v36 =>
  intro Wx hSx
  go_simp
 try simp only [pset]
 refine tk 37 63 (.pointer (some ⟨w.heap.size + 1,21,none⟩)) g5 ?v37 ?_
 case v37 =>
  intro Wx hSx
  go_simp
 try simp only [pset]
 refine tk 38 64 (vi) g5 ?v38 ?_
 case v38 =>
  intro Wx hSx
  have q0:=(HSo.out Wx hSx).2.2.2.2.2.1
  go_simp
 try simp only [pset]
 refine tk 39 65 (.int .i64 p) g5 ?v39 ?_
 case v39 =>
  intro Wx hSx
  go_simp
 try simp only [pset]
 refine tk 41 67 (rulesV fv nu ex) g5 ?v41 ?_
 case v41 =>
  intro Wx hSx
  obtain ⟨r0,r1,r2⟩:=(HSo.out Wx hSx).1
  go_simp
 try simp only [pset]
 refine tk 42 68 (.func (.func 79) #[rulesV fv nu ex] #[]) g5 ?v42 ?_
 case v42 =>
  intro Wx hSx
  go_simp
 try simp only [pset]
 refine o1 40 (fun K hK => ?_)
 go_simp
 refine (HM5.out _).mono ?_
 rintro e wz ⟨rfl,rfl⟩
 refine hK _ _ g5 ?_
 clear hK K
 refine o1 43 (fun K hK => ?_)
 go_simp
 refine (HV5.out _ (HB.out.chain HX5.out)).mono ?_
 rintro e w6 ⟨rfl,hb⟩
 have HX6:=Lib.hid (HX5.out.chain hb)
 clear hb
 have g6:=HS2.out _ HX6.out
 refine hK _ _ g6 ?_
 clear hK K g5
 cases v5
 ·refine tk 44 70 (.bool false) g6 ?v44 ?_
  case v44 =>
   intro Wx hSx
   go_simp
  try simp only [pset]
  refine tk 45 71 (.bool false) g6 ?v45 ?_
  case v45 =>
   intro Wx hSx
   go_simp
  try simp only [pset]
  refine sk 46 72 g6 ?_
  try simp only [pset]
  refine sk 47 73 g6 ?_
  try simp only [pset]
  refine sk 48 74 g6 ?_
  try simp only [pset]
  refine sk 49 75 g6 ?_
  try simp only [pset]
  refine sk 50 76 g6 ?_
  try simp only [pset]
  refine sk 51 77 g6 ?_
  try simp only [pset]
  refine sk 52 78 g6 ?_
  try simp only [pset]
  refine tk 53 79 (.bool false) g6 ?v53 ?_
  case v53 =>
   intro Wx hSx
   go_simp
  try simp only [pset]
  refine tk 54 80 (.bool false) g6 ?v54 ?_
  case v54 =>
   intro Wx hSx
   go_simp
  try simp only [pset]
  refine sk 55 81 g6 ?_
  try simp only [pset]
  refine sk 56 82 g6 ?_
  try simp only [pset]
  refine sk 57 83 g6 ?_
  try simp only [pset]
  refine sk 58 84 g6 ?_
  try simp only [pset]
  refine sk 59 85 g6 ?_
  try simp only [pset]
  refine sk 60 86 g6 ?_
  try simp only [pset]
  refine sk 61 87 g6 ?_
  try simp only [pset]
  refine tk 62 88 (.bool false) g6 ?v62 ?_
  case v62 =>
   intro Wx hSx
   go_simp
  try simp only [pset]
  refine tk 63 6 (.bool false) g6 ?v63 ?_
  case v63 =>
   intro Wx hSx
   go_simp
  try simp only [pset]
  refine wpAnyH_done (by kernel_rfl) ?_ _
  go_wp2
  go_ret
  exact ⟨rfl,HB.out.chain HX6.out⟩
 refine tk 44 70 (.bool true) g6 ?v44 ?_
 case v44 =>
  intro Wx hSx
  go_simp
 try simp only [pset]
 refine tk 45 71 (.bool true) g6 ?v45 ?_
 case v45 =>
  intro Wx hSx
  go_simp
 try simp only [pset]
 refine tk 46 72 (rulesV fv nu ex) g6 ?v46 ?_
 case v46 =>
  intro Wx hSx
  obtain ⟨r0,r1,r2⟩:=(HSo.out Wx hSx).1
  go_simp
 try simp only [pset]
 refine tk 47 73 (.pointer (some ⟨w.heap.size + 1,22,none⟩)) g6 ?v47 ?_
 case v47 =>
  intro Wx hSx
  go_simp
 try simp only [pset]
 refine tk 48 74 (vs) g6 ?v48 ?_
 case v48 =>
  intro Wx hSx
  have q0:=(HSo.out Wx hSx).2.2.2.2.2.2.1
  go_simp
 try simp only [pset]
 refine tk 49 75 (.int .i64 p) g6 ?v49 ?_
 case v49 =>
  intro Wx hSx
  go_simp
 try simp only [pset]
 refine tk 50 76 (.int .i64 dp) g6 ?v50 ?_
 case v50 =>
  intro Wx hSx
  go_simp
 try simp only [pset]
 refine o1 51 (fun K hK => ?_)
 go_simp
 refine (HM6.out _).mono ?_
 rintro e wz ⟨rfl,rfl⟩
 refine hK _ _ g6 ?_
 clear hK K
 refine o1 52 (fun K hK => ?_)
 go_simp
 refine (HV6.out _ (HB.out.chain HX6.out)).mono ?_
 rintro e w7 ⟨rfl,hb⟩
 have HX7:=Lib.hid (HX6.out.chain hb)
 clear hb
 have g7:=HS2.out _ HX7.out
 refine hK _ _ g7 ?_
 clear hK K g6
 cases v6
 ·refine tk 53 79 (.bool false) g7 ?v53 ?_
  case v53 =>
   intro Wx hSx
   go_simp
  try simp only [pset]
  refine tk 54 80 (.bool false) g7 ?v54 ?_
  case v54 =>
   intro Wx hSx
   go_simp
  try simp only [pset]
  refine sk 55 81 g7 ?_
  try simp only [pset]
  refine sk 56 82 g7 ?_
  try simp only [pset]
  refine sk 57 83 g7 ?_
  try simp only [pset]
  refine sk 58 84 g7 ?_
  try simp only [pset]
  refine sk 59 85 g7 ?_
  try simp only [pset]
  refine sk 60 86 g7 ?_
  try simp only [pset]
  refine sk 61 87 g7 ?_
  try simp only [pset]
  refine tk 62 88 (.bool false) g7 ?v62 ?_
  case v62 =>
   intro Wx hSx
   go_simp
  try simp only [pset]
  refine tk 63 6 (.bool false) g7 ?v63 ?_
  case v63 =>
   intro Wx hSx
   go_simp
  try simp only [pset]
  refine wpAnyH_done (by kernel_rfl) ?_ _
  go_wp2
  go_ret
  exact ⟨rfl,HB.out.chain HX7.out⟩
 refine tk 53 79 (.bool true) g7 ?v53 ?_
 case v53 =>
  intro Wx hSx
  go_simp
 try simp only [pset]
 refine tk 54 80 (.bool true) g7 ?v54 ?_
 case v54 =>
  intro Wx hSx
  go_simp
 try simp only [pset]
 refine tk 55 81 (rulesV fv nu ex) g7 ?v55 ?_
 case v55 =>
  intro Wx hSx
  obtain ⟨r0,r1,r2⟩:=(HSo.out Wx hSx).1
  go_simp
 try simp only [pset]
 refine tk 56 82 (.pointer (some ⟨w.heap.size + 1,23,none⟩)) g7 ?v56 ?_
 case v56 =>
  intro Wx hSx
  go_simp
 try simp only [pset]
 refine tk 57 83 (vt) g7 ?v57 ?_
 case v57 =>
  intro Wx hSx
  have q0:=(HSo.out Wx hSx).2.2.2.2.2.2.2.1
  go_simp
 try simp only [pset]
 refine tk 58 84 (.int .i64 p) g7 ?v58 ?_
 case v58 =>
  intro Wx hSx
  go_simp
 try simp only [pset]
 refine tk 59 85 (.int .i64 dp) g7 ?v59 ?_
 case v59 =>
  intro Wx hSx
  go_simp
 try simp only [pset]
 refine o1 60 (fun K hK => ?_)
 go_simp
 refine (HM7.out _).mono ?_
 rintro e wz ⟨rfl,rfl⟩
 refine hK _ _ g7 ?_
 clear hK K
 refine o1 61 (fun K hK => ?_)
 go_simp
 refine (HV7.out _ (HB.out.chain HX7.out)).mono ?_
 rintro e w8 ⟨rfl,hb⟩
 have HX8:=Lib.hid (HX7.out.chain hb)
 clear hb
 have g8:=HS2.out _ HX8.out
 refine hK _ _ g8 ?_
 clear hK K g7
 refine tk 62 88 (.bool v7) g8 ?v62 ?_
 case v62 =>
  intro Wx hSx
  go_simp
 try simp only [pset]
 refine tk 63 6 (.bool v7) g8 ?v63 ?_
 case v63 =>
  intro Wx hSx
  go_simp
 try simp only [pset]
 refine wpAnyH_done (by kernel_rfl) ?_ _
 go_wp2
 go_ret
 exact ⟨rfl,HB.out.chain HX8.out⟩
theorem stmt_out (fv : Nat) (nu ex k dp : Int) (cs : Array Value) (h24 : cs.size = 24) (k0 : cs[0]? = some (.int .i64 k)) (hk : ¬ (1 ≤ k ∧ k ≤ 12)) (w : World) :
 Calls Tryz.prog 215 #[rulesV fv nu ex,.agg cs,.int .i64 dp] w fun e w' => e = .returned (.bool false) ∧ Below w.heap.size w w':=by
 obtain ⟨T,N,hT,hN,hag,hsz⟩:=stmt_hidden
 have e1 : ∀ y : Operand,Op.load 90 y = Op.load T y:=fun y => by rw [hT]
 have e4 : ∀ y : Operand,Op.box 90 y = Op.box T y:=fun y => by rw [hT]
 obtain ⟨W1,hW1⟩ : ∃ W1,W1 = (w.alloc (rulesC fv nu ex)).alloc (.cells cs T):=⟨_,rfl⟩
 have HB : Hid (Below w.heap.size w W1):=Lib.hid (by rw [hW1];exact (below_alloc w _).chain (below_alloc _ _))
 have q2:=heap_of_alloc (w.alloc (rulesC fv nu ex)) (.cells cs T)
 rw [size_of_alloc] at q2
 have c0:=cell_of_block q2 0 k0
 have hszc : cs.size = N:=h24.trans hN.symm
 have HW:=Lib.hid hW1
 clear q2 k0 hN h24 hW1
 by_cases h1 : k < 1
 ·go_enter Tryz.func215,Tryz.ntmps215
  simp only [e1,e4]
  clear e1 e4 hT
  go_wp2
  go_ret
  exact ⟨rfl,by rw [← HW.out];exact HB.out⟩
 ·have h2 : k > 12:=by omega
  go_enter Tryz.func215,Tryz.ntmps215
  simp only [e1,e4]
  clear e1 e4 hT
  go_wp2
  go_ret
  exact ⟨rfl,by rw [← HW.out];exact HB.out⟩
def SwOk (fv : Nat) (var : List UInt8 → Bool) (nu ex : Int) (n : Nat) : Prop :=
 ∀ (l : List St) (A : Option Addr) (c : Nat) (W : World),PartsAt W → StRow W W.heap.size l A → l.length ≤ maxLen →
  Calls Tryz.prog 195 #[rulesV fv nu ex,.slice A l.length c,.int .i64 n] W fun e w' => e = .returned (.bool (vSs var nu ex n l)) ∧ Below W.heap.size W w'
theorem stmt_any (fv : Nat) (var : List UInt8 → Bool) (hv : VarOk fv var) (nu ex : Int) (h0 : 0 ≤ nu) (h1 : nu ≤ 4611686018427387904) (dp : Nat) (hz : SwOk fv var nu ex 0) (hd : SwOk fv var nu ex dp) (s : St) (d : SAd) (w : World) (hp : PartsAt w) (own : StOwn w w.heap.size d s) (r1 : StRow w w.heap.size s.body d.s) (r2 : StRow w w.heap.size s.els d.t) :
 Calls Tryz.prog 215 #[rulesV fv nu ex,.agg (stCs d s),.int .i64 dp] w fun e w' => e = .returned (.bool (vSt var nu ex (vSs var nu ex dp) s)) ∧ Below w.heap.size w w':=by
 obtain ⟨k,ln,co,nm,fd,fr,⟨ek,en,es,el⟩,⟨ck,⟨ak,an,sa,al⟩,⟨bk,bn,sb,bl⟩,l⟩,cl,iv,b,o⟩:=s
 by_cases hk : 1 ≤ k ∧ k ≤ 12
 ·obtain ⟨kn,rfl⟩ : ∃ kn : Nat,k = kn:=⟨k.toNat,by omega⟩
  obtain ⟨⟨b0,b1,b2,b3,b4,b5,b6,b7,b8,b9,b10,b11,b12,b13⟩,re,ra,rb,rl,rc,ri⟩:=own
  have hres : vSt var nu ex (vSs var nu ex dp) (.mk kn ln co nm fd fr (.mk ek en es el) (.mk ck (.mk ak an sa al) (.mk bk bn sb bl) l) cl iv b o) =
   (vPos ln co && (vWord var nm (hasB (partsL.getD kn 0) 1) (hasB (partsL.getD kn 0) 2) && vWord var fr (hasB (partsL.getD kn 0) 4) (hasB (partsL.getD kn 0) 8) && vWord var fd false (hasB (partsL.getD kn 0) 16)) &&
     (if hasB (partsL.getD kn 0) 32 then vE var nu 30 (.mk ek en es el) else zX (.mk ek en es el)) && (if hasB (partsL.getD kn 0) 64 then vC var nu 30 (.mk ck (.mk ak an sa al) (.mk bk bn sb bl) l) else zC (.mk ck (.mk ak an sa al) (.mk bk bn sb bl) l)) &&
     (decide (mostB (partsL.getD kn 0) 128 1 + mostB (partsL.getD kn 0) 256 1 ≤ cl.length) && decide ((cl.length : Int) ≤ mostB (partsL.getD kn 0) 128 1 + mostB (partsL.getD kn 0) 256 1) && cl.all (vCal var nu)) &&
     (decide ((0 : Int) ≤ iv.length) && decide ((iv.length : Int) ≤ mostB (partsL.getD kn 0) 512 100) && iv.all (vF var nu ex)) &&
     (if hasB (partsL.getD kn 0) 1024 then vSs var nu ex dp b else b.isEmpty) && (if hasB (partsL.getD kn 0) 2048 then vSs var nu ex dp o else o.isEmpty)):=by
   exact if_pos hk
  rw [hres]
  clear hres
  have hpp:=hp kn (by omega)
  generalize hpv : partsL.getD kn 0 = p at *
  have hsub : ∀ (x : Int) (ls : List St) (A : Option Addr) (c : Nat),StRow w w.heap.size ls A → ls.length ≤ maxLen → BC w 195 #[rulesV fv nu ex,.slice A ls.length c,.int .i64 (mostB p x dp)] (if hasB p x then vSs var nu ex dp ls else ls.isEmpty):=fun x ls A c hr hl W hb => by
   unfold mostB
   cases hasB p x with
   | true => exact hd ls A c W (hp.on hb) (hr.on hb) hl
   | false => exact hz ls A c W (hp.on hb) (hr.on hb) hl
  exact stmt_core fv nu ex kn ln co ek en ck ak an bk bn es sa sb _ _ _ _ _ _ _ _ _ (stCs_size d _) rfl rfl rfl rfl rfl rfl rfl rfl rfl rfl rfl rfl rfl rfl rfl rfl rfl rfl rfl rfl rfl kn rfl (by omega) (by omega) p dp _ _ _ _ _ _ _ _ w hpp
   (fun W _ => place_any ln co W)
   (fun W hb => names_core fv nu ex nm fd fr p _ (stCs_size d _) rfl rfl rfl _ _ _ W (fun W2 _ => word_any fv var hv nu ex nm _ _ W2 b0) (fun W2 _ => word_any fv var hv nu ex fr _ _ W2 b2) (fun W2 _ => word_any fv var hv nu ex fd _ _ W2 b1))
   (fun W hb => von_expr fv var hv nu ex h0 h1 _ ek en es el _ _ W (re.on hb) b3 b4)
   (fun W hb => von_cond fv var hv nu ex h0 h1 _ ck ak an sa al bk bn sb bl l _ _ _ _ _ _ W (ra.on hb) (rb.on hb) (rl.on hb) b5 b6 b7 b8 b9)
   (fun W hb => vlr_call fv var hv nu ex h0 h1 cl _ _ _ _ W b10 (rc.on cal_keeps hb))
   (fun W hb => vlr_formula fv var hv nu ex h0 h1 iv _ _ _ _ W b11 (ri.on fm_keeps hb))
   (hsub 1024 b _ _ r1 b12) (hsub 2048 o _ _ r2 b13)
 ·have hres : vSt var nu ex (vSs var nu ex dp) (.mk k ln co nm fd fr (.mk ek en es el) (.mk ck (.mk ak an sa al) (.mk bk bn sb bl) l) cl iv b o) = false:=by
   exact if_neg hk
  rw [hres]
  exact stmt_out fv nu ex k dp _ (stCs_size d _) rfl hk w
theorem scl_any (fv : Nat) (nu ex : Int) (dp : Nat) (hdp : dp ≤ 1000) (cs : Array Value) (h24 : cs.size = 24) (br bd : Nat) (W : World) (hR : RulesAt W br fv nu ex) (hbd : bd < W.heap.size) (hD : W.cell? ⟨bd,0,none⟩ = some (.int .i64 (dp + 1))) (v : Bool)
 (hs : ∀ W',Below W.heap.size W W' → Calls Tryz.prog 215 #[rulesV fv nu ex,.agg cs,.int .i64 dp] W' fun e w' => e = .returned (.bool v) ∧ Below W'.heap.size W' w') :
 Calls Tryz.prog 214 #[.agg cs,.pointer (some ⟨br,0,none⟩),.pointer (some ⟨bd,0,none⟩)] W fun e w' => e = .returned (.bool v) ∧ Below W.heap.size W w':=by
 obtain ⟨T,N,hT,hN,hag,hsz⟩:=stmt_hidden
 have e1 : ∀ y : Operand,Op.load 90 y = Op.load T y:=fun y => by rw [hT]
 have e4 : ∀ y : Operand,Op.box 90 y = Op.box T y:=fun y => by rw [hT]
 have hszc : cs.size = N:=h24.trans hN.symm
 have hba:=below_alloc W (.cells cs T)
 have q:=heap_of_alloc W (.cells cs T)
 have hld:=load_list (W:=W.alloc (.cells cs T)) (a:=⟨W.heap.size,0,none⟩) (N:=N) (cs:=cs) (fun j v hv => by rw [add_block0];exact cell_of_block q j hv) hszc
 obtain ⟨_,c0,c1,c2⟩:=hR.stay hba hR.lt
 have hD1:=(hba.cell (p:=⟨bd,0,none⟩) hbd).trans hD
 have HS:=Lib.hid (hs _ hba)
 have HB:=Lib.hid hba
 clear hs hba q hN hR hD h24 hbd
 go_enter Tryz.func214,Tryz.ntmps214
 simp only [e1,e4]
 clear e1 e4 hT
 go_wp2_with (go_at_call 215;refine HS.out.mono ?_;rintro e w2 ⟨rfl,hb⟩)
 go_ret
 exact ⟨rfl,HB.out.chain hb⟩
theorem sw_zero (fv : Nat) (var : List UInt8 → Bool) (nu ex : Int) : SwOk fv var nu ex 0:=by
 intro l A c W _ _ hl
 have HB:=Lib.hid ((below_alloc W (rulesC fv nu ex)).chain (below_alloc _ (.cells #[.int .i64 0] 3)))
 unfold maxLen at hl
 cases l with
 | nil =>
   go_enter Tryz.func195,Tryz.ntmps195
   go_wp2
   go_ret
   exact ⟨rfl,HB.out⟩
 | cons x l =>
   obtain ⟨n,hn⟩ : ∃ n,n = (x :: l).length:=⟨_,rfl⟩
   have h0 : ¬ (n : Int) = 0:=by rw [hn,List.length_cons];omega
   rw [← hn] at hl ⊢
   have e : vSs var nu ex 0 (x :: l) = false:=rfl
   rw [e]
   clear hn e
   go_enter Tryz.func195,Tryz.ntmps195
   go_wp2
   go_ret
   exact ⟨rfl,HB.out⟩
theorem sw_any (fv : Nat) (var : List UInt8 → Bool) (hv : VarOk fv var) (nu ex : Int) (h0 : 0 ≤ nu) (h1 : nu ≤ 4611686018427387904) : ∀ n,n ≤ 1000 → SwOk fv var nu ex n:=by
 intro n
 induction n with
 | zero => exact fun _ => sw_zero fv var nu ex
 | succ d ih =>
   intro hd l A c W hp hr hl
   obtain ⟨W1,hW1⟩ : ∃ W1,W1 = (W.alloc (rulesC fv nu ex)).alloc (.cells #[.int .i64 (d + 1)] 3):=⟨_,rfl⟩
   have HB : Hid (Below W.heap.size W W1):=Lib.hid (by rw [hW1];exact (below_alloc W _).chain (below_alloc _ _))
   have hR : RulesAt W1 W.heap.size fv nu ex:=by rw [hW1];exact rulesAt_new W fv nu ex (d + 1)
   have hD : W1.cell? ⟨W.heap.size + 1,0,none⟩ = some (.int .i64 (d + 1)):=by rw [hW1];exact depth_new W _ (d + 1)
   have hbd : W.heap.size + 1 < W1.heap.size:=cell_lt2S hD
   have HV : Hid (Calls Tryz.prog 213 #[.slice A l.length c,.int .i64 1,.int .i64 100,.func (.func 214) #[] #[.pointer (some ⟨W.heap.size,0,none⟩),.pointer (some ⟨W.heap.size + 1,0,none⟩)]] W1 fun e w' =>
    e = .returned (.bool (decide ((1 : Int) ≤ l.length) && decide ((l.length : Int) ≤ 100) && l.all (vSt var nu ex (vSs var nu ex d)))) ∧ Below W1.heap.size W1 w'):=Lib.hid
    (vl_stmt (vSt var nu ex (vSs var nu ex d)) 214 #[] #[.pointer (some ⟨W.heap.size,0,none⟩),.pointer (some ⟨W.heap.size + 1,0,none⟩)] (enters_of Tryz.func214 (by kernel_rfl) rfl) l A c 1 100 W1 hl (hr.on HB.out) (fun s da Wx _ hb own r1 r2 =>
      scl_any fv nu ex d (by omega) _ (stCs_size da s) W.heap.size (W.heap.size + 1) Wx (hR.stay hb hR.lt) (Nat.lt_of_lt_of_le hbd hb.size) ((hb.cell (p:=⟨W.heap.size + 1,0,none⟩) hbd).trans hD) _ (fun W' hb' =>
       stmt_any fv var hv nu ex h0 h1 d (sw_zero fv var nu ex) (ih (by omega)) s da W' ((hp.on (HB.out.chain hb)).on hb') (own.on hb') (r1.on hb') (r2.on hb'))))
   have he:=enters_of Tryz.func214 (by kernel_rfl) rfl
   have c0:=hD
   unfold maxLen at hl
   cases l with
   | nil =>
     clear hR hD hr hp ih hbd hv
     go_enter Tryz.func195,Tryz.ntmps195
     go_wp2
     go_ret
     rw [← hW1]
     exact ⟨rfl,HB.out⟩
   | cons x l =>
     obtain ⟨n,hn⟩ : ∃ n,n = (x :: l).length:=⟨_,rfl⟩
     have hne : ¬ (n : Int) = 0:=by rw [hn,List.length_cons];omega
     have e : vSs var nu ex (d + 1) (x :: l) = (decide ((1 : Int) ≤ (x :: l).length) && decide (((x :: l).length : Int) ≤ 100) && (x :: l).all (vSt var nu ex (vSs var nu ex d))):=rfl
     rw [← hn] at hl HV e ⊢
     rw [e]
     generalize (decide ((1 : Int) ≤ n) && decide ((n : Int) ≤ 100) && (x :: l).all (vSt var nu ex (vSs var nu ex d))) = res at *
     rw [hW1] at c0
     have hd2 : (0 : Int) < (d : Int) + 1:=by omega
     have hcast : ((d + 1 : Nat) : Int) = (d : Int) + 1:=by omega
     rw [hcast]
     clear hR hD hr hp ih hbd hv hn e hcast
     go_enter Tryz.func195,Tryz.ntmps195
     go_wp2_with (go_at_call 213;rw [← hW1];clear hW1;refine HV.out.mono ?_;rintro e w2 ⟨rfl,hb⟩)
     go_ret
     exact ⟨rfl,HB.out.chain hb⟩
theorem rstmts_any (fv : Nat) (var : List UInt8 → Bool) (hv : VarOk fv var) (nu ex : Int) (h0 : 0 ≤ nu) (h1 : nu ≤ 4611686018427387904) (l : List St) (A : Option Addr) (c : Nat) (w : World) (hp : PartsAt w) (hr : StRow w w.heap.size l A) (hl : l.length ≤ maxLen) :
 Calls Tryz.prog 158 #[rulesV fv nu ex,.slice A l.length c] w fun e w' => e = .returned (.bool (vSs var nu ex 30 l)) ∧ Below w.heap.size w w':=by
 have HB:=Lib.hid (below_alloc w (rulesC fv nu ex))
 have HC:=Lib.hid (sw_any fv var hv nu ex h0 h1 30 (by omega) l A c (w.alloc (rulesC fv nu ex)) (hp.on HB.out) (hr.on HB.out) hl)
 generalize vSs var nu ex 30 l = res at *
 unfold maxLen at hl
 clear hp hr hv h0 h1
 go_enter Tryz.func158,Tryz.ntmps158
 go_wp2_with (go_at_call 195;refine HC.out.mono ?_;rintro e w2 ⟨rfl,hb⟩)
 go_ret
 exact ⟨rfl,HB.out.chain hb⟩
end Go.Proofs.YtojjfdegkooknaaGreatDoor
