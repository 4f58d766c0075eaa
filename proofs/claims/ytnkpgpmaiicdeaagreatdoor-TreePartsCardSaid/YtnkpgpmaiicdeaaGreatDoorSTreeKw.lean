/-
  Whether a condition is valid: the operands of condWithin's literal.
-/
import Derived.Test.YtnkpgpmaiicdeaaGreatDoorSTreeK
import Derived.Test.YtnkpgpmaiicdeaaGreatDoorSTreeRp
set_option linter.unusedVariables false
set_option linter.unusedSimpArgs false
namespace Go.Proofs.YtnkpgpmaiicdeaaGreatDoor
set_option maxRecDepth 100000
set_option maxHeartbeats 20000000
open Go.RowKit
def CwOk (fv : Nat) (nu ex : Int) (d : Nat) (f : Cn → Bool) : Prop :=
 ∀ (k ak an : Int) (sa : List UInt8) (al : List Ex) (bk bn : Int) (sb : List UInt8) (bl : List Ex) (l : List Cn) (Aa : Option Addr) (ca : Nat) (Ab : Option Addr) (cb : Nat) (Al : Option Addr) (cl br bd : Nat) (W : World),RulesAt W br fv nu ex → bd < W.heap.size → W.cell? ⟨bd,0,none⟩ = some (.int .i64 d) →
  ExRow W W.heap.size al Aa → ExRow W W.heap.size bl Ab → CnRow W W.heap.size l Al → sa.length ≤ maxLen → al.length ≤ maxLen → sb.length ≤ maxLen → bl.length ≤ maxLen → l.length ≤ maxLen →
  Calls Tryz.prog 119 #[condV2 k ak an ⟨sa.toArray⟩ (.slice Aa al.length ca) bk bn ⟨sb.toArray⟩ (.slice Ab bl.length cb) (.slice Al l.length cl),.pointer (some ⟨bd,0,none⟩),.pointer (some ⟨br,0,none⟩)] W fun e w' => e = .returned (.bool (f (.mk k (.mk ak an sa al) (.mk bk bn sb bl) l))) ∧ Below W.heap.size W w'
theorem enters162 : ∀ args w,(callFunc 119 args).run Tryz.prog w = .ok (.enter 119 args) w:=enters_of Tryz.func119 (by kernel_rfl) rfl
theorem box10 {W : World} {be : Nat} {k ak an : Int} {sa : ByteArray} {la : Value} {bk bn : Int} {sb : ByteArray} {lb ll : Value} (h : W.heap[be]? = some (condC2 k ak an sa la bk bn sb lb ll)) :
 W.cell? ⟨be,1,none⟩ = some (.int .i64 ak) ∧ W.cell? ⟨be,2,none⟩ = some (.int .i64 an) ∧ W.cell? ⟨be,3,none⟩ = some (.string sa) ∧ W.cell? ⟨be,4,none⟩ = some la ∧ W.cell? ⟨be,5,none⟩ = some (.int .i64 bk) ∧ W.cell? ⟨be,6,none⟩ = some (.int .i64 bn) ∧ W.cell? ⟨be,7,none⟩ = some (.string sb) ∧ W.cell? ⟨be,8,none⟩ = some lb ∧ W.cell? ⟨be,9,none⟩ = some ll :=
 ⟨cell_of_block h 1 rfl,cell_of_block h 2 rfl,cell_of_block h 3 rfl,cell_of_block h 4 rfl,cell_of_block h 5 rfl,cell_of_block h 6 rfl,cell_of_block h 7 rfl,cell_of_block h 8 rfl,cell_of_block h 9 rfl⟩
theorem operandsC_any (fv : Nat) (nu ex : Int) (d : Nat) (hd : d ≤ 1000) (f : Cn → Bool) (IH : CwOk fv nu ex d f) (m : Int) (k ak an : Int) (sa : List UInt8) (al : List Ex) (bk bn : Int) (sb : List UInt8) (bl : List Ex) (l : List Cn) (Aa : Option Addr) (ca : Nat) (Ab : Option Addr) (cb : Nat) (Al : Option Addr) (cl be br bd : Nat) (w : World)
 (hbe : w.heap[be]? = some (condC2 k ak an ⟨sa.toArray⟩ (.slice Aa al.length ca) bk bn ⟨sb.toArray⟩ (.slice Ab bl.length cb) (.slice Al l.length cl)))
 (hR : RulesAt w br fv nu ex) (hbd : bd < w.heap.size) (hD : w.cell? ⟨bd,0,none⟩ = some (.int .i64 (d + 1))) (hr : CnRow w w.heap.size l Al) (hal : al.length ≤ maxLen) (hbl : bl.length ≤ maxLen) (hl : l.length ≤ maxLen) :
 Calls Tryz.prog 120 #[.int .i64 m,.pointer (some ⟨be,0,none⟩),.pointer (some ⟨br,0,none⟩),.pointer (some ⟨bd,0,none⟩)] w fun e w' => e = .returned (.bool (zX (.mk ak an sa al) && zX (.mk bk bn sb bl) && opsC m l f)) ∧ Below w.heap.size w w':=by
 have hwr : IntKind.i64.wrap (d : Int) = d:=by rw [IntKind.wrap_i64];omega
 have HV : Hid (∀ W,Below w.heap.size w W → Calls Tryz.prog 122 #[.slice Al l.length cl,.int .i64 m,.int .i64 m,.func (.func 119) #[] #[.pointer (some ⟨W.heap.size + 1,0,none⟩),.pointer (some ⟨W.heap.size,0,none⟩)]] ((W.alloc (rulesC fv nu ex)).alloc (.cells #[.int .i64 d] 3)) fun e w' =>
  e = .returned (.bool (opsC m l f)) ∧ Below w.heap.size w w'):=Lib.hid (fun W hW => by
  have hb2 : Below W.heap.size W ((W.alloc (rulesC fv nu ex)).alloc (.cells #[.int .i64 d] 3)):=(below_alloc W _).chain (below_alloc _ _)
  have hz : ((W.alloc (rulesC fv nu ex)).alloc (.cells #[.int .i64 d] 3)).heap.size = W.heap.size + 2:=(size_of_alloc _ _).trans (congrArg (· + 1) (size_of_alloc _ _))
  have hb3:=hW.chain hb2
  refine (vl_cond f 119 #[] #[.pointer (some ⟨W.heap.size + 1,0,none⟩),.pointer (some ⟨W.heap.size,0,none⟩)] enters162 l Al cl m m _ hl ((hr.stay hb3 (Nat.le_refl _)).more hb3.size) ?_).mono fun e w' ⟨he,hb⟩ => ⟨he,hb3.chain hb⟩
  intro k ak an sa al bk bn sb bl l' Aa ca Ab cb Al' cl' W3 hm hb4 ra rb rl q1 q2 q3 q4 q5
  exact IH k ak an sa al bk bn sb bl l' Aa ca Ab cb Al' cl' W.heap.size (W.heap.size + 1) W3 ((rulesAt_new W fv nu ex d).stay hb4 (by omega)) (by have := hb4.size;omega) ((hb4.cell (p:=⟨W.heap.size + 1,0,none⟩) (by show W.heap.size + 1 < _;omega)).trans (depth_new W _ d)) (ra.more hb4.size) (rb.more hb4.size) (rl.more hb4.size) q1 q2 q3 q4 q5)
 have HN : Hid (∀ W,Calls Tryz.prog 121 #[exprV ak an ⟨sa.toArray⟩ (.slice Aa al.length ca)] W fun e w' => e = .returned (.bool (zX (.mk ak an sa al))) ∧ Below W.heap.size W w'):=Lib.hid (fun W => no_expr ak an sa al Aa ca W hal)
 have HM : Hid (∀ W,Calls Tryz.prog 121 #[exprV bk bn ⟨sb.toArray⟩ (.slice Ab bl.length cb)] W fun e w' => e = .returned (.bool (zX (.mk bk bn sb bl))) ∧ Below W.heap.size W w'):=Lib.hid (fun W => no_expr bk bn sb bl Ab cb W hbl)
 have HX : Hid (∀ fv nu ex dd W,Calls Tryz.prog 81 #[rulesV fv nu ex,.int .i64 dd] W fun e w' =>
  e = .returned (.func (.func 119) #[] #[.pointer (some ⟨W.heap.size + 1,0,none⟩),.pointer (some ⟨W.heap.size,0,none⟩)]) ∧ w' = (W.alloc (rulesC fv nu ex)).alloc (.cells #[.int .i64 dd] 3)):=Lib.hid cond_within
 have hlt:=(Array.getElem?_eq_some_iff.1 hbe).1
 obtain ⟨b1,b2,b3,b4,b5,b6,b7,b8,b9⟩:=box10 hbe
 obtain ⟨r1,r2,r3,r4⟩:=hR
 have HB0:=Lib.hid (Below.refl w.heap.size w)
 have HS : Hid (∀ W,Below w.heap.size w W → (W.cell? ⟨be,1,none⟩ = some (.int .i64 ak) ∧ W.cell? ⟨be,2,none⟩ = some (.int .i64 an) ∧ W.cell? ⟨be,3,none⟩ = some (.string ⟨sa.toArray⟩) ∧ W.cell? ⟨be,4,none⟩ = some (.slice Aa al.length ca) ∧ W.cell? ⟨be,5,none⟩ = some (.int .i64 bk) ∧ W.cell? ⟨be,6,none⟩ = some (.int .i64 bn) ∧ W.cell? ⟨be,7,none⟩ = some (.string ⟨sb.toArray⟩) ∧ W.cell? ⟨be,8,none⟩ = some (.slice Ab bl.length cb) ∧ W.cell? ⟨be,9,none⟩ = some (.slice Al l.length cl)) ∧
  W.cell? ⟨br,0,none⟩ = some (.func (.func fv) #[] #[]) ∧ W.cell? ⟨br,1,none⟩ = some (.int .i64 nu) ∧ W.cell? ⟨br,2,none⟩ = some (.int .i64 ex) ∧ W.cell? ⟨bd,0,none⟩ = some (.int .i64 (d + 1))):=Lib.hid (fun W hb =>
  ⟨box10 (kept_box hb hbe),(hb.cell (p:=⟨br,0,none⟩) r1).trans r2,(hb.cell (p:=⟨br,1,none⟩) r1).trans r3,(hb.cell (p:=⟨br,2,none⟩) r1).trans r4,(hb.cell (p:=⟨bd,0,none⟩) hbd).trans hD⟩)
 generalize opsC m l f = res at *
 generalize zX (.mk ak an sa al) = za at *
 generalize zX (.mk bk bn sb bl) = zb at *
 unfold maxLen at hl hal hbl
 clear IH hr hbe r1 hbd hlt
 obtain ⟨S,hS⟩ : ∃ S : World → Prop,S = (fun W => (W.cell? ⟨be,1,none⟩ = some (.int .i64 ak) ∧ W.cell? ⟨be,2,none⟩ = some (.int .i64 an) ∧ W.cell? ⟨be,3,none⟩ = some (.string ⟨sa.toArray⟩) ∧ W.cell? ⟨be,4,none⟩ = some (.slice Aa al.length ca) ∧ W.cell? ⟨be,5,none⟩ = some (.int .i64 bk) ∧ W.cell? ⟨be,6,none⟩ = some (.int .i64 bn) ∧ W.cell? ⟨be,7,none⟩ = some (.string ⟨sb.toArray⟩) ∧ W.cell? ⟨be,8,none⟩ = some (.slice Ab bl.length cb) ∧ W.cell? ⟨be,9,none⟩ = some (.slice Al l.length cl)) ∧
  W.cell? ⟨br,0,none⟩ = some (.func (.func fv) #[] #[]) ∧ W.cell? ⟨br,1,none⟩ = some (.int .i64 nu) ∧ W.cell? ⟨br,2,none⟩ = some (.int .i64 ex) ∧ W.cell? ⟨bd,0,none⟩ = some (.int .i64 (d + 1))):=⟨_,rfl⟩
 have HS2 : Hid (∀ W,Below w.heap.size w W → S W):=Lib.hid (fun W hb => by rw [hS];exact HS.out W hb)
 have HSo : Hid (∀ W,S W → (W.cell? ⟨be,1,none⟩ = some (.int .i64 ak) ∧ W.cell? ⟨be,2,none⟩ = some (.int .i64 an) ∧ W.cell? ⟨be,3,none⟩ = some (.string ⟨sa.toArray⟩) ∧ W.cell? ⟨be,4,none⟩ = some (.slice Aa al.length ca) ∧ W.cell? ⟨be,5,none⟩ = some (.int .i64 bk) ∧ W.cell? ⟨be,6,none⟩ = some (.int .i64 bn) ∧ W.cell? ⟨be,7,none⟩ = some (.string ⟨sb.toArray⟩) ∧ W.cell? ⟨be,8,none⟩ = some (.slice Ab bl.length cb) ∧ W.cell? ⟨be,9,none⟩ = some (.slice Al l.length cl)) ∧ W.cell? ⟨br,0,none⟩ = some (.func (.func fv) #[] #[]) ∧ W.cell? ⟨br,1,none⟩ = some (.int .i64 nu) ∧ W.cell? ⟨br,2,none⟩ = some (.int .i64 ex) ∧ W.cell? ⟨bd,0,none⟩ = some (.int .i64 (d + 1))):=Lib.hid (fun W h => by rw [hS] at h;exact h)
 clear hS b1 b2 b3 b4 b5 b6 b7 b8 b9 r2 r3 r4 hD
 have hmx : Tryz.prog.follows .mixedOrders = true:=by kernel_rfl
 cases za with
 | false =>
   go_enter Tryz.func120,Tryz.ntmps120
   go_wp2
   refine wp_region_held (S:=S) hmx ?_
   change wpAnyH _ _ _ _ _ 20 #[false,false,false,false,false,false,false,false,false,false,false,false,false,false,false,false,false,false,false,false] _ w.drew
   have g0:=HS2.out _ HB0.out.drew
   refine tk 0 6 (.pointer (some ⟨be,1,none⟩)) g0 ?v0 ?_
   case v0 =>
    intro Wx hSx
    go_simp
   try simp only [pset]
   refine tk 1 7 (exprV ak an ⟨sa.toArray⟩ (.slice Aa al.length ca)) g0 ?v1 ?_
   case v1 =>
    intro Wx hSx
    obtain ⟨⟨t1,t2,t3,t4,t5,t6,t7,t8,t9⟩,u1,u2,u3,u4⟩:=HSo.out Wx hSx
    go_simp
   try simp only [pset]
   refine o1 2 (fun K hK => ?_)
   go_simp
   refine (HN.out _).mono ?_
   rintro e w1 ⟨rfl,hb1⟩
   have HB1:=Lib.hid (HB0.out.drew.chain hb1)
   clear hb1
   have g1:=HS2.out _ HB1.out
   refine hK _ _ g1 ?_
   clear hK K g0
   refine tk 3 9 (.bool false) g1 ?v3 ?_
   case v3 =>
    intro Wx hSx
    go_simp
   try simp only [pset]
   refine sk 4 10 g1 ?_
   try simp only [pset]
   refine sk 5 11 g1 ?_
   try simp only [pset]
   refine sk 6 12 g1 ?_
   try simp only [pset]
   refine tk 7 13 (.bool false) g1 ?v7 ?_
   case v7 =>
    intro Wx hSx
    go_simp
   try simp only [pset]
   refine tk 8 14 (.bool false) g1 ?v8 ?_
   case v8 =>
    intro Wx hSx
    go_simp
   try simp only [pset]
   refine sk 9 15 g1 ?_
   try simp only [pset]
   refine sk 10 16 g1 ?_
   try simp only [pset]
   refine sk 11 17 g1 ?_
   try simp only [pset]
   refine sk 12 18 g1 ?_
   try simp only [pset]
   refine sk 13 19 g1 ?_
   try simp only [pset]
   refine sk 14 20 g1 ?_
   try simp only [pset]
   refine sk 15 21 g1 ?_
   try simp only [pset]
   refine sk 16 22 g1 ?_
   try simp only [pset]
   refine sk 17 23 g1 ?_
   try simp only [pset]
   refine tk 18 24 (.bool false) g1 ?v18 ?_
   case v18 =>
    intro Wx hSx
    go_simp
   try simp only [pset]
   refine tk 19 5 (.bool false) g1 ?v19 ?_
   case v19 =>
    intro Wx hSx
    go_simp
   try simp only [pset]
   refine wpAnyH_done (by kernel_rfl) ?_ _
   go_wp2
   go_ret
   exact ⟨rfl,HB1.out⟩
 | true =>
   cases zb with
   | false =>
     go_enter Tryz.func120,Tryz.ntmps120
     go_wp2
     refine wp_region_held (S:=S) hmx ?_
     change wpAnyH _ _ _ _ _ 20 #[false,false,false,false,false,false,false,false,false,false,false,false,false,false,false,false,false,false,false,false] _ w.drew
     have g0:=HS2.out _ HB0.out.drew
     refine tk 0 6 (.pointer (some ⟨be,1,none⟩)) g0 ?v0 ?_
     case v0 =>
      intro Wx hSx
      go_simp
     try simp only [pset]
     refine tk 1 7 (exprV ak an ⟨sa.toArray⟩ (.slice Aa al.length ca)) g0 ?v1 ?_
     case v1 =>
      intro Wx hSx
      obtain ⟨⟨t1,t2,t3,t4,t5,t6,t7,t8,t9⟩,u1,u2,u3,u4⟩:=HSo.out Wx hSx
      go_simp
     try simp only [pset]
     refine o1 2 (fun K hK => ?_)
     go_simp
     refine (HN.out _).mono ?_
     rintro e w1 ⟨rfl,hb1⟩
     have HB1:=Lib.hid (HB0.out.drew.chain hb1)
     clear hb1
     have g1:=HS2.out _ HB1.out
     refine hK _ _ g1 ?_
     clear hK K g0
     refine tk 3 9 (.bool true) g1 ?v3 ?_
     case v3 =>
      intro Wx hSx
      go_simp
     try simp only [pset]
     refine tk 4 10 (.pointer (some ⟨be,5,none⟩)) g1 ?v4 ?_
     case v4 =>
      intro Wx hSx
      go_simp
     try simp only [pset]
     refine tk 5 11 (exprV bk bn ⟨sb.toArray⟩ (.slice Ab bl.length cb)) g1 ?v5 ?_
     case v5 =>
      intro Wx hSx
      obtain ⟨⟨t1,t2,t3,t4,t5,t6,t7,t8,t9⟩,u1,u2,u3,u4⟩:=HSo.out Wx hSx
      go_simp
     try simp only [pset]
     refine o1 6 (fun K hK => ?_)
     go_simp
     refine (HM.out _).mono ?_
     rintro e w2 ⟨rfl,hb2⟩
     have HB2:=Lib.hid (HB1.out.chain hb2)
     clear hb2
     have g2:=HS2.out _ HB2.out
     refine hK _ _ g2 ?_
     clear hK K g1
     refine tk 7 13 (.bool false) g2 ?v7 ?_
     case v7 =>
      intro Wx hSx
      go_simp
     try simp only [pset]
     refine tk 8 14 (.bool false) g2 ?v8 ?_
     case v8 =>
      intro Wx hSx
      go_simp
     try simp only [pset]
     refine sk 9 15 g2 ?_
     try simp only [pset]
     refine sk 10 16 g2 ?_
     try simp only [pset]
     refine sk 11 17 g2 ?_
     try simp only [pset]
     refine sk 12 18 g2 ?_
     try simp only [pset]
     refine sk 13 19 g2 ?_
     try simp only [pset]
     refine sk 14 20 g2 ?_
     try simp only [pset]
     refine sk 15 21 g2 ?_
     try simp only [pset]
     refine sk 16 22 g2 ?_
     try simp only [pset]
     refine sk 17 23 g2 ?_
     try simp only [pset]
     refine tk 18 24 (.bool false) g2 ?v18 ?_
     case v18 =>
      intro Wx hSx
      go_simp
     try simp only [pset]
     refine tk 19 5 (.bool false) g2 ?v19 ?_
     case v19 =>
      intro Wx hSx
      go_simp
     try simp only [pset]
     refine wpAnyH_done (by kernel_rfl) ?_ _
     go_wp2
     go_ret
     exact ⟨rfl,HB2.out⟩
   | true =>
     go_enter Tryz.func120,Tryz.ntmps120
     go_wp2
     refine wp_region_held (S:=S) hmx ?_
     change wpAnyH _ _ _ _ _ 20 #[false,false,false,false,false,false,false,false,false,false,false,false,false,false,false,false,false,false,false,false] _ w.drew
     have g0:=HS2.out _ HB0.out.drew
     refine tk 0 6 (.pointer (some ⟨be,1,none⟩)) g0 ?v0 ?_
     case v0 =>
      intro Wx hSx
      go_simp
     try simp only [pset]
     refine tk 1 7 (exprV ak an ⟨sa.toArray⟩ (.slice Aa al.length ca)) g0 ?v1 ?_
     case v1 =>
      intro Wx hSx
      obtain ⟨⟨t1,t2,t3,t4,t5,t6,t7,t8,t9⟩,u1,u2,u3,u4⟩:=HSo.out Wx hSx
      go_simp
     try simp only [pset]
     refine o1 2 (fun K hK => ?_)
     go_simp
     refine (HN.out _).mono ?_
     rintro e w1 ⟨rfl,hb1⟩
     have HB1:=Lib.hid (HB0.out.drew.chain hb1)
     clear hb1
     have g1:=HS2.out _ HB1.out
     refine hK _ _ g1 ?_
     clear hK K g0
     refine tk 3 9 (.bool true) g1 ?v3 ?_
     case v3 =>
      intro Wx hSx
      go_simp
     try simp only [pset]
     refine tk 4 10 (.pointer (some ⟨be,5,none⟩)) g1 ?v4 ?_
     case v4 =>
      intro Wx hSx
      go_simp
     try simp only [pset]
     refine tk 5 11 (exprV bk bn ⟨sb.toArray⟩ (.slice Ab bl.length cb)) g1 ?v5 ?_
     case v5 =>
      intro Wx hSx
      obtain ⟨⟨t1,t2,t3,t4,t5,t6,t7,t8,t9⟩,u1,u2,u3,u4⟩:=HSo.out Wx hSx
      go_simp
     try simp only [pset]
     refine o1 6 (fun K hK => ?_)
     go_simp
     refine (HM.out _).mono ?_
     rintro e w2 ⟨rfl,hb2⟩
     have HB2:=Lib.hid (HB1.out.chain hb2)
     clear hb2
     have g2:=HS2.out _ HB2.out
     refine hK _ _ g2 ?_
     clear hK K g1
     refine tk 7 13 (.bool true) g2 ?v7 ?_
     case v7 =>
      intro Wx hSx
      go_simp
     try simp only [pset]
     refine tk 8 14 (.bool true) g2 ?v8 ?_
     case v8 =>
      intro Wx hSx
      go_simp
     try simp only [pset]
     refine tk 9 15 (.pointer (some ⟨be,9,none⟩)) g2 ?v9 ?_
     case v9 =>
      intro Wx hSx
      go_simp
     try simp only [pset]
     refine tk 10 16 (.slice Al l.length cl) g2 ?v10 ?_
     case v10 =>
      intro Wx hSx
      obtain ⟨⟨t1,t2,t3,t4,t5,t6,t7,t8,t9⟩,u1,u2,u3,u4⟩:=HSo.out Wx hSx
      go_simp
     try simp only [pset]
     refine tk 11 17 (.int .i64 m) g2 ?v11 ?_
     case v11 =>
      intro Wx hSx
      go_simp
     try simp only [pset]
     refine tk 12 18 (.int .i64 m) g2 ?v12 ?_
     case v12 =>
      intro Wx hSx
      go_simp
     try simp only [pset]
     refine tk 13 19 (rulesV fv nu ex) g2 ?v13 ?_
     case v13 =>
      intro Wx hSx
      obtain ⟨⟨t1,t2,t3,t4,t5,t6,t7,t8,t9⟩,u1,u2,u3,u4⟩:=HSo.out Wx hSx
      go_simp
     try simp only [pset]
     refine tk 14 20 (.int .i64 (d + 1)) g2 ?v14 ?_
     case v14 =>
      intro Wx hSx
      obtain ⟨⟨t1,t2,t3,t4,t5,t6,t7,t8,t9⟩,u1,u2,u3,u4⟩:=HSo.out Wx hSx
      go_simp
     try simp only [pset]
     refine tk 15 21 (.int .i64 d) g2 ?v15 ?_
     case v15 =>
      intro Wx hSx
      go_simp
     try simp only [pset]
     refine o1 16 (fun K hK => ?_)
     go_simp
     refine (HX.out _ _ _ _ _).mono ?_
     rintro e w3 ⟨rfl,rfl⟩
     have HB3:=Lib.hid ((HB2.out.chain (below_alloc w2 (rulesC fv nu ex))).chain (below_alloc _ (.cells #[.int .i64 d] 3)))
     have g3:=HS2.out _ HB3.out
     refine hK _ _ g3 ?_
     clear hK K g2
     refine o1 17 (fun K hK => ?_)
     go_simp
     refine (HV.out w2 HB2.out).mono ?_
     rintro e w4 ⟨rfl,hb4⟩
     have HB4:=Lib.hid hb4
     clear hb4
     have g4:=HS2.out _ HB4.out
     refine hK _ _ g4 ?_
     clear hK K g3
     refine tk 18 24 (.bool res) g4 ?v18 ?_
     case v18 =>
      intro Wx hSx
      go_simp
     try simp only [pset]
     refine tk 19 5 (.bool res) g4 ?v19 ?_
     case v19 =>
      intro Wx hSx
      go_simp
     try simp only [pset]
     refine wpAnyH_done (by kernel_rfl) ?_ _
     go_wp2
     go_ret
     exact ⟨rfl,HB4.out⟩
end Go.Proofs.YtnkpgpmaiicdeaaGreatDoor
