import Derived.Test.YtojjfdegkooknaaGreatDoorQTreeK
import Derived.Test.YtojjfdegkooknaaGreatDoorQTreeRp
set_option linter.unusedVariables false
set_option linter.unusedSimpArgs false
namespace Go.Proofs.YtojjfdegkooknaaGreatDoor
set_option maxRecDepth 100000
set_option maxHeartbeats 20000000
open Go.RowKit
def CwOk (fv : Nat) (nu ex : Int) (d : Nat) (f : Cn → Bool) : Prop :=
 ∀ (k ak an : Int) (sa : List UInt8) (al : List Ex) (bk bn : Int) (sb : List UInt8) (bl : List Ex) (l : List Cn) (Aa : Option Addr) (ca : Nat) (Ab : Option Addr) (cb : Nat) (Al : Option Addr) (cl br bd : Nat) (W : World),RulesAt W br fv nu ex → bd < W.heap.size → W.cell? ⟨bd,0,none⟩ = some (.int .i64 d) →
  ExRow W W.heap.size al Aa → ExRow W W.heap.size bl Ab → CnRow W W.heap.size l Al → sa.length ≤ maxLen → al.length ≤ maxLen → sb.length ≤ maxLen → bl.length ≤ maxLen → l.length ≤ maxLen →
  Calls Tryz.prog 261 #[condV2 k ak an ⟨sa.toArray⟩ (.slice Aa al.length ca) bk bn ⟨sb.toArray⟩ (.slice Ab bl.length cb) (.slice Al l.length cl),.pointer (some ⟨bd,0,none⟩),.pointer (some ⟨br,0,none⟩)] W fun e w' => e = .returned (.bool (f (.mk k (.mk ak an sa al) (.mk bk bn sb bl) l))) ∧ Below W.heap.size W w'
theorem enters162 : ∀ args w,(callFunc 261 args).run Tryz.prog w = .ok (.enter 261 args) w:=enters_of Tryz.func261 (by kernel_rfl) rfl
theorem box10 {W : World} {be : Nat} {k ak an : Int} {sa : ByteArray} {la : Value} {bk bn : Int} {sb : ByteArray} {lb ll : Value} (h : W.heap[be]? = some (condC2 k ak an sa la bk bn sb lb ll)) :
 W.cell? ⟨be,1,none⟩ = some (.int .i64 ak) ∧ W.cell? ⟨be,2,none⟩ = some (.int .i64 an) ∧ W.cell? ⟨be,3,none⟩ = some (.string sa) ∧ W.cell? ⟨be,4,none⟩ = some la ∧ W.cell? ⟨be,5,none⟩ = some (.int .i64 bk) ∧ W.cell? ⟨be,6,none⟩ = some (.int .i64 bn) ∧ W.cell? ⟨be,7,none⟩ = some (.string sb) ∧ W.cell? ⟨be,8,none⟩ = some lb ∧ W.cell? ⟨be,9,none⟩ = some ll :=
 ⟨cell_of_block h 1 rfl,cell_of_block h 2 rfl,cell_of_block h 3 rfl,cell_of_block h 4 rfl,cell_of_block h 5 rfl,cell_of_block h 6 rfl,cell_of_block h 7 rfl,cell_of_block h 8 rfl,cell_of_block h 9 rfl⟩
theorem operandsC_any (fv : Nat) (nu ex : Int) (d : Nat) (hd : d ≤ 1000) (f : Cn → Bool) (IH : CwOk fv nu ex d f) (m : Int) (k ak an : Int) (sa : List UInt8) (al : List Ex) (bk bn : Int) (sb : List UInt8) (bl : List Ex) (l : List Cn) (Aa : Option Addr) (ca : Nat) (Ab : Option Addr) (cb : Nat) (Al : Option Addr) (cl be br bd : Nat) (w : World)
 (hbe : w.heap[be]? = some (condC2 k ak an ⟨sa.toArray⟩ (.slice Aa al.length ca) bk bn ⟨sb.toArray⟩ (.slice Ab bl.length cb) (.slice Al l.length cl)))
 (hR : RulesAt w br fv nu ex) (hbd : bd < w.heap.size) (hD : w.cell? ⟨bd,0,none⟩ = some (.int .i64 (d + 1))) (hr : CnRow w w.heap.size l Al) (hal : al.length ≤ maxLen) (hbl : bl.length ≤ maxLen) (hl : l.length ≤ maxLen) :
 Calls Tryz.prog 262 #[.int .i64 m,.pointer (some ⟨be,0,none⟩),.pointer (some ⟨br,0,none⟩),.pointer (some ⟨bd,0,none⟩)] w fun e w' => e = .returned (.bool (zX (.mk ak an sa al) && zX (.mk bk bn sb bl) && opsC m l f)) ∧ Below w.heap.size w w':=by
 have hwr : IntKind.i64.wrap (d : Int) = d:=by rw [IntKind.wrap_i64];omega
 have HV : Hid (∀ W,Below w.heap.size w W → Calls Tryz.prog 263 #[.slice Al l.length cl,.int .i64 m,.int .i64 m,.func (.func 261) #[] #[.pointer (some ⟨W.heap.size + 1,0,none⟩),.pointer (some ⟨W.heap.size,0,none⟩)]] ((W.alloc (rulesC fv nu ex)).alloc (.cells #[.int .i64 d] 3)) fun e w' =>
  e = .returned (.bool (opsC m l f)) ∧ Below w.heap.size w w'):=Lib.hid (fun W hW => by
  have hb2 : Below W.heap.size W ((W.alloc (rulesC fv nu ex)).alloc (.cells #[.int .i64 d] 3)):=(below_alloc W _).chain (below_alloc _ _)
  have hz : ((W.alloc (rulesC fv nu ex)).alloc (.cells #[.int .i64 d] 3)).heap.size = W.heap.size + 2:=(size_of_alloc _ _).trans (congrArg (· + 1) (size_of_alloc _ _))
  have hb3:=hW.chain hb2
  refine (vl_cond f 261 #[] #[.pointer (some ⟨W.heap.size + 1,0,none⟩),.pointer (some ⟨W.heap.size,0,none⟩)] enters162 l Al cl m m _ hl ((hr.stay hb3 (Nat.le_refl _)).more hb3.size) ?_).mono fun e w' ⟨he,hb⟩ => ⟨he,hb3.chain hb⟩
  intro k ak an sa al bk bn sb bl l' Aa ca Ab cb Al' cl' W3 hm hb4 ra rb rl q1 q2 q3 q4 q5
  exact IH k ak an sa al bk bn sb bl l' Aa ca Ab cb Al' cl' W.heap.size (W.heap.size + 1) W3 ((rulesAt_new W fv nu ex d).stay hb4 (by omega)) (by have := hb4.size;omega) ((hb4.cell (p:=⟨W.heap.size + 1,0,none⟩) (by show W.heap.size + 1 < _;omega)).trans (depth_new W _ d)) (ra.more hb4.size) (rb.more hb4.size) (rl.more hb4.size) q1 q2 q3 q4 q5)
 have HN : Hid (∀ W,Calls Tryz.prog 228 #[exprV ak an ⟨sa.toArray⟩ (.slice Aa al.length ca)] W fun e w' => e = .returned (.bool (zX (.mk ak an sa al))) ∧ Below W.heap.size W w'):=Lib.hid (fun W => no_expr ak an sa al Aa ca W hal)
 have HM : Hid (∀ W,Calls Tryz.prog 228 #[exprV bk bn ⟨sb.toArray⟩ (.slice Ab bl.length cb)] W fun e w' => e = .returned (.bool (zX (.mk bk bn sb bl))) ∧ Below W.heap.size W w'):=Lib.hid (fun W => no_expr bk bn sb bl Ab cb W hbl)
 have HX : Hid (∀ fv nu ex dd W,Calls Tryz.prog 251 #[rulesV fv nu ex,.int .i64 dd] W fun e w' =>
  e = .returned (.func (.func 261) #[] #[.pointer (some ⟨W.heap.size + 1,0,none⟩),.pointer (some ⟨W.heap.size,0,none⟩)]) ∧ w' = (W.alloc (rulesC fv nu ex)).alloc (.cells #[.int .i64 dd] 3)):=Lib.hid cond_within
 have hlt:=(Array.getElem?_eq_some_iff.1 hbe).1
 obtain ⟨b1,b2,b3,b4,b5,b6,b7,b8,b9⟩:=box10 hbe
 obtain ⟨r1,r2,r3,r4⟩:=hR
 have HB0:=Lib.hid (Below.refl w.heap.size w)
 have HS : Hid (∀ W,Below w.heap.size w W → (W.cell? ⟨be,1,none⟩ = some (.int .i64 ak) ∧ W.cell? ⟨be,2,none⟩ = some (.int .i64 an) ∧ W.cell? ⟨be,3,none⟩ = some (.string ⟨sa.toArray⟩) ∧ W.cell? ⟨be,4,none⟩ = some (.slice Aa al.length ca) ∧ W.cell? ⟨be,5,none⟩ = some (.int .i64 bk) ∧ W.cell? ⟨be,6,none⟩ = some (.int .i64 bn) ∧ W.cell? ⟨be,7,none⟩ = some (.string ⟨sb.toArray⟩) ∧ W.cell? ⟨be,8,none⟩ = some (.slice Ab bl.length cb) ∧ W.cell? ⟨be,9,none⟩ = some (.slice Al l.length cl)) ∧
  W.cell? ⟨br,0,none⟩ = some (.func (.func fv) #[] #[]) ∧ W.cell? ⟨br,1,none⟩ = some (.int .i64 nu) ∧ W.cell? ⟨br,2,none⟩ = some (.int .i64 ex) ∧ W.cell? ⟨bd,0,none⟩ = some (.int .i64 (d + 1))):=Lib.hid (fun W hb =>
  ⟨box10 (kept_box hb hbe),(hb.cell (p:=⟨br,0,none⟩) r1).trans r2,(hb.cell (p:=⟨br,1,none⟩) r1).trans r3,(hb.cell (p:=⟨br,2,none⟩) r1).trans r4,(hb.cell (p:=⟨bd,0,none⟩) hbd).trans hD⟩)
 generalize opsC m l f = res at *
 generalize zX (.mk ak an sa al) = za at *
 generalize zX (.mk bk bn sb bl) = zb at *
 unfold maxLen at hl hal hbl
 clear IH hr hbe r1 hbd hlt
 obtain ⟨S,hS⟩ : ∃ S : World → Prop,S = (fun W => (W.cell? ⟨be,1,none⟩ = some (.int .i64 ak) ∧ W.cell? ⟨be,2,none⟩ = some (.int .i64 an) ∧ W.cell? ⟨be,3,none⟩ = some (.string ⟨sa.toArray⟩) ∧ W.cell? ⟨be,4,none⟩ = some (.slice Aa al.length ca) ∧ W.cell? ⟨be,5,none⟩ = some (.int .i64 bk) ∧ W.cell? ⟨be,6,none⟩ = some (.int .i64 bn) ∧ W.cell? ⟨be,7,none⟩ = some (.string ⟨sb.toArray⟩) ∧ W.cell? ⟨be,8,none⟩ = some (.slice Ab bl.length cb) ∧ W.cell? ⟨be,9,none⟩ = some (.slice Al l.length cl)) ∧
  W.cell? ⟨br,0,none⟩ = some (.func (.func fv) #[] #[]) ∧ W.cell? ⟨br,1,none⟩ = some (.int .i64 nu) ∧ W.cell? ⟨br,2,none⟩ = some (.int .i64 ex) ∧ W.cell? ⟨bd,0,none⟩ = some (.int .i64 (d + 1))):=⟨_,rfl⟩
 have HS2 : Hid (∀ W,Below w.heap.size w W → S W):=Lib.hid (fun W hb => by rw [hS];exact HS.out W hb)
 have HSo : Hid (∀ W,S W → (W.cell? ⟨be,1,none⟩ = some (.int .i64 ak) ∧ W.cell? ⟨be,2,none⟩ = some (.int .i64 an) ∧ W.cell? ⟨be,3,none⟩ = some (.string ⟨sa.toArray⟩) ∧ W.cell? ⟨be,4,none⟩ = some (.slice Aa al.length ca) ∧ W.cell? ⟨be,5,none⟩ = some (.int .i64 bk) ∧ W.cell? ⟨be,6,none⟩ = some (.int .i64 bn) ∧ W.cell? ⟨be,7,none⟩ = some (.string ⟨sb.toArray⟩) ∧ W.cell? ⟨be,8,none⟩ = some (.slice Ab bl.length cb) ∧ W.cell? ⟨be,9,none⟩ = some (.slice Al l.length cl)) ∧ W.cell? ⟨br,0,none⟩ = some (.func (.func fv) #[] #[]) ∧ W.cell? ⟨br,1,none⟩ = some (.int .i64 nu) ∧ W.cell? ⟨br,2,none⟩ = some (.int .i64 ex) ∧ W.cell? ⟨bd,0,none⟩ = some (.int .i64 (d + 1))):=Lib.hid (fun W h => by rw [hS] at h;exact h)
 clear hS b1 b2 b3 b4 b5 b6 b7 b8 b9 r2 r3 r4 hD
 have hmx : Tryz.prog.follows .mixedOrders = true:=by kernel_rfl
 cases za with
 | false =>
   go_enter Tryz.func262,Tryz.ntmps262
   go_wp2
   refine wp_region_held (S:=S) hmx ?_
   change wpAnyH _ _ _ _ _ 20 #[false,false,false,false,false,false,false,false,false,false,false,false,false,false,false,false,false,false,false,false] _ w.drew
   have g0:=HS2.out _ HB0.out.drew
   refine tk 0 6 (.pointer (some ⟨be,1,none⟩)) g0 ?v0 ?_
   case v0 =>
    intro Wx hSx
    go_simp
   try simp only [pset]
   refine tk 1 7 (exprV ak an ⟨sa.toArray⟩ (.slice Aa al.length ca)) g0 ?v1 ?_
   case v1 =>
    intro Wx hSx
    obtain ⟨⟨t1,t2,t3,t4,t5,t6,t7,t8,t9⟩,u1,u2,u3,u4⟩:=HSo.out Wx hSx
    go_simp
   try simp only [pset]
   refine o1 2 (fun K hK => ?_)
   go_simp
   refine (HN.out _).mono ?_
   rintro e w1 ⟨rfl,hb1⟩
   have HB1:=Lib.hid (HB0.out.drew.chain hb1)
   clear hb1
   have g1:=HS2.out _ HB1.out
   refine hK _ _ g1 ?_
   clear hK K g0
   refine tk 3 9 (.bool false) g1 ?v3 ?_
   case v3 =>
    intro Wx hSx
    go_simp
   try simp only [pset]
   refine sk 4 10 g1 ?_
   try simp only [pset]
   refine sk 5 11 g1 ?_
   try simp only [pset]
   refine sk 6 12 g1 ?_
   try simp only [pset]
   refine tk 7 13 (.bool false) g1 ?v7 ?_
   case v7 =>
    intro Wx hSx
    go_simp
   try simp only [pset]
   refine tk 8 14 (.bool false) g1 ?v8 ?_
   case v8 =>
    intro Wx hSx
    go_simp
   try simp only [pset]
   refine sk 9 15 g1 ?_
   try simp only [pset]
   refine sk 10 16 g1 ?_
   try simp only [pset]
   refine sk 11 17 g1 ?_
   try simp only [pset]
   refine sk 12 18 g1 ?_
   try simp only [pset]
   refine sk 13 19 g1 ?_
   try simp only [pset]
   refine sk 14 20 g1 ?_
   try simp only [pset]
   refine sk 15 21 g1 ?_
   try simp only [pset]
   refine sk 16 22 g1 ?_
   try simp only [pset]
   refine sk 17 23 g1 ?_
   try simp only [pset]
   refine tk 18 24 (.bool false) g1 ?v18 ?_
   case v18 =>
    intro Wx hSx
    go_simp
   try simp only [pset]
   refine tk 19 5 (.bool false) g1 ?v19 ?_
   case v19 =>
    intro Wx hSx
    go_simp
   try simp only [pset]
   refine wpAnyH_done (by kernel_rfl) ?_ _
   go_wp2
   go_ret
   exact ⟨rfl,HB1.out⟩
 | true =>
   cases zb with
   | false =>
     go_enter Tryz.func262,Tryz.ntmps262
     go_wp2
     refine wp_region_held (S:=S) hmx ?_
     change wpAnyH _ _ _ _ _ 20 #[false,false,false,false,false,false,false,false,false,false,false,false,false,false,false,false,false,false,false,false] _ w.drew
     have g0:=HS2.out _ HB0.out.drew
     refine tk 0 6 (.pointer (some ⟨be,1,none⟩)) g0 ?v0 ?_
     case v0 =>
      intro Wx hSx
      go_simp
     try simp only [pset]
     refine tk 1 7 (exprV ak an ⟨sa.toArray⟩ (.slice Aa al.length ca)) g0 ?v1 ?_
     case v1 =>
      intro Wx hSx
      obtain ⟨⟨t1,t2,t3,t4,t5,t6,t7,t8,t9⟩,u1,u2,u3,u4⟩:=HSo.out Wx hSx
      go_simp
     try simp only [pset]
     refine o1 2 (fun K hK => ?_)
     go_simp
     refine (HN.out _).mono ?_
     rintro e w1 ⟨rfl,hb1⟩
     have HB1:=Lib.hid (HB0.out.drew.chain hb1)
     clear hb1
     have g1:=HS2.out _ HB1.out
     refine hK _ _ g1 ?_
     clear hK K g0
     refine tk 3 9 (.bool true) g1 ?v3 ?_
     case v3 =>
      intro Wx hSx
      go_simp
     try simp only [pset]
     refine tk 4 10 (.pointer (some ⟨be,5,none⟩)) g1 ?v4 ?_
     case v4 =>
      intro Wx hSx
      go_simp
     try simp only [pset]
     refine tk 5 11 (exprV bk bn ⟨sb.toArray⟩ (.slice Ab bl.length cb)) g1 ?v5 ?_
     case v5 =>
      intro Wx hSx
      obtain ⟨⟨t1,t2,t3,t4,t5,t6,t7,t8,t9⟩,u1,u2,u3,u4⟩:=HSo.out Wx hSx
      go_simp
     try simp only [pset]
     refine o1 6 (fun K hK => ?_)
     go_simp
     refine (HM.out _).mono ?_
     rintro e w2 ⟨rfl,hb2⟩
     have HB2:=Lib.hid (HB1.out.chain hb2)
     clear hb2
     have g2:=HS2.out _ HB2.out
     refine hK _ _ g2 ?_
     clear hK K g1
     refine tk 7 13 (.bool false) g2 ?v7 ?_
     case v7 =>
      intro Wx hSx
      go_simp
     try simp only [pset]
     refine tk 8 14 (.bool false) g2 ?v8 ?_
     case v8 =>
      intro Wx hSx
      go_simp
     try simp only [pset]
     refine sk 9 15 g2 ?_
     try simp only [pset]
     refine sk 10 16 g2 ?_
     try simp only [pset]
     refine sk 11 17 g2 ?_
     try simp only [pset]
     refine sk 12 18 g2 ?_
     try simp only [pset]
     refine sk 13 19 g2 ?_
     try simp only [pset]
     refine sk 14 20 g2 ?_
     try simp only [pset]
     refine sk 15 21 g2 ?_
     try simp only [pset]
     refine sk 16 22 g2 ?_
     try simp only [pset]
     refine sk 17 23 g2 ?_
     try simp only [pset]
     refine tk 18 24 (.bool false) g2 ?v18 ?_
     case v18 =>
      intro Wx hSx
      go_simp
     try simp only [pset]
     refine tk 19 5 (.bool false) g2 ?v19 ?_
     case v19 =>
      intro Wx hSx
      go_simp
     try simp only [pset]
     refine wpAnyH_done (by kernel_rfl) ?_ _
     go_wp2
     go_ret
     exact ⟨rfl,HB2.out⟩
   | true =>
     go_enter Tryz.func262,Tryz.ntmps262
     go_wp2
     refine wp_region_held (S:=S) hmx ?_
     change wpAnyH _ _ _ _ _ 20 #[false,false,false,false,false,false,false,false,false,false,false,false,false,false,false,false,false,false,false,false] _ w.drew
     have g0:=HS2.out _ HB0.out.drew
     refine tk 0 6 (.pointer (some ⟨be,1,none⟩)) g0 ?v0 ?_
     case v0 =>
      intro Wx hSx
      go_simp
     try simp only [pset]
     refine tk 1 7 (exprV ak an ⟨sa.toArray⟩ (.slice Aa al.length ca)) g0 ?v1 ?_
     case v1 =>
      intro Wx hSx
      obtain ⟨⟨t1,t2,t3,t4,t5,t6,t7,t8,t9⟩,u1,u2,u3,u4⟩:=HSo.out Wx hSx
      go_simp
     try simp only [pset]
     refine o1 2 (fun K hK => ?_)
     go_simp
     refine (HN.out _).mono ?_
     rintro e w1 ⟨rfl,hb1⟩
     have HB1:=Lib.hid (HB0.out.drew.chain hb1)
     clear hb1
     have g1:=HS2.out _ HB1.out
     refine hK _ _ g1 ?_
     clear hK K g0
     refine tk 3 9 (.bool true) g1 ?v3 ?_
     case v3 =>
      intro Wx hSx
      go_simp
     try simp only [pset]
     refine tk 4 10 (.pointer (some ⟨be,5,none⟩)) g1 ?v4 ?_
     case v4 =>
      intro Wx hSx
      go_simp
     try simp only [pset]
     refine tk 5 11 (exprV bk bn ⟨sb.toArray⟩ (.slice Ab bl.length cb)) g1 ?v5 ?_
     case v5 =>
      intro Wx hSx
      obtain ⟨⟨t1,t2,t3,t4,t5,t6,t7,t8,t9⟩,u1,u2,u3,u4⟩:=HSo.out Wx hSx
      go_simp
     try simp only [pset]
     refine o1 6 (fun K hK => ?_)
     go_simp
     refine (HM.out _).mono ?_
     rintro e w2 ⟨rfl,hb2⟩
     have HB2:=Lib.hid (HB1.out.chain hb2)
     clear hb2
     have g2:=HS2.out _ HB2.out
     refine hK _ _ g2 ?_
     clear hK K g1
     refine tk 7 13 (.bool true) g2 ?v7 ?_
     case v7 =>
      intro Wx hSx
      go_simp
     try simp only [pset]
     refine tk 8 14 (.bool true) g2 ?v8 ?_
     case v8 =>
      intro Wx hSx
      go_simp
     try simp only [pset]
     refine tk 9 15 (.pointer (some ⟨be,9,none⟩)) g2 ?v9 ?_
     case v9 =>
      intro Wx hSx
      go_simp
     try simp only [pset]
     refine tk 10 16 (.slice Al l.length cl) g2 ?v10 ?_
     case v10 =>
      intro Wx hSx
      obtain ⟨⟨t1,t2,t3,t4,t5,t6,t7,t8,t9⟩,u1,u2,u3,u4⟩:=HSo.out Wx hSx
      go_simp
     try simp only [pset]
     refine tk 11 17 (.int .i64 m) g2 ?v11 ?_
     case v11 =>
      intro Wx hSx
      go_simp
     try simp only [pset]
     refine tk 12 18 (.int .i64 m) g2 ?v12 ?_
     case v12 =>
      intro Wx hSx
      go_simp
     try simp only [pset]
     refine tk 13 19 (rulesV fv nu ex) g2 ?v13 ?_
     case v13 =>
      intro Wx hSx
      obtain ⟨⟨t1,t2,t3,t4,t5,t6,t7,t8,t9⟩,u1,u2,u3,u4⟩:=HSo.out Wx hSx
      go_simp
     try simp only [pset]
     refine tk 14 20 (.int .i64 (d + 1)) g2 ?v14 ?_
     case v14 =>
      intro Wx hSx
      obtain ⟨⟨t1,t2,t3,t4,t5,t6,t7,t8,t9⟩,u1,u2,u3,u4⟩:=HSo.out Wx hSx
      go_simp
     try simp only [pset]
     refine tk 15 21 (.int .i64 d) g2 ?v15 ?_
     case v15 =>
      intro Wx hSx
      go_simp
     try simp only [pset]
     refine o1 16 (fun K hK => ?_)
     go_simp
     refine (HX.out _ _ _ _ _).mono ?_
     rintro e w3 ⟨rfl,rfl⟩
     have HB3:=Lib.hid ((HB2.out.chain (below_alloc w2 (rulesC fv nu ex))).chain (below_alloc _ (.cells #[.int .i64 d] 3)))
     have g3:=HS2.out _ HB3.out
     refine hK _ _ g3 ?_
     clear hK K g2
     refine o1 17 (fun K hK => ?_)
     go_simp
     refine (HV.out w2 HB2.out).mono ?_
     rintro e w4 ⟨rfl,hb4⟩
     have HB4:=Lib.hid hb4
     clear hb4
     have g4:=HS2.out _ HB4.out
     refine hK _ _ g4 ?_
     clear hK K g3
     refine tk 18 24 (.bool res) g4 ?v18 ?_
     case v18 =>
      intro Wx hSx
      go_simp
     try simp only [pset]
     refine tk 19 5 (.bool res) g4 ?v19 ?_
     case v19 =>
      intro Wx hSx
      go_simp
     try simp only [pset]
     refine wpAnyH_done (by kernel_rfl) ?_ _
     go_wp2
     go_ret
     exact ⟨rfl,HB4.out⟩
end Go.Proofs.YtojjfdegkooknaaGreatDoor
namespace Go.Proofs.YtojjfdegkooknaaGreatDoor
set_option maxRecDepth 100000
set_option maxHeartbeats 20000000
open Go.RowKit
theorem cw_any (fv : Nat) (var : List UInt8 → Bool) (hv : VarOk fv var) (nu ex : Int) (h0 : 0 ≤ nu) (h1 : nu ≤ 4611686018427387904) : ∀ d : Nat,d ≤ 1000 → CwOk fv nu ex d (vC var nu d):=by
 intro d
 induction d with
 | zero =>
   intro _ k ak an sa al bk bn sb bl l Aa ca Ab cb Al cl br bd W hR hbd hD ra rb rl b1 b2 b3 b4 b5
   have HB:=Lib.hid (below_alloc W (condC2 k ak an ⟨sa.toArray⟩ (.slice Aa al.length ca) bk bn ⟨sb.toArray⟩ (.slice Ab bl.length cb) (.slice Al l.length cl)))
   clear ra rb rl
   go_enter Tryz.func261,Tryz.ntmps261
   go_wp2
   go_ret
   exact ⟨rfl,HB.out⟩
 | succ d ih =>
   intro hd k ak an sa al bk bn sb bl l Aa ca Ab cb Al cl br bd W hR hbd hD ra rb rl b1 b2 b3 b4 b5
   have HB:=Lib.hid (below_alloc W (condC2 k ak an ⟨sa.toArray⟩ (.slice Aa al.length ca) bk bn ⟨sb.toArray⟩ (.slice Ab bl.length cb) (.slice Al l.length cl)))
   have HX:=Lib.hid (heap_of_alloc W (condC2 k ak an ⟨sa.toArray⟩ (.slice Aa al.length ca) bk bn ⟨sb.toArray⟩ (.slice Ab bl.length cb) (.slice Al l.length cl)))
   have hz:=size_of_alloc W (condC2 k ak an ⟨sa.toArray⟩ (.slice Aa al.length ca) bk bn ⟨sb.toArray⟩ (.slice Ab bl.length cb) (.slice Al l.length cl))
   have HO : Hid (∀ m W3,Below (W.heap.size + 1) (W.alloc (condC2 k ak an ⟨sa.toArray⟩ (.slice Aa al.length ca) bk bn ⟨sb.toArray⟩ (.slice Ab bl.length cb) (.slice Al l.length cl))) W3 → Calls Tryz.prog 262 #[.int .i64 m,.pointer (some ⟨W.heap.size,0,none⟩),.pointer (some ⟨br,0,none⟩),.pointer (some ⟨bd,0,none⟩)] W3 fun e w' => e = .returned (.bool (zX (.mk ak an sa al) && zX (.mk bk bn sb bl) && opsC m l (vC var nu d))) ∧ Below W.heap.size W w'):=Lib.hid (fun m W3 hb3 => by
    have hbW : Below W.heap.size W W3:=HB.out.trans (hb3.mono (Nat.le_succ _))
    exact (operandsC_any fv nu ex d (by omega) (vC var nu d) (ih (by omega)) m k ak an sa al bk bn sb bl l Aa ca Ab cb Al cl W.heap.size br bd W3 ((hb3.block W.heap.size (Nat.lt_succ_self _)).trans HX.out) (hR.stay hbW hR.lt) (Nat.lt_of_lt_of_le hbd hbW.size)
     ((hbW.cell (p:=⟨bd,0,none⟩) hbd).trans hD) ((rl.stay hbW (Nat.le_refl _)).more hbW.size) b2 b4 b5).mono fun e w' ⟨he,hb⟩ => ⟨he,hbW.chain hb⟩)
   have HA : Hid (∀ W3,Below W.heap.size W W3 → Calls Tryz.prog 141 #[rulesV fv nu ex,exprV ak an ⟨sa.toArray⟩ (.slice Aa al.length ca)] W3 fun e w' => e = .returned (.bool (vE var nu 30 (.mk ak an sa al))) ∧ Below W3.heap.size W3 w'):=Lib.hid (fun W3 hb => rexpr_any fv var hv nu ex h0 h1 ak an sa al Aa ca W3 ((ra.stay hb (Nat.le_refl _)).more hb.size) b1 b2)
   have HC : Hid (∀ W3,Below W.heap.size W W3 → Calls Tryz.prog 141 #[rulesV fv nu ex,exprV bk bn ⟨sb.toArray⟩ (.slice Ab bl.length cb)] W3 fun e w' => e = .returned (.bool (vE var nu 30 (.mk bk bn sb bl))) ∧ Below W3.heap.size W3 w'):=Lib.hid (fun W3 hb => rexpr_any fv var hv nu ex h0 h1 bk bn sb bl Ab cb W3 ((rb.stay hb (Nat.le_refl _)).more hb.size) b3 b4)
   have HCM : Hid (∀ w,Calls Tryz.prog 140 #[.int .i64 k] w fun e w' => e = .returned (.bool (decide (1 ≤ k) && decide (k ≤ 4))) ∧ w = w'):=Lib.hid (comparison_any k)
   have HRR:=Lib.hid hR
   obtain ⟨r1,r2,r3,r4⟩:=hR
   have hD' : W.cell? ⟨bd,0,none⟩ = some (.int .i64 (d + 1)):=by simpa using hD
   have hne : ¬ ((d : Int) + 1 = 0):=by omega
   have HKK : Hid ((decide (1 ≤ k) && decide (k ≤ 4)) = true → True):=Lib.hid (fun _ => trivial)
   unfold vC
   generalize hvd : vC var nu d = vd at *
   generalize vE var nu 30 (.mk ak an sa al) = ea at *
   generalize vE var nu 30 (.mk bk bn sb bl) = eb at *
   obtain ⟨o1,ho1⟩ : ∃ o1,o1 = (zX (.mk ak an sa al) && zX (.mk bk bn sb bl) && opsC 1 l vd):=⟨_,rfl⟩
   obtain ⟨o2,ho2⟩ : ∃ o2,o2 = (zX (.mk ak an sa al) && zX (.mk bk bn sb bl) && opsC 2 l vd):=⟨_,rfl⟩
   rw [← ho1,← ho2]
   have HO1:=Lib.hid (HO.out 1)
   have HO2:=Lib.hid (HO.out 2)
   rw [← ho1] at HO1
   rw [← ho2] at HO2
   clear ih hvd ra rb rl hD ho1 ho2 HO hv
   unfold maxLen at b1 b2 b3 b4 b5
   obtain ⟨cmp,hcmp⟩ : ∃ cmp,cmp = (decide (1 ≤ k) && decide (k ≤ 4)):=⟨_,rfl⟩
   rw [← hcmp] at HCM ⊢
   have HKC:=Lib.hid hcmp
   clear hcmp
   cases cmp with
   | true =>
     rw [if_pos rfl]
     cases ea with
     | false =>
       go_enter Tryz.func261,Tryz.ntmps261
       go_wp2_with (first
        | (go_at_call 140;refine (HCM.out _).mono ?_;rintro e w2 ⟨rfl,rfl⟩)
        | (go_at_call 141;refine (HA.out _ HB.out).mono ?_;rintro e w3 ⟨rfl,hb3⟩;have HB3:=Lib.hid (HB.out.chain hb3);have hc:=kept_box hb3 HX.out;obtain ⟨y1,y2,y3,y4,y5,y6,y7,y8,y9⟩:=box10 hc;have hrr:=HRR.out.stay HB3.out HRR.out.lt;have s0:=hrr.c0;have s1:=hrr.c1;have s2:=hrr.c2;clear hb3 hrr;have HX3:=Lib.hid hc;clear hc)
        )
       go_ret
       exact ⟨rfl,HB3.out⟩
     | true =>
       cases eb with
       | false =>
         go_enter Tryz.func261,Tryz.ntmps261
         go_wp2_with (first
          | (go_at_call 140;refine (HCM.out _).mono ?_;rintro e w2 ⟨rfl,rfl⟩)
          | (go_at_call 141;refine (HA.out _ HB.out).mono ?_;rintro e w3 ⟨rfl,hb3⟩;have HB3:=Lib.hid (HB.out.chain hb3);have hc:=kept_box hb3 HX.out;obtain ⟨y1,y2,y3,y4,y5,y6,y7,y8,y9⟩:=box10 hc;have hrr:=HRR.out.stay HB3.out HRR.out.lt;have s0:=hrr.c0;have s1:=hrr.c1;have s2:=hrr.c2;clear hb3 hrr;have HX3:=Lib.hid hc;clear hc)
          | (go_at_call 141;refine (HC.out w3 HB3.out).mono ?_;rintro e w4 ⟨rfl,hb4⟩;have HB4:=Lib.hid (HB3.out.chain hb4);have hc:=kept_box hb4 HX3.out;have y99:=cell_of_block hc 9 (v:=.slice Al l.length cl) rfl;clear hb4 hc)
          )
         go_ret
         exact ⟨rfl,HB4.out⟩
       | true =>
         go_enter Tryz.func261,Tryz.ntmps261
         go_wp2_with (first
          | (go_at_call 140;refine (HCM.out _).mono ?_;rintro e w2 ⟨rfl,rfl⟩)
          | (go_at_call 141;refine (HA.out _ HB.out).mono ?_;rintro e w3 ⟨rfl,hb3⟩;have HB3:=Lib.hid (HB.out.chain hb3);have hc:=kept_box hb3 HX.out;obtain ⟨y1,y2,y3,y4,y5,y6,y7,y8,y9⟩:=box10 hc;have hrr:=HRR.out.stay HB3.out HRR.out.lt;have s0:=hrr.c0;have s1:=hrr.c1;have s2:=hrr.c2;clear hb3 hrr;have HX3:=Lib.hid hc;clear hc)
          | (go_at_call 141;refine (HC.out w3 HB3.out).mono ?_;rintro e w4 ⟨rfl,hb4⟩;have HB4:=Lib.hid (HB3.out.chain hb4);have hc:=kept_box hb4 HX3.out;have y99:=cell_of_block hc 9 (v:=.slice Al l.length cl) rfl;clear hb4 hc)
          )
         go_ret
         exact ⟨rfl,HB4.out⟩
   | false =>
     rw [if_neg Bool.false_ne_true]
     by_cases k5 : k = 5
     ·subst k5
      rw [if_pos rfl]
      go_enter Tryz.func261,Tryz.ntmps261
      go_wp2_with (first
       | (go_at_call 140;refine (HCM.out _).mono ?_;rintro e w2 ⟨rfl,rfl⟩)
       | (go_at_call 262;refine (HO1.out _ (Below.refl _ _)).mono ?_;rintro e w3 ⟨rfl,hb3⟩;have HB3:=Lib.hid hb3;clear hb3)
       )
      go_ret
      exact ⟨rfl,HB3.out⟩
     rw [if_neg k5]
     by_cases k6 : k = 6
     ·subst k6
      rw [if_pos (Or.inl rfl)]
      go_enter Tryz.func261,Tryz.ntmps261
      go_wp2_with (first
       | (go_at_call 140;refine (HCM.out _).mono ?_;rintro e w2 ⟨rfl,rfl⟩)
       | (go_at_call 262;refine (HO2.out _ (Below.refl _ _)).mono ?_;rintro e w3 ⟨rfl,hb3⟩;have HB3:=Lib.hid hb3;clear hb3)
       )
      go_ret
      exact ⟨rfl,HB3.out⟩
     by_cases k7 : k = 7
     ·subst k7
      rw [if_pos (Or.inr rfl)]
      go_enter Tryz.func261,Tryz.ntmps261
      go_wp2_with (first
       | (go_at_call 140;refine (HCM.out _).mono ?_;rintro e w2 ⟨rfl,rfl⟩)
       | (go_at_call 262;refine (HO2.out _ (Below.refl _ _)).mono ?_;rintro e w3 ⟨rfl,hb3⟩;have HB3:=Lib.hid hb3;clear hb3)
       )
      go_ret
      exact ⟨rfl,HB3.out⟩
     rw [if_neg (by rintro (h | h);exact k6 h;exact k7 h)]
     go_enter Tryz.func261,Tryz.ntmps261
     go_wp2_with (first
      | (go_at_call 140;refine (HCM.out _).mono ?_;rintro e w2 ⟨rfl,rfl⟩)
      )
     go_ret
     exact ⟨rfl,HB.out⟩
theorem rcond_any (fv : Nat) (var : List UInt8 → Bool) (hv : VarOk fv var) (nu ex : Int) (h0 : 0 ≤ nu) (h1 : nu ≤ 4611686018427387904) (k ak an : Int) (sa : List UInt8) (al : List Ex) (bk bn : Int) (sb : List UInt8) (bl : List Ex) (l : List Cn) (Aa : Option Addr) (ca : Nat) (Ab : Option Addr) (cb : Nat) (Al : Option Addr) (cl : Nat) (w : World)
 (ra : ExRow w w.heap.size al Aa) (rb : ExRow w w.heap.size bl Ab) (rl : CnRow w w.heap.size l Al) (b1 : sa.length ≤ maxLen) (b2 : al.length ≤ maxLen) (b3 : sb.length ≤ maxLen) (b4 : bl.length ≤ maxLen) (b5 : l.length ≤ maxLen) :
 Calls Tryz.prog 230 #[rulesV fv nu ex,condV2 k ak an ⟨sa.toArray⟩ (.slice Aa al.length ca) bk bn ⟨sb.toArray⟩ (.slice Ab bl.length cb) (.slice Al l.length cl)] w fun e w' => e = .returned (.bool (vC var nu 30 (.mk k (.mk ak an sa al) (.mk bk bn sb bl) l))) ∧ Below w.heap.size w w':=by
 obtain ⟨W1,hW1⟩ : ∃ W1,W1 = (w.alloc (rulesC fv nu ex)).alloc (condC2 k ak an ⟨sa.toArray⟩ (.slice Aa al.length ca) bk bn ⟨sb.toArray⟩ (.slice Ab bl.length cb) (.slice Al l.length cl)):=⟨_,rfl⟩
 have HB : Hid (Below w.heap.size w W1):=Lib.hid (by rw [hW1];exact (below_alloc w _).chain (below_alloc _ _))
 have HC : Hid (Calls Tryz.prog 261 #[condV2 k ak an ⟨sa.toArray⟩ (.slice Aa al.length ca) bk bn ⟨sb.toArray⟩ (.slice Ab bl.length cb) (.slice Al l.length cl),.pointer (some ⟨W1.heap.size + 1,0,none⟩),.pointer (some ⟨W1.heap.size,0,none⟩)] ((W1.alloc (rulesC fv nu ex)).alloc (.cells #[.int .i64 30] 3)).drew fun e w' => e = .returned (.bool (vC var nu 30 (.mk k (.mk ak an sa al) (.mk bk bn sb bl) l))) ∧ Below W1.heap.size W1 w'):=Lib.hid (by
  have hb3 : Below W1.heap.size W1 ((W1.alloc (rulesC fv nu ex)).alloc (.cells #[.int .i64 30] 3)).drew:=((below_alloc W1 _).chain (below_alloc _ _)).drew
  have hz : ((W1.alloc (rulesC fv nu ex)).alloc (.cells #[.int .i64 30] 3)).drew.heap.size = W1.heap.size + 2:=(size_of_alloc _ _).trans (congrArg (· + 1) (size_of_alloc _ _))
  have hb4:=HB.out.chain hb3
  exact (cw_any fv var hv nu ex h0 h1 30 (by omega) k ak an sa al bk bn sb bl l Aa ca Ab cb Al cl W1.heap.size (W1.heap.size + 1) _ (rulesAt_new W1 fv nu ex 30).drewn (by omega) (depth_new W1 _ 30) ((ra.stay hb4 (Nat.le_refl _)).more hb4.size) ((rb.stay hb4 (Nat.le_refl _)).more hb4.size) ((rl.stay hb4 (Nat.le_refl _)).more hb4.size) b1 b2 b3 b4 b5).mono fun e w' ⟨he,hb⟩ => ⟨he,hb3.chain hb⟩)
 have HX : Hid (∀ fv nu ex dd W,Calls Tryz.prog 251 #[rulesV fv nu ex,.int .i64 dd] W fun e w' =>
  e = .returned (.func (.func 261) #[] #[.pointer (some ⟨W.heap.size + 1,0,none⟩),.pointer (some ⟨W.heap.size,0,none⟩)]) ∧ w' = (W.alloc (rulesC fv nu ex)).alloc (.cells #[.int .i64 dd] 3)):=Lib.hid cond_within
 have he162:=enters162
 generalize vC var nu 30 (.mk k (.mk ak an sa al) (.mk bk bn sb bl) l) = res at *
 have q1:=heap_keep (o:=condC2 k ak an ⟨sa.toArray⟩ (.slice Aa al.length ca) bk bn ⟨sb.toArray⟩ (.slice Ab bl.length cb) (.slice Al l.length cl)) (heap_of_alloc w (rulesC fv nu ex))
 have q2:=heap_of_alloc (w.alloc (rulesC fv nu ex)) (condC2 k ak an ⟨sa.toArray⟩ (.slice Aa al.length ca) bk bn ⟨sb.toArray⟩ (.slice Ab bl.length cb) (.slice Al l.length cl))
 rw [size_of_alloc] at q2
 rw [← hW1] at q1 q2
 have HQ:=Lib.hid (And.intro q1 q2)
 have c0:=cell_of_block q1 0 rfl
 have c1:=cell_of_block q1 1 rfl
 have c2:=cell_of_block q1 2 rfl
 have d0:=cell_of_block q2 0 (v:=.int .i64 k) rfl
 obtain ⟨d1,d2,d3,d4,d5,d6,d7,d8,d9⟩:=box10 q2
 unfold maxLen at b1 b2 b3 b4 b5
 clear ra rb rl hv q1 q2 h0 h1
 go_enter Tryz.func230,Tryz.ntmps230
 go_wp2
 rw [← hW1]
 clear hW1
 go_region_held3 (fun W => W.cell? ⟨w.heap.size,0,none⟩ = some (.func (.func fv) #[] #[]) ∧ W.cell? ⟨w.heap.size,1,none⟩ = some (.int .i64 nu) ∧ W.cell? ⟨w.heap.size,2,none⟩ = some (.int .i64 ex) ∧ W.cell? ⟨w.heap.size + 1,0,none⟩ = some (.int .i64 k) ∧
  W.cell? ⟨w.heap.size + 1,1,none⟩ = some (.int .i64 ak) ∧ W.cell? ⟨w.heap.size + 1,2,none⟩ = some (.int .i64 an) ∧ W.cell? ⟨w.heap.size + 1,3,none⟩ = some (.string ⟨sa.toArray⟩) ∧ W.cell? ⟨w.heap.size + 1,4,none⟩ = some (.slice Aa al.length ca) ∧ W.cell? ⟨w.heap.size + 1,5,none⟩ = some (.int .i64 bk) ∧ W.cell? ⟨w.heap.size + 1,6,none⟩ = some (.int .i64 bn) ∧ W.cell? ⟨w.heap.size + 1,7,none⟩ = some (.string ⟨sb.toArray⟩) ∧ W.cell? ⟨w.heap.size + 1,8,none⟩ = some (.slice Ab bl.length cb) ∧ W.cell? ⟨w.heap.size + 1,9,none⟩ = some (.slice Al l.length cl))
  (first | go_keep | (trace_state;fail))
  (first
    | (go_at_call 251;refine (HX.out _ _ _ _ _).mono ?_;rintro e w2 ⟨rfl,rfl⟩)
    | (go_at_call 261;refine HC.out.mono ?_;rintro e w3 ⟨rfl,hb3⟩;have HB3:=Lib.hid hb3;have q1:=(hb3.block _ (Array.getElem?_eq_some_iff.1 HQ.out.1).1).trans HQ.out.1;have q2:=(hb3.block _ (Array.getElem?_eq_some_iff.1 HQ.out.2).1).trans HQ.out.2;clear hb3;have g0:=cell_of_block q1 0 rfl;have g1:=cell_of_block q1 1 rfl;have g2:=cell_of_block q1 2 rfl;have g3:=cell_of_block q2 0 (v:=.int .i64 k) rfl;obtain ⟨y1,y2,y3,y4,y5,y6,y7,y8,y9⟩:=box10 q2;clear q1 q2))
 all_goals go_wp2
 all_goals go_ret
 all_goals exact ⟨rfl,HB.out.chain HB3.out⟩
end Go.Proofs.YtojjfdegkooknaaGreatDoor
