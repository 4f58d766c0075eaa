/-
  equalList at each type, the others; the reference's loops.
-/
import Derived.Test.YtnkpgpmaiicdeaaGreatDoorSTreeQa
set_option linter.unusedVariables false
set_option linter.unusedSimpArgs false
namespace Go.Proofs.YtnkpgpmaiicdeaaGreatDoor
set_option maxRecDepth 100000
set_option maxHeartbeats 8000000
open Go.RowKit
theorem eql_Stmt {α : Type} (V : World → Nat → Array Value → α → Prop) (hV : KeepsV V) (R : α → α → Prop) (G : Nat) (hG : ∀ args w,(callFunc G args).run Tryz.prog w = .ok (.enter G args) w) (l m : List α) (hE : ∀ x y,x ∈ l → y ∈ m → EqAt G V R x y)
 (A B : Option Addr) (ca cb : Nat) (w : World) (hl : l.length ≤ maxLen) (_hm : m.length ≤ maxLen) (hA : RowV V 24 w w.heap.size l A) (hB : RowV V 24 w w.heap.size m B) (r : Bool) (hr : r = true ↔ All2 R l m) :
 Calls Tryz.prog 31 #[.slice A l.length ca,.slice B m.length cb,.func (.func G) #[] #[]] w fun e w' => e = .returned (.bool r) ∧ Below w.heap.size w w':=by
 obtain ⟨T,N,hT,hN,hag,hsz⟩:=hid_Stmt
 have e1 : ∀ y : Operand,Op.load 40 y = Op.load T y:=fun y => by rw [hT]
 have HB0:=Lib.hid (Below.refl w.heap.size w)
 by_cases hlen : l.length = m.length
 ·obtain ⟨n,hnn⟩ : ∃ n,n = l.length:=⟨_,rfl⟩
  have HH:=Lib.hid (And.intro hA (And.intro hB (And.intro hE (And.intro hr (And.intro hnn (hnn.trans hlen))))))
  have HN:=Lib.hid hN
  rw [← hlen,← hnn]
  rw [← hnn] at hl
  unfold maxLen at hl
  clear hA hB hE hr hnn hlen _hm hN
  go_enter Tryz.func31,Tryz.ntmps31
  simp only [e1]
  clear e1 hT
  go_wp2
  go_loopg [15] n (fun mm j wr => ∃ k : Nat,mm = n - k ∧ k ≤ n ∧ j = .int .i64 k ∧ Hid (Below w.heap.size w wr ∧ ∀ (i : Nat) x y,i < k → l[i]? = some x → m[i]? = some y → R x y))
  case atStart => exact ⟨0,rfl,Nat.zero_le _,rfl,Lib.hid ⟨HB0.out,fun i x y h => absurd h (Nat.not_lt_zero _)⟩⟩
  case round =>
   obtain ⟨k,rfl,hk,rfl,HI⟩:=hrel
   by_cases hlt : k < n
   ·have hki : (k : Int) < n:=by omega
    obtain ⟨x,hx⟩ : ∃ x,l[k]? = some x:=⟨l[k]'(by rw [← HH.out.2.2.2.2.1];exact hlt),List.getElem?_eq_getElem _⟩
    obtain ⟨y,hy⟩ : ∃ y,m[k]? = some y:=⟨m[k]'(by rw [← HH.out.2.2.2.2.2];exact hlt),List.getElem?_eq_getElem _⟩
    obtain ⟨a,cs,rfl,hab,hcs,hca,hvx⟩:=HH.out.1 k x hx
    obtain ⟨b,ds,rfl,hbb,hds,hcb,hvy⟩:=HH.out.2.1 k y hy
    obtain ⟨ok,hok⟩:=boolOf (R x y)
    obtain ⟨S,hS⟩ : ∃ S : World → Prop,S = fun W => Below wr.heap.size wr W:=⟨_,rfl⟩
    have HS2 : Hid (∀ W,Below wr.heap.size wr W → S W):=Lib.hid (fun W hb => by rw [hS];exact hb)
    have HLD : Hid (∀ W,S W → (loadCellsFrom (a.add (k * 24)) 0 N #[]).run Tryz.prog W = .ok cs W ∧ (loadCellsFrom (b.add (k * 24)) 0 N #[]).run Tryz.prog W = .ok ds W):=Lib.hid (fun W hs => by
     rw [hS] at hs
     have hb:=HI.out.1.chain hs
     exact ⟨load_list (fun j v hv => (hb.cell (by rw [block_adds,block_adds];exact hab)).trans (hca j v hv)) (hcs.trans HN.out.symm),load_list (fun j v hv => (hb.cell (by rw [block_adds,block_adds];exact hbb)).trans (hcb j v hv)) (hds.trans HN.out.symm)⟩)
    have HCC : Hid (BC wr G #[.agg cs,.agg ds] ok):=Lib.hid (fun W hb => by
     have hbw:=HI.out.1.chain hb
     exact HH.out.2.2.1 x y (List.mem_of_getElem? hx) (List.mem_of_getElem? hy) cs ds W ok (hV _ _ _ _ _ _ (fun q hq => hbw.cell hq) hbw.size hvx) (hV _ _ _ _ _ _ (fun q hq => hbw.cell hq) hbw.size hvy) hok)
    have HXY:=Lib.hid (And.intro hx (And.intro hy hok))
    have HLT:=Lib.hid (And.intro trivial hlt)
    have HX0:=Lib.hid (Below.refl wr.heap.size wr).drew
    have hmx : Tryz.prog.follows .mixedOrders = true:=by kernel_rfl
    clear hx hy hok hvx hvy hca hcb hcs hds hab hbb hS
    go_wp2
    refine wp_region_held (S:=S) hmx ?_
    change wpAnyH _ _ _ _ _ 11 #[false,false,false,false,false,false,false,false,false,false,false] _ wr.drew
    have g0:=HS2.out _ HX0.out
    refine tk 0 18 (.func (.func G) #[] #[]) g0 ?v ?_
    case v => intro Wx hSx;go_simp
    refine tk 1 19 (.slice (some a) n ca) g0 ?v ?_
    case v => intro Wx hSx;go_simp
    refine tk 2 20 (.int .i64 k) g0 ?v ?_
    case v => intro Wx hSx;go_simp
    refine tk 3 21 (.pointer (some (a.add (k * 24)))) g0 ?v ?_
    case v => intro Wx hSx;go_simp
    try simp only [Act.put,List.setIfInBounds_toArray,List.set_cons_zero,List.set_cons_succ]
    refine tk 4 22 (.agg cs) g0 ?v ?_
    case v => intro Wx hSx;have q0:=(HLD.out Wx hSx).1;go_simp
    refine tk 5 23 (.slice (some b) n cb) g0 ?v ?_
    case v => intro Wx hSx;go_simp
    refine tk 6 24 (.int .i64 k) g0 ?v ?_
    case v => intro Wx hSx;go_simp
    refine tk 7 25 (.pointer (some (b.add (k * 24)))) g0 ?v ?_
    case v => intro Wx hSx;go_simp
    try simp only [Act.put,List.setIfInBounds_toArray,List.set_cons_zero,List.set_cons_succ]
    refine tk 8 26 (.agg ds) g0 ?v ?_
    case v => intro Wx hSx;have q0:=(HLD.out Wx hSx).2;go_simp
    refine o1 9 (fun K hK => ?_)
    go_simp
    refine (HCC.out _ HX0.out).mono ?_
    rintro e w1 ⟨rfl,hb⟩
    have HX1:=Lib.hid (HX0.out.chain hb)
    clear hb
    have g1:=HS2.out _ HX1.out
    refine hK _ _ g1 ?_
    clear hK K g0
    refine tk 10 28 (.bool (!ok)) g1 ?v ?_
    case v => intro Wx hSx;go_simp
    refine wpAnyH_done (by kernel_rfl) ?_ _
    go_wp2
    ·rename_i hf
     go_ret
     refine ⟨?_,HI.out.1.chain HX1.out⟩
     have hok : ok = false:=by simpa using hf
     have hrf : r = false:=by
      cases r with
      | false => rfl
      | true => exact absurd (HXY.out.2.2.2 ((HH.out.2.2.2.1.1 rfl).2 k x y HXY.out.1 HXY.out.2.1)) (by rw [hok];exact Bool.false_ne_true)
     rw [hrf]
     rfl
    ·rename_i hf
     have hok : ok = true:=by simpa using hf
     go_roundg (n - (k + 1))
     case measure => have := HLT.out.2;omega
     case rel =>
      refine ⟨k + 1,rfl,(by have := HLT.out.2;omega),by go_num,Lib.hid ⟨HI.out.1.chain HX1.out,fun i x' y' hi hx' hy' => ?_⟩⟩
      by_cases h : i = k
      ·subst h
       obtain rfl:=Option.some.inj (HXY.out.1.symm.trans hx')
       obtain rfl:=Option.some.inj (HXY.out.2.1.symm.trans hy')
       exact HXY.out.2.2.1 hok
      ·exact HI.out.2 i x' y' (by omega) hx' hy'
   ·obtain rfl : k = n:=by omega
    go_wp2
    go_ret
    refine ⟨?_,HI.out.1⟩
    have hrt : r = true:=HH.out.2.2.2.1.2 ⟨HH.out.2.2.2.2.1.symm.trans HH.out.2.2.2.2.2,fun i x y hx hy => HI.out.2 i x y (by have h1:=(List.getElem?_eq_some_iff.1 hx).1;have h2:=HH.out.2.2.2.2.1;omega) hx hy⟩
    rw [hrt]
    rfl
 ·have hrf : r = false:=by
   cases r with
   | false => rfl
   | true => exact absurd (hr.1 rfl).1 hlen
  subst hrf
  obtain ⟨n1,h1⟩ : ∃ n1,n1 = l.length:=⟨_,rfl⟩
  obtain ⟨n2,h2⟩ : ∃ n2,n2 = m.length:=⟨_,rfl⟩
  rw [← h1] at hl hlen ⊢
  rw [← h2] at _hm hlen ⊢
  clear h1 h2 hA hB hE hr
  have hne : ¬ (n1 : Int) = n2:=by omega
  unfold maxLen at hl _hm
  go_enter Tryz.func31,Tryz.ntmps31
  simp only [e1]
  clear e1 hT hN
  go_wp2
  go_ret
  exact ⟨rfl,HB0.out⟩
end Go.Proofs.YtnkpgpmaiicdeaaGreatDoor
