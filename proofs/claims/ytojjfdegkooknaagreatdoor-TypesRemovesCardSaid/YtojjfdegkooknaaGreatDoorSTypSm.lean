import Derived.Test.YtojjfdegkooknaaGreatDoorSTypN
import Derived.Test.YtojjfdegkooknaaGreatDoorSTreeV
import Derived.Test.YtojjfdegkooknaaGreatDoorSTreeMo
set_option linter.unusedVariables false
set_option linter.unusedSimpArgs false
namespace Go.Proofs.YtojjfdegkooknaaGreatDoor
section
set_option maxRecDepth 100000
set_option maxHeartbeats 8000000
open Go.RowKit
open Go.Maps (Keyed)
def xR (D : DataW Unit) (l : List (List UInt8)) : DataW Unit:=l.foldl (fun D s => D.put (.string s) (.lit (.bool true))) D
theorem qgL (D : DataW Unit) (l m : List (List UInt8)) : xR D (l ++ m) = xR (xR D l) m:=by
 unfold xR
 rw [List.foldl_append]
theorem qib (l : List Ex) (i : Nat) (x : Ex) (h : l[i]? = some x) : (qF (l.take i)).length + (zr x).length <= (qF l).length:=by
 have e : l = l.take (i + 1) ++ l.drop (i + 1):=(List.take_append_drop ..).symm
 have h2 : (qF l).length = (qF (l.take (i + 1))).length + (qF (l.drop (i + 1))).length:=by
  conv => lhs;rw [e,qck,List.length_append]
 rw [h2,qdG l i x h,List.length_append]
 omega
theorem qoH {w W : World} {b B : Nat} (h : w.grownBy W (some b)) {q : Addr} (hq : q.block < B) (hB : B <= b) (hb : b < w.heap.size) : W.cell? q = w.cell? q :=
 World.cell?_of_block (w:=w) (h.block _ (by omega) (by intro h2;injection h2 with h2;omega))
theorem qgU {w : World} {o : Obj} {q : Addr} (h : q.block < w.heap.size) : (w.alloc o).cell? q = w.cell? q:=(qd w o).cell h
theorem qno : ∀ (M : Nat) (l : List Ex),SizeOf.sizeOf l < M -> ∀ (k nn : Int) (s : List UInt8) (A : Option Addr) (c b n B : Nat) (D : DataW Unit) (w : World),ExRow w B l A -> B <= b -> zn w b n D -> s.length <= maxLen -> l.length <= maxLen -> n + (zr (.mk k nn s l)).length < maxLen ->
 Calls Tryz.prog 181 #[zG k nn ⟨s.toArray⟩ (.slice A l.length c),.map (some b)] w fun e w' => e = .returned (.tuple #[]) /\ zn w' b (n + (zr (.mk k nn s l)).length) (xR D (zr (.mk k nn s l))) /\ w.grownBy w' (some b):=by
 intro M
 induction M with
 | zero => intro l h;omega
 | succ M ih =>
   intro l hM k nn s A c b n B D w hr hBb hO hs hl hcnt
   obtain ⟨z,hz⟩ : ∃ z,z = l.length:=⟨_,rfl⟩
   rw [<- hz] at hl ⊢
   have qB:=hO.lt
   have ih2 : ∀ l0 : List Ex,SizeOf.sizeOf l0 < M -> ∀ (k nn : Int) (s : List UInt8) (A : Option Addr) (c b n B : Nat) (D : DataW Unit) (w : World),ExRow w B l0 A -> B <= b -> zn w b n D -> s.length <= maxLen -> l0.length <= maxLen -> n + (zr (.mk k nn s l0)).length < maxLen ->
    Calls Tryz.prog 181 #[zG k nn ⟨s.toArray⟩ (.slice A l0.length c),.map (some b)] w fun e w' => e = .returned (.tuple #[]) /\ zn w' b (n + (zr (.mk k nn s l0)).length) (xR D (zr (.mk k nn s l0))) /\ w.grownBy w' (some b):=ih
   have HO:=hZ (hO.alloc (zg k nn ⟨s.toArray⟩ (.slice A z c)))
   have HG:=hZ (World.grownBy_alloc w (zg k nn ⟨s.toArray⟩ (.slice A z c)) (some b))
   have HB:=hZ (qe w (zg k nn ⟨s.toArray⟩ (.slice A z c)))
   have zN : w.heap.size ≠ b:=by omega
   unfold maxLen at hl
   by_cases h2 : k = 2
   ·subst h2
    have hv : zr (.mk 2 nn s l) = s :: qF l:=by rw [zr,if_pos rfl];rfl
    rw [hv] at hcnt ⊢
    have HK:=hZ (Go.WideMaps.keyOf_string_mk Tryz.underlying9 (s:=⟨s.toArray⟩) hs)
    have yS : n < maxLen:=by omega
    obtain ⟨n1,jZ⟩ : ∃ n1,n1 = n + 1:=⟨_,rfl⟩
    obtain ⟨D1,hD1⟩ : ∃ D1 : DataW Unit,D1 = D.put (.string s) (.lit (.bool true)):=⟨_,rfl⟩
    have HD1:=hZ hD1
    have HF : Hid (∀ (w' : World),zn w' b (n1 + (qF l).length) (xR D1 (qF l)) = zn w' b (n + (s :: qF l).length) (xR D (s :: qF l))):=hZ (fun w' => by rw [jZ,hD1,List.length_cons,show n + 1 + (qF l).length = n + ((qF l).length + 1) by omega];rfl)
    have qh0 : n1 + (qF l).length < maxLen:=by rw [List.length_cons] at hcnt;omega
    have HH:=hZ (aZ hr (aZ hz (aZ (show SizeOf.sizeOf l < M + 1 from hM) (aZ ih2 (aZ qh0 (aZ hBb (aZ qB trivial)))))))
    have HN1:=hZ jZ
    clear hr hBb hO hs hcnt hM ih ih2 hz hv qh0 hD1 jZ qB
    go_enter Tryz.func181,Tryz.ntmps181
    go_wp2_with (at_mapUpdate;refine wpList_mapUpdate_own _ rfl _ _ _ 183 rfl 9 4 (Keyed.of_law (Go.WideMaps.string_law Tryz.underlying9)) Tryz.underlying183 _ b _ _ rfl HO.out yS _ _ _ rfl rfl HK.out _ _ (Go.plainElem_bool Tryz.underlying4 true) ?_;intro wk qA hgr;have jm:=hZ qA;have HG2:=hZ (HG.out.trans hgr);have hB2:=(hgr.block w.heap.size (Array.getElem?_eq_some_iff.1 HB.out).1 (by simpa using zN)).trans HB.out;have c3:=qc hB2 3 (v:=.slice A z c) rfl;have f3:=zh hB2 3;clear qA hgr)
    have HS : Hid (w.grownBy wk (some b) /\ zn wk b (n1 + (qF (l.take 0)).length) (xR D1 (qF (l.take 0)))):=hZ ⟨HG2.out,by
     rw [HN1.out,HD1.out,List.take_zero]
     exact jm.out⟩
    clear hB2 zN yS
    go_loopg [15] z (fun mm j wr => ∃ i : Nat,mm = z - i /\ i <= z /\ j = .int .i64 i /\ Hid (w.grownBy wr (some b) /\ zn wr b (n1 + (qF (l.take i)).length) (xR D1 (qF (l.take i)))))
    case atStart => exact ⟨0,rfl,Nat.zero_le _,rfl,HS⟩
    case round =>
     obtain ⟨i,rfl,hi,rfl,HI⟩:=hrel
     have xj : (0 : Int) <= i:=by omega
     by_cases qB : i < z
     ·have hii : (i : Int) < z:=by omega
      obtain ⟨⟨k0,n0,s0,l0⟩,hg⟩ : ∃ x,l[i]? = some x:=⟨l[i]'(by rw [<- HH.out.2.1];exact qB),List.getElem?_eq_getElem _⟩
      have qhV : ∀ q : Addr,q.block < B -> wr.cell? q = w.cell? q:=fun q hq => qoH HI.out.1 hq HH.out.2.2.2.2.2.1 HH.out.2.2.2.2.2.2.1
      obtain ⟨a,A',c',rfl,qx,d0,d1,d2,d3,hs0,jT,qL⟩:=(HH.out.1.keep qhV (Nat.le_refl B)).at_ hg
      have e0 : wr.cell? (a.add (i * 4)) = some (.int .i64 k0):=d0
      have e1 : wr.cell? ⟨(a.add (i * 4)).block,(a.add (i * 4)).off + 1,none⟩ = some (.int .i64 n0):=d1
      have e2 : wr.cell? ⟨(a.add (i * 4)).block,(a.add (i * 4)).off + 2,none⟩ = some (.string ⟨s0.toArray⟩):=d2
      have e3 : wr.cell? ⟨(a.add (i * 4)).block,(a.add (i * 4)).off + 3,none⟩ = some (.slice A' l0.length c'):=d3
      obtain ⟨W6,qW⟩ : ∃ W6,W6 = wr.alloc (zg k0 n0 ⟨s0.toArray⟩ (.slice A' l0.length c')):=⟨_,rfl⟩
      have qK : SizeOf.sizeOf l0 < M:=by
       have q1:=List.sizeOf_lt_of_mem (List.mem_of_getElem? hg)
       have q2 : SizeOf.sizeOf l0 < SizeOf.sizeOf (Ex.mk k0 n0 s0 l0):=by simp;omega
       have q3:=HH.out.2.2.1
       omega
      have qf3 : n1 + (qF (l.take i)).length + (zr (.mk k0 n0 s0 l0)).length < maxLen:=by
       have q1:=qib l i _ hg
       have q2:=HH.out.2.2.2.2.1
       omega
      have hN6 : zn W6 b (n1 + (qF (l.take i)).length) (xR D1 (qF (l.take i))):=by rw [qW];exact HI.out.2.alloc _
      have qhR : ExRow W6 B l0 A':=qL.keep (fun q hq => by rw [qW];exact qgU (Nat.lt_trans (Nat.lt_of_lt_of_le hq HH.out.2.2.2.2.2.1) (Nat.lt_of_lt_of_le HH.out.2.2.2.2.2.2.1 HI.out.1.size))) (Nat.le_refl B)
      have HC:=hZ (HH.out.2.2.2.1 l0 qK k0 n0 s0 A' c' b _ B _ W6 qhR HH.out.2.2.2.2.2.1 hN6 hs0 jT qf3)
      have HJ : Hid (w.grownBy W6 (some b)):=hZ (by rw [qW];exact HI.out.1.trans (World.grownBy_alloc wr _ (some b)))
      have HX:=hZ hg
      clear hg qx d0 d1 d2 d3 hs0 jT qL qK qf3 hN6 qhR qhV
      go_wp2_with fail
      rw [<- qW]
      clear qW
      (with_reducible refine HC.out.mono ?_)
      rintro e w3 ⟨rfl,hN3,hg3⟩
      have H3 : Hid (w.grownBy w3 (some b) /\ zn w3 b (n1 + (qF (l.take (i + 1))).length) (xR D1 (qF (l.take (i + 1))))):=hZ ⟨HJ.out.trans hg3,by
       rw [qdG l i _ HX.out,List.length_append,qgL,<- Nat.add_assoc]
       exact hN3⟩
      clear hN3 hg3
      go_wp2
      go_roundg (z - (i + 1))
      case measure => omega
      case rel => exact ⟨i + 1,rfl,by omega,by go_num,H3⟩
     ·have hlt' : ¬ (i : Int) < z:=by omega
      obtain rfl : i = z:=by omega
      have h:=HI.out.2
      rw [List.take_of_length_le (by rw [HH.out.2.1];exact Nat.le_refl _)] at h
      have HE:=hZ h
      clear h
      go_wp2
      refine bodyPost_end (results_none rfl _ _ _) rfl ⟨rfl,?_,HI.out.1⟩
      exact (HF.out _) ▸ HE.out
   ·have hv : zr (.mk k nn s l) = qF l:=by rw [zr,if_neg h2];rfl
    rw [hv] at hcnt ⊢
    have h2' : (k == 2) = false:=beq_eq_false_iff_ne.2 h2
    obtain ⟨n1,jZ⟩ : ∃ n1,n1 = n:=⟨_,rfl⟩
    obtain ⟨D1,hD1⟩ : ∃ D1 : DataW Unit,D1 = D:=⟨_,rfl⟩
    have HF : Hid (∀ (w' : World),zn w' b (n1 + (qF l).length) (xR D1 (qF l)) = zn w' b (n + (qF l).length) (xR D (qF l))):=hZ (fun w' => by rw [jZ,hD1])
    have qh0 : n1 + (qF l).length < maxLen:=by omega
    have HH:=hZ (aZ hr (aZ hz (aZ (show SizeOf.sizeOf l < M + 1 from hM) (aZ ih2 (aZ qh0 (aZ hBb (aZ qB trivial)))))))
    have HS : Hid (w.grownBy (w.alloc (zg k nn ⟨s.toArray⟩ (.slice A z c))) (some b) /\ zn (w.alloc (zg k nn ⟨s.toArray⟩ (.slice A z c))) b (n1 + (qF (l.take 0)).length) (xR D1 (qF (l.take 0)))):=hZ ⟨HG.out,by
     rw [jZ,hD1,List.take_zero]
     exact HO.out⟩
    clear hr hBb hO hs hcnt hM ih ih2 hz hv qh0 hD1 jZ qB h2 zN
    go_enter Tryz.func181,Tryz.ntmps181
    go_wp2
    go_loopg [15] z (fun mm j wr => ∃ i : Nat,mm = z - i /\ i <= z /\ j = .int .i64 i /\ Hid (w.grownBy wr (some b) /\ zn wr b (n1 + (qF (l.take i)).length) (xR D1 (qF (l.take i)))))
    case atStart => exact ⟨0,rfl,Nat.zero_le _,rfl,HS⟩
    case round =>
     obtain ⟨i,rfl,hi,rfl,HI⟩:=hrel
     have xj : (0 : Int) <= i:=by omega
     by_cases qB : i < z
     ·have hii : (i : Int) < z:=by omega
      obtain ⟨⟨k0,n0,s0,l0⟩,hg⟩ : ∃ x,l[i]? = some x:=⟨l[i]'(by rw [<- HH.out.2.1];exact qB),List.getElem?_eq_getElem _⟩
      have qhV : ∀ q : Addr,q.block < B -> wr.cell? q = w.cell? q:=fun q hq => qoH HI.out.1 hq HH.out.2.2.2.2.2.1 HH.out.2.2.2.2.2.2.1
      obtain ⟨a,A',c',rfl,qx,d0,d1,d2,d3,hs0,jT,qL⟩:=(HH.out.1.keep qhV (Nat.le_refl B)).at_ hg
      have e0 : wr.cell? (a.add (i * 4)) = some (.int .i64 k0):=d0
      have e1 : wr.cell? ⟨(a.add (i * 4)).block,(a.add (i * 4)).off + 1,none⟩ = some (.int .i64 n0):=d1
      have e2 : wr.cell? ⟨(a.add (i * 4)).block,(a.add (i * 4)).off + 2,none⟩ = some (.string ⟨s0.toArray⟩):=d2
      have e3 : wr.cell? ⟨(a.add (i * 4)).block,(a.add (i * 4)).off + 3,none⟩ = some (.slice A' l0.length c'):=d3
      obtain ⟨W6,qW⟩ : ∃ W6,W6 = wr.alloc (zg k0 n0 ⟨s0.toArray⟩ (.slice A' l0.length c')):=⟨_,rfl⟩
      have qK : SizeOf.sizeOf l0 < M:=by
       have q1:=List.sizeOf_lt_of_mem (List.mem_of_getElem? hg)
       have q2 : SizeOf.sizeOf l0 < SizeOf.sizeOf (Ex.mk k0 n0 s0 l0):=by simp;omega
       have q3:=HH.out.2.2.1
       omega
      have qf3 : n1 + (qF (l.take i)).length + (zr (.mk k0 n0 s0 l0)).length < maxLen:=by
       have q1:=qib l i _ hg
       have q2:=HH.out.2.2.2.2.1
       omega
      have hN6 : zn W6 b (n1 + (qF (l.take i)).length) (xR D1 (qF (l.take i))):=by rw [qW];exact HI.out.2.alloc _
      have qhR : ExRow W6 B l0 A':=qL.keep (fun q hq => by rw [qW];exact qgU (Nat.lt_trans (Nat.lt_of_lt_of_le hq HH.out.2.2.2.2.2.1) (Nat.lt_of_lt_of_le HH.out.2.2.2.2.2.2.1 HI.out.1.size))) (Nat.le_refl B)
      have HC:=hZ (HH.out.2.2.2.1 l0 qK k0 n0 s0 A' c' b _ B _ W6 qhR HH.out.2.2.2.2.2.1 hN6 hs0 jT qf3)
      have HJ : Hid (w.grownBy W6 (some b)):=hZ (by rw [qW];exact HI.out.1.trans (World.grownBy_alloc wr _ (some b)))
      have HX:=hZ hg
      clear hg qx d0 d1 d2 d3 hs0 jT qL qK qf3 hN6 qhR qhV
      go_wp2_with fail
      rw [<- qW]
      clear qW
      (with_reducible refine HC.out.mono ?_)
      rintro e w3 ⟨rfl,hN3,hg3⟩
      have H3 : Hid (w.grownBy w3 (some b) /\ zn w3 b (n1 + (qF (l.take (i + 1))).length) (xR D1 (qF (l.take (i + 1))))):=hZ ⟨HJ.out.trans hg3,by
       rw [qdG l i _ HX.out,List.length_append,qgL,<- Nat.add_assoc]
       exact hN3⟩
      clear hN3 hg3
      go_wp2
      go_roundg (z - (i + 1))
      case measure => omega
      case rel => exact ⟨i + 1,rfl,by omega,by go_num,H3⟩
     ·have hlt' : ¬ (i : Int) < z:=by omega
      obtain rfl : i = z:=by omega
      have h:=HI.out.2
      rw [List.take_of_length_le (by rw [HH.out.2.1];exact Nat.le_refl _)] at h
      have HE:=hZ h
      clear h
      go_wp2
      refine bodyPost_end (results_none rfl _ _ _) rfl ⟨rfl,?_,HI.out.1⟩
      exact (HF.out _) ▸ HE.out
end
section
set_option maxRecDepth 100000
set_option maxHeartbeats 8000000
open Go.RowKit Go.Lib
abbrev qaN (s : List UInt8) : Value:=.string ⟨s.toArray⟩
theorem qlm (l : List Ex) (k : Nat) (x : Ex) (h : l[k]? = some x) : qH (l.take (k + 1)) = qH (l.take k) ++ qak x:=by
 unfold qH
 rw [List.take_add_one,h,List.flatMap_append]
 show _ ++ List.flatMap qak [x] = _
 rw [List.flatMap_cons,List.flatMap_nil,List.append_nil]
theorem qi2 : ∀ l : List Ex,(qH l).length <= l.length
 | [] => Nat.le_refl _
 | .mk k n s l0 :: l => by
   have h:=qi2 l
   unfold qH at *
   rw [List.flatMap_cons,List.length_append,List.length_cons]
   have h2 : (qak (.mk k n s l0)).length <= 1:=by
    show (if k = 2 then [s] else []).length <= 1
    split <;> simp
   omega
theorem qqf : (Tryz.prog.info? 9).map (fun i => (i.zero,i.size,i.bytes)) = some (some (.string ⟨#[]⟩),1,16):=by kernel_rfl
theorem qfL (l : List Ex) (A : Option Addr) (c n : Nat) (hn : n = l.length) (hm : n <= 1000000) (w : World) (hr : ExRow w w.heap.size l A) :
 Calls Tryz.prog 147 #[.slice A n c] w fun e w' => ∃ v,e = .returned v /\ w'.ownsRow w.heap.size 9 1 v (qH l).length ((qH l).map qaN) /\ Below w.heap.size w w':=by
 obtain ⟨i0,hi,hiz,his,yM⟩:=info_parts qqf
 have zt:=hZ (aZ hi (aZ hiz (aZ his yM)))
 have HH:=hZ (aZ hr (aZ hn trivial))
 have HO0:=hZ (World.ownsRow_nil w w.heap.size 9 1)
 clear hr hn hi hiz his yM
 go_enter Tryz.func147,Tryz.ntmps147
 go_wp2
 go_loopg [3,8] n (fun mm v3 j wr => ∃ i : Nat,mm = n - i /\ i <= n /\ j = .int .i64 i /\ Hid (Below w.heap.size w wr /\ wr.ownsRow w.heap.size 9 1 v3 (qH (l.take i)).length ((qH (l.take i)).map qaN)))
 case atStart => exact ⟨0,rfl,Nat.zero_le _,rfl,hZ ⟨Below.refl _ _,HO0.out⟩⟩
 case round =>
  obtain ⟨i,rfl,hi,rfl,HI⟩:=hrel
  have xj : (0 : Int) <= i:=by omega
  by_cases qB : i < n
  ·have hii : (i : Int) < n:=by omega
   obtain ⟨⟨k0,n0,s0,l0⟩,hg⟩ : ∃ x,l[i]? = some x:=⟨l[i]'(by rw [<- HH.out.2.1];exact qB),List.getElem?_eq_getElem _⟩
   obtain ⟨a,A',c',rfl,qx,d0,d1,d2,d3,hs0,jT,qL⟩:=(HH.out.1.on HI.out.1).at_ hg
   have e0 : wr.cell? (a.add (i * 4)) = some (.int .i64 k0):=d0
   have e1 : wr.cell? ⟨(a.add (i * 4)).block,(a.add (i * 4)).off + 1,none⟩ = some (.int .i64 n0):=d1
   have e2 : wr.cell? ⟨(a.add (i * 4)).block,(a.add (i * 4)).off + 2,none⟩ = some (.string ⟨s0.toArray⟩):=d2
   have e3 : wr.cell? ⟨(a.add (i * 4)).block,(a.add (i * 4)).off + 3,none⟩ = some (.slice A' l0.length c'):=d3
   have HX:=hZ (qlm l i _ hg)
   have HPL : Hid ((qH (l.take i)).length + 1 <= 1000000):=hZ (by
    have := qi2 (l.take i)
    have := List.length_take_le i l
    omega)
   have H6:=hZ (HI.out.1.alloc HI.out.1.size (zg k0 n0 ⟨s0.toArray⟩ (.slice A' l0.length c')))
   have HO6:=hZ (qy HI.out.2 (qd wr (zg k0 n0 ⟨s0.toArray⟩ (.slice A' l0.length c'))) (fun g hg => (qs HI.out.2 g hg).2))
   clear qx d0 d1 d2 d3 hs0 jT qL hg
   by_cases h2 : k0 = 2
   ·subst h2
    obtain ⟨W7,vX⟩ : ∃ W7,W7 = (wr.alloc (zg 2 n0 ⟨s0.toArray⟩ (.slice A' l0.length c'))).alloc (.cells #[.string ⟨s0.toArray⟩] 9):=⟨_,rfl⟩
    have H7 : Hid (Below w.heap.size w W7 /\ W7.ownsRow w.heap.size 9 1 u3 (qH (l.take i)).length ((qH (l.take i)).map qaN)):=hZ (by
     rw [vX]
     exact ⟨H6.out.alloc H6.out.size _,qy HO6.out (qd _ _) (fun g hg => (qs HO6.out g hg).2)⟩)
    have HR7 : Hid (qI W7 W7.heap.size 1 (some ⟨wr.heap.size + 1,0,none⟩) 1 [.string ⟨s0.toArray⟩]):=hZ ⟨rfl,fun _ => ⟨_,rfl,by rw [vX,World.size_alloc,World.size_alloc];exact Nat.lt_succ_self _,fun j u hu => by
     match j,hu with
     | 0,hu =>
       have h:=qe (wr.alloc (zg 2 n0 ⟨s0.toArray⟩ (.slice A' l0.length c'))) (.cells #[.string ⟨s0.toArray⟩] 9)
       rw [World.size_alloc,<- vX] at h
       exact qc h 0 hu
     | j + 1,hu => simp at hu⟩⟩
    obtain ⟨z,hz⟩ : ∃ z,z = (qH (l.take i)).length:=⟨_,rfl⟩
    rw [<- hz] at H7 HPL
    have HZ:=hZ hz
    clear hz
    go_wp2_with (at_builtin;rw [<- vX];refine qQ (o:=⟨some 19,_,_,_,_,_⟩) _ rfl _ _ 98 rfl w.heap.size 9 i0 _ 1 16 Tryz.underlying98 zt.out.1 zt.out.2.1 zt.out.2.2.1 zt.out.2.2.2 rfl (by decide) _ z ((qH (l.take i)).map qaN) rfl H7.out.2 W7.heap.size (some ⟨wr.heap.size + 1,0,none⟩) 1 _ [.string ⟨s0.toArray⟩] rfl HR7.out (fun u hu => by simp at hu;subst hu;rfl) (by unfold maxLen;have := HPL.out;omega) (by have := HPL.out;omega) H7.out.1.size ?_;intro v1 w3 o1 g1 _;have H8 : Hid (Below w.heap.size w w3 /\ w3.ownsRow w.heap.size 9 1 v1 (qH (l.take (i + 1))).length ((qH (l.take (i + 1))).map qaN)):=hZ ⟨H7.out.1.trans (zi H7.out.2 g1 H7.out.1.size),by rw [HX.out,List.map_append,List.length_append,<- HZ.out];exact o1⟩;clear o1 g1)
    go_roundg (n - (i + 1))
    case measure => omega
    case rel => exact ⟨i + 1,rfl,by omega,by go_num,H8⟩
   ·have h2' : (k0 == 2) = false:=beq_eq_false_iff_ne.2 h2
    have H8 : Hid (qH (l.take (i + 1)) = qH (l.take i)):=hZ (by
     rw [HX.out]
     show _ ++ (if k0 = 2 then [s0] else []) = _
     rw [if_neg h2,List.append_nil])
    clear h2
    go_wp2
    go_roundg (n - (i + 1))
    case measure => omega
    case rel => exact ⟨i + 1,rfl,by omega,by go_num,hZ ⟨H6.out,by rw [H8.out];exact HO6.out⟩⟩
  ·have hlt' : ¬ (i : Int) < n:=by omega
   obtain rfl : i = n:=by omega
   have h:=HI.out.2
   rw [List.take_of_length_le (by rw [HH.out.2.1];exact Nat.le_refl _)] at h
   have HE:=hZ h
   clear h
   go_wp2
   go_ret
   exact ⟨_,rfl,HE.out,HI.out.1⟩
end
section
open Go.RowKit Go.Lib Go.Maps
open Go.Sort
theorem qmO (l : List (List UInt8)) : xR (.map []) l = setOf (.lit (.bool true)) (l.map Lit.string):=by
 unfold xR setOf
 rw [List.foldl_map]
theorem qsm (l : List (List UInt8)) : ∀ x ∈ l.map Lit.string,WideAt.IsKeyLit x:=by
 intro x hx
 obtain ⟨y,_,rfl⟩:=List.mem_map.1 hx
 trivial
theorem qp2 (l : List (List UInt8)) (x : List UInt8) : Maps.has (xR (.map []) l) (.string x) = true ↔ x ∈ l:=by
 rw [qmO,has_setOf _ _ _ (qsm l),List.any_eq_true]
 constructor
 ·rintro ⟨y,hy,hs⟩
  obtain ⟨z,hz,rfl⟩:=List.mem_map.1 hy
  have e : z = x:=by simpa [Lit.sameKey] using hs
  exact e ▸ hz
 ·intro hx
  exact ⟨.string x,List.mem_map_of_mem hx,by simp [Lit.sameKey]⟩
theorem qn2 (l : List (List UInt8)) : Maps.size (xR (.map []) l) <= l.length:=by
 have : ∀ (l : List (List UInt8)) (D : DataW Unit),Tidy D -> Maps.size (xR D l) <= Maps.size D + l.length:=by
  intro l
  induction l with
  | nil => exact fun D _ => Nat.le_refl _
  | cons x l ih =>
    intro D hD
    have h1:=ih (D.put (.string x) (.lit (.bool true))) (hD.put (show WideAt.IsKeyLit (.string x) from trivial) _)
    have h2:=size_put (k:=.string x) hD (.lit (.bool true))
    show Maps.size (xR (D.put (.string x) (.lit (.bool true))) l) <= _
    rw [List.length_cons]
    split at h2 <;> omega
 have h:=this l (.map []) tidy_empty
 simpa [Maps.size] using h
theorem qlT {x p : Lit × DataW Unit} : ∀ {l : List (Lit × DataW Unit)},p ∈ DataW.insert x l -> p = x \/ p ∈ l
 | [],h => by
   unfold DataW.insert at h
   simpa using h
 | y :: l,h => by
   unfold DataW.insert at h
   split at h
   ·simpa using h
   ·rcases List.mem_cons.1 h with rfl | h
    ·exact .inr (List.mem_cons_self ..)
    ·rcases qlT h with h | h
     ·exact .inl h
     ·exact .inr (List.mem_cons_of_mem _ h)
theorem qn1 (l : List (List UInt8)) : ∃ es,xR (.map []) l = .map es /\ ∀ p ∈ es,∃ x,p.1 = Lit.string x:=by
 have : ∀ (l : List (List UInt8)) (es : List (Lit × DataW Unit)),(∀ p ∈ es,∃ x,p.1 = Lit.string x) -> ∃ es',xR (.map es) l = .map es' /\ ∀ p ∈ es',∃ x,p.1 = Lit.string x:=by
  intro l
  induction l with
  | nil => exact fun es h => ⟨es,rfl,h⟩
  | cons x l ih =>
    intro es h
    refine ih (DataW.insert (.string x,.lit (.bool true)) (es.filter fun p => !p.1.sameKey (.string x))) fun p hp => ?_
    rcases qlT hp with rfl | hp
    ·exact ⟨x,rfl⟩
    ·exact h p (List.mem_filter.1 hp).1
 exact this l [] (by simp)
theorem qn3 (l : List (List UInt8)) (x : List UInt8) : x ∈ strKeys (xR (.map []) l) ↔ x ∈ l:=by
 obtain ⟨es,he,hk⟩:=qn1 l
 rw [<- qp2 l x,he,has_eq,List.any_eq_true]
 show x ∈ es.map (fun p => strOf p.1) ↔ _
 rw [List.mem_map]
 constructor
 ·rintro ⟨p,hp,rfl⟩
  obtain ⟨a,ha⟩:=hk p hp
  exact ⟨p,hp,by rw [ha];simp [Lit.sameKey,strOf]⟩
 ·rintro ⟨p,hp,hs⟩
  obtain ⟨a,ha⟩:=hk p hp
  rw [ha] at hs
  exact ⟨p,hp,by rw [ha];simpa [Lit.sameKey,strOf] using hs⟩
theorem qqO {w : World} {B : Nat} {l : List Ex} {A : Option Addr} (h : ExRow w B l A) : ∀ x ∈ qF l,x.length <= maxLen:=by
 induction h with
 | nil A => intro x hx;rw [qF] at hx;simp at hx
 | row a es Ad C hb cells sub ih =>
   have : ∀ (m : List Ex),(∀ y ∈ m,∃ i : Nat,es[i]? = some y) -> ∀ x ∈ qF m,x.length <= maxLen:=by
    intro m
    induction m with
    | nil => intro _ x hx;rw [qF] at hx;simp at hx
    | cons y m ihm =>
      intro hm x hx
      rw [qF,List.mem_append] at hx
      rcases hx with hx | hx
      ·obtain ⟨i,hi⟩:=hm y (List.mem_cons_self ..)
       obtain ⟨k,n,s,l⟩:=y
       rw [zr,List.mem_append] at hx
       rcases hx with hx | hx
       ·split at hx
        ·obtain rfl : x = s:=by simpa using hx
         exact (cells i k n x l hi).2.2.2.2.1
        ·simp at hx
       ·exact ih i k n s l hi x hx
      ·exact ihm (fun z hz => hm z (List.mem_cons_of_mem _ hz)) x hx
   exact this es fun y hy => by
    obtain ⟨i,hi,he⟩:=List.getElem_of_mem hy
    exact ⟨i,by rw [List.getElem?_eq_getElem hi,he]⟩
theorem qsU {w : World} {B : Nat} {k n : Int} {s : List UInt8} {l : List Ex} {A : Option Addr} (h : ExRow w B l A) (hs : s.length <= maxLen) : ∀ x ∈ zr (.mk k n s l),x.length <= maxLen:=by
 intro x hx
 rw [zr,List.mem_append] at hx
 rcases hx with hx | hx
 ·split at hx
  ·obtain rfl : x = s:=by simpa using hx
   exact hs
  ·simp at hx
 ·exact qqO h x hx
theorem qg2 (k nn : Int) (s : List UInt8) (l : List Ex) (A : Option Addr) (c : Nat) (w : World) (hr : ExRow w w.heap.size l A) (hs : s.length <= maxLen) (hl : l.length <= maxLen) (hcnt : (zr (.mk k nn s l)).length <= 8000000000000) :
 Calls Tryz.prog 146 #[zG k nn ⟨s.toArray⟩ (.slice A l.length c)] w fun e w' => ∃ (v : Value) (m : List (List UInt8)) (B : Nat),e = .returned v /\ w.heap.size <= B /\ w'.ownsRow B 9 1 v m.length (m.map fun s => .string ⟨s.toArray⟩) /\ (∀ x,x ∈ m ↔ x ∈ zr (.mk k nn s l)) /\ (∀ x ∈ m,x.length <= maxLen) /\ Below w.heap.size w w':=by
 have qK:=qn2 (zr (.mk k nn s l))
 refine (qpF k nn ⟨s.toArray⟩ A l.length c (0 + (zr (.mk k nn s l)).length) (xR (.map []) (zr (.mk k nn s l))) w (by unfold maxLen;omega) (by omega) (fun W b hb qi hO => ?_)).mono ?_
 ·exact qno _ l (Nat.lt_succ_self _) k nn s A c b 0 w.heap.size (.map []) W (hr.keep (fun q hq => hb.cell hq) (Nat.le_refl _)) qi hO hs hl (by unfold maxLen;omega)
 ·rintro e w' ⟨v,ss,B,rfl,hp,hB,qL,_,hbl⟩
  have hm : ∀ x,x ∈ ss.mergeSort (fun x y => decide (x <= y)) ↔ x ∈ zr (.mk k nn s l):=fun x => by rw [List.mem_mergeSort,hp.mem_iff,qn3]
  refine ⟨v,ss.mergeSort (fun x y => decide (x <= y)),B,rfl,hB,?_,hm,fun x hx => qsU hr hs x ((hm x).1 hx),hbl⟩
  rw [List.length_mergeSort]
  exact qL
end
section
set_option maxRecDepth 100000
open Go.RowKit Go.Lib
section
variable {P : Program} {ops : Array Oper} {Q : Exit -> Act -> World -> Prop} {md : Region.Mode} {S : World -> Prop}
theorem qnz (i j m : Nat) {oi oj om : Oper} {k : Nat} {l : Array Bool} {a : Act} {w : World} (hr : Region.ready md ops l = [i,j,m]) (hoi : ops[i]? = some oi) (hoj : ops[j]? = some oj) (hom : ops[m]? = some om)
 (hwi : Region.wanted oi (yielded ops a.tmps) = true) (hwj : Region.wanted oj (yielded ops a.tmps) = true) (hwm : Region.wanted om (yielded ops a.tmps) = true)
 (hi : ∀ K : Act -> World -> Prop,(∀ a w,S w -> wpAnyH P md ops Q S k (l.setIfInBounds i true) a w -> K a w) -> Oper.wp P oi a w K Q)
 (hj : ∀ K : Act -> World -> Prop,(∀ a w,S w -> wpAnyH P md ops Q S k (l.setIfInBounds j true) a w -> K a w) -> Oper.wp P oj a w K Q)
 (hm : ∀ K : Act -> World -> Prop,(∀ a w,S w -> wpAnyH P md ops Q S k (l.setIfInBounds m true) a w -> K a w) -> Oper.wp P om a w K Q) : wpAnyH P md ops Q S (k + 1) l a w:=by
 refine ⟨fun h0 => (by rw [hr] at h0;cases h0),fun n hn => ?_⟩
 rw [hr] at hn
 simp only [List.mem_cons,List.not_mem_nil,or_false] at hn
 rcases hn with rfl | rfl | rfl
 ·unfold wpOp
  rw [hoi]
  show if Region.wanted oi (yielded ops a.tmps) = true then _ else _
  rw [if_pos hwi]
  exact .inl (hi _ (fun _ _ h1 h2 => ⟨h1,h2⟩))
 ·unfold wpOp
  rw [hoj]
  show if Region.wanted oj (yielded ops a.tmps) = true then _ else _
  rw [if_pos hwj]
  exact .inl (hj _ (fun _ _ h1 h2 => ⟨h1,h2⟩))
 ·unfold wpOp
  rw [hom]
  show if Region.wanted om (yielded ops a.tmps) = true then _ else _
  rw [if_pos hwm]
  exact .inl (hm _ (fun _ _ h1 h2 => ⟨h1,h2⟩))
end
def xe (w : World) (lo : Nat) (O : Option Nat) (A : Option Addr) (n : Nat) (l : List (List UInt8)) : Prop :=
 (n = l.length /\ n <= maxLen) /\ (∀ x ∈ l,x.length <= maxLen) /\ qI w w.heap.size 1 A n (l.map qaN) /\ (0 < n -> ∀ a,A = some a -> lo <= a.block /\ O ≠ some a.block)
theorem xe.grown {w w' : World} {lo : Nat} {O O' : Option Nat} {A : Option Addr} {n : Nat} {l : List (List UInt8)} (h : xe w lo O A n l) (hg : w.grownBy w' O) (ho : O' = O \/ O' = some w.heap.size) : xe w' lo O' A n l:=by
 obtain ⟨h1,h2,h3,h4⟩:=h
 refine ⟨h1,h2,⟨h3.1,fun hn => ?_⟩,fun hn a ha => ?_⟩
 ·obtain ⟨ad,hA,hb,hc⟩:=h3.2 hn
  have zN:=(h4 hn ad hA).2
  exact ⟨ad,hA,Nat.lt_of_lt_of_le hb hg.size,fun j u hu => (World.cell?_of_block (w:=w) (by rw [qbR];exact hg.block _ hb (fun e => zN e.symm))).trans (hc j u hu)⟩
 ·obtain ⟨q1,q2⟩:=h4 hn a ha
  refine ⟨q1,?_⟩
  rcases ho with rfl | rfl
  ·exact q2
  ·obtain ⟨ad,hA,hb,_⟩:=h3.2 hn
   obtain rfl : a = ad:=Option.some.inj (ha.symm.trans hA)
   intro e
   have := Option.some.inj e
   omega
theorem xe.on {w w' : World} {lo : Nat} {O : Option Nat} {A : Option Addr} {n : Nat} {l : List (List UInt8)} (h : xe w lo O A n l) (hb : Below w.heap.size w w') : xe w' lo O A n l :=
 ⟨h.1,h.2.1,(h.2.2.1.below hb).more hb.size,h.2.2.2⟩
theorem xe.of_own {w : World} {lo B : Nat} {O : Option Nat} {v : Value} {l : List (List UInt8)} (h : w.ownsRow B 9 1 v l.length (l.map qaN)) (hl : ∀ x ∈ l,x.length <= maxLen) (hB : lo <= B) (hO : ∀ g,O = some g -> g < B) : ∃ A c,v = .slice A l.length c /\ xe w lo O A l.length l:=by
 obtain ⟨A,c,rfl⟩:=yq h
 have qbj : l.length <= maxLen:=by
  rcases h.2 with ⟨_,h0⟩ | ⟨g,cap,cur,_,_,_,h1,h2,_⟩
  ·rw [h0];exact Nat.zero_le _
  ·exact Nat.le_trans h1 h2
 refine ⟨A,c,rfl,⟨rfl,qbj⟩,hl,qI.of_own h,fun hn a ha => ?_⟩
 obtain ⟨g,cap,hv,hg,_⟩:=h.form hn
 have hA : A = some ⟨g,0,none⟩:=by injection hv
 obtain rfl : a = ⟨g,0,none⟩:=Option.some.inj (ha.symm.trans hA)
 exact ⟨Nat.le_trans hB hg,fun e => Nat.lt_irrefl _ (Nat.lt_of_lt_of_le (hO _ e) hg)⟩
def qbS (w : World) (lo : Nat) (O : Option Nat) (s : Stp) (u v : Value) : Prop :=
 ∃ (A : Option Addr) (n c : Nat) (A2 : Option Addr) (n2 c2 : Nat) (l : List (List UInt8)),u = .slice A n c /\ v = .slice A2 n2 c2 /\ xe w lo O A n l /\ (∀ x,x ∈ l ↔ x ∈ s.nd) /\ xe w lo O A2 n2 s.ms
def yN (w : World) (lo : Nat) (O : Option Nat) (ss : List Stp) (xs : List Value) : Prop :=
 xs.length = ss.length * 2 /\ ∀ (i : Nat) (s : Stp),ss[i]? = some s -> ∃ u v,xs[i * 2]? = some u /\ xs[i * 2 + 1]? = some v /\ qbS w lo O s u v
theorem qbS.grown {w w' : World} {lo : Nat} {O O' : Option Nat} {s : Stp} {u v : Value} (h : qbS w lo O s u v) (hg : w.grownBy w' O) (ho : O' = O \/ O' = some w.heap.size) : qbS w' lo O' s u v:=by
 obtain ⟨A,n,c,A2,n2,c2,l,h1,h2,h3,h4,h5⟩:=h
 exact ⟨A,n,c,A2,n2,c2,l,h1,h2,h3.grown hg ho,h4,h5.grown hg ho⟩
theorem qbS.on {w w' : World} {lo : Nat} {O : Option Nat} {s : Stp} {u v : Value} (h : qbS w lo O s u v) (hb : Below w.heap.size w w') : qbS w' lo O s u v:=by
 obtain ⟨A,n,c,A2,n2,c2,l,h1,h2,h3,h4,h5⟩:=h
 exact ⟨A,n,c,A2,n2,c2,l,h1,h2,h3.on hb,h4,h5.on hb⟩
theorem yN.grown {w w' : World} {lo : Nat} {O O' : Option Nat} {ss : List Stp} {xs : List Value} (h : yN w lo O ss xs) (hg : w.grownBy w' O) (ho : O' = O \/ O' = some w.heap.size) : yN w' lo O' ss xs :=
 ⟨h.1,fun i s hs => by
   obtain ⟨u,v,h1,h2,h3⟩:=h.2 i s hs
   exact ⟨u,v,h1,h2,h3.grown hg ho⟩⟩
theorem yN.on {w w' : World} {lo : Nat} {O : Option Nat} {ss : List Stp} {xs : List Value} (h : yN w lo O ss xs) (hb : Below w.heap.size w w') : yN w' lo O ss xs :=
 ⟨h.1,fun i s hs => by
   obtain ⟨u,v,h1,h2,h3⟩:=h.2 i s hs
   exact ⟨u,v,h1,h2,h3.on hb⟩⟩
theorem yN.nil (w : World) (lo : Nat) (O : Option Nat) : yN w lo O [] []:=⟨rfl,fun i s h => by simp at h⟩
theorem yN.snoc {w : World} {lo : Nat} {O : Option Nat} {ss : List Stp} {xs : List Value} {s : Stp} {u v : Value} (h : yN w lo O ss xs) (hv : qbS w lo O s u v) : yN w lo O (ss ++ [s]) (xs ++ [u,v]):=by
 refine ⟨by rw [List.length_append,List.length_append,h.1];simp;omega,fun i t ht => ?_⟩
 have hx:=h.1
 by_cases hi : i < ss.length
 ·rw [List.getElem?_append_left hi] at ht
  obtain ⟨a,b,h1,h2,h3⟩:=h.2 i t ht
  exact ⟨a,b,by rw [List.getElem?_append_left (by omega)];exact h1,by rw [List.getElem?_append_left (by omega)];exact h2,h3⟩
 ·rw [List.getElem?_append_right (by omega)] at ht
  have h0 : i - ss.length = 0:=by
   have := (List.getElem?_eq_some_iff.1 ht).1
   simpa using this
  obtain rfl : i = ss.length:=by omega
  obtain rfl : s = t:=by simpa using ht
  refine ⟨u,v,?_,?_,hv⟩
  ·rw [List.getElem?_append_right (by omega),show ss.length * 2 - xs.length = 0 by omega];rfl
  ·rw [List.getElem?_append_right (by omega),show ss.length * 2 + 1 - xs.length = 1 by omega];rfl
theorem qnW (b : Addr) (n c : Nat) (h : 1 <= n) (W : World) : (Instr.slice 82 (.slice (some b) n c) (some (.int .i64 1)) none none).run Tryz.prog W = .ok (.slice (some (if c = 1 then b else b.add 4)) (n - 1) (c - 1)) W:=by
 rw [run_slice_l (P:=Tryz.prog) (w:=W) 82 (some b) n c (by kernel_rfl) .i64 1 (by omega) (by omega),show (sizeOf (Tryz.prog.elem 82)).run Tryz.prog W = .ok 4 W by kernel_rfl]
 simp [Result.andThen,sliced]
 split <;> rfl
theorem ExRow.tail {w : World} {B : Nat} {x : Ex} {l : List Ex} {b : Addr} (h : ExRow w B (x :: l) (some b)) : ExRow w B l (some (b.add 4)):=by
 cases h with
 | row a es Ad C hb cells sub =>
   refine .row (b.add 4) l (fun i => Ad (i + 1)) (fun i => C (i + 1)) (by rw [qm];exact hb) (fun i k n s l0 hi => ?_) (fun i k n s l0 hi => sub (i + 1) k n s l0 hi)
   have h:=cells (i + 1) k n s l0 hi
   rw [jz,show 4 + i * 4 = (i + 1) * 4 by omega]
   exact h
theorem qo9 (b : Addr) : b.add (0 * 4) = b:=by simp [Addr.add]
theorem qiY {X : World} {g : Nat} {cs : Array Value} {T : TypeId} {size m : Nat} (h : X.heap[g]? = some (.cells cs T)) (hs : cs.size = m * size) : qI X X.heap.size size (some ⟨g,0,none⟩) m cs.toList :=
 ⟨by rw [Array.length_toList];exact hs,fun _ => ⟨_,rfl,(Array.getElem?_eq_some_iff.1 h).1,fun j u hu => by
   rw [zD]
   exact qc h j (by rw [<- Array.getElem?_toList];exact hu)⟩⟩
theorem qlx {a b : Value} (ha : a.oneCell' = true) (hb : b.oneCell' = true) : ∀ u ∈ [a,b],u.oneCell' = true:=by
 intro u hu
 rcases List.mem_cons.1 hu with rfl | hu
 ·exact ha
 ·rcases List.mem_cons.1 hu with rfl | hu
  ·exact hb
  ·simp at hu
theorem qqG {a b c d : Value} (ha : a.oneCell' = true) (hb : b.oneCell' = true) (hc : c.oneCell' = true) (hd : d.oneCell' = true) : ∀ u ∈ [a,b,c,d],u.oneCell' = true:=by
 intro u hu
 rcases List.mem_cons.1 hu with rfl | hu
 ·exact ha
 rcases List.mem_cons.1 hu with rfl | hu
 ·exact hb
 exact qlx hc hd u hu
theorem yx {W W' : World} {O : Option Nat} {q : Addr} {v : Value} (hg : W.grownBy W' O) (h : W.cell? q = some v) (zN : O ≠ some q.block) : W'.cell? q = some v :=
 (World.cell?_of_block (w:=W) (hg.block _ (World.block_lt_of_cell? W _ h) (fun e => zN e.symm))).trans h
theorem qsM : (Tryz.prog.info? 187).map (fun i => (i.zero,i.size,i.bytes)) = some (some (.agg #[.slice none 0 0,.slice none 0 0]),2,48):=by kernel_rfl
def qjO (f : Fm) : Prop :=
 f.ps.length <= 1000000 /\ f.ats.length <= 1000000 /\ f.cls.length <= 1000000 /\ (∀ x ∈ f.cls,(x.k = 1 -> x.l ≠ []) /\ x.l.length <= 1000000 /\ ∀ e ∈ x.l,(zr e).length <= 8000000000000) /\ (∀ x ∈ f.ats,(zr x.a).length <= 8000000000000 /\ (zr x.b).length <= 8000000000000)
def scL (f : Fm) (i : Nat) : List Stp:=(f.cls.take i).flatMap jF
theorem qf9 {α β : Type} (g : α -> List β) (l : List α) (k : Nat) (x : α) (h : l[k]? = some x) : (l.take (k + 1)).flatMap g = (l.take k).flatMap g ++ g x:=by
 rw [List.take_add_one,h,List.flatMap_append]
 show _ ++ List.flatMap g [x] = _
 rw [List.flatMap_cons,List.flatMap_nil,List.append_nil]
theorem qda {α β : Type} (g : α -> List β) (b : Nat) (hg : ∀ x,(g x).length <= b) : ∀ l : List α,(l.flatMap g).length <= l.length * b
 | [] => by simp
 | x :: l => by
   rw [List.flatMap_cons,List.length_append,List.length_cons,Nat.succ_mul]
   have := qda g b hg l
   have := hg x
   omega
theorem qhC (x : Cl) : (jF x).length <= 1:=by
 unfold jF
 split
 ·split <;> simp
 ·simp
theorem qmF (x : At) : (qaT x).length <= 2:=by
 unfold qaT
 split <;> simp
end
end Go.Proofs.YtojjfdegkooknaaGreatDoor
