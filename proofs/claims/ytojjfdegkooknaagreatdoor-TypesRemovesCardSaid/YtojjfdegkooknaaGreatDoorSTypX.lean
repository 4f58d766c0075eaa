import Derived.Test.YtojjfdegkooknaaGreatDoorSTypFParam
import Derived.Test.YtojjfdegkooknaaGreatDoorSTreeO
import Derived.Test.YtojjfdegkooknaaGreatDoorSTreeL
set_option linter.unusedVariables false
set_option linter.unusedSimpArgs false
namespace Go.Proofs.YtojjfdegkooknaaGreatDoor
section
set_option maxRecDepth 100000
set_option maxHeartbeats 4000000
open Go.RowKit
theorem qdE (a b : List UInt8) (w : World) : Calls Tryz.prog 115 #[.string ⟨a.toArray⟩,.string ⟨b.toArray⟩] w fun e w' => e = .returned (.bool (jP a b)) /\ w' = w:=by
 unfold jP
 obtain ⟨x1,h1⟩ : ∃ x,x = (a == b):=⟨_,rfl⟩
 obtain ⟨x2,h2⟩ : ∃ x,x = (a == [110,117,108,108]):=⟨_,rfl⟩
 obtain ⟨x3,h3⟩ : ∃ x,x = (b == [105,110,116]):=⟨_,rfl⟩
 obtain ⟨x4,h4⟩ : ∃ x,x = (b == []):=⟨_,rfl⟩
 have H1:=hZ h1.symm
 have e3 : (b != [105,110,116]) = !x3:=by rw [h3];rfl
 have e4 : (b != []) = !x4:=by rw [h4];rfl
 show Calls _ _ _ _ (fun e w' => e = .returned (.bool (a == b || (a == [110,117,108,108] && b != [105,110,116] && b != []))) /\ w' = w)
 rw [<- h1,<- h2,e3,e4]
 have g1:=h1.symm
 have g2:=h2.symm
 have g3:=h3.symm
 have g4:=h4.symm
 clear h1 h2 h3 h4 e3 e4 H1
 cases x1 <;> cases x2 <;> cases x3 <;> cases x4
 all_goals
  go_enter Tryz.func115,Tryz.ntmps115
  go_wp2
  go_ret
  exact ⟨rfl,rfl⟩
theorem qhg (s : List UInt8) (l : List Pm) (A : Option Addr) (c n : Nat) (hn : n = l.length) (hm : n <= maxLen) (B0 : Nat) (w : World) (qz : B0 <= w.heap.size) (hA : qD zp 2 w B0 l A) :
 Calls Tryz.prog 80 #[.slice A n c,.string ⟨s.toArray⟩] w fun e w' => e = .returned (.bool (qG (·.nm) l s).isSome) /\ Below w.heap.size w w':=by
 have HF:=hZ (qjn 95 (enters_of Tryz.func95 (by kernel_rfl) rfl) (·.nm) qbh s l A c n hn hm B0 w qz hA)
 clear hn hm hA
 obtain ⟨o,ho⟩ : ∃ o,o = qG (fun x : Pm => x.nm) l s:=⟨_,rfl⟩
 rw [<- ho] at HF ⊢
 go_enter Tryz.func80,Tryz.ntmps80
 go_wp2_with fail
 refine HF.out.mono ?_
 rintro e w1 ⟨⟨cs,b,rfl,hr⟩,hb⟩
 have HB:=hZ (hb.chain (qd w1 (.cells cs 42)))
 obtain ⟨u,v,qn⟩ : ∃ u v : ByteArray,cs = #[.string u,.string v]:=by
  rcases hr with ⟨_,h,_⟩ | ⟨_,x,_,h⟩
  ·exact ⟨_,_,h⟩
  ·exact ⟨_,_,h.1⟩
 have yV : b = o.isSome:=by
  rcases hr with ⟨rfl,_,h⟩ | ⟨rfl,x,h,_⟩
  ·rw [h];rfl
  ·rw [h];rfl
 subst qn
 have HS:=hZ yV
 clear hr hb yV ho
 go_wp2
 go_ret
 exact ⟨by rw [<- HS.out];rfl,HB.out⟩
theorem qia (u v : ByteArray) (w : World) : (Instr.field 42 (.agg #[.string u,.string v]) 0).run Tryz.prog w = .ok (.string u) w:=by kernel_rfl
abbrev jw (A : Option Addr) (n c : Nat) (D : Option Addr) (m d : Nat) : Value:=.agg #[.slice A n c,.slice D m d]
abbrev qao (A : Option Addr) (n c : Nat) (D : Option Addr) (m d : Nat) : Obj:=.cells #[.slice A n c,.slice D m d] 146
structure VarsAt (w : World) (B0 : Nat) (sc br : List Pm) (A : Option Addr) (n : Nat) (D : Option Addr) (m : Nat) : Prop where
 hn : n = sc.length
 hm : n <= maxLen
 hn2 : m = br.length
 hm2 : m <= maxLen
 hB : B0 <= w.heap.size
 r1 : qD zp 2 w B0 sc A
 r2 : qD zp 2 w B0 br D
theorem VarsAt.on {w w' : World} {B0 : Nat} {sc br : List Pm} {A : Option Addr} {n : Nat} {D : Option Addr} {m : Nat} (h : VarsAt w B0 sc br A n D m) (hb : Below w.heap.size w w') : VarsAt w' B0 sc br A n D m :=
 ⟨h.hn,h.hm,h.hn2,h.hm2,Nat.le_trans h.hB hb.size,yB qT h.hB hb h.r1,yB qT h.hB hb h.r2⟩
theorem qki (s : List UInt8) (sc br : List Pm) (A : Option Addr) (n c : Nat) (D : Option Addr) (m d : Nat) (B0 : Nat) (w : World) (hV : VarsAt w B0 sc br A n D m) :
 Calls Tryz.prog 144 #[jw A n c D m d,.string ⟨s.toArray⟩] w (jH (vG sc br s) w):=by
 obtain ⟨W1,qh⟩ : ∃ W1,W1 = w.alloc (qao A n c D m d):=⟨_,rfl⟩
 have qk : Below w.heap.size w W1:=by rw [qh];exact qd w _
 have yc : W1.heap[w.heap.size]? = some (qao A n c D m d):=by rw [qh];exact qe w _
 have HH : Hid (∀ W,Below W1.heap.size W1 W -> Calls Tryz.prog 80 #[.slice D m d,.string ⟨s.toArray⟩] W fun e w' => e = .returned (.bool (qG (·.nm) br s).isSome) /\ Below W.heap.size W w'):=hZ (fun W hb => qhg s br D d m hV.hn2 hV.hm2 B0 W (Nat.le_trans hV.hB (qk.chain hb).size) (hV.on (qk.chain hb)).r2)
 have HF : Hid (∀ W,Below W1.heap.size W1 W -> Calls Tryz.prog 178 #[.slice A n c,.string ⟨s.toArray⟩,.func (.func 95) #[] #[]] W (jr zp s (qG (·.nm) sc s) B0 W)):=hZ (fun W hb => qd7 95 (enters_of Tryz.func95 (by kernel_rfl) rfl) (·.nm) qbh s sc A c n hV.hn hV.hm B0 W (Nat.le_trans hV.hB (qk.chain hb).size) (hV.on (qk.chain hb)).r1)
 have qw:=hZ (aZ qk yc)
 obtain ⟨o,ho⟩ : ∃ o,o = qG (fun x : Pm => x.nm) sc s:=⟨_,rfl⟩
 obtain ⟨h,hh⟩ : ∃ h,h = (qG (fun x : Pm => x.nm) br s).isSome:=⟨_,rfl⟩
 have hk : vG sc br s = qm0 h o s:=by rw [ho,hh];rfl
 rw [hk]
 rw [<- ho] at HF
 rw [<- hh] at HH
 clear hV qk yc ho hh hk
 go_enter Tryz.func144,Tryz.ntmps144
 go_wp2_with fail
 rw [<- qh]
 clear qh
 refine (HH.out _ (Below.refl _ _)).mono ?_
 rintro e w2 ⟨rfl,zF⟩
 have H2:=hZ zF
 have c0:=qc (qg zF qw.out.2) 0 (v:=.slice A n c) rfl
 clear zF
 go_wp2_with fail
 refine (qU (!h) 6 s w2).mono ?_
 rintro e w3 ⟨he,rfl⟩
 cases h
 ·obtain rfl : e = _:=he
  go_wp2_with fail
  refine (HF.out _ H2.out).mono ?_
  rintro e w4 ⟨hr,xp⟩
  have H4:=hZ (qw.out.1.chain (H2.out.chain xp))
  clear xp
  rcases hr with ⟨cs,x,rfl,ho,hv⟩ | ⟨ho,he⟩
  ·obtain ⟨qn,_⟩:=hv
   subst qn ho
   have vW:=fun w => qia ⟨x.t.toArray⟩ ⟨x.nm.toArray⟩ w
   go_wp2
   go_ret
   exact ⟨rfl,H4.out⟩
  ·subst he ho
   exact ⟨rfl,rfl,H4.out⟩
 ·obtain rfl : e = _:=he
  exact ⟨rfl,rfl,qw.out.1.chain H2.out⟩
end
section
set_option maxRecDepth 100000
set_option maxHeartbeats 8000000
open Go.RowKit
theorem que (sc br : List Pm) (k n : Int) (s : List UInt8) (l : List Ex) : yZ sc br (.mk k n s l) = if k = 2 then vG sc br s else if k = 3 then .ok qmY else match zJ (exC sc br) l with
 | none => .ok jy
 | some t => .error t:=by
 rw [yZ,qmh]
 rfl
theorem qsT (sc br : List Pm) (A : Option Addr) (n c : Nat) (D : Option Addr) (m d : Nat) (B0 : Nat) : ∀ (M : Nat) (l : List Ex),SizeOf.sizeOf l < M -> ∀ (k nn : Int) (s : List UInt8) (A2 : Option Addr) (c2 : Nat) (w : World),VarsAt w B0 sc br A n D m -> ExRow w w.heap.size l A2 -> s.length <= maxLen -> l.length <= maxLen ->
 Calls Tryz.prog 114 #[jw A n c D m d,zG k nn ⟨s.toArray⟩ (.slice A2 l.length c2)] w (jH (yZ sc br (.mk k nn s l)) w):=by
 intro M
 induction M with
 | zero => intro l h;omega
 | succ M ih =>
   intro l hM k nn s A2 c2 w hV hr hs hl
   rw [que]
   obtain ⟨z,hz⟩ : ∃ z,z = l.length:=⟨_,rfl⟩
   rw [<- hz] at hl ⊢
   obtain ⟨W1,qh⟩ : ∃ W1,W1 = (w.alloc (qao A n c D m d)).alloc (zg k nn ⟨s.toArray⟩ (.slice A2 z c2)):=⟨_,rfl⟩
   have qk : Below w.heap.size w W1:=by rw [qh];exact (qd w _).chain (qd _ _)
   have hp0 : W1.heap[w.heap.size]? = some (qao A n c D m d):=by rw [qh];exact qr (qe w _)
   have qw:=hZ (aZ qk hp0)
   have HV:=hZ hV
   by_cases h2 : k = 2
   ·subst h2
    have HK:=hZ (qki s sc br A n c D m d B0 W1 (hV.on qk))
    rw [if_pos rfl]
    obtain ⟨r,hr'⟩ : ∃ r,r = vG sc br s:=⟨_,rfl⟩
    rw [<- hr'] at HK ⊢
    clear hr' hr hs hl hV qk hp0 ih hM hz
    go_enter Tryz.func114,Tryz.ntmps114
    go_wp2_with fail
    rw [<- qh]
    clear qh
    refine HK.out.mono ?_
    rintro e w2 ⟨he,hb⟩
    have H2:=hZ (qw.out.1.chain hb)
    clear hb
    cases r with
    | ok t =>
      obtain rfl : e = _:=he
      go_wp2
      go_ret
      exact ⟨rfl,H2.out⟩
    | error t =>
      obtain rfl : e = _:=he
      exact ⟨rfl,rfl,H2.out⟩
   have h2' : (k == 2) = false:=beq_eq_false_iff_ne.2 h2
   rw [if_neg h2]
   by_cases h3 : k = 3
   ·subst h3
    rw [if_pos rfl]
    clear hr hs hl hV qk hp0 ih hM hz
    go_enter Tryz.func114,Tryz.ntmps114
    go_wp2
    go_ret
    exact ⟨rfl,(qd w _).chain (qd _ _)⟩
   have h3' : (k == 3) = false:=beq_eq_false_iff_ne.2 h3
   rw [if_neg h3]
   have HH:=hZ (aZ hr (aZ hz (aZ hM (aZ ih (aZ hs trivial)))))
   obtain ⟨R,hR⟩ : ∃ R : Except jl (List UInt8),R = match zJ (exC sc br) l with
    | none => .ok jy
    | some t => .error t:=⟨_,rfl⟩
   have HR:=hZ hR
   rw [<- hR]
   clear hr hs hV qk hp0 ih hM hz hR
   unfold maxLen at hl
   go_enter Tryz.func114,Tryz.ntmps114
   go_wp2
   rw [<- qh]
   clear qh
   go_loopg [20] z (fun mm j wr => ∃ i : Nat,mm = z - i /\ i <= z /\ j = .int .i64 i /\ Hid (Below W1.heap.size W1 wr /\ zJ (exC sc br) (l.take i) = none))
   case atStart => exact ⟨0,rfl,Nat.zero_le _,rfl,hZ ⟨Below.refl _ _,rfl⟩⟩
   case round =>
    obtain ⟨i,rfl,hi,rfl,HI⟩:=hrel
    have xj : (0 : Int) <= i:=by omega
    by_cases qB : i < z
    ·have hii : (i : Int) < z:=by omega
     have hbr:=qw.out.1.chain HI.out.1
     obtain ⟨⟨k0,n0,s0,l0⟩,hg⟩ : ∃ x,l[i]? = some x:=⟨l[i]'(by rw [<- HH.out.2.1];exact qB),List.getElem?_eq_getElem _⟩
     obtain ⟨a,A',c',rfl,qx,d0,d1,d2,d3,hs0,jT,qL⟩:=(HH.out.1.on hbr).at_ hg
     have e0 : wr.cell? (a.add (i * 4)) = some (.int .i64 k0):=d0
     have e1 : wr.cell? ⟨(a.add (i * 4)).block,(a.add (i * 4)).off + 1,none⟩ = some (.int .i64 n0):=d1
     have e2 : wr.cell? ⟨(a.add (i * 4)).block,(a.add (i * 4)).off + 2,none⟩ = some (.string ⟨s0.toArray⟩):=d2
     have e3 : wr.cell? ⟨(a.add (i * 4)).block,(a.add (i * 4)).off + 3,none⟩ = some (.slice A' l0.length c'):=d3
     obtain ⟨W6,qW⟩ : ∃ W6,W6 = wr.alloc (zg k0 n0 ⟨s0.toArray⟩ (.slice A' l0.length c')):=⟨_,rfl⟩
     have qR : Below wr.heap.size wr W6:=by rw [qW];exact qd wr _
     have zA:=qg (HI.out.1.chain (qd wr (zg k0 n0 ⟨s0.toArray⟩ (.slice A' l0.length c')))) qw.out.2
     have v0:=qc zA 0 (v:=.slice A n c) rfl
     have v1:=qc zA 1 (v:=.slice D m d) rfl
     have qK : SizeOf.sizeOf l0 < M:=by
      have q1:=List.sizeOf_lt_of_mem (List.mem_of_getElem? hg)
      have q2 : SizeOf.sizeOf l0 < SizeOf.sizeOf (Ex.mk k0 n0 s0 l0):=by simp;omega
      have q3:=HH.out.2.2.1
      omega
     have HC:=hZ (HH.out.2.2.2.1 l0 qK k0 n0 s0 A' c' W6 (HV.out.on (hbr.chain qR)) (qL.on qR) hs0 jT)
     obtain ⟨q,hq⟩ : ∃ q,q = yZ sc br (.mk k0 n0 s0 l0):=⟨_,rfl⟩
     rw [<- hq] at HC
     have H6:=hZ (HI.out.1.chain qR)
     have HX:=hZ (aZ hg hq)
     clear hg hq qx d0 d1 d2 d3 hs0 jT qL qR zA hbr qK
     go_wp2_with fail
     rw [<- qW]
     clear qW
     refine HC.out.mono ?_
     rintro e w3 ⟨he,hb⟩
     have H3:=hZ (H6.out.chain hb)
     clear hb
     cases q with
     | error t =>
       obtain rfl : e = _:=he
       refine ⟨rfl,?_,qw.out.1.chain H3.out⟩
       have hx : exC sc br (.mk k0 n0 s0 l0) = some t:=by unfold exC;rw [<- HX.out.2]
       rw [HR.out,yP _ l i _ t HX.out.1 HI.out.2 hx]
       rfl
     | ok y =>
       obtain rfl : e = _:=he
       go_wp2_with fail
       refine (qU (y == [105,110,116]) 9 [] w3).mono ?_
       rintro e w4 ⟨he,rfl⟩
       have hx : exC sc br (.mk k0 n0 s0 l0) = zQ (y == [105,110,116]) 9 []:=by unfold exC;rw [<- HX.out.2]
       cases hy : (y == [105,110,116])
       ·rw [hy] at he hx
        obtain rfl : e = _:=he
        refine ⟨rfl,?_,qw.out.1.chain H3.out⟩
        rw [HR.out,yP _ l i _ ([],9) HX.out.1 HI.out.2 hx]
        rfl
       ·rw [hy] at he hx
        obtain rfl : e = _:=he
        have HN : Hid (zJ (exC sc br) (l.take (i + 1)) = none):=hZ (by rw [zR _ l i _ HX.out.1,HI.out.2,hx];rfl)
        clear hx hy
        go_wp2
        go_roundg (z - (i + 1))
        case measure => omega
        case rel => exact ⟨i + 1,rfl,by omega,by go_num,hZ ⟨H3.out,HN.out⟩⟩
    ·have hlt' : ¬ (i : Int) < z:=by omega
     obtain rfl : i = z:=by omega
     go_wp2
     go_ret
     refine ⟨?_,qw.out.1.chain HI.out.1⟩
     have h:=HI.out.2
     rw [List.take_of_length_le (by rw [HH.out.2.1];exact Nat.le_refl _)] at h
     rw [HR.out,h]
     rfl
theorem qcN (sc br : List Pm) (A : Option Addr) (n c : Nat) (D : Option Addr) (m d : Nat) (B0 : Nat) (k nn : Int) (s : List UInt8) (l : List Ex) (A2 : Option Addr) (c2 : Nat) (w : World) (hV : VarsAt w B0 sc br A n D m) (hr : ExRow w w.heap.size l A2) (hs : s.length <= maxLen) (hl : l.length <= maxLen) :
 Calls Tryz.prog 114 #[jw A n c D m d,zG k nn ⟨s.toArray⟩ (.slice A2 l.length c2)] w (jH (yZ sc br (.mk k nn s l)) w) :=
 qsT sc br A n c D m d B0 _ l (Nat.lt_succ_self _) k nn s A2 c2 w hV hr hs hl
theorem qmj (sc br : List Pm) (A : Option Addr) (n c : Nat) (D : Option Addr) (m d : Nat) (B0 : Nat) (k : Int) (ak an : Int) (sa : List UInt8) (al : List Ex) (Aa : Option Addr) (ca : Nat) (bk bn : Int) (sb : List UInt8) (bl : List Ex) (Ab : Option Addr) (cb : Nat) (w : World)
 (hV : VarsAt w B0 sc br A n D m) (ra : ExRow w w.heap.size al Aa) (rb : ExRow w w.heap.size bl Ab) (hs1 : sa.length <= maxLen) (xy : al.length <= maxLen) (hs2 : sb.length <= maxLen) (hl2 : bl.length <= maxLen) :
 Calls Tryz.prog 81 #[jw A n c D m d,.int .i64 k,zG ak an ⟨sa.toArray⟩ (.slice Aa al.length ca),zG bk bn ⟨sb.toArray⟩ (.slice Ab bl.length cb)] w (qV (qcn sc br k (.mk ak an sa al) (.mk bk bn sb bl)) w):=by
 obtain ⟨na,hna⟩ : ∃ na,na = al.length:=⟨_,rfl⟩
 obtain ⟨nb,xv⟩ : ∃ nb,nb = bl.length:=⟨_,rfl⟩
 obtain ⟨W1,qh⟩ : ∃ W1,W1 = ((w.alloc (qao A n c D m d)).alloc (zg ak an ⟨sa.toArray⟩ (.slice Aa na ca))).alloc (zg bk bn ⟨sb.toArray⟩ (.slice Ab nb cb)):=⟨_,rfl⟩
 have qk : Below w.heap.size w W1:=by rw [qh];exact ((qd w _).chain (qd _ _)).chain (qd _ _)
 have hp0 : W1.heap[w.heap.size]? = some (qao A n c D m d):=by rw [qh];exact qr (qr (qe w _))
 have hp2 : W1.heap[w.heap.size + 1 + 1]? = some (zg bk bn ⟨sb.toArray⟩ (.slice Ab nb cb)):=by
  rw [qh]
  have h:=qe ((w.alloc (qao A n c D m d)).alloc (zg ak an ⟨sa.toArray⟩ (.slice Aa na ca))) (zg bk bn ⟨sb.toArray⟩ (.slice Ab nb cb))
  simp only [qj] at h
  exact h
 have HA : Hid (Calls Tryz.prog 114 #[jw A n c D m d,zG ak an ⟨sa.toArray⟩ (.slice Aa na ca)] W1 (jH (yZ sc br (.mk ak an sa al)) W1)):=hZ (by rw [hna];exact qcN sc br A n c D m d B0 ak an sa al Aa ca W1 (hV.on qk) (ra.on qk) hs1 xy)
 have HBx : Hid (∀ W,Below W1.heap.size W1 W -> Calls Tryz.prog 114 #[jw A n c D m d,zG bk bn ⟨sb.toArray⟩ (.slice Ab nb cb)] W (jH (yZ sc br (.mk bk bn sb bl)) W)):=hZ (fun W hb => by rw [xv];exact qcN sc br A n c D m d B0 bk bn sb bl Ab cb W (hV.on (qk.chain hb)) (rb.on (qk.chain hb)) hs2 hl2)
 rw [<- hna,<- xv]
 obtain ⟨r1,yO⟩ : ∃ r,r = yZ sc br (.mk ak an sa al):=⟨_,rfl⟩
 obtain ⟨r2,zW⟩ : ∃ r,r = yZ sc br (.mk bk bn sb bl):=⟨_,rfl⟩
 obtain ⟨C,hC⟩ : ∃ C,C = qcn sc br k (.mk ak an sa al) (.mk bk bn sb bl):=⟨_,rfl⟩
 have HC:=hZ (show C = match (r1,r2) with
  | (.error t,_) => some t
  | (.ok _,.error t) => some t
  | (.ok x,.ok y) => zQ (if k = 1 \/ k = 2 then jP x y || jP y x else (x == jy && y == jy)) 9 [] by
    rw [hC,yO,zW]
    unfold qcn
    cases yZ sc br (.mk ak an sa al) with
    | error t => rfl
    | ok x => cases yZ sc br (.mk bk bn sb bl) <;> rfl)
 rw [<- yO] at HA
 rw [<- zW] at HBx
 rw [<- hC]
 have qw:=hZ (aZ qk (aZ hp0 hp2))
 clear yO zW hC hV ra rb hs1 xy hs2 hl2 hna xv qk hp0 hp2
 go_enter Tryz.func81,Tryz.ntmps81
 go_wp2_with fail
 rw [<- qh]
 clear qh
 refine HA.out.mono ?_
 rintro e w2 ⟨he,hb⟩
 have H2:=hZ hb
 have q0:=qg hb qw.out.2.1
 have q2:=qg hb qw.out.2.2
 clear hb
 cases r1 with
 | error t =>
   obtain rfl : e = _:=he
   exact ⟨rfl,by rw [HC.out];rfl,qw.out.1.chain H2.out⟩
 | ok x =>
 obtain rfl : e = _:=he
 have v0:=qc q0 0 (v:=.slice A n c) rfl
 have v1:=qc q0 1 (v:=.slice D m d) rfl
 have u0:=qc q2 0 (v:=.int .i64 bk) rfl
 have u1:=qc q2 1 (v:=.int .i64 bn) rfl
 have u2:=qc q2 2 (v:=.string ⟨sb.toArray⟩) rfl
 have u3:=qc q2 3 (v:=.slice Ab nb cb) rfl
 clear q0 q2
 go_wp2_with fail
 refine (HBx.out _ H2.out).mono ?_
 rintro e w3 ⟨he,hb⟩
 have H3:=hZ (qw.out.1.chain (H2.out.chain hb))
 clear hb
 cases r2 with
 | error t =>
   obtain rfl : e = _:=he
   exact ⟨rfl,by rw [HC.out];rfl,H3.out⟩
 | ok y =>
 obtain rfl : e = _:=he
 clear v0 v1 u0 u1 u2 u3
 obtain ⟨b1,qk⟩ : ∃ b,(x == [105,110,116]) = b:=⟨_,rfl⟩
 obtain ⟨b2,zF⟩ : ∃ b,(y == [105,110,116]) = b:=⟨_,rfl⟩
 by_cases hk : k = 1 \/ k = 2
 ·obtain ⟨f1,hf1⟩ : ∃ b,jP x y = b:=⟨_,rfl⟩
  obtain ⟨f2,hf2⟩ : ∃ b,jP y x = b:=⟨_,rfl⟩
  have hC2 : C = zQ (f1 || f2) 9 []:=by rw [HC.out];show zQ (if k = 1 \/ k = 2 then _ else _) 9 [] = _;rw [if_pos hk,hf1,hf2]
  have yp:=hZ hC2
  have HF1 : Hid (∀ W,Calls Tryz.prog 115 #[.string ⟨x.toArray⟩,.string ⟨y.toArray⟩] W fun e w' => e = .returned (.bool f1) /\ w' = W):=hZ (fun W => by rw [<- hf1];exact qdE x y W)
  have HF2 : Hid (∀ W,Calls Tryz.prog 115 #[.string ⟨y.toArray⟩,.string ⟨x.toArray⟩] W fun e w' => e = .returned (.bool f2) /\ w' = W):=hZ (fun W => by rw [<- hf2];exact qdE y x W)
  clear hf1 hf2 hC2 HC
  rcases hk with rfl | rfl <;> cases b1 <;> cases b2 <;> cases f1 <;> cases f2
  all_goals
   go_wp2_with (first
    | (go_at_call 115;(with_reducible refine (HF1.out _).mono ?_);rintro e w4 ⟨rfl,rfl⟩)
    | (go_at_call 115;(with_reducible refine (HF2.out _).mono ?_);rintro e w4 ⟨rfl,rfl⟩)
    | (go_at_call 69;refine (qU _ 9 [] _).mono ?_;rintro e w4 ⟨he,rfl⟩;obtain rfl : e = _:=he))
   first
    | exact ⟨rfl,by rw [yp.out];rfl,H3.out⟩
    | exact bodyPost_end (results_none rfl _ _ _) rfl ⟨by rw [yp.out];rfl,H3.out⟩
 ·have hC2 : C = zQ (b1 && b2) 9 []:=by rw [HC.out];show zQ (if k = 1 \/ k = 2 then _ else (x == [105,110,116] && y == [105,110,116])) 9 [] = _;rw [if_neg hk,qk,zF]
  have yp:=hZ hC2
  have k1 : (k == 1) = false:=beq_eq_false_iff_ne.2 fun h => hk (.inl h)
  have k2 : (k == 2) = false:=beq_eq_false_iff_ne.2 fun h => hk (.inr h)
  clear hC2 HC hk
  cases b1 <;> cases b2
  all_goals
   go_wp2_with (first
    | (go_at_call 69;refine (qU _ 9 [] _).mono ?_;rintro e w4 ⟨he,rfl⟩;obtain rfl : e = _:=he))
   first
    | exact ⟨rfl,by rw [yp.out];rfl,H3.out⟩
    | exact bodyPost_end (results_none rfl _ _ _) rfl ⟨by rw [yp.out];rfl,H3.out⟩
end
section
set_option maxRecDepth 100000
set_option maxHeartbeats 8000000
open Go.RowKit
mutual
def vY (sc br : List Pm) : Cn -> Ck
 | .mk k a b l => if k = 5 \/ k = 6 \/ k = 7 then qbP sc br l else qcn sc br k a b
def qbP (sc br : List Pm) : List Cn -> Ck
 | [] => none
 | x :: l => zw (vY sc br x) (qbP sc br l)
end
theorem qmi (sc br : List Pm) : ∀ l : List Cn,qbP sc br l = zJ (vY sc br) l
 | [] => by rw [qbP];rfl
 | x :: l => by rw [qbP,qmi sc br l];rfl
theorem qui (sc br : List Pm) (k : Int) (a b : Ex) (l : List Cn) : vY sc br (.mk k a b l) = if k = 5 \/ k = 6 \/ k = 7 then zJ (vY sc br) l else qcn sc br k a b:=by
 rw [vY,qmi]
theorem qiH (sc br : List Pm) (A : Option Addr) (n c : Nat) (D : Option Addr) (m d : Nat) (B0 : Nat) : ∀ (M : Nat) (l : List Cn),SizeOf.sizeOf l < M -> ∀ (k ak an : Int) (sa : List UInt8) (al : List Ex) (bk bn : Int) (sb : List UInt8) (bl : List Ex) (Aa : Option Addr) (ca : Nat) (Ab : Option Addr) (cb : Nat) (Al : Option Addr) (cl : Nat) (w : World),
 VarsAt w B0 sc br A n D m -> ExRow w w.heap.size al Aa -> ExRow w w.heap.size bl Ab -> CnRow w w.heap.size l Al -> sa.length <= maxLen -> al.length <= maxLen -> sb.length <= maxLen -> bl.length <= maxLen -> l.length <= maxLen ->
 Calls Tryz.prog 166 #[jw A n c D m d,qaO k ak an ⟨sa.toArray⟩ (.slice Aa al.length ca) bk bn ⟨sb.toArray⟩ (.slice Ab bl.length cb) (.slice Al l.length cl)] w (qV (vY sc br (.mk k (.mk ak an sa al) (.mk bk bn sb bl) l)) w):=by
 intro M
 induction M with
 | zero => intro l h;omega
 | succ M ih =>
   intro l hM k ak an sa al bk bn sb bl Aa ca Ab cb Al cl w hV ra rb rl hs1 xy hs2 hl2 hl
   rw [qui]
   obtain ⟨z,hz⟩ : ∃ z,z = l.length:=⟨_,rfl⟩
   rw [<- hz] at hl ⊢
   obtain ⟨W1,qh⟩ : ∃ W1,W1 = (w.alloc (qao A n c D m d)).alloc (yG k ak an ⟨sa.toArray⟩ (.slice Aa al.length ca) bk bn ⟨sb.toArray⟩ (.slice Ab bl.length cb) (.slice Al z cl)):=⟨_,rfl⟩
   have qk : Below w.heap.size w W1:=by rw [qh];exact (qd w _).chain (qd _ _)
   have hp0 : W1.heap[w.heap.size]? = some (qao A n c D m d):=by rw [qh];exact qr (qe w _)
   have qw:=hZ (aZ qk hp0)
   have HV:=hZ hV
   by_cases hk : k = 5 \/ k = 6 \/ k = 7
   rotate_left
   ·rw [if_neg hk]
    have k5 : (k == 5) = false:=beq_eq_false_iff_ne.2 fun h => hk (.inl h)
    have k6 : (k == 6) = false:=beq_eq_false_iff_ne.2 fun h => hk (.inr (.inl h))
    have k7 : (k == 7) = false:=beq_eq_false_iff_ne.2 fun h => hk (.inr (.inr h))
    have HK:=hZ (qmj sc br A n c D m d B0 k ak an sa al Aa ca bk bn sb bl Ab cb W1 (hV.on qk) (ra.on qk) (rb.on qk) hs1 xy hs2 hl2)
    obtain ⟨C,hC⟩ : ∃ C,C = qcn sc br k (.mk ak an sa al) (.mk bk bn sb bl):=⟨_,rfl⟩
    rw [<- hC] at HK ⊢
    clear hC ra rb rl hs1 xy hs2 hl2 hl hV qk hp0 ih hM hz hk
    go_enter Tryz.func166,Tryz.ntmps166
    go_wp2_with fail
    rw [<- qh]
    clear qh
    refine HK.out.mono ?_
    rintro e w2 ⟨he,hb⟩
    have H2:=hZ (qw.out.1.chain hb)
    clear hb
    cases C with
    | none =>
      obtain rfl : e = _:=he
      go_wp2
      exact bodyPost_end (results_none rfl _ _ _) rfl ⟨rfl,H2.out⟩
    | some t =>
      obtain rfl : e = _:=he
      exact ⟨rfl,rfl,H2.out⟩
   rw [if_pos hk]
   have HH:=hZ (aZ rl (aZ hz (aZ hM (aZ ih trivial))))
   obtain ⟨R,hR⟩ : ∃ R : Ck,R = zJ (vY sc br) l:=⟨_,rfl⟩
   have HR:=hZ hR
   rw [<- hR]
   clear ra rb rl hs1 xy hs2 hl2 hV qk hp0 ih hM hz hR
   unfold maxLen at hl
   rcases hk with rfl | rfl | rfl
   all_goals
    go_enter Tryz.func166,Tryz.ntmps166
    go_wp2
    rw [<- qh]
    clear qh
    go_loopg [23] z (fun mm j wr => ∃ i : Nat,mm = z - i /\ i <= z /\ j = .int .i64 i /\ Hid (Below W1.heap.size W1 wr /\ zJ (vY sc br) (l.take i) = none))
    case atStart => exact ⟨0,rfl,Nat.zero_le _,rfl,hZ ⟨Below.refl _ _,rfl⟩⟩
    case round =>
     obtain ⟨i,rfl,hi,rfl,HI⟩:=hrel
     have xj : (0 : Int) <= i:=by omega
     by_cases qB : i < z
     ·have hii : (i : Int) < z:=by omega
      have hbr:=qw.out.1.chain HI.out.1
      obtain ⟨⟨k0,⟨ak0,an0,sa0,al0⟩,⟨bk0,bn0,sb0,bl0⟩,l0⟩,hg⟩ : ∃ x,l[i]? = some x:=⟨l[i]'(by rw [<- HH.out.2.1];exact qB),List.getElem?_eq_getElem _⟩
      obtain ⟨a,Aa0,ca0,Ab0,cb0,Al0,cl0,rfl,qx,hcc,y1,y2,y3,y4,y5,ra0,rb0,rl0⟩:=(HH.out.1.on hbr).at_ hg
      obtain ⟨e0,e1,e2,e3,e4,e5,e6,e7,e8,e9⟩:=hcc.flat
      obtain ⟨W6,qW⟩ : ∃ W6,W6 = wr.alloc (yG k0 ak0 an0 ⟨sa0.toArray⟩ (.slice Aa0 al0.length ca0) bk0 bn0 ⟨sb0.toArray⟩ (.slice Ab0 bl0.length cb0) (.slice Al0 l0.length cl0)):=⟨_,rfl⟩
      have qR : Below wr.heap.size wr W6:=by rw [qW];exact qd wr _
      have zA:=qg (HI.out.1.chain (qd wr (yG k0 ak0 an0 ⟨sa0.toArray⟩ (.slice Aa0 al0.length ca0) bk0 bn0 ⟨sb0.toArray⟩ (.slice Ab0 bl0.length cb0) (.slice Al0 l0.length cl0)))) qw.out.2
      have v0:=qc zA 0 (v:=.slice A n c) rfl
      have v1:=qc zA 1 (v:=.slice D m d) rfl
      have qK : SizeOf.sizeOf l0 < M:=by
       have q1:=List.sizeOf_lt_of_mem (List.mem_of_getElem? hg)
       have q2 : SizeOf.sizeOf l0 < SizeOf.sizeOf (Cn.mk k0 (.mk ak0 an0 sa0 al0) (.mk bk0 bn0 sb0 bl0) l0):=by simp;omega
       have q3:=HH.out.2.2.1
       omega
      have HC:=hZ (HH.out.2.2.2.1 l0 qK k0 ak0 an0 sa0 al0 bk0 bn0 sb0 bl0 Aa0 ca0 Ab0 cb0 Al0 cl0 W6 (HV.out.on (hbr.chain qR)) (ra0.on qR) (rb0.on qR) (rl0.on qR) y1 y2 y3 y4 y5)
      obtain ⟨q,hq⟩ : ∃ q,q = vY sc br (.mk k0 (.mk ak0 an0 sa0 al0) (.mk bk0 bn0 sb0 bl0) l0):=⟨_,rfl⟩
      rw [<- hq] at HC
      have H6:=hZ (HI.out.1.chain qR)
      have HX:=hZ (aZ hg hq)
      clear hg hq qx hcc y1 y2 y3 y4 y5 ra0 rb0 rl0 qR zA hbr qK
      go_wp2_with fail
      rw [<- qW]
      clear qW
      refine HC.out.mono ?_
      rintro e w3 ⟨he,hb⟩
      have H3:=hZ (H6.out.chain hb)
      clear hb
      cases q with
      | some t =>
        obtain rfl : e = _:=he
        refine ⟨rfl,?_,qw.out.1.chain H3.out⟩
        rw [HR.out,yP _ l i _ t HX.out.1 HI.out.2 HX.out.2.symm]
        rfl
      | none =>
        obtain rfl : e = _:=he
        have HN : Hid (zJ (vY sc br) (l.take (i + 1)) = none):=hZ (by rw [zR _ l i _ HX.out.1,HI.out.2,<- HX.out.2];rfl)
        go_wp2
        go_roundg (z - (i + 1))
        case measure => omega
        case rel => exact ⟨i + 1,rfl,by omega,by go_num,hZ ⟨H3.out,HN.out⟩⟩
     ·have hlt' : ¬ (i : Int) < z:=by omega
      obtain rfl : i = z:=by omega
      go_wp2
      refine bodyPost_end (results_none rfl _ _ _) rfl ⟨?_,qw.out.1.chain HI.out.1⟩
      have h:=HI.out.2
      rw [List.take_of_length_le (by rw [HH.out.2.1];exact Nat.le_refl _)] at h
      rw [HR.out,h]
      rfl
end
end Go.Proofs.YtojjfdegkooknaaGreatDoor
