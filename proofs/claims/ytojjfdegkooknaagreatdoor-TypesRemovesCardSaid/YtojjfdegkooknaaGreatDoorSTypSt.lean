import Derived.Test.YtojjfdegkooknaaGreatDoorSTypSm
set_option linter.unusedVariables false
set_option linter.unusedSimpArgs false
namespace Go.Proofs.YtojjfdegkooknaaGreatDoor
set_option maxRecDepth 100000
set_option maxHeartbeats 16000000
open Go.RowKit Go.Lib
theorem qln {w : World} {B : Nat} {l : List Ex} {A : Option Addr} (h : ExRow w B l A) : ∀ x ∈ qH l,x.length <= maxLen:=by
 intro x hx
 unfold qH at hx
 obtain ⟨⟨k,n,s,l0⟩,hy,hxy⟩:=List.mem_flatMap.1 hx
 obtain ⟨i,hi,he⟩:=List.getElem_of_mem hy
 obtain ⟨_,_,_,_,_,_,_,_,_,hs,_⟩:=h.at_ (i:=i) (by rw [List.getElem?_eq_getElem hi,he])
 have h2 : x ∈ (if k = 2 then [s] else []):=hxy
 split at h2
 ·obtain rfl : x = s:=by simpa using h2
  exact hs
 ·simp at h2
def qjv (f : Fm) (w : World) (e : Ending) (w' : World) : Prop :=
 ∃ (v : Value) (xs : List Value) (B : Nat),e = .returned v /\ w.heap.size <= B /\ w'.ownsRow B 187 2 v (xE f).length xs /\ yN w' B v.ownBlock (xE f) xs /\ Below w.heap.size w w'
def sbL (f : Fm) (i : Nat) : List Stp:=f.cls.flatMap jF ++ (f.ats.take i).flatMap qaT
theorem qpZ (f : Fm) : sbL f 0 = f.cls.flatMap jF:=by
 unfold sbL
 rw [List.take_zero,List.flatMap_nil,List.append_nil]
theorem qi1 {k n : Int} {s : List UInt8} {l : List Ex} (hs : s.length <= maxLen) : ∀ x ∈ qH [.mk k n s l],x.length <= maxLen:=by
 intro x hx
 have h2 : x ∈ (if k = 2 then [s] else []) ++ List.flatMap qak []:=hx
 rw [List.flatMap_nil,List.append_nil] at h2
 split at h2
 ·obtain rfl : x = s:=by simpa using h2
  exact hs
 ·simp at h2
theorem qhG (e : Ex) : qH [e] = qak e:=by
 unfold qH
 rw [List.flatMap_cons,List.flatMap_nil,List.append_nil]
theorem qoN {W : World} {g : Nat} {k n : Int} {s : List UInt8} {l : List Ex} {A : Option Addr} {c : Nat} (h : W.heap[g]? = some (zg k n ⟨s.toArray⟩ (.slice A l.length c))) (hr : ExRow W W.heap.size l A) (hs : s.length <= maxLen) (hl : l.length <= maxLen) : ExRow W W.heap.size [.mk k n s l] (some ⟨g,0,none⟩):=by
 refine .row ⟨g,0,none⟩ [.mk k n s l] (fun _ => A) (fun _ => c) ((Array.getElem?_eq_some_iff.1 h).1) (fun i k' n' s' l' hi => ?_) (fun i k' n' s' l' hi => ?_)
 ·match i,hi with
  | 0,hi =>
    obtain ⟨rfl,rfl,rfl,rfl⟩ : k = k' /\ n = n' /\ s = s' /\ l = l':=by
     have := Option.some.inj hi
     injection this with h1 h2 h3 h4
     exact ⟨h1,h2,h3,h4⟩
    exact ⟨qc h 0 rfl,qc h 1 rfl,qc h 2 rfl,qc h 3 rfl,hs,hl⟩
  | i + 1,hi => simp at hi
 ·match i,hi with
  | 0,hi =>
    obtain ⟨rfl,rfl,rfl,rfl⟩ : k = k' /\ n = n' /\ s = s' /\ l = l':=by
     have := Option.some.inj hi
     injection this with h1 h2 h3 h4
     exact ⟨h1,h2,h3,h4⟩
    exact hr
  | i + 1,hi => simp at hi
theorem qnU (f : Fm) (P : Option Addr) (np cp : Nat) (Aa : Option Addr) (na ca : Nat) (Ac : Option Addr) (nc cc : Nat) (hna : na = f.ats.length) (jk : nc = f.cls.length) (hf : qjO f) (w : World) (hA : qdc w w.heap.size f.ats Aa) (hC : qdb w w.heap.size f.cls Ac) :
 Calls Tryz.prog 118 #[vv (.slice P np cp) (.slice Aa na ca) (.slice Ac nc cc)] w (qjv f w):=by
 obtain ⟨i0,hi,hiz,his,yM⟩:=info_parts qsM
 have zt:=hZ (aZ hi (aZ hiz (aZ his yM)))
 have zE : Tryz.prog.follows .mixedOrders = true:=by kernel_rfl
 obtain ⟨W1,qh⟩ : ∃ W1,W1 = w.alloc (jb (.slice P np cp) (.slice Aa na ca) (.slice Ac nc cc)):=⟨_,rfl⟩
 have qk : Below w.heap.size w W1:=by rw [qh];exact qd w _
 have yc : W1.heap[w.heap.size]? = some (jb (.slice P np cp) (.slice Aa na ca) (.slice Ac nc cc)):=by rw [qh];exact qe w _
 have HW1:=hZ (aZ qk yc)
 have HC:=hZ (aZ (hC.stay jc qk (Nat.le_refl _)) (aZ jk (aZ hf qk.size)))
 have HA:=hZ (aZ (hA.stay jd qk (Nat.le_refl _)) (aZ hna trivial))
 have HO0:=hZ (World.ownsRow_nil W1 W1.heap.size 187 2)
 have hncm : nc <= 1000000:=by rw [jk];exact hf.2.2.1
 have hnam : na <= 1000000:=by rw [hna];exact hf.2.1
 clear hi hiz his yM qk yc hC hA hf jk hna
 go_enter Tryz.func118,Tryz.ntmps118
 go_wp2
 rw [<- qh]
 clear qh
 go_loopg [3,11] nc (fun mm u3 j wr => ∃ (i : Nat) (xs : List Value),mm = nc - i /\ i <= nc /\ j = .int .i64 i /\ Hid (Below W1.heap.size W1 wr /\ wr.ownsRow W1.heap.size 187 2 u3 (scL f i).length xs /\ yN wr W1.heap.size u3.ownBlock (scL f i) xs))
 case atStart => exact ⟨0,[],rfl,Nat.zero_le _,rfl,hZ ⟨Below.refl _ _,HO0.out,yN.nil _ _ _⟩⟩
 case round =>
  obtain ⟨i,xs,rfl,hi,rfl,HI⟩:=hrel
  have xj : (0 : Int) <= i:=by omega
  by_cases qB : i < nc
  ·have hii : (i : Int) < nc:=by omega
   obtain ⟨⟨k0,nm0,l0⟩,hg⟩ : ∃ x,f.cls[i]? = some x:=⟨f.cls[i]'(by rw [<- HC.out.2.1];exact qB),List.getElem?_eq_getElem _⟩
   obtain ⟨a,rfl,qx,A',c',d0,d1,d2,yL,hll,qL,qbj⟩:=(HC.out.1.stay jc HI.out.1 HC.out.2.2.2).at_ hg
   have e0 : wr.cell? (a.add (i * 3)) = some (.int .i64 k0):=d0
   have e1 : wr.cell? ⟨(a.add (i * 3)).block,(a.add (i * 3)).off + 1,none⟩ = some (.string ⟨nm0.toArray⟩):=d1
   have e2 : wr.cell? ⟨(a.add (i * 3)).block,(a.add (i * 3)).off + 2,none⟩ = some (.slice A' l0.length c'):=d2
   have hx:=HC.out.2.2.1.2.2.2.1 _ (List.mem_of_getElem? hg)
   have hsc : scL f (i + 1) = scL f i ++ jF ⟨k0,nm0,l0⟩:=qf9 jF f.cls i _ hg
   have hz1 : (scL f i).length <= 1000000:=by
    have h:=qda jF 1 qhC (f.cls.take i)
    have h2:=List.length_take_le i f.cls
    unfold scL
    have := HC.out.2.1
    omega
   obtain ⟨W6,qW⟩ : ∃ W6,W6 = wr.alloc (qcu k0 ⟨nm0.toArray⟩ (.slice A' l0.length c')):=⟨_,rfl⟩
   have qR : Below wr.heap.size wr W6:=by rw [qW];exact qd wr _
   have xu : W6.heap[wr.heap.size]? = some (qcu k0 ⟨nm0.toArray⟩ (.slice A' l0.length c')):=by rw [qW];exact qe wr _
   have H6:=hZ (HI.out.1.chain qR)
   have hO6:=qy HI.out.2.1 qR (fun g hg => (qs HI.out.2.1 g hg).2)
   have hS6:=HI.out.2.2.on qR
   by_cases hk : k0 = 1
   ·subst hk
    obtain ⟨a0,r,rfl⟩ : ∃ a0 r,l0 = a0 :: r:=by
     cases l0 with
     | nil => exact absurd rfl (hx.1 rfl)
     | cons a r => exact ⟨a,r,rfl⟩
    obtain ⟨ek,en,es,el⟩:=a0
    obtain ⟨b,Ae,ce,rfl,hbb0,q0,q1,q2,q3,hs0,jT,qrr⟩:=qL.at_ (i:=0) rfl
    rw [qo9] at q0 q1 q2 q3
    obtain ⟨R,hR⟩ : ∃ R,R = if c' = 1 then b else b.add 4:=⟨_,rfl⟩
    obtain ⟨nl,qiC⟩ : ∃ nl,nl = (Ex.mk ek en es el :: r).length:=⟨_,rfl⟩
    have hnl1 : 1 <= nl:=by rw [qiC,List.length_cons];omega
    have hsl : ∀ W,(Instr.slice 82 (.slice (some b) nl c') (some (.int .i64 1)) none none).run Tryz.prog W = .ok (.slice (some R) (nl - 1) (c' - 1)) W:=fun W => by rw [hR];exact qnW b nl c' hnl1 W
    have hri : nl - 1 = r.length:=by rw [qiC,List.length_cons];omega
    have hrr : ExRow wr w.heap.size r (some R):=by
     rw [hR]
     split
     ·have h0 : r = []:=by
       have : nl <= c':=by rw [qiC];exact qbj
       exact List.eq_nil_of_length_eq_zero (by omega)
      rw [h0]
      exact .nil _
     ·exact qL.tail
    obtain ⟨z,hz⟩ : ∃ z,z = (scL f i).length:=⟨_,rfl⟩
    rw [<- hz] at hz1 hO6
    have HSC : Hid (scL f (i + 1) = scL f i ++ [⟨zr (.mk ek en es el),qH r⟩]):=hZ hsc
    have HZ : Hid (z + 1 <= 4000000):=hZ (by omega)
    have HZZ:=hZ hz
    have xD : Hid (W1.heap.size <= W6.heap.size):=hZ H6.out.size
    have HPn : Hid (∀ x ∈ qH r,x.length <= maxLen):=hZ (qln hrr)
    have qz : w.heap.size <= wr.heap.size:=Nat.le_trans HC.out.2.2.2 HI.out.1.size
    have qA : ∀ g,u3.ownBlock = some g -> W1.heap.size <= g /\ g < wr.heap.size:=qs HI.out.2.1
    obtain ⟨S,hS⟩ : ∃ S : World -> Prop,S = fun W => W.cell? ⟨wr.heap.size,2,none⟩ = some (.slice (some b) nl c') /\ W.cell? b = some (.int .i64 ek) /\ W.cell? ⟨b.block,b.off + 1,none⟩ = some (.int .i64 en) /\ W.cell? ⟨b.block,b.off + 2,none⟩ = some (.string ⟨es.toArray⟩) /\ W.cell? ⟨b.block,b.off + 3,none⟩ = some (.slice Ae el.length ce):=⟨_,rfl⟩
    have qo : Hid (∀ W,Below W6.heap.size W6 W -> S W):=hZ (fun W hb => by
     rw [hS]
     have h:=qR.chain hb
     have hbl : b.block < wr.heap.size:=Nat.lt_of_lt_of_le hbb0 qz
     exact ⟨by rw [qiC];exact qc (qg hb xu) 2 rfl,(h.cell hbl).trans q0,(h.cell (p:=⟨b.block,b.off + 1,none⟩) hbl).trans q1,(h.cell (p:=⟨b.block,b.off + 2,none⟩) hbl).trans q2,(h.cell (p:=⟨b.block,b.off + 3,none⟩) hbl).trans q3⟩)
    have qX : Hid (∀ W,S W -> W.cell? ⟨wr.heap.size,2,none⟩ = some (.slice (some b) nl c') /\ W.cell? b = some (.int .i64 ek) /\ W.cell? ⟨b.block,b.off + 1,none⟩ = some (.int .i64 en) /\ W.cell? ⟨b.block,b.off + 2,none⟩ = some (.string ⟨es.toArray⟩) /\ W.cell? ⟨b.block,b.off + 3,none⟩ = some (.slice Ae el.length ce)):=hZ (fun W hs => by rw [hS] at hs;exact hs)
    have HSG : Hid (∀ W W',S W -> W.grownBy W' u3.ownBlock -> S W'):=hZ (fun W W' hs hg => by
     rw [hS] at hs ⊢
     obtain ⟨s1,s2,s3,s4,s5⟩:=hs
     have n1 : u3.ownBlock ≠ some wr.heap.size:=fun e => Nat.lt_irrefl _ (qA _ e).2
     have n2 : u3.ownBlock ≠ some b.block:=fun e => by
      have := (qA _ e).1
      have := HC.out.2.2.2
      omega
     exact ⟨yx hg s1 n1,yx hg s2 n2,yx hg s3 n2,yx hg s4 n2,yx hg s5 n2⟩)
    have HVa : Hid (∀ W,Below W6.heap.size W6 W -> Calls Tryz.prog 146 #[zG ek en ⟨es.toArray⟩ (.slice Ae el.length ce)] W fun e w' => ∃ (v : Value) (m : List (List UInt8)) (B : Nat),e = .returned v /\ W.heap.size <= B /\ w'.ownsRow B 9 1 v m.length (m.map qaN) /\ (∀ x,x ∈ m ↔ x ∈ zr (.mk ek en es el)) /\ (∀ x ∈ m,x.length <= maxLen) /\ Below W.heap.size W w'):=hZ (fun W hb =>
     qg2 ek en es el Ae ce W (qrr.keep (fun q hq => (qR.chain hb).cell (Nat.lt_of_lt_of_le hq qz)) (Nat.le_trans qz (qR.chain hb).size)) hs0 jT (hx.2.2 _ (List.mem_cons_self ..)))
    have HPl : Hid (∀ W,Below W6.heap.size W6 W -> Calls Tryz.prog 147 #[.slice (some R) (nl - 1) (c' - 1)] W fun e w' => ∃ v,e = .returned v /\ w'.ownsRow W.heap.size 9 1 v (qH r).length ((qH r).map qaN) /\ Below W.heap.size W w'):=hZ (fun W hb =>
     qfL r (some R) (c' - 1) (nl - 1) hri (by rw [hri];have := hx.2.1;rw [List.length_cons] at this;omega) W (hrr.keep (fun q hq => (qR.chain hb).cell (Nat.lt_of_lt_of_le hq qz)) (Nat.le_trans qz (qR.chain hb).size)))
    have FB0:=hZ (Below.refl W6.heap.size W6).drew
    have FO0 : Hid (W6.drew.ownsRow W1.heap.size 187 2 u3 z xs):=hZ hO6
    have FS0 : Hid (yN W6.drew W1.heap.size u3.ownBlock (scL f i) xs):=hZ (hS6.on (Below.refl _ _).drew)
    have g0:=qo.out _ FB0.out
    rw [<- qiC] at qW e2
    clear hx hsc hz1 hz qR xu hO6 hS6 qL hbb0 q0 q1 q2 q3 hs0 jT qrr hR qiC hri hrr qz qA hS hg d0 d1 d2 yL hll qbj qx
    go_wp2
    rw [<- qW]
    clear qW e0 e1 e2
    obtain ⟨x0,hx0⟩ : ∃ X,X = W6.drew:=⟨_,rfl⟩
    refine wp_region_held (S:=S) zE ?_
    change wpAnyH _ _ _ _ _ 14 #[false,false,false,false,false,false,false,false,false,false,false,false,false,false] _ W6.drew
    rw [<- hx0] at FB0 FO0 FS0 g0 ⊢
    clear hx0
    refine tk 0 18 (u3) g0 ?v ?_
    case v => intro Wx hSx;go_simp
    refine tk 1 19 (.pointer (some ⟨wr.heap.size,2,none⟩)) g0 ?v ?_
    case v => intro Wx hSx;go_simp
    refine tk 2 20 (.slice (some b) nl c') g0 ?v ?_
    case v => intro Wx hSx;obtain ⟨z1,z2,z3,z4,z5⟩:=qX.out Wx hSx;go_simp
    refine tk 3 21 (.pointer (some b)) g0 ?v ?_
    case v => intro Wx hSx;go_simp;intro h0;omega
    try simp only [qf]
    refine tk 4 22 (zG ek en ⟨es.toArray⟩ (.slice Ae el.length ce)) g0 ?v ?_
    case v => intro Wx hSx;obtain ⟨z1,z2,z3,z4,z5⟩:=qX.out Wx hSx;go_simp
    refine tk 6 24 (.pointer (some ⟨wr.heap.size,2,none⟩)) g0 ?v ?_
    case v => intro Wx hSx;go_simp
    refine tk 7 25 (.slice (some b) nl c') g0 ?v ?_
    case v => intro Wx hSx;obtain ⟨z1,z2,z3,z4,z5⟩:=qX.out Wx hSx;go_simp
    refine tk 8 26 (.slice (some R) (nl - 1) (c' - 1)) g0 ?v ?_
    case v => intro Wx hSx;go_simp
    try simp only [qf]
    try simp only [qf]
    refine o1 5 (fun K hK => ?_)
    go_simp
    (with_reducible refine (HVa.out _ FB0.out).mono ?_)
    rintro e x1 ⟨v23,m23,B23,rfl,hBA,hoA,hmA,hlA,qi⟩
    obtain ⟨A23,c23,rfl,zf⟩:=xe.of_own (lo:=W1.heap.size) (O:=u3.ownBlock) hoA hlA (Nat.le_trans xD.out (Nat.le_trans FB0.out.size hBA)) (fun g hg => Nat.lt_of_lt_of_le (qs FO0.out g hg).2 hBA)
    have FB1:=hZ (FB0.out.chain qi)
    have FO1:=hZ (qy FO0.out qi (fun g hg => (qs FO0.out g hg).2))
    have FS1:=hZ (FS0.out.on qi)
    have F23_1:=hZ zf
    have FM23:=hZ hmA
    clear hBA hoA hmA hlA qi zf
    refine hK _ _ (qo.out _ FB1.out) ?_
    clear hK K
    try simp only [qf]
    refine o1 9 (fun K hK => ?_)
    go_simp
    (with_reducible refine (HPl.out _ FB1.out).mono ?_)
    rintro e x2 ⟨v27,rfl,hoA,qi⟩
    obtain ⟨A27,c27,rfl,zf⟩:=xe.of_own (lo:=W1.heap.size) (O:=u3.ownBlock) hoA HPn.out (Nat.le_trans xD.out FB1.out.size) (fun g hg => (qs FO1.out g hg).2)
    have FB2:=hZ (FB1.out.chain qi)
    have FO2:=hZ (qy FO1.out qi (fun g hg => (qs FO1.out g hg).2))
    have FS2:=hZ (FS1.out.on qi)
    have F23_2:=hZ (F23_1.out.on qi)
    have F27_2:=hZ zf
    clear hoA qi zf
    refine hK _ _ (qo.out _ FB2.out) ?_
    clear hK K
    try simp only [qf]
    refine tk 10 28 (.agg #[.slice A23 m23.length c23,.slice A27 (qH r).length c27]) (qo.out _ FB2.out) ?v ?_
    case v => intro Wx hSx;go_simp
    try simp only [qf]
    refine o1 11 (fun K hK => ?_)
    obtain ⟨x3,hX⟩ : ∃ X,X = x2.alloc (.cells #[.slice A23 m23.length c23,.slice A27 (qH r).length c27] 187):=⟨_,rfl⟩
    have qi : Below x2.heap.size x2 x3:=by rw [hX];exact qd x2 _
    have zA : x3.heap[x2.heap.size]? = some (.cells #[.slice A23 m23.length c23,.slice A27 (qH r).length c27] 187):=by rw [hX];exact qe x2 _
    go_simp
    rw [<- hX]
    have FB3:=hZ (FB2.out.chain qi)
    have FO3:=hZ (qy FO2.out qi (fun g hg => (qs FO2.out g hg).2))
    have FS3:=hZ (FS2.out.on qi)
    have F23_3:=hZ (F23_2.out.on qi)
    have F27_3:=hZ (F27_2.out.on qi)
    have HRD:=hZ (qiY (size:=2) (m:=1) zA rfl)
    have HSV : Hid (qbS x3 W1.heap.size u3.ownBlock ⟨zr (.mk ek en es el),qH r⟩ (.slice A23 m23.length c23) (.slice A27 (qH r).length c27)):=hZ ⟨A23,_,c23,A27,_,c27,m23,rfl,rfl,F23_3.out,FM23.out,F27_3.out⟩
    have HON:=hZ (qlx (a:=.slice A23 m23.length c23) (b:=.slice A27 (qH r).length c27) rfl rfl)
    clear qi zA hX
    refine hK _ _ (qo.out _ FB3.out) ?_
    clear hK K
    try simp only [qf]
    refine o1 12 (fun K hK => ?_)
    refine qbc x3 _ _ 184 rfl W1.heap.size 187 i0 _ 2 48 Tryz.underlying184 zt.out.1 zt.out.2.1 zt.out.2.2.1 zt.out.2.2.2 rfl (by decide) u3 z xs rfl FO3.out x3.heap.size (some ⟨x2.heap.size,0,none⟩) 1 _ [.slice A23 m23.length c23,.slice A27 (qH r).length c27] rfl HRD.out HON.out (by unfold maxLen;have := HZ.out;omega) (by have := HZ.out;omega) (Nat.le_trans xD.out FB3.out.size) ?_
    intro v' X2 ho2 hg2 jY
    have vO:=zi FO3.out hg2 (Nat.le_trans xD.out FB3.out.size)
    have HX2 : Hid (Below W1.heap.size W1 X2 /\ X2.ownsRow W1.heap.size 187 2 v' (scL f (i + 1)).length (xs ++ [.slice A23 m23.length c23,.slice A27 (qH r).length c27]) /\ yN X2 W1.heap.size v'.ownBlock (scL f (i + 1)) (xs ++ [.slice A23 m23.length c23,.slice A27 (qH r).length c27])):=hZ (by
     refine ⟨(H6.out.chain FB3.out).trans vO,?_,?_⟩
     ·rw [HSC.out,List.length_append,<- HZZ.out];exact ho2
     ·rw [HSC.out];exact (FS3.out.grown hg2 jY).snoc (HSV.out.grown hg2 jY))
    have gx:=HSG.out _ _ (qo.out _ FB3.out) hg2
    refine hK _ _ gx ?_
    clear hK K ho2 hg2 jY vO
    try simp only [qf]
    refine tk 13 3 v' gx ?v ?_
    case v => intro Wx hSx;go_simp
    try simp only [qf]
    refine wpAnyH_done (by kernel_rfl) ?_ _
    go_wp2
    go_roundg (nc - (i + 1))
    case measure => omega
    case rel => exact ⟨i + 1,xs ++ [.slice A23 m23.length c23,.slice A27 (qH r).length c27],rfl,by omega,by go_num,HX2⟩
   ·have hk' : (k0 == 1) = false:=beq_eq_false_iff_ne.2 hk
    have HE : Hid (scL f (i + 1) = scL f i):=hZ (by
     rw [hsc]
     have : jF ⟨k0,nm0,l0⟩ = []:=if_neg hk
     rw [this,List.append_nil])
    have HX : Hid (Below W1.heap.size W1 W6 /\ W6.ownsRow W1.heap.size 187 2 u3 (scL f (i + 1)).length xs /\ yN W6 W1.heap.size u3.ownBlock (scL f (i + 1)) xs):=hZ (by
     rw [HE.out]
     exact ⟨H6.out,hO6,hS6⟩)
    clear hx hsc hz1 qR xu hO6 hS6 qL hg d0 d1 d2 yL hll qbj qx hk
    go_wp2
    rw [<- qW]
    go_roundg (nc - (i + 1))
    case measure => omega
    case rel => exact ⟨i + 1,xs,rfl,by omega,by go_num,HX⟩
  ·have hlt' : ¬ (i : Int) < nc:=by omega
   obtain rfl : i = nc:=by omega
   have qhY : scL f i = f.cls.flatMap jF:=by
    unfold scL
    rw [List.take_of_length_le (by rw [<- HC.out.2.1];exact Nat.le_refl _)]
   have hI2:=HI.out
   rw [qhY] at hI2
   have zA:=qg (HI.out.1) HW1.out.2
   have hz0 : (f.cls.flatMap jF).length <= 1000000:=by
    have h:=qda jF 1 qhC f.cls
    have := HC.out.2.1
    omega
   obtain ⟨Wm,hWm⟩ : ∃ Wm,Wm = wr:=⟨_,rfl⟩
   subst hWm
   have HM:=hZ hI2
   have HZ0:=hZ hz0
   have HBX:=hZ zA
   have b1:=qc zA 1 (v:=.slice Aa na ca) rfl
   clear qhY hI2 zA hz0 HI
   go_wp2
   go_loopg [3,35] na (fun mm u3 j wr => ∃ (i : Nat) (xs : List Value),mm = na - i /\ i <= na /\ j = .int .i64 i /\ Hid (Below W1.heap.size W1 wr /\ wr.ownsRow W1.heap.size 187 2 u3 (sbL f i).length xs /\ yN wr W1.heap.size u3.ownBlock (sbL f i) xs))
   case atStart => exact ⟨0,xs,rfl,Nat.zero_le _,rfl,hZ (by rw [qpZ];exact HM.out)⟩
   case round =>
    clear b1
    obtain ⟨i,xs,rfl,hi,rfl,HI⟩:=hrel
    have xj : (0 : Int) <= i:=by omega
    by_cases qB : i < na
    ·have hii : (i : Int) < na:=by omega
     obtain ⟨⟨k0,⟨ak,an,sa,al⟩,⟨bk,bn,sb,bl⟩⟩,hg⟩ : ∃ x,f.ats[i]? = some x:=⟨f.ats[i]'(by rw [<- HA.out.2.1];exact qB),List.getElem?_eq_getElem _⟩
     obtain ⟨a,rfl,qx,ak',an',sa',al',bk',bn',sb',bl',Aa0,ca0,Ab0,cb0,heq1,heq2,qn,hls,ra,rb⟩:=(HA.out.1.stay jd HI.out.1 HC.out.2.2.2).at_ hg
     obtain ⟨rfl,rfl,rfl,rfl⟩ : ak' = ak /\ an' = an /\ sa' = sa /\ al' = al:=by injection heq1 with h1 h2 h3 h4;exact ⟨h1.symm,h2.symm,h3.symm,h4.symm⟩
     obtain ⟨rfl,rfl,rfl,rfl⟩ : bk' = bk /\ bn' = bn /\ sb' = sb /\ bl' = bl:=by injection heq2 with h1 h2 h3 h4;exact ⟨h1.symm,h2.symm,h3.symm,h4.symm⟩
     obtain ⟨e0,e1,e2,e3,e4,e5,e6,e7,e8⟩:=qn.flat
     have hx:=HC.out.2.2.1.2.2.2.2 _ (List.mem_of_getElem? hg)
     have hsc : sbL f (i + 1) = sbL f i ++ qaT ⟨k0,.mk ak' an' sa' al',.mk bk' bn' sb' bl'⟩:=by unfold sbL;rw [qf9 qaT f.ats i _ hg,List.append_assoc]
     have hz1 : (sbL f i).length <= 3000000:=by
      have h:=qda qaT 2 qmF (f.ats.take i)
      have h2:=List.length_take_le i f.ats
      unfold sbL
      rw [List.length_append]
      have := HA.out.2.1
      have := HZ0.out
      omega
     obtain ⟨W6,qW⟩ : ∃ W6,W6 = wr.alloc (.cells #[.int .i64 k0,.int .i64 ak',.int .i64 an',.string ⟨sa'.toArray⟩,.slice Aa0 al'.length ca0,.int .i64 bk',.int .i64 bn',.string ⟨sb'.toArray⟩,.slice Ab0 bl'.length cb0] 148):=⟨_,rfl⟩
     have qR : Below wr.heap.size wr W6:=by rw [qW];exact qd wr _
     have xu : W6.heap[wr.heap.size]? = some (.cells #[.int .i64 k0,.int .i64 ak',.int .i64 an',.string ⟨sa'.toArray⟩,.slice Aa0 al'.length ca0,.int .i64 bk',.int .i64 bn',.string ⟨sb'.toArray⟩,.slice Ab0 bl'.length cb0] 148):=by rw [qW];exact qe wr _
     have H6:=hZ (HI.out.1.chain qR)
     have hO6:=qy HI.out.2.1 qR (fun g hg => (qs HI.out.2.1 g hg).2)
     have hS6:=HI.out.2.2.on qR
     by_cases hk : k0 = 1
     ·subst hk
      obtain ⟨z,hz⟩ : ∃ z,z = (sbL f i).length:=⟨_,rfl⟩
      rw [<- hz] at hz1 hO6
      have HSC : Hid (sbL f (i + 1) = sbL f i ++ [⟨zr (.mk ak' an' sa' al'),qak (.mk bk' bn' sb' bl')⟩,⟨zr (.mk bk' bn' sb' bl'),qak (.mk ak' an' sa' al')⟩]):=hZ (by rw [hsc];unfold qaT;rw [if_pos rfl])
      have HZ : Hid (z + 2 <= 4000000):=hZ (by omega)
      have HZZ:=hZ hz
      have xD : Hid (W1.heap.size <= W6.heap.size):=hZ H6.out.size
      have HPa : Hid (∀ x ∈ qH [.mk ak' an' sa' al'],x.length <= maxLen):=hZ (qi1 hls.1)
      have HPb : Hid (∀ x ∈ qH [.mk bk' bn' sb' bl'],x.length <= maxLen):=hZ (qi1 hls.2.2.1)
      have qz : w.heap.size <= wr.heap.size:=Nat.le_trans HC.out.2.2.2 HI.out.1.size
      have qA : ∀ g,u3.ownBlock = some g -> W1.heap.size <= g /\ g < wr.heap.size:=qs HI.out.2.1
      obtain ⟨na0,qe6⟩ : ∃ n,n = al'.length:=⟨_,rfl⟩
      obtain ⟨nb0,qe5⟩ : ∃ n,n = bl'.length:=⟨_,rfl⟩
      obtain ⟨S,hS⟩ : ∃ S : World -> Prop,S = fun W => (W.cell? ⟨wr.heap.size,1,none⟩ = some (.int .i64 ak') /\ W.cell? ⟨wr.heap.size,2,none⟩ = some (.int .i64 an') /\ W.cell? ⟨wr.heap.size,3,none⟩ = some (.string ⟨sa'.toArray⟩) /\ W.cell? ⟨wr.heap.size,4,none⟩ = some (.slice Aa0 na0 ca0)) /\ (W.cell? ⟨wr.heap.size,5,none⟩ = some (.int .i64 bk') /\ W.cell? ⟨wr.heap.size,6,none⟩ = some (.int .i64 bn') /\ W.cell? ⟨wr.heap.size,7,none⟩ = some (.string ⟨sb'.toArray⟩) /\ W.cell? ⟨wr.heap.size,8,none⟩ = some (.slice Ab0 nb0 cb0)):=⟨_,rfl⟩
      have qo : Hid (∀ W,Below W6.heap.size W6 W -> S W):=hZ (fun W hb => by
       rw [hS,qe6,qe5]
       have q:=qg hb xu
       exact ⟨⟨qc q 1 rfl,qc q 2 rfl,qc q 3 rfl,qc q 4 rfl⟩,⟨qc q 5 rfl,qc q 6 rfl,qc q 7 rfl,qc q 8 rfl⟩⟩)
      have qX : Hid (∀ W,S W -> (W.cell? ⟨wr.heap.size,1,none⟩ = some (.int .i64 ak') /\ W.cell? ⟨wr.heap.size,2,none⟩ = some (.int .i64 an') /\ W.cell? ⟨wr.heap.size,3,none⟩ = some (.string ⟨sa'.toArray⟩) /\ W.cell? ⟨wr.heap.size,4,none⟩ = some (.slice Aa0 na0 ca0)) /\ (W.cell? ⟨wr.heap.size,5,none⟩ = some (.int .i64 bk') /\ W.cell? ⟨wr.heap.size,6,none⟩ = some (.int .i64 bn') /\ W.cell? ⟨wr.heap.size,7,none⟩ = some (.string ⟨sb'.toArray⟩) /\ W.cell? ⟨wr.heap.size,8,none⟩ = some (.slice Ab0 nb0 cb0))):=hZ (fun W hs => by rw [hS] at hs;exact hs)
      have HSG : Hid (∀ W W',S W -> W.grownBy W' u3.ownBlock -> S W'):=hZ (fun W W' hs hg => by
       rw [hS] at hs ⊢
       obtain ⟨⟨s1,s2,s3,s4⟩,⟨s5,s6,s7,s8⟩⟩:=hs
       have n1 : u3.ownBlock ≠ some wr.heap.size:=fun e => Nat.lt_irrefl _ (qA _ e).2
       exact ⟨⟨yx hg s1 n1,yx hg s2 n1,yx hg s3 n1,yx hg s4 n1⟩,⟨yx hg s5 n1,yx hg s6 n1,yx hg s7 n1,yx hg s8 n1⟩⟩)
      have HVa : Hid (∀ W,Below W6.heap.size W6 W -> Calls Tryz.prog 146 #[zG ak' an' ⟨sa'.toArray⟩ (.slice Aa0 na0 ca0)] W fun e w' => ∃ (v : Value) (m : List (List UInt8)) (B : Nat),e = .returned v /\ W.heap.size <= B /\ w'.ownsRow B 9 1 v m.length (m.map qaN) /\ (∀ x,x ∈ m ↔ x ∈ zr (.mk ak' an' sa' al')) /\ (∀ x ∈ m,x.length <= maxLen) /\ Below W.heap.size W w'):=hZ (fun W hb => by
       rw [qe6]
       exact qg2 ak' an' sa' al' Aa0 ca0 W (ra.keep (fun q hq => (qR.chain hb).cell (Nat.lt_of_lt_of_le hq qz)) (Nat.le_trans qz (qR.chain hb).size)) hls.1 hls.2.1 hx.1)
      have HVb : Hid (∀ W,Below W6.heap.size W6 W -> Calls Tryz.prog 146 #[zG bk' bn' ⟨sb'.toArray⟩ (.slice Ab0 nb0 cb0)] W fun e w' => ∃ (v : Value) (m : List (List UInt8)) (B : Nat),e = .returned v /\ W.heap.size <= B /\ w'.ownsRow B 9 1 v m.length (m.map qaN) /\ (∀ x,x ∈ m ↔ x ∈ zr (.mk bk' bn' sb' bl')) /\ (∀ x ∈ m,x.length <= maxLen) /\ Below W.heap.size W w'):=hZ (fun W hb => by
       rw [qe5]
       exact qg2 bk' bn' sb' bl' Ab0 cb0 W (rb.keep (fun q hq => (qR.chain hb).cell (Nat.lt_of_lt_of_le hq qz)) (Nat.le_trans qz (qR.chain hb).size)) hls.2.2.1 hls.2.2.2 hx.2)
      have qer : Hid (∀ W g,Below W6.heap.size W6 W -> W.heap[g]? = some (zg ak' an' ⟨sa'.toArray⟩ (.slice Aa0 na0 ca0)) -> Calls Tryz.prog 147 #[.slice (some ⟨g,0,none⟩) 1 1] W fun e w' => ∃ v,e = .returned v /\ w'.ownsRow W.heap.size 9 1 v (qH [.mk ak' an' sa' al']).length ((qH [.mk ak' an' sa' al']).map qaN) /\ Below W.heap.size W w'):=hZ (fun W g hb hg => by
       rw [qe6] at hg
       exact qfL [.mk ak' an' sa' al'] _ 1 1 rfl (by omega) W (qoN hg (ra.keep (fun q hq => (qR.chain hb).cell (Nat.lt_of_lt_of_le hq qz)) (Nat.le_trans qz (qR.chain hb).size)) hls.1 hls.2.1))
      have qgj : Hid (∀ W g,Below W6.heap.size W6 W -> W.heap[g]? = some (zg bk' bn' ⟨sb'.toArray⟩ (.slice Ab0 nb0 cb0)) -> Calls Tryz.prog 147 #[.slice (some ⟨g,0,none⟩) 1 1] W fun e w' => ∃ v,e = .returned v /\ w'.ownsRow W.heap.size 9 1 v (qH [.mk bk' bn' sb' bl']).length ((qH [.mk bk' bn' sb' bl']).map qaN) /\ Below W.heap.size W w'):=hZ (fun W g hb hg => by
       rw [qe5] at hg
       exact qfL [.mk bk' bn' sb' bl'] _ 1 1 rfl (by omega) W (qoN hg (rb.keep (fun q hq => (qR.chain hb).cell (Nat.lt_of_lt_of_le hq qz)) (Nat.le_trans qz (qR.chain hb).size)) hls.2.2.1 hls.2.2.2))
      have FB0:=hZ (Below.refl W6.heap.size W6).drew
      have FO0 : Hid (W6.drew.ownsRow W1.heap.size 187 2 u3 z xs):=hZ hO6
      have FS0 : Hid (yN W6.drew W1.heap.size u3.ownBlock (sbL f i) xs):=hZ (hS6.on (Below.refl _ _).drew)
      have g0:=qo.out _ FB0.out
      rw [<- qe6] at qW e4
      rw [<- qe5] at qW e8
      clear hx hsc hz1 hz qR xu hO6 hS6 qx hls ra rb qz qA hS hg qn heq1 heq2 qe6 qe5
      go_wp2
      rw [<- qW]
      clear qW e0 e1 e2 e3 e4 e5 e6 e7 e8
      obtain ⟨x0,hx0⟩ : ∃ X,X = W6.drew:=⟨_,rfl⟩
      refine wp_region_held (S:=S) zE ?_
      change wpAnyH _ _ _ _ _ 20 #[false,false,false,false,false,false,false,false,false,false,false,false,false,false,false,false,false,false,false,false] _ W6.drew
      rw [<- hx0] at FB0 FO0 FS0 g0 ⊢
      clear hx0
      refine tk 0 42 (u3) g0 ?v ?_
      case v => intro Wx hSx;go_simp
      refine tk 1 43 (.pointer (some ⟨wr.heap.size,1,none⟩)) g0 ?v ?_
      case v => intro Wx hSx;go_simp
      refine tk 2 44 (zG ak' an' ⟨sa'.toArray⟩ (.slice Aa0 na0 ca0)) g0 ?v ?_
      case v => intro Wx hSx;obtain ⟨⟨z1,z2,z3,z4⟩,⟨z5,z6,z7,z8⟩⟩:=qX.out Wx hSx;go_simp
      refine tk 4 46 (.pointer (some ⟨wr.heap.size,5,none⟩)) g0 ?v ?_
      case v => intro Wx hSx;go_simp
      try simp only [qf]
      refine tk 5 47 (zG bk' bn' ⟨sb'.toArray⟩ (.slice Ab0 nb0 cb0)) g0 ?v ?_
      case v => intro Wx hSx;obtain ⟨⟨z1,z2,z3,z4⟩,⟨z5,z6,z7,z8⟩⟩:=qX.out Wx hSx;go_simp
      refine tk 9 51 (.pointer (some ⟨wr.heap.size,5,none⟩)) g0 ?v ?_
      case v => intro Wx hSx;go_simp
      refine tk 10 52 (zG bk' bn' ⟨sb'.toArray⟩ (.slice Ab0 nb0 cb0)) g0 ?v ?_
      case v => intro Wx hSx;obtain ⟨⟨z1,z2,z3,z4⟩,⟨z5,z6,z7,z8⟩⟩:=qX.out Wx hSx;go_simp
      refine tk 12 54 (.pointer (some ⟨wr.heap.size,1,none⟩)) g0 ?v ?_
      case v => intro Wx hSx;go_simp
      try simp only [qf]
      refine tk 13 55 (zG ak' an' ⟨sa'.toArray⟩ (.slice Aa0 na0 ca0)) g0 ?v ?_
      case v => intro Wx hSx;obtain ⟨⟨z1,z2,z3,z4⟩,⟨z5,z6,z7,z8⟩⟩:=qX.out Wx hSx;go_simp
      try simp only [qf]
      refine qnz 3 6 14 (by kernel_rfl) rfl rfl rfl (by kernel_rfl) (by kernel_rfl) (by kernel_rfl) (fun K hK => ?b0) (fun K hK => ?b1) (fun K hK => ?b2)
      case' b0 =>
       go_simp
       (with_reducible refine (HVa.out _ FB0.out).mono ?_)
       rintro e x1 ⟨v45,m45,B45,rfl,hBA,hoA,hmA,hlA,qi⟩
       obtain ⟨A45,c45,rfl,zf⟩:=xe.of_own (lo:=W1.heap.size) (O:=u3.ownBlock) hoA hlA (Nat.le_trans xD.out (Nat.le_trans FB0.out.size hBA)) (fun g hg => Nat.lt_of_lt_of_le (qs FO0.out g hg).2 hBA)
       have FB1:=hZ (FB0.out.chain qi)
       have FO1:=hZ (qy FO0.out qi (fun g hg => (qs FO0.out g hg).2))
       have FS1:=hZ (FS0.out.on qi)
       have F45_1:=hZ zf
       have FM45:=hZ hmA
       clear hBA hoA hmA hlA qi zf
       refine hK _ _ (qo.out _ FB1.out) ?_
       clear hK K
       try simp only [qf]
       refine zM 6 14 (by kernel_rfl) rfl rfl (by kernel_rfl) (by kernel_rfl) (fun K hK => ?b3) (fun K hK => ?b4)
       case' b3 =>
        obtain ⟨x2,hx2⟩ : ∃ X,X = x1.alloc (zg bk' bn' ⟨sb'.toArray⟩ (.slice Ab0 nb0 cb0)):=⟨_,rfl⟩
        have qi : Below x1.heap.size x1 x2:=by rw [hx2];exact qd x1 _
        have zA : x2.heap[x1.heap.size]? = some (zg bk' bn' ⟨sb'.toArray⟩ (.slice Ab0 nb0 cb0)):=by rw [hx2];exact qe x1 _
        go_simp
        rw [<- hx2]
        have FB2:=hZ (FB1.out.chain qi)
        have FO2:=hZ (qy FO1.out qi (fun g hg => (qs FO1.out g hg).2))
        have FS2:=hZ (FS1.out.on qi)
        have F45_2:=hZ (F45_1.out.on qi)
        have F48_2:=hZ zA
        clear qi zA hx2
        refine hK _ _ (qo.out _ FB2.out) ?_
        clear hK K
        try simp only [qf]
        refine zM 7 14 (by kernel_rfl) rfl rfl (by kernel_rfl) (by kernel_rfl) (fun K hK => ?b5) (fun K hK => ?b6)
        case' b5 =>
         go_simp
         (with_reducible refine (qgj.out _ _ FB2.out F48_2.out).mono ?_)
         rintro e x3 ⟨v49,rfl,hoA,qi⟩
         obtain ⟨A49,c49,rfl,zf⟩:=xe.of_own (lo:=W1.heap.size) (O:=u3.ownBlock) hoA HPb.out (Nat.le_trans xD.out FB2.out.size) (fun g hg => (qs FO2.out g hg).2)
         have FB3:=hZ (FB2.out.chain qi)
         have FO3:=hZ (qy FO2.out qi (fun g hg => (qs FO2.out g hg).2))
         have FS3:=hZ (FS2.out.on qi)
         have F45_3:=hZ (F45_2.out.on qi)
         have F48_3:=hZ (qg qi F48_2.out)
         have F49_3:=hZ zf
         clear hoA qi zf
         refine hK _ _ (qo.out _ FB3.out) ?_
         clear hK K
         try simp only [qf]
         refine tk 8 50 (.agg #[.slice A45 m45.length c45,.slice A49 (qH [.mk bk' bn' sb' bl']).length c49]) (qo.out _ FB3.out) ?v ?_
         case v => intro Wx hSx;go_simp
         try simp only [qf]
         refine zM 11 14 (by kernel_rfl) rfl rfl (by kernel_rfl) (by kernel_rfl) (fun K hK => ?b7) (fun K hK => ?b8)
         case' b7 =>
          go_simp
          (with_reducible refine (HVb.out _ FB3.out).mono ?_)
          rintro e x4 ⟨v53,m53,B53,rfl,hBA,hoA,hmA,hlA,qi⟩
          obtain ⟨A53,c53,rfl,zf⟩:=xe.of_own (lo:=W1.heap.size) (O:=u3.ownBlock) hoA hlA (Nat.le_trans xD.out (Nat.le_trans FB3.out.size hBA)) (fun g hg => Nat.lt_of_lt_of_le (qs FO3.out g hg).2 hBA)
          have FB4:=hZ (FB3.out.chain qi)
          have FO4:=hZ (qy FO3.out qi (fun g hg => (qs FO3.out g hg).2))
          have FS4:=hZ (FS3.out.on qi)
          have F45_4:=hZ (F45_3.out.on qi)
          have F48_4:=hZ (qg qi F48_3.out)
          have F49_4:=hZ (F49_3.out.on qi)
          have F53_4:=hZ zf
          have FM53:=hZ hmA
          clear hBA hoA hmA hlA qi zf
          refine hK _ _ (qo.out _ FB4.out) ?_
          clear hK K
          try simp only [qf]
          refine o1 14 (fun K hK => ?_)
          obtain ⟨x5,hx5⟩ : ∃ X,X = x4.alloc (zg ak' an' ⟨sa'.toArray⟩ (.slice Aa0 na0 ca0)):=⟨_,rfl⟩
          have qi : Below x4.heap.size x4 x5:=by rw [hx5];exact qd x4 _
          have zA : x5.heap[x4.heap.size]? = some (zg ak' an' ⟨sa'.toArray⟩ (.slice Aa0 na0 ca0)):=by rw [hx5];exact qe x4 _
          go_simp
          rw [<- hx5]
          have FB5:=hZ (FB4.out.chain qi)
          have FO5:=hZ (qy FO4.out qi (fun g hg => (qs FO4.out g hg).2))
          have FS5:=hZ (FS4.out.on qi)
          have F45_5:=hZ (F45_4.out.on qi)
          have F48_5:=hZ (qg qi F48_4.out)
          have F49_5:=hZ (F49_4.out.on qi)
          have F53_5:=hZ (F53_4.out.on qi)
          have F56_5:=hZ zA
          clear qi zA hx5
          refine hK _ _ (qo.out _ FB5.out) ?_
          clear hK K
          try simp only [qf]
          refine o1 15 (fun K hK => ?_)
          go_simp
          (with_reducible refine (qer.out _ _ FB5.out F56_5.out).mono ?_)
          rintro e x6 ⟨v57,rfl,hoA,qi⟩
          obtain ⟨A57,c57,rfl,zf⟩:=xe.of_own (lo:=W1.heap.size) (O:=u3.ownBlock) hoA HPa.out (Nat.le_trans xD.out FB5.out.size) (fun g hg => (qs FO5.out g hg).2)
          have FB6:=hZ (FB5.out.chain qi)
          have FO6:=hZ (qy FO5.out qi (fun g hg => (qs FO5.out g hg).2))
          have FS6:=hZ (FS5.out.on qi)
          have F45_6:=hZ (F45_5.out.on qi)
          have F48_6:=hZ (qg qi F48_5.out)
          have F49_6:=hZ (F49_5.out.on qi)
          have F53_6:=hZ (F53_5.out.on qi)
          have F56_6:=hZ (qg qi F56_5.out)
          have F57_6:=hZ zf
          clear hoA qi zf
          refine hK _ _ (qo.out _ FB6.out) ?_
          clear hK K
          try simp only [qf]
         case' b8 =>
          obtain ⟨x4,hx4⟩ : ∃ X,X = x3.alloc (zg ak' an' ⟨sa'.toArray⟩ (.slice Aa0 na0 ca0)):=⟨_,rfl⟩
          have qi : Below x3.heap.size x3 x4:=by rw [hx4];exact qd x3 _
          have zA : x4.heap[x3.heap.size]? = some (zg ak' an' ⟨sa'.toArray⟩ (.slice Aa0 na0 ca0)):=by rw [hx4];exact qe x3 _
          go_simp
          rw [<- hx4]
          have FB4:=hZ (FB3.out.chain qi)
          have FO4:=hZ (qy FO3.out qi (fun g hg => (qs FO3.out g hg).2))
          have FS4:=hZ (FS3.out.on qi)
          have F45_4:=hZ (F45_3.out.on qi)
          have F48_4:=hZ (qg qi F48_3.out)
          have F49_4:=hZ (F49_3.out.on qi)
          have F56_4:=hZ zA
          clear qi zA hx4
          refine hK _ _ (qo.out _ FB4.out) ?_
          clear hK K
          try simp only [qf]
          refine o1 11 (fun K hK => ?_)
          go_simp
          (with_reducible refine (HVb.out _ FB4.out).mono ?_)
          rintro e x5 ⟨v53,m53,B53,rfl,hBA,hoA,hmA,hlA,qi⟩
          obtain ⟨A53,c53,rfl,zf⟩:=xe.of_own (lo:=W1.heap.size) (O:=u3.ownBlock) hoA hlA (Nat.le_trans xD.out (Nat.le_trans FB4.out.size hBA)) (fun g hg => Nat.lt_of_lt_of_le (qs FO4.out g hg).2 hBA)
          have FB5:=hZ (FB4.out.chain qi)
          have FO5:=hZ (qy FO4.out qi (fun g hg => (qs FO4.out g hg).2))
          have FS5:=hZ (FS4.out.on qi)
          have F45_5:=hZ (F45_4.out.on qi)
          have F48_5:=hZ (qg qi F48_4.out)
          have F49_5:=hZ (F49_4.out.on qi)
          have F56_5:=hZ (qg qi F56_4.out)
          have F53_5:=hZ zf
          have FM53:=hZ hmA
          clear hBA hoA hmA hlA qi zf
          refine hK _ _ (qo.out _ FB5.out) ?_
          clear hK K
          try simp only [qf]
          refine o1 15 (fun K hK => ?_)
          go_simp
          (with_reducible refine (qer.out _ _ FB5.out F56_5.out).mono ?_)
          rintro e x6 ⟨v57,rfl,hoA,qi⟩
          obtain ⟨A57,c57,rfl,zf⟩:=xe.of_own (lo:=W1.heap.size) (O:=u3.ownBlock) hoA HPa.out (Nat.le_trans xD.out FB5.out.size) (fun g hg => (qs FO5.out g hg).2)
          have FB6:=hZ (FB5.out.chain qi)
          have FO6:=hZ (qy FO5.out qi (fun g hg => (qs FO5.out g hg).2))
          have FS6:=hZ (FS5.out.on qi)
          have F45_6:=hZ (F45_5.out.on qi)
          have F48_6:=hZ (qg qi F48_5.out)
          have F49_6:=hZ (F49_5.out.on qi)
          have F53_6:=hZ (F53_5.out.on qi)
          have F56_6:=hZ (qg qi F56_5.out)
          have F57_6:=hZ zf
          clear hoA qi zf
          refine hK _ _ (qo.out _ FB6.out) ?_
          clear hK K
          try simp only [qf]
        case' b6 =>
         obtain ⟨x3,hx3⟩ : ∃ X,X = x2.alloc (zg ak' an' ⟨sa'.toArray⟩ (.slice Aa0 na0 ca0)):=⟨_,rfl⟩
         have qi : Below x2.heap.size x2 x3:=by rw [hx3];exact qd x2 _
         have zA : x3.heap[x2.heap.size]? = some (zg ak' an' ⟨sa'.toArray⟩ (.slice Aa0 na0 ca0)):=by rw [hx3];exact qe x2 _
         go_simp
         rw [<- hx3]
         have FB3:=hZ (FB2.out.chain qi)
         have FO3:=hZ (qy FO2.out qi (fun g hg => (qs FO2.out g hg).2))
         have FS3:=hZ (FS2.out.on qi)
         have F45_3:=hZ (F45_2.out.on qi)
         have F48_3:=hZ (qg qi F48_2.out)
         have F56_3:=hZ zA
         clear qi zA hx3
         refine hK _ _ (qo.out _ FB3.out) ?_
         clear hK K
         try simp only [qf]
         refine o1 7 (fun K hK => ?_)
         go_simp
         (with_reducible refine (qgj.out _ _ FB3.out F48_3.out).mono ?_)
         rintro e x4 ⟨v49,rfl,hoA,qi⟩
         obtain ⟨A49,c49,rfl,zf⟩:=xe.of_own (lo:=W1.heap.size) (O:=u3.ownBlock) hoA HPb.out (Nat.le_trans xD.out FB3.out.size) (fun g hg => (qs FO3.out g hg).2)
         have FB4:=hZ (FB3.out.chain qi)
         have FO4:=hZ (qy FO3.out qi (fun g hg => (qs FO3.out g hg).2))
         have FS4:=hZ (FS3.out.on qi)
         have F45_4:=hZ (F45_3.out.on qi)
         have F48_4:=hZ (qg qi F48_3.out)
         have F56_4:=hZ (qg qi F56_3.out)
         have F49_4:=hZ zf
         clear hoA qi zf
         refine hK _ _ (qo.out _ FB4.out) ?_
         clear hK K
         try simp only [qf]
         refine tk 8 50 (.agg #[.slice A45 m45.length c45,.slice A49 (qH [.mk bk' bn' sb' bl']).length c49]) (qo.out _ FB4.out) ?v ?_
         case v => intro Wx hSx;go_simp
         try simp only [qf]
         refine o1 11 (fun K hK => ?_)
         go_simp
         (with_reducible refine (HVb.out _ FB4.out).mono ?_)
         rintro e x5 ⟨v53,m53,B53,rfl,hBA,hoA,hmA,hlA,qi⟩
         obtain ⟨A53,c53,rfl,zf⟩:=xe.of_own (lo:=W1.heap.size) (O:=u3.ownBlock) hoA hlA (Nat.le_trans xD.out (Nat.le_trans FB4.out.size hBA)) (fun g hg => Nat.lt_of_lt_of_le (qs FO4.out g hg).2 hBA)
         have FB5:=hZ (FB4.out.chain qi)
         have FO5:=hZ (qy FO4.out qi (fun g hg => (qs FO4.out g hg).2))
         have FS5:=hZ (FS4.out.on qi)
         have F45_5:=hZ (F45_4.out.on qi)
         have F48_5:=hZ (qg qi F48_4.out)
         have F49_5:=hZ (F49_4.out.on qi)
         have F56_5:=hZ (qg qi F56_4.out)
         have F53_5:=hZ zf
         have FM53:=hZ hmA
         clear hBA hoA hmA hlA qi zf
         refine hK _ _ (qo.out _ FB5.out) ?_
         clear hK K
         try simp only [qf]
         refine o1 15 (fun K hK => ?_)
         go_simp
         (with_reducible refine (qer.out _ _ FB5.out F56_5.out).mono ?_)
         rintro e x6 ⟨v57,rfl,hoA,qi⟩
         obtain ⟨A57,c57,rfl,zf⟩:=xe.of_own (lo:=W1.heap.size) (O:=u3.ownBlock) hoA HPa.out (Nat.le_trans xD.out FB5.out.size) (fun g hg => (qs FO5.out g hg).2)
         have FB6:=hZ (FB5.out.chain qi)
         have FO6:=hZ (qy FO5.out qi (fun g hg => (qs FO5.out g hg).2))
         have FS6:=hZ (FS5.out.on qi)
         have F45_6:=hZ (F45_5.out.on qi)
         have F48_6:=hZ (qg qi F48_5.out)
         have F49_6:=hZ (F49_5.out.on qi)
         have F53_6:=hZ (F53_5.out.on qi)
         have F56_6:=hZ (qg qi F56_5.out)
         have F57_6:=hZ zf
         clear hoA qi zf
         refine hK _ _ (qo.out _ FB6.out) ?_
         clear hK K
         try simp only [qf]
       case' b4 =>
        obtain ⟨x2,hx2⟩ : ∃ X,X = x1.alloc (zg ak' an' ⟨sa'.toArray⟩ (.slice Aa0 na0 ca0)):=⟨_,rfl⟩
        have qi : Below x1.heap.size x1 x2:=by rw [hx2];exact qd x1 _
        have zA : x2.heap[x1.heap.size]? = some (zg ak' an' ⟨sa'.toArray⟩ (.slice Aa0 na0 ca0)):=by rw [hx2];exact qe x1 _
        go_simp
        rw [<- hx2]
        have FB2:=hZ (FB1.out.chain qi)
        have FO2:=hZ (qy FO1.out qi (fun g hg => (qs FO1.out g hg).2))
        have FS2:=hZ (FS1.out.on qi)
        have F45_2:=hZ (F45_1.out.on qi)
        have F56_2:=hZ zA
        clear qi zA hx2
        refine hK _ _ (qo.out _ FB2.out) ?_
        clear hK K
        try simp only [qf]
        refine o1 6 (fun K hK => ?_)
        obtain ⟨x3,hx3⟩ : ∃ X,X = x2.alloc (zg bk' bn' ⟨sb'.toArray⟩ (.slice Ab0 nb0 cb0)):=⟨_,rfl⟩
        have qi : Below x2.heap.size x2 x3:=by rw [hx3];exact qd x2 _
        have zA : x3.heap[x2.heap.size]? = some (zg bk' bn' ⟨sb'.toArray⟩ (.slice Ab0 nb0 cb0)):=by rw [hx3];exact qe x2 _
        go_simp
        rw [<- hx3]
        have FB3:=hZ (FB2.out.chain qi)
        have FO3:=hZ (qy FO2.out qi (fun g hg => (qs FO2.out g hg).2))
        have FS3:=hZ (FS2.out.on qi)
        have F45_3:=hZ (F45_2.out.on qi)
        have F56_3:=hZ (qg qi F56_2.out)
        have F48_3:=hZ zA
        clear qi zA hx3
        refine hK _ _ (qo.out _ FB3.out) ?_
        clear hK K
        try simp only [qf]
        refine o1 7 (fun K hK => ?_)
        go_simp
        (with_reducible refine (qgj.out _ _ FB3.out F48_3.out).mono ?_)
        rintro e x4 ⟨v49,rfl,hoA,qi⟩
        obtain ⟨A49,c49,rfl,zf⟩:=xe.of_own (lo:=W1.heap.size) (O:=u3.ownBlock) hoA HPb.out (Nat.le_trans xD.out FB3.out.size) (fun g hg => (qs FO3.out g hg).2)
        have FB4:=hZ (FB3.out.chain qi)
        have FO4:=hZ (qy FO3.out qi (fun g hg => (qs FO3.out g hg).2))
        have FS4:=hZ (FS3.out.on qi)
        have F45_4:=hZ (F45_3.out.on qi)
        have F48_4:=hZ (qg qi F48_3.out)
        have F56_4:=hZ (qg qi F56_3.out)
        have F49_4:=hZ zf
        clear hoA qi zf
        refine hK _ _ (qo.out _ FB4.out) ?_
        clear hK K
        try simp only [qf]
        refine tk 8 50 (.agg #[.slice A45 m45.length c45,.slice A49 (qH [.mk bk' bn' sb' bl']).length c49]) (qo.out _ FB4.out) ?v ?_
        case v => intro Wx hSx;go_simp
        try simp only [qf]
        refine o1 11 (fun K hK => ?_)
        go_simp
        (with_reducible refine (HVb.out _ FB4.out).mono ?_)
        rintro e x5 ⟨v53,m53,B53,rfl,hBA,hoA,hmA,hlA,qi⟩
        obtain ⟨A53,c53,rfl,zf⟩:=xe.of_own (lo:=W1.heap.size) (O:=u3.ownBlock) hoA hlA (Nat.le_trans xD.out (Nat.le_trans FB4.out.size hBA)) (fun g hg => Nat.lt_of_lt_of_le (qs FO4.out g hg).2 hBA)
        have FB5:=hZ (FB4.out.chain qi)
        have FO5:=hZ (qy FO4.out qi (fun g hg => (qs FO4.out g hg).2))
        have FS5:=hZ (FS4.out.on qi)
        have F45_5:=hZ (F45_4.out.on qi)
        have F48_5:=hZ (qg qi F48_4.out)
        have F49_5:=hZ (F49_4.out.on qi)
        have F56_5:=hZ (qg qi F56_4.out)
        have F53_5:=hZ zf
        have FM53:=hZ hmA
        clear hBA hoA hmA hlA qi zf
        refine hK _ _ (qo.out _ FB5.out) ?_
        clear hK K
        try simp only [qf]
        refine o1 15 (fun K hK => ?_)
        go_simp
        (with_reducible refine (qer.out _ _ FB5.out F56_5.out).mono ?_)
        rintro e x6 ⟨v57,rfl,hoA,qi⟩
        obtain ⟨A57,c57,rfl,zf⟩:=xe.of_own (lo:=W1.heap.size) (O:=u3.ownBlock) hoA HPa.out (Nat.le_trans xD.out FB5.out.size) (fun g hg => (qs FO5.out g hg).2)
        have FB6:=hZ (FB5.out.chain qi)
        have FO6:=hZ (qy FO5.out qi (fun g hg => (qs FO5.out g hg).2))
        have FS6:=hZ (FS5.out.on qi)
        have F45_6:=hZ (F45_5.out.on qi)
        have F48_6:=hZ (qg qi F48_5.out)
        have F49_6:=hZ (F49_5.out.on qi)
        have F53_6:=hZ (F53_5.out.on qi)
        have F56_6:=hZ (qg qi F56_5.out)
        have F57_6:=hZ zf
        clear hoA qi zf
        refine hK _ _ (qo.out _ FB6.out) ?_
        clear hK K
        try simp only [qf]
      case' b1 =>
       obtain ⟨x1,jL⟩ : ∃ X,X = x0.alloc (zg bk' bn' ⟨sb'.toArray⟩ (.slice Ab0 nb0 cb0)):=⟨_,rfl⟩
       have qi : Below x0.heap.size x0 x1:=by rw [jL];exact qd x0 _
       have zA : x1.heap[x0.heap.size]? = some (zg bk' bn' ⟨sb'.toArray⟩ (.slice Ab0 nb0 cb0)):=by rw [jL];exact qe x0 _
       go_simp
       rw [<- jL]
       have FB1:=hZ (FB0.out.chain qi)
       have FO1:=hZ (qy FO0.out qi (fun g hg => (qs FO0.out g hg).2))
       have FS1:=hZ (FS0.out.on qi)
       have F48_1:=hZ zA
       clear qi zA jL
       refine hK _ _ (qo.out _ FB1.out) ?_
       clear hK K
       try simp only [qf]
       refine zM 3 14 (by kernel_rfl) rfl rfl (by kernel_rfl) (by kernel_rfl) (fun K hK => ?b9) (fun K hK => ?b10)
       case' b9 =>
        go_simp
        (with_reducible refine (HVa.out _ FB1.out).mono ?_)
        rintro e x2 ⟨v45,m45,B45,rfl,hBA,hoA,hmA,hlA,qi⟩
        obtain ⟨A45,c45,rfl,zf⟩:=xe.of_own (lo:=W1.heap.size) (O:=u3.ownBlock) hoA hlA (Nat.le_trans xD.out (Nat.le_trans FB1.out.size hBA)) (fun g hg => Nat.lt_of_lt_of_le (qs FO1.out g hg).2 hBA)
        have FB2:=hZ (FB1.out.chain qi)
        have FO2:=hZ (qy FO1.out qi (fun g hg => (qs FO1.out g hg).2))
        have FS2:=hZ (FS1.out.on qi)
        have F48_2:=hZ (qg qi F48_1.out)
        have F45_2:=hZ zf
        have FM45:=hZ hmA
        clear hBA hoA hmA hlA qi zf
        refine hK _ _ (qo.out _ FB2.out) ?_
        clear hK K
        try simp only [qf]
        refine zM 7 14 (by kernel_rfl) rfl rfl (by kernel_rfl) (by kernel_rfl) (fun K hK => ?b11) (fun K hK => ?b12)
        case' b11 =>
         go_simp
         (with_reducible refine (qgj.out _ _ FB2.out F48_2.out).mono ?_)
         rintro e x3 ⟨v49,rfl,hoA,qi⟩
         obtain ⟨A49,c49,rfl,zf⟩:=xe.of_own (lo:=W1.heap.size) (O:=u3.ownBlock) hoA HPb.out (Nat.le_trans xD.out FB2.out.size) (fun g hg => (qs FO2.out g hg).2)
         have FB3:=hZ (FB2.out.chain qi)
         have FO3:=hZ (qy FO2.out qi (fun g hg => (qs FO2.out g hg).2))
         have FS3:=hZ (FS2.out.on qi)
         have F45_3:=hZ (F45_2.out.on qi)
         have F48_3:=hZ (qg qi F48_2.out)
         have F49_3:=hZ zf
         clear hoA qi zf
         refine hK _ _ (qo.out _ FB3.out) ?_
         clear hK K
         try simp only [qf]
         refine tk 8 50 (.agg #[.slice A45 m45.length c45,.slice A49 (qH [.mk bk' bn' sb' bl']).length c49]) (qo.out _ FB3.out) ?v ?_
         case v => intro Wx hSx;go_simp
         try simp only [qf]
         refine zM 11 14 (by kernel_rfl) rfl rfl (by kernel_rfl) (by kernel_rfl) (fun K hK => ?b13) (fun K hK => ?b14)
         case' b13 =>
          go_simp
          (with_reducible refine (HVb.out _ FB3.out).mono ?_)
          rintro e x4 ⟨v53,m53,B53,rfl,hBA,hoA,hmA,hlA,qi⟩
          obtain ⟨A53,c53,rfl,zf⟩:=xe.of_own (lo:=W1.heap.size) (O:=u3.ownBlock) hoA hlA (Nat.le_trans xD.out (Nat.le_trans FB3.out.size hBA)) (fun g hg => Nat.lt_of_lt_of_le (qs FO3.out g hg).2 hBA)
          have FB4:=hZ (FB3.out.chain qi)
          have FO4:=hZ (qy FO3.out qi (fun g hg => (qs FO3.out g hg).2))
          have FS4:=hZ (FS3.out.on qi)
          have F45_4:=hZ (F45_3.out.on qi)
          have F48_4:=hZ (qg qi F48_3.out)
          have F49_4:=hZ (F49_3.out.on qi)
          have F53_4:=hZ zf
          have FM53:=hZ hmA
          clear hBA hoA hmA hlA qi zf
          refine hK _ _ (qo.out _ FB4.out) ?_
          clear hK K
          try simp only [qf]
          refine o1 14 (fun K hK => ?_)
          obtain ⟨x5,hx5⟩ : ∃ X,X = x4.alloc (zg ak' an' ⟨sa'.toArray⟩ (.slice Aa0 na0 ca0)):=⟨_,rfl⟩
          have qi : Below x4.heap.size x4 x5:=by rw [hx5];exact qd x4 _
          have zA : x5.heap[x4.heap.size]? = some (zg ak' an' ⟨sa'.toArray⟩ (.slice Aa0 na0 ca0)):=by rw [hx5];exact qe x4 _
          go_simp
          rw [<- hx5]
          have FB5:=hZ (FB4.out.chain qi)
          have FO5:=hZ (qy FO4.out qi (fun g hg => (qs FO4.out g hg).2))
          have FS5:=hZ (FS4.out.on qi)
          have F45_5:=hZ (F45_4.out.on qi)
          have F48_5:=hZ (qg qi F48_4.out)
          have F49_5:=hZ (F49_4.out.on qi)
          have F53_5:=hZ (F53_4.out.on qi)
          have F56_5:=hZ zA
          clear qi zA hx5
          refine hK _ _ (qo.out _ FB5.out) ?_
          clear hK K
          try simp only [qf]
          refine o1 15 (fun K hK => ?_)
          go_simp
          (with_reducible refine (qer.out _ _ FB5.out F56_5.out).mono ?_)
          rintro e x6 ⟨v57,rfl,hoA,qi⟩
          obtain ⟨A57,c57,rfl,zf⟩:=xe.of_own (lo:=W1.heap.size) (O:=u3.ownBlock) hoA HPa.out (Nat.le_trans xD.out FB5.out.size) (fun g hg => (qs FO5.out g hg).2)
          have FB6:=hZ (FB5.out.chain qi)
          have FO6:=hZ (qy FO5.out qi (fun g hg => (qs FO5.out g hg).2))
          have FS6:=hZ (FS5.out.on qi)
          have F45_6:=hZ (F45_5.out.on qi)
          have F48_6:=hZ (qg qi F48_5.out)
          have F49_6:=hZ (F49_5.out.on qi)
          have F53_6:=hZ (F53_5.out.on qi)
          have F56_6:=hZ (qg qi F56_5.out)
          have F57_6:=hZ zf
          clear hoA qi zf
          refine hK _ _ (qo.out _ FB6.out) ?_
          clear hK K
          try simp only [qf]
         case' b14 =>
          obtain ⟨x4,hx4⟩ : ∃ X,X = x3.alloc (zg ak' an' ⟨sa'.toArray⟩ (.slice Aa0 na0 ca0)):=⟨_,rfl⟩
          have qi : Below x3.heap.size x3 x4:=by rw [hx4];exact qd x3 _
          have zA : x4.heap[x3.heap.size]? = some (zg ak' an' ⟨sa'.toArray⟩ (.slice Aa0 na0 ca0)):=by rw [hx4];exact qe x3 _
          go_simp
          rw [<- hx4]
          have FB4:=hZ (FB3.out.chain qi)
          have FO4:=hZ (qy FO3.out qi (fun g hg => (qs FO3.out g hg).2))
          have FS4:=hZ (FS3.out.on qi)
          have F45_4:=hZ (F45_3.out.on qi)
          have F48_4:=hZ (qg qi F48_3.out)
          have F49_4:=hZ (F49_3.out.on qi)
          have F56_4:=hZ zA
          clear qi zA hx4
          refine hK _ _ (qo.out _ FB4.out) ?_
          clear hK K
          try simp only [qf]
          refine o1 11 (fun K hK => ?_)
          go_simp
          (with_reducible refine (HVb.out _ FB4.out).mono ?_)
          rintro e x5 ⟨v53,m53,B53,rfl,hBA,hoA,hmA,hlA,qi⟩
          obtain ⟨A53,c53,rfl,zf⟩:=xe.of_own (lo:=W1.heap.size) (O:=u3.ownBlock) hoA hlA (Nat.le_trans xD.out (Nat.le_trans FB4.out.size hBA)) (fun g hg => Nat.lt_of_lt_of_le (qs FO4.out g hg).2 hBA)
          have FB5:=hZ (FB4.out.chain qi)
          have FO5:=hZ (qy FO4.out qi (fun g hg => (qs FO4.out g hg).2))
          have FS5:=hZ (FS4.out.on qi)
          have F45_5:=hZ (F45_4.out.on qi)
          have F48_5:=hZ (qg qi F48_4.out)
          have F49_5:=hZ (F49_4.out.on qi)
          have F56_5:=hZ (qg qi F56_4.out)
          have F53_5:=hZ zf
          have FM53:=hZ hmA
          clear hBA hoA hmA hlA qi zf
          refine hK _ _ (qo.out _ FB5.out) ?_
          clear hK K
          try simp only [qf]
          refine o1 15 (fun K hK => ?_)
          go_simp
          (with_reducible refine (qer.out _ _ FB5.out F56_5.out).mono ?_)
          rintro e x6 ⟨v57,rfl,hoA,qi⟩
          obtain ⟨A57,c57,rfl,zf⟩:=xe.of_own (lo:=W1.heap.size) (O:=u3.ownBlock) hoA HPa.out (Nat.le_trans xD.out FB5.out.size) (fun g hg => (qs FO5.out g hg).2)
          have FB6:=hZ (FB5.out.chain qi)
          have FO6:=hZ (qy FO5.out qi (fun g hg => (qs FO5.out g hg).2))
          have FS6:=hZ (FS5.out.on qi)
          have F45_6:=hZ (F45_5.out.on qi)
          have F48_6:=hZ (qg qi F48_5.out)
          have F49_6:=hZ (F49_5.out.on qi)
          have F53_6:=hZ (F53_5.out.on qi)
          have F56_6:=hZ (qg qi F56_5.out)
          have F57_6:=hZ zf
          clear hoA qi zf
          refine hK _ _ (qo.out _ FB6.out) ?_
          clear hK K
          try simp only [qf]
        case' b12 =>
         obtain ⟨x3,hx3⟩ : ∃ X,X = x2.alloc (zg ak' an' ⟨sa'.toArray⟩ (.slice Aa0 na0 ca0)):=⟨_,rfl⟩
         have qi : Below x2.heap.size x2 x3:=by rw [hx3];exact qd x2 _
         have zA : x3.heap[x2.heap.size]? = some (zg ak' an' ⟨sa'.toArray⟩ (.slice Aa0 na0 ca0)):=by rw [hx3];exact qe x2 _
         go_simp
         rw [<- hx3]
         have FB3:=hZ (FB2.out.chain qi)
         have FO3:=hZ (qy FO2.out qi (fun g hg => (qs FO2.out g hg).2))
         have FS3:=hZ (FS2.out.on qi)
         have F45_3:=hZ (F45_2.out.on qi)
         have F48_3:=hZ (qg qi F48_2.out)
         have F56_3:=hZ zA
         clear qi zA hx3
         refine hK _ _ (qo.out _ FB3.out) ?_
         clear hK K
         try simp only [qf]
         refine o1 7 (fun K hK => ?_)
         go_simp
         (with_reducible refine (qgj.out _ _ FB3.out F48_3.out).mono ?_)
         rintro e x4 ⟨v49,rfl,hoA,qi⟩
         obtain ⟨A49,c49,rfl,zf⟩:=xe.of_own (lo:=W1.heap.size) (O:=u3.ownBlock) hoA HPb.out (Nat.le_trans xD.out FB3.out.size) (fun g hg => (qs FO3.out g hg).2)
         have FB4:=hZ (FB3.out.chain qi)
         have FO4:=hZ (qy FO3.out qi (fun g hg => (qs FO3.out g hg).2))
         have FS4:=hZ (FS3.out.on qi)
         have F45_4:=hZ (F45_3.out.on qi)
         have F48_4:=hZ (qg qi F48_3.out)
         have F56_4:=hZ (qg qi F56_3.out)
         have F49_4:=hZ zf
         clear hoA qi zf
         refine hK _ _ (qo.out _ FB4.out) ?_
         clear hK K
         try simp only [qf]
         refine tk 8 50 (.agg #[.slice A45 m45.length c45,.slice A49 (qH [.mk bk' bn' sb' bl']).length c49]) (qo.out _ FB4.out) ?v ?_
         case v => intro Wx hSx;go_simp
         try simp only [qf]
         refine o1 11 (fun K hK => ?_)
         go_simp
         (with_reducible refine (HVb.out _ FB4.out).mono ?_)
         rintro e x5 ⟨v53,m53,B53,rfl,hBA,hoA,hmA,hlA,qi⟩
         obtain ⟨A53,c53,rfl,zf⟩:=xe.of_own (lo:=W1.heap.size) (O:=u3.ownBlock) hoA hlA (Nat.le_trans xD.out (Nat.le_trans FB4.out.size hBA)) (fun g hg => Nat.lt_of_lt_of_le (qs FO4.out g hg).2 hBA)
         have FB5:=hZ (FB4.out.chain qi)
         have FO5:=hZ (qy FO4.out qi (fun g hg => (qs FO4.out g hg).2))
         have FS5:=hZ (FS4.out.on qi)
         have F45_5:=hZ (F45_4.out.on qi)
         have F48_5:=hZ (qg qi F48_4.out)
         have F49_5:=hZ (F49_4.out.on qi)
         have F56_5:=hZ (qg qi F56_4.out)
         have F53_5:=hZ zf
         have FM53:=hZ hmA
         clear hBA hoA hmA hlA qi zf
         refine hK _ _ (qo.out _ FB5.out) ?_
         clear hK K
         try simp only [qf]
         refine o1 15 (fun K hK => ?_)
         go_simp
         (with_reducible refine (qer.out _ _ FB5.out F56_5.out).mono ?_)
         rintro e x6 ⟨v57,rfl,hoA,qi⟩
         obtain ⟨A57,c57,rfl,zf⟩:=xe.of_own (lo:=W1.heap.size) (O:=u3.ownBlock) hoA HPa.out (Nat.le_trans xD.out FB5.out.size) (fun g hg => (qs FO5.out g hg).2)
         have FB6:=hZ (FB5.out.chain qi)
         have FO6:=hZ (qy FO5.out qi (fun g hg => (qs FO5.out g hg).2))
         have FS6:=hZ (FS5.out.on qi)
         have F45_6:=hZ (F45_5.out.on qi)
         have F48_6:=hZ (qg qi F48_5.out)
         have F49_6:=hZ (F49_5.out.on qi)
         have F53_6:=hZ (F53_5.out.on qi)
         have F56_6:=hZ (qg qi F56_5.out)
         have F57_6:=hZ zf
         clear hoA qi zf
         refine hK _ _ (qo.out _ FB6.out) ?_
         clear hK K
         try simp only [qf]
       case' b10 =>
        obtain ⟨x2,hx2⟩ : ∃ X,X = x1.alloc (zg ak' an' ⟨sa'.toArray⟩ (.slice Aa0 na0 ca0)):=⟨_,rfl⟩
        have qi : Below x1.heap.size x1 x2:=by rw [hx2];exact qd x1 _
        have zA : x2.heap[x1.heap.size]? = some (zg ak' an' ⟨sa'.toArray⟩ (.slice Aa0 na0 ca0)):=by rw [hx2];exact qe x1 _
        go_simp
        rw [<- hx2]
        have FB2:=hZ (FB1.out.chain qi)
        have FO2:=hZ (qy FO1.out qi (fun g hg => (qs FO1.out g hg).2))
        have FS2:=hZ (FS1.out.on qi)
        have F48_2:=hZ (qg qi F48_1.out)
        have F56_2:=hZ zA
        clear qi zA hx2
        refine hK _ _ (qo.out _ FB2.out) ?_
        clear hK K
        try simp only [qf]
        refine o1 3 (fun K hK => ?_)
        go_simp
        (with_reducible refine (HVa.out _ FB2.out).mono ?_)
        rintro e x3 ⟨v45,m45,B45,rfl,hBA,hoA,hmA,hlA,qi⟩
        obtain ⟨A45,c45,rfl,zf⟩:=xe.of_own (lo:=W1.heap.size) (O:=u3.ownBlock) hoA hlA (Nat.le_trans xD.out (Nat.le_trans FB2.out.size hBA)) (fun g hg => Nat.lt_of_lt_of_le (qs FO2.out g hg).2 hBA)
        have FB3:=hZ (FB2.out.chain qi)
        have FO3:=hZ (qy FO2.out qi (fun g hg => (qs FO2.out g hg).2))
        have FS3:=hZ (FS2.out.on qi)
        have F48_3:=hZ (qg qi F48_2.out)
        have F56_3:=hZ (qg qi F56_2.out)
        have F45_3:=hZ zf
        have FM45:=hZ hmA
        clear hBA hoA hmA hlA qi zf
        refine hK _ _ (qo.out _ FB3.out) ?_
        clear hK K
        try simp only [qf]
        refine o1 7 (fun K hK => ?_)
        go_simp
        (with_reducible refine (qgj.out _ _ FB3.out F48_3.out).mono ?_)
        rintro e x4 ⟨v49,rfl,hoA,qi⟩
        obtain ⟨A49,c49,rfl,zf⟩:=xe.of_own (lo:=W1.heap.size) (O:=u3.ownBlock) hoA HPb.out (Nat.le_trans xD.out FB3.out.size) (fun g hg => (qs FO3.out g hg).2)
        have FB4:=hZ (FB3.out.chain qi)
        have FO4:=hZ (qy FO3.out qi (fun g hg => (qs FO3.out g hg).2))
        have FS4:=hZ (FS3.out.on qi)
        have F45_4:=hZ (F45_3.out.on qi)
        have F48_4:=hZ (qg qi F48_3.out)
        have F56_4:=hZ (qg qi F56_3.out)
        have F49_4:=hZ zf
        clear hoA qi zf
        refine hK _ _ (qo.out _ FB4.out) ?_
        clear hK K
        try simp only [qf]
        refine tk 8 50 (.agg #[.slice A45 m45.length c45,.slice A49 (qH [.mk bk' bn' sb' bl']).length c49]) (qo.out _ FB4.out) ?v ?_
        case v => intro Wx hSx;go_simp
        try simp only [qf]
        refine o1 11 (fun K hK => ?_)
        go_simp
        (with_reducible refine (HVb.out _ FB4.out).mono ?_)
        rintro e x5 ⟨v53,m53,B53,rfl,hBA,hoA,hmA,hlA,qi⟩
        obtain ⟨A53,c53,rfl,zf⟩:=xe.of_own (lo:=W1.heap.size) (O:=u3.ownBlock) hoA hlA (Nat.le_trans xD.out (Nat.le_trans FB4.out.size hBA)) (fun g hg => Nat.lt_of_lt_of_le (qs FO4.out g hg).2 hBA)
        have FB5:=hZ (FB4.out.chain qi)
        have FO5:=hZ (qy FO4.out qi (fun g hg => (qs FO4.out g hg).2))
        have FS5:=hZ (FS4.out.on qi)
        have F45_5:=hZ (F45_4.out.on qi)
        have F48_5:=hZ (qg qi F48_4.out)
        have F49_5:=hZ (F49_4.out.on qi)
        have F56_5:=hZ (qg qi F56_4.out)
        have F53_5:=hZ zf
        have FM53:=hZ hmA
        clear hBA hoA hmA hlA qi zf
        refine hK _ _ (qo.out _ FB5.out) ?_
        clear hK K
        try simp only [qf]
        refine o1 15 (fun K hK => ?_)
        go_simp
        (with_reducible refine (qer.out _ _ FB5.out F56_5.out).mono ?_)
        rintro e x6 ⟨v57,rfl,hoA,qi⟩
        obtain ⟨A57,c57,rfl,zf⟩:=xe.of_own (lo:=W1.heap.size) (O:=u3.ownBlock) hoA HPa.out (Nat.le_trans xD.out FB5.out.size) (fun g hg => (qs FO5.out g hg).2)
        have FB6:=hZ (FB5.out.chain qi)
        have FO6:=hZ (qy FO5.out qi (fun g hg => (qs FO5.out g hg).2))
        have FS6:=hZ (FS5.out.on qi)
        have F45_6:=hZ (F45_5.out.on qi)
        have F48_6:=hZ (qg qi F48_5.out)
        have F49_6:=hZ (F49_5.out.on qi)
        have F53_6:=hZ (F53_5.out.on qi)
        have F56_6:=hZ (qg qi F56_5.out)
        have F57_6:=hZ zf
        clear hoA qi zf
        refine hK _ _ (qo.out _ FB6.out) ?_
        clear hK K
        try simp only [qf]
      case' b2 =>
       obtain ⟨x1,jL⟩ : ∃ X,X = x0.alloc (zg ak' an' ⟨sa'.toArray⟩ (.slice Aa0 na0 ca0)):=⟨_,rfl⟩
       have qi : Below x0.heap.size x0 x1:=by rw [jL];exact qd x0 _
       have zA : x1.heap[x0.heap.size]? = some (zg ak' an' ⟨sa'.toArray⟩ (.slice Aa0 na0 ca0)):=by rw [jL];exact qe x0 _
       go_simp
       rw [<- jL]
       have FB1:=hZ (FB0.out.chain qi)
       have FO1:=hZ (qy FO0.out qi (fun g hg => (qs FO0.out g hg).2))
       have FS1:=hZ (FS0.out.on qi)
       have F56_1:=hZ zA
       clear qi zA jL
       refine hK _ _ (qo.out _ FB1.out) ?_
       clear hK K
       try simp only [qf]
       refine zM 3 6 (by kernel_rfl) rfl rfl (by kernel_rfl) (by kernel_rfl) (fun K hK => ?b15) (fun K hK => ?b16)
       case' b15 =>
        go_simp
        (with_reducible refine (HVa.out _ FB1.out).mono ?_)
        rintro e x2 ⟨v45,m45,B45,rfl,hBA,hoA,hmA,hlA,qi⟩
        obtain ⟨A45,c45,rfl,zf⟩:=xe.of_own (lo:=W1.heap.size) (O:=u3.ownBlock) hoA hlA (Nat.le_trans xD.out (Nat.le_trans FB1.out.size hBA)) (fun g hg => Nat.lt_of_lt_of_le (qs FO1.out g hg).2 hBA)
        have FB2:=hZ (FB1.out.chain qi)
        have FO2:=hZ (qy FO1.out qi (fun g hg => (qs FO1.out g hg).2))
        have FS2:=hZ (FS1.out.on qi)
        have F56_2:=hZ (qg qi F56_1.out)
        have F45_2:=hZ zf
        have FM45:=hZ hmA
        clear hBA hoA hmA hlA qi zf
        refine hK _ _ (qo.out _ FB2.out) ?_
        clear hK K
        try simp only [qf]
        refine o1 6 (fun K hK => ?_)
        obtain ⟨x3,hx3⟩ : ∃ X,X = x2.alloc (zg bk' bn' ⟨sb'.toArray⟩ (.slice Ab0 nb0 cb0)):=⟨_,rfl⟩
        have qi : Below x2.heap.size x2 x3:=by rw [hx3];exact qd x2 _
        have zA : x3.heap[x2.heap.size]? = some (zg bk' bn' ⟨sb'.toArray⟩ (.slice Ab0 nb0 cb0)):=by rw [hx3];exact qe x2 _
        go_simp
        rw [<- hx3]
        have FB3:=hZ (FB2.out.chain qi)
        have FO3:=hZ (qy FO2.out qi (fun g hg => (qs FO2.out g hg).2))
        have FS3:=hZ (FS2.out.on qi)
        have F45_3:=hZ (F45_2.out.on qi)
        have F56_3:=hZ (qg qi F56_2.out)
        have F48_3:=hZ zA
        clear qi zA hx3
        refine hK _ _ (qo.out _ FB3.out) ?_
        clear hK K
        try simp only [qf]
        refine o1 7 (fun K hK => ?_)
        go_simp
        (with_reducible refine (qgj.out _ _ FB3.out F48_3.out).mono ?_)
        rintro e x4 ⟨v49,rfl,hoA,qi⟩
        obtain ⟨A49,c49,rfl,zf⟩:=xe.of_own (lo:=W1.heap.size) (O:=u3.ownBlock) hoA HPb.out (Nat.le_trans xD.out FB3.out.size) (fun g hg => (qs FO3.out g hg).2)
        have FB4:=hZ (FB3.out.chain qi)
        have FO4:=hZ (qy FO3.out qi (fun g hg => (qs FO3.out g hg).2))
        have FS4:=hZ (FS3.out.on qi)
        have F45_4:=hZ (F45_3.out.on qi)
        have F48_4:=hZ (qg qi F48_3.out)
        have F56_4:=hZ (qg qi F56_3.out)
        have F49_4:=hZ zf
        clear hoA qi zf
        refine hK _ _ (qo.out _ FB4.out) ?_
        clear hK K
        try simp only [qf]
        refine tk 8 50 (.agg #[.slice A45 m45.length c45,.slice A49 (qH [.mk bk' bn' sb' bl']).length c49]) (qo.out _ FB4.out) ?v ?_
        case v => intro Wx hSx;go_simp
        try simp only [qf]
        refine o1 11 (fun K hK => ?_)
        go_simp
        (with_reducible refine (HVb.out _ FB4.out).mono ?_)
        rintro e x5 ⟨v53,m53,B53,rfl,hBA,hoA,hmA,hlA,qi⟩
        obtain ⟨A53,c53,rfl,zf⟩:=xe.of_own (lo:=W1.heap.size) (O:=u3.ownBlock) hoA hlA (Nat.le_trans xD.out (Nat.le_trans FB4.out.size hBA)) (fun g hg => Nat.lt_of_lt_of_le (qs FO4.out g hg).2 hBA)
        have FB5:=hZ (FB4.out.chain qi)
        have FO5:=hZ (qy FO4.out qi (fun g hg => (qs FO4.out g hg).2))
        have FS5:=hZ (FS4.out.on qi)
        have F45_5:=hZ (F45_4.out.on qi)
        have F48_5:=hZ (qg qi F48_4.out)
        have F49_5:=hZ (F49_4.out.on qi)
        have F56_5:=hZ (qg qi F56_4.out)
        have F53_5:=hZ zf
        have FM53:=hZ hmA
        clear hBA hoA hmA hlA qi zf
        refine hK _ _ (qo.out _ FB5.out) ?_
        clear hK K
        try simp only [qf]
        refine o1 15 (fun K hK => ?_)
        go_simp
        (with_reducible refine (qer.out _ _ FB5.out F56_5.out).mono ?_)
        rintro e x6 ⟨v57,rfl,hoA,qi⟩
        obtain ⟨A57,c57,rfl,zf⟩:=xe.of_own (lo:=W1.heap.size) (O:=u3.ownBlock) hoA HPa.out (Nat.le_trans xD.out FB5.out.size) (fun g hg => (qs FO5.out g hg).2)
        have FB6:=hZ (FB5.out.chain qi)
        have FO6:=hZ (qy FO5.out qi (fun g hg => (qs FO5.out g hg).2))
        have FS6:=hZ (FS5.out.on qi)
        have F45_6:=hZ (F45_5.out.on qi)
        have F48_6:=hZ (qg qi F48_5.out)
        have F49_6:=hZ (F49_5.out.on qi)
        have F53_6:=hZ (F53_5.out.on qi)
        have F56_6:=hZ (qg qi F56_5.out)
        have F57_6:=hZ zf
        clear hoA qi zf
        refine hK _ _ (qo.out _ FB6.out) ?_
        clear hK K
        try simp only [qf]
       case' b16 =>
        obtain ⟨x2,hx2⟩ : ∃ X,X = x1.alloc (zg bk' bn' ⟨sb'.toArray⟩ (.slice Ab0 nb0 cb0)):=⟨_,rfl⟩
        have qi : Below x1.heap.size x1 x2:=by rw [hx2];exact qd x1 _
        have zA : x2.heap[x1.heap.size]? = some (zg bk' bn' ⟨sb'.toArray⟩ (.slice Ab0 nb0 cb0)):=by rw [hx2];exact qe x1 _
        go_simp
        rw [<- hx2]
        have FB2:=hZ (FB1.out.chain qi)
        have FO2:=hZ (qy FO1.out qi (fun g hg => (qs FO1.out g hg).2))
        have FS2:=hZ (FS1.out.on qi)
        have F56_2:=hZ (qg qi F56_1.out)
        have F48_2:=hZ zA
        clear qi zA hx2
        refine hK _ _ (qo.out _ FB2.out) ?_
        clear hK K
        try simp only [qf]
        refine o1 3 (fun K hK => ?_)
        go_simp
        (with_reducible refine (HVa.out _ FB2.out).mono ?_)
        rintro e x3 ⟨v45,m45,B45,rfl,hBA,hoA,hmA,hlA,qi⟩
        obtain ⟨A45,c45,rfl,zf⟩:=xe.of_own (lo:=W1.heap.size) (O:=u3.ownBlock) hoA hlA (Nat.le_trans xD.out (Nat.le_trans FB2.out.size hBA)) (fun g hg => Nat.lt_of_lt_of_le (qs FO2.out g hg).2 hBA)
        have FB3:=hZ (FB2.out.chain qi)
        have FO3:=hZ (qy FO2.out qi (fun g hg => (qs FO2.out g hg).2))
        have FS3:=hZ (FS2.out.on qi)
        have F48_3:=hZ (qg qi F48_2.out)
        have F56_3:=hZ (qg qi F56_2.out)
        have F45_3:=hZ zf
        have FM45:=hZ hmA
        clear hBA hoA hmA hlA qi zf
        refine hK _ _ (qo.out _ FB3.out) ?_
        clear hK K
        try simp only [qf]
        refine o1 7 (fun K hK => ?_)
        go_simp
        (with_reducible refine (qgj.out _ _ FB3.out F48_3.out).mono ?_)
        rintro e x4 ⟨v49,rfl,hoA,qi⟩
        obtain ⟨A49,c49,rfl,zf⟩:=xe.of_own (lo:=W1.heap.size) (O:=u3.ownBlock) hoA HPb.out (Nat.le_trans xD.out FB3.out.size) (fun g hg => (qs FO3.out g hg).2)
        have FB4:=hZ (FB3.out.chain qi)
        have FO4:=hZ (qy FO3.out qi (fun g hg => (qs FO3.out g hg).2))
        have FS4:=hZ (FS3.out.on qi)
        have F45_4:=hZ (F45_3.out.on qi)
        have F48_4:=hZ (qg qi F48_3.out)
        have F56_4:=hZ (qg qi F56_3.out)
        have F49_4:=hZ zf
        clear hoA qi zf
        refine hK _ _ (qo.out _ FB4.out) ?_
        clear hK K
        try simp only [qf]
        refine tk 8 50 (.agg #[.slice A45 m45.length c45,.slice A49 (qH [.mk bk' bn' sb' bl']).length c49]) (qo.out _ FB4.out) ?v ?_
        case v => intro Wx hSx;go_simp
        try simp only [qf]
        refine o1 11 (fun K hK => ?_)
        go_simp
        (with_reducible refine (HVb.out _ FB4.out).mono ?_)
        rintro e x5 ⟨v53,m53,B53,rfl,hBA,hoA,hmA,hlA,qi⟩
        obtain ⟨A53,c53,rfl,zf⟩:=xe.of_own (lo:=W1.heap.size) (O:=u3.ownBlock) hoA hlA (Nat.le_trans xD.out (Nat.le_trans FB4.out.size hBA)) (fun g hg => Nat.lt_of_lt_of_le (qs FO4.out g hg).2 hBA)
        have FB5:=hZ (FB4.out.chain qi)
        have FO5:=hZ (qy FO4.out qi (fun g hg => (qs FO4.out g hg).2))
        have FS5:=hZ (FS4.out.on qi)
        have F45_5:=hZ (F45_4.out.on qi)
        have F48_5:=hZ (qg qi F48_4.out)
        have F49_5:=hZ (F49_4.out.on qi)
        have F56_5:=hZ (qg qi F56_4.out)
        have F53_5:=hZ zf
        have FM53:=hZ hmA
        clear hBA hoA hmA hlA qi zf
        refine hK _ _ (qo.out _ FB5.out) ?_
        clear hK K
        try simp only [qf]
        refine o1 15 (fun K hK => ?_)
        go_simp
        (with_reducible refine (qer.out _ _ FB5.out F56_5.out).mono ?_)
        rintro e x6 ⟨v57,rfl,hoA,qi⟩
        obtain ⟨A57,c57,rfl,zf⟩:=xe.of_own (lo:=W1.heap.size) (O:=u3.ownBlock) hoA HPa.out (Nat.le_trans xD.out FB5.out.size) (fun g hg => (qs FO5.out g hg).2)
        have FB6:=hZ (FB5.out.chain qi)
        have FO6:=hZ (qy FO5.out qi (fun g hg => (qs FO5.out g hg).2))
        have FS6:=hZ (FS5.out.on qi)
        have F45_6:=hZ (F45_5.out.on qi)
        have F48_6:=hZ (qg qi F48_5.out)
        have F49_6:=hZ (F49_5.out.on qi)
        have F53_6:=hZ (F53_5.out.on qi)
        have F56_6:=hZ (qg qi F56_5.out)
        have F57_6:=hZ zf
        clear hoA qi zf
        refine hK _ _ (qo.out _ FB6.out) ?_
        clear hK K
        try simp only [qf]
      all_goals
       refine tk 16 58 (.agg #[.slice A53 m53.length c53,.slice A57 (qH [.mk ak' an' sa' al']).length c57]) (qo.out _ FB6.out) ?v ?_
       case v => intro Wx hSx;go_simp
       try simp only [qf]
       refine o1 17 (fun K hK => ?_)
       obtain ⟨x7,hX⟩ : ∃ X,X = x6.alloc (.cells #[.slice A45 m45.length c45,.slice A49 (qH [.mk bk' bn' sb' bl']).length c49,.slice A53 m53.length c53,.slice A57 (qH [.mk ak' an' sa' al']).length c57] 187):=⟨_,rfl⟩
       have qi : Below x6.heap.size x6 x7:=by rw [hX];exact qd x6 _
       have zA : x7.heap[x6.heap.size]? = some (.cells #[.slice A45 m45.length c45,.slice A49 (qH [.mk bk' bn' sb' bl']).length c49,.slice A53 m53.length c53,.slice A57 (qH [.mk ak' an' sa' al']).length c57] 187):=by rw [hX];exact qe x6 _
       go_simp
       rw [<- hX]
       have FB7:=hZ (FB6.out.chain qi)
       have FO7:=hZ (qy FO6.out qi (fun g hg => (qs FO6.out g hg).2))
       have FS7:=hZ (FS6.out.on qi)
       have F45_7:=hZ (F45_6.out.on qi)
       have F48_7:=hZ (qg qi F48_6.out)
       have F49_7:=hZ (F49_6.out.on qi)
       have F53_7:=hZ (F53_6.out.on qi)
       have F56_7:=hZ (qg qi F56_6.out)
       have F57_7:=hZ (F57_6.out.on qi)
       have HRD:=hZ (qiY (size:=2) (m:=2) zA rfl)
       have HSV : Hid (qbS x7 W1.heap.size u3.ownBlock ⟨zr (.mk ak' an' sa' al'),qak (.mk bk' bn' sb' bl')⟩ (.slice A45 m45.length c45) (.slice A49 (qH [.mk bk' bn' sb' bl']).length c49) /\ qbS x7 W1.heap.size u3.ownBlock ⟨zr (.mk bk' bn' sb' bl'),qak (.mk ak' an' sa' al')⟩ (.slice A53 m53.length c53) (.slice A57 (qH [.mk ak' an' sa' al']).length c57)):=hZ ⟨⟨A45,_,c45,A49,_,c49,m45,rfl,rfl,F45_7.out,FM45.out,by rw [<- qhG];exact F49_7.out⟩,⟨A53,_,c53,A57,_,c57,m53,rfl,rfl,F53_7.out,FM53.out,by rw [<- qhG];exact F57_7.out⟩⟩
       have HON:=hZ (qqG (a:=.slice A45 m45.length c45) (b:=.slice A49 (qH [.mk bk' bn' sb' bl']).length c49) (c:=.slice A53 m53.length c53) (d:=.slice A57 (qH [.mk ak' an' sa' al']).length c57) rfl rfl rfl rfl)
       clear qi zA hX
       refine hK _ _ (qo.out _ FB7.out) ?_
       clear hK K
       try simp only [qf]
       refine o1 18 (fun K hK => ?_)
       refine qbc x7 _ _ 184 rfl W1.heap.size 187 i0 _ 2 48 Tryz.underlying184 zt.out.1 zt.out.2.1 zt.out.2.2.1 zt.out.2.2.2 rfl (by decide) u3 z xs rfl FO7.out x7.heap.size (some ⟨x6.heap.size,0,none⟩) 2 _ [.slice A45 m45.length c45,.slice A49 (qH [.mk bk' bn' sb' bl']).length c49,.slice A53 m53.length c53,.slice A57 (qH [.mk ak' an' sa' al']).length c57] rfl HRD.out HON.out (by unfold maxLen;have := HZ.out;omega) (by have := HZ.out;omega) (Nat.le_trans xD.out FB7.out.size) ?_
       intro v' X2 ho2 hg2 jY
       have vO:=zi FO7.out hg2 (Nat.le_trans xD.out FB7.out.size)
       have HX2 : Hid (Below W1.heap.size W1 X2 /\ X2.ownsRow W1.heap.size 187 2 v' (sbL f (i + 1)).length (xs ++ [.slice A45 m45.length c45,.slice A49 (qH [.mk bk' bn' sb' bl']).length c49,.slice A53 m53.length c53,.slice A57 (qH [.mk ak' an' sa' al']).length c57]) /\ yN X2 W1.heap.size v'.ownBlock (sbL f (i + 1)) (xs ++ [.slice A45 m45.length c45,.slice A49 (qH [.mk bk' bn' sb' bl']).length c49,.slice A53 m53.length c53,.slice A57 (qH [.mk ak' an' sa' al']).length c57])):=hZ (by
        refine ⟨(H6.out.chain FB7.out).trans vO,?_,?_⟩
        ·rw [HSC.out,List.length_append,<- HZZ.out];exact ho2
        ·rw [HSC.out];have h:=((FS7.out.grown hg2 jY).snoc (HSV.out.1.grown hg2 jY)).snoc (HSV.out.2.grown hg2 jY);rw [List.append_assoc,List.append_assoc] at h;exact h)
       have gx:=HSG.out _ _ (qo.out _ FB7.out) hg2
       refine hK _ _ gx ?_
       clear hK K ho2 hg2 jY vO
       try simp only [qf]
       refine tk 19 3 v' gx ?v ?_
       case v => intro Wx hSx;go_simp
       try simp only [qf]
       refine wpAnyH_done (by kernel_rfl) ?_ _
       go_wp2
       go_roundg (na - (i + 1))
       case measure => omega
       case rel => exact ⟨i + 1,xs ++ [.slice A45 m45.length c45,.slice A49 (qH [.mk bk' bn' sb' bl']).length c49,.slice A53 m53.length c53,.slice A57 (qH [.mk ak' an' sa' al']).length c57],rfl,by omega,by go_num,HX2⟩
     ·have hk' : (k0 == 1) = false:=beq_eq_false_iff_ne.2 hk
      have HE : Hid (sbL f (i + 1) = sbL f i):=hZ (by
       rw [hsc]
       have : qaT ⟨k0,.mk ak' an' sa' al',.mk bk' bn' sb' bl'⟩ = []:=if_neg hk
       rw [this,List.append_nil])
      have HX : Hid (Below W1.heap.size W1 W6 /\ W6.ownsRow W1.heap.size 187 2 u3 (sbL f (i + 1)).length xs /\ yN W6 W1.heap.size u3.ownBlock (sbL f (i + 1)) xs):=hZ (by
       rw [HE.out]
       exact ⟨H6.out,hO6,hS6⟩)
      clear hx hsc hz1 qR xu hO6 hS6 hg qx hls ra rb hk qn heq1 heq2
      go_wp2
      rw [<- qW]
      go_roundg (na - (i + 1))
      case measure => omega
      case rel => exact ⟨i + 1,xs,rfl,by omega,by go_num,HX⟩
    ·have hlt' : ¬ (i : Int) < na:=by omega
     obtain rfl : i = na:=by omega
     have qhY : sbL f i = xE f:=by
      unfold sbL xE
      rw [List.take_of_length_le (by rw [<- HA.out.2.1];exact Nat.le_refl _)]
     have hI2:=HI.out
     rw [qhY] at hI2
     have HM2:=hZ hI2
     clear qhY hI2 HI
     go_wp2
     go_ret
     exact ⟨_,xs,W1.heap.size,rfl,HW1.out.1.size,HM2.out.2.1,HM2.out.2.2,HW1.out.1.chain HM2.out.1⟩
end Go.Proofs.YtojjfdegkooknaaGreatDoor
