import Derived.Test.YtojjfdegkooknaaGreatDoorSTypN
import Derived.Test.YtojjfdegkooknaaGreatDoorSTypSu
import Derived.Test.YtojjfdegkooknaaGreatDoorSTypFDef
import Derived.Test.YtojjfdegkooknaaGreatDoorSTypTg
import Derived.Test.YtojjfdegkooknaaGreatDoorSTypDv
set_option linter.unusedVariables false
set_option linter.unusedSimpArgs false
namespace Go.Proofs.YtojjfdegkooknaaGreatDoor
section
set_option maxRecDepth 100000
set_option maxHeartbeats 8000000
open Go.RowKit Go.Lib
theorem qqJ (u v x : Value) (w : World) : (Instr.field 64 (.agg #[u,v,x]) 1).run Tryz.prog w = .ok v w:=by kernel_rfl
def qpb (r : Except jl (List Pm)) (e : Ending) (w' : World) : Prop :=
 match r with
 | .ok ps => ∃ (A : Option Addr) (n c : Nat),e = .returned (.slice A n c) /\ n = ps.length /\ n <= maxLen /\ qD zp 2 w' w'.heap.size ps A
 | .error t => e = .panicked [{ v:=qfI t,recovered:=false }]
def qiq (p : Pg) : Prop:=∀ r ∈ p.rs,r.fs.length <= 4399999999998
theorem qnr (p : Pg) (d : GAd) (B0 cb : Nat) (hfs : qiq p) (x : Cl) (L : Option Addr) (ln lc : Nat) (w : World) (hC : ChkAt w B0 cb d p) :
 Calls Tryz.prog 83 #[.pointer (some ⟨cb,0,none⟩),qgz x.k ⟨x.nm.toArray⟩ (.slice L ln lc)] w fun e w' => qpb (jG p x) e w' /\ Below w.heap.size w w':=by
 obtain ⟨k,nm,xl⟩:=x
 show Calls _ _ #[_,qgz k ⟨nm.toArray⟩ (.slice L ln lc)] _ _
 obtain ⟨W1,qh⟩ : ∃ W1,W1 = w.alloc (qcu k ⟨nm.toArray⟩ (.slice L ln lc)):=⟨_,rfl⟩
 have qk : Below w.heap.size w W1:=by rw [qh];exact qd w _
 have yc : W1.heap[w.heap.size]? = some (qcu k ⟨nm.toArray⟩ (.slice L ln lc)):=by rw [qh];exact qe w _
 have zE : Tryz.prog.follows .mixedOrders = true:=by kernel_rfl
 obtain ⟨S,hS⟩ : ∃ S : World -> Prop,S = fun W => Below W1.heap.size W1 W:=⟨_,rfl⟩
 have qo : Hid (∀ W,Below W1.heap.size W1 W -> S W):=hZ (fun W hb => by rw [hS];exact hb)
 have ze:=hZ (Below.refl W1.heap.size W1).drew
 have g0:=qo.out _ ze.out
 have qw:=hZ qk
 by_cases h2 : k = 2
 ·subst h2
  obtain ⟨nd,vN⟩ : ∃ nd,nd = p.ds.length:=⟨_,rfl⟩
  obtain ⟨q,hq⟩ : ∃ q,q = qG (fun y : Df => y.nm) p.ds nm:=⟨_,rfl⟩
  have HR : Hid (jG p ⟨2,nm,xl⟩ = qqS q nm):=hZ (by rw [hq];rfl)
  obtain ⟨R,hR⟩ : ∃ R,R = jG p ⟨2,nm,xl⟩:=⟨_,rfl⟩
  rw [<- hR] at HR ⊢
  have qX : Hid (∀ W,S W -> W.cell? ⟨cb,3,none⟩ = some (.slice d.d nd d.nd) /\ W.cell? ⟨w.heap.size,1,none⟩ = some (.string ⟨nm.toArray⟩)):=hZ (fun W hs => by
   rw [hS] at hs
   exact ⟨by rw [vN];exact (hC.on (qk.chain hs)).c3,qc (qg hs yc) 1 rfl⟩)
  have HF : Hid (∀ W,Below W1.heap.size W1 W -> Calls Tryz.prog 116 #[.slice d.d nd d.nd,.string ⟨nm.toArray⟩,.func (.func 99) #[] #[]] W (jr vg nm q B0 W)):=hZ (fun W hb => by
   have hk:=hC.on (qk.chain hb)
   rw [hq,vN]
   exact qsP 99 (enters_of Tryz.func99 (by kernel_rfl) rfl) (·.nm) qof nm p.ds d.d d.nd p.ds.length rfl hk.own.1.2.2.2.1 B0 W (Nat.le_trans hk.le (Nat.le_of_lt hk.lt)) (qeN hk.own.2.2.2.2.1))
  have zo : Hid (B0 <= w.heap.size):=hZ (Nat.le_trans hC.le (Nat.le_of_lt hC.lt))
  have hfd:=qqJ
  clear qk yc hS hC hq vN hR
  go_enter Tryz.func83,Tryz.ntmps83
  go_wp2
  rw [<- qh]
  clear qh
  refine wp_region_held (S:=S) zE ?_
  change wpAnyH _ _ _ _ _ 10 #[false,false,false,false,false,false,false,false,false,false] _ W1.drew
  refine tk 0 9 (.pointer (some ⟨cb,0,none⟩)) g0 ?v ?_
  case v => intro Wx hSx;go_simp
  refine tk 1 10 (.pointer (some ⟨cb,0,none⟩)) g0 ?v ?_
  case v => intro Wx hSx;go_simp
  refine tk 2 11 (.pointer (some ⟨cb,0,none⟩)) g0 ?v ?_
  case v => intro Wx hSx;go_simp
  refine tk 3 12 (.pointer (some ⟨cb,3,none⟩)) g0 ?v ?_
  case v => intro Wx hSx;go_simp
  try simp only [qf]
  refine tk 4 13 (.slice d.d nd d.nd) g0 ?v ?_
  case v => intro Wx hSx;obtain ⟨z1,z2⟩:=qX.out Wx hSx;go_simp
  refine tk 5 14 (.pointer (some ⟨w.heap.size,1,none⟩)) g0 ?v ?_
  case v => intro Wx hSx;go_simp
  refine tk 6 15 (.string ⟨nm.toArray⟩) g0 ?v ?_
  case v => intro Wx hSx;obtain ⟨z1,z2⟩:=qX.out Wx hSx;go_simp
  try simp only [qf]
  refine o1 7 (fun K hK => ?_)
  go_simp
  (with_reducible refine (HF.out _ ze.out).mono ?_)
  rintro e w3 ⟨hr,qt⟩
  have H3:=hZ (ze.out.chain qt)
  clear qt
  rcases hr with ⟨cs',y,rfl,ho,A,c,A2,c2,qn,hy⟩ | ⟨ho,he⟩
  ·subst qn
   have HV:=hZ hy
   have HQ:=hZ ho
   clear hy ho
   have g3:=qo.out _ H3.out
   refine hK _ _ g3 ?_
   clear hK K
   refine tk 8 17 (.slice A y.ps.length c) g3 ?v ?_
   case v => intro Wx hSx;go_simp
   refine tk 9 4 (.slice A y.ps.length c) g3 ?v ?_
   case v => intro Wx hSx;go_simp
   try simp only [qf]
   refine wpAnyH_done (by kernel_rfl) ?_ _
   go_wp2
   go_ret
   refine ⟨?_,qw.out.chain H3.out⟩
   rw [HR.out,HQ.out]
   refine ⟨A,_,c,rfl,rfl,HV.out.2.1,fun i z hz => ?_⟩
   obtain ⟨a,cs,q1,q2,q3⟩:=zm HV.out.2.2.2.1 i z hz
   exact ⟨a,cs,q1,Nat.lt_of_lt_of_le q2 (Nat.le_trans zo.out (qw.out.chain H3.out).size),q3⟩
  ·subst he
   refine ⟨rfl,?_,qw.out.chain H3.out⟩
   rw [HR.out,ho]
   exact rfl
 ·have h2' : (k == 2) = false:=beq_eq_false_iff_ne.2 h2
  obtain ⟨nr,xU⟩ : ∃ nr,nr = p.rs.length:=⟨_,rfl⟩
  obtain ⟨q,hq⟩ : ∃ q,q = qG (fun y : Rc => y.nm) p.rs nm:=⟨_,rfl⟩
  have HR : Hid (jG p ⟨k,nm,xl⟩ = qp0 q nm):=hZ (by rw [hq];exact if_neg h2)
  obtain ⟨R,hR⟩ : ∃ R,R = jG p ⟨k,nm,xl⟩:=⟨_,rfl⟩
  rw [<- hR] at HR ⊢
  have qX : Hid (∀ W,S W -> W.cell? ⟨cb,0,none⟩ = some (.slice d.r nr d.nr) /\ W.cell? ⟨w.heap.size,1,none⟩ = some (.string ⟨nm.toArray⟩)):=hZ (fun W hs => by
   rw [hS] at hs
   exact ⟨by rw [xU];exact (hC.on (qk.chain hs)).c0,qc (qg hs yc) 1 rfl⟩)
  have HF : Hid (∀ W,Below W1.heap.size W1 W -> Calls Tryz.prog 103 #[.slice d.r nr d.nr,.string ⟨nm.toArray⟩,.func (.func 46) #[] #[]] W (jr yW nm q B0 W)):=hZ (fun W hb => by
   have hk:=hC.on (qk.chain hb)
   rw [hq,xU]
   exact qe8 46 (enters_of Tryz.func46 (by kernel_rfl) rfl) (·.nm) qcC nm p.rs d.r d.nr p.rs.length rfl hk.own.1.1 B0 W (Nat.le_trans hk.le (Nat.le_of_lt hk.lt)) (qbp hk.own.2.1))
  have zo : Hid (B0 <= w.heap.size):=hZ (Nat.le_trans hC.le (Nat.le_of_lt hC.lt))
  have HQ : Hid (∀ y,q = some y -> y.fs.length <= 4399999999998):=hZ (fun y hy => hfs y (by
   rw [hq] at hy
   exact List.mem_of_find?_eq_some hy))
  clear qk yc hS hC hq xU h2 hR
  go_enter Tryz.func83,Tryz.ntmps83
  go_upto_region 3 with fail
  rw [<- qh]
  clear qh
  go_cut [5] from 18 to 25 (fun v5 wx => ∃ (g : Nat) (W : World) (y : Rc) (A : Option Addr) (c : Nat),W = wx /\ v5 = .pointer (some ⟨g,0,none⟩) /\ Hid (W.heap[g]? = some (.cells #[.string ⟨y.nm.toArray⟩,.slice A y.fs.length c] 36 (0,0)) /\ Below W1.heap.size W1 W /\ q = some y /\ yW W B0 #[.string ⟨y.nm.toArray⟩,.slice A y.fs.length c] y))
  case first =>
   refine wp_region_held (S:=S) zE ?_
   change wpAnyH _ _ _ _ _ 10 #[false,false,false,false,false,false,false,false,false,false] _ W1.drew
   refine tk 0 18 (.pointer (some ⟨cb,0,none⟩)) g0 ?v ?_
   case v => intro Wx hSx;go_simp
   refine tk 1 19 (.pointer (some ⟨cb,0,none⟩)) g0 ?v ?_
   case v => intro Wx hSx;go_simp
   refine tk 2 20 (.pointer (some ⟨cb,0,none⟩)) g0 ?v ?_
   case v => intro Wx hSx;go_simp
   refine tk 3 21 (.pointer (some ⟨cb,0,none⟩)) g0 ?v ?_
   case v => intro Wx hSx;go_simp
   try simp only [qf]
   refine tk 4 22 (.slice d.r nr d.nr) g0 ?v ?_
   case v => intro Wx hSx;obtain ⟨z1,z2⟩:=qX.out Wx hSx;go_simp
   refine tk 5 23 (.pointer (some ⟨w.heap.size,1,none⟩)) g0 ?v ?_
   case v => intro Wx hSx;go_simp
   refine tk 6 24 (.string ⟨nm.toArray⟩) g0 ?v ?_
   case v => intro Wx hSx;obtain ⟨z1,z2⟩:=qX.out Wx hSx;go_simp
   try simp only [qf]
   refine zM 7 8 (by kernel_rfl) rfl rfl (by kernel_rfl) (by kernel_rfl) (fun K hK => ?_) (fun K hK => ?_)
   ·go_simp
    (with_reducible refine (HF.out _ ze.out).mono ?_)
    rintro e w3 ⟨hr,qt⟩
    have H3:=hZ (ze.out.chain qt)
    clear qt
    rcases hr with ⟨cs',y,rfl,ho,A,c,qn,hy⟩ | ⟨ho,he⟩
    ·subst qn
     have HV:=hZ (show yW w3 B0 #[.string ⟨y.nm.toArray⟩,.slice A y.fs.length c] y from ⟨A,c,rfl,hy⟩)
     have HO:=hZ ho
     clear hy ho
     refine hK _ _ (qo.out _ H3.out) ?_
     clear hK K
     try simp only [qf]
     have zv:=xF (w:=w3) (t:=36) (zc:=vI) (cs:=#[.string ⟨y.nm.toArray⟩,.slice A y.fs.length c]) rfl (by rw [List.all_toArray];rfl)
     have H4:=hZ (H3.out.alloc H3.out.size (.cells vI 36))
     have H5:=hZ (H3.out.alloc H3.out.size (.cells #[.string ⟨y.nm.toArray⟩,.slice A y.fs.length c] 36))
     refine o1 8 (fun K hK => ?_)
     go_simp
     refine hK _ _ (qo.out _ H4.out) ?_
     clear hK K
     try simp only [qf]
     refine o1 9 (fun K hK => ?_)
     go_simp
     refine hK _ _ (qo.out _ H5.out) ?_
     clear hK K
     refine wpAnyH_done (by kernel_rfl) ?_ _
     go_wp2
     go_meet
     exact ⟨_,_,y,A,c,rfl,rfl,hZ ⟨qe w3 _,H5.out,HO.out,jh yC (Nat.le_trans zo.out (qw.out.chain H3.out).size) (Nat.le_refl _) (qd w3 _) HV.out⟩⟩
    ·subst he
     refine ⟨rfl,?_,qw.out.chain H3.out⟩
     rw [HR.out,ho]
     exact rfl
   ·go_simp
    have HA:=hZ ((Below.refl W1.heap.size W1).alloc (Nat.le_refl _) (.cells vI 36)).drew
    have HPA : Hid ((W1.alloc (.cells vI 36)).drew.heap[W1.heap.size]? = some (.cells vI 36)):=hZ (qe W1 (.cells vI 36))
    refine hK _ _ (qo.out _ HA.out) ?_
    clear hK K
    try simp only [qf]
    refine o1 7 (fun K hK => ?_)
    go_simp
    (with_reducible refine (HF.out _ HA.out).mono ?_)
    rintro e w3 ⟨hr,qt⟩
    have zA:=qg qt HPA.out
    have H3:=hZ (HA.out.chain qt)
    clear qt
    rcases hr with ⟨cs',y,rfl,ho,A,c,qn,hy⟩ | ⟨ho,he⟩
    ·subst qn
     have HV:=hZ (show yW w3 B0 #[.string ⟨y.nm.toArray⟩,.slice A y.fs.length c] y from ⟨A,c,rfl,hy⟩)
     have HO:=hZ ho
     clear hy ho
     refine hK _ _ (qo.out _ H3.out) ?_
     clear hK K
     try simp only [qf]
     have z0:=qc zA 0 (v:=.string ⟨#[]⟩) rfl
     have z1:=qc zA 1 (v:=.slice none 0 0) rfl
     have f0:=zh zA 0
     have f1:=zh zA 1
     obtain ⟨W5,hW5⟩ : ∃ W5,W5 = (w3.setCell ⟨W1.heap.size,0,none⟩ (.string ⟨y.nm.toArray⟩)).setCell ⟨W1.heap.size,1,none⟩ (.slice A y.fs.length c):=⟨_,rfl⟩
     have HY : Hid (W5.heap[W1.heap.size]? = some (.cells #[.string ⟨y.nm.toArray⟩,.slice A y.fs.length c] 36 (0,0))):=hZ (by rw [hW5];exact qC (qC zA 0 (.string ⟨y.nm.toArray⟩)) 1 (.slice A y.fs.length c))
     have qqz : Below W1.heap.size w3 W5:=by rw [hW5];exact ((Below.refl W1.heap.size w3).setCell (p:=⟨W1.heap.size,0,none⟩) (Nat.le_refl _) _).setCell (p:=⟨W1.heap.size,1,none⟩) (Nat.le_refl _) _
     have H5:=hZ (H3.out.trans qqz)
     have HV5:=hZ (yC w3 W5 B0 B0 _ _ (fun qq hqq => qqz.cell (Nat.lt_of_lt_of_le hqq (Nat.le_trans zo.out qw.out.size))) (Nat.le_refl _) HV.out)
     clear qqz
     clear zA
     refine o1 9 (fun K hK => ?_)
     go_simp
     rw [<- hW5]
     clear hW5
     refine hK _ _ (qo.out _ H5.out) ?_
     clear hK K
     refine wpAnyH_done (by kernel_rfl) ?_ _
     go_wp2
     go_meet
     exact ⟨_,_,y,A,c,rfl,rfl,hZ ⟨HY.out,H5.out,HO.out,HV5.out⟩⟩
    ·subst he
     refine ⟨rfl,?_,qw.out.chain H3.out⟩
     rw [HR.out,ho]
     exact rfl
  case rest =>
   obtain ⟨g,W3,y,A,c,rfl,rfl,H⟩:=hcut
   obtain ⟨h1,h2,h3,A',c',h4,hnml,vW,qL⟩:=H.out
   obtain ⟨rfl,rfl⟩ : A = A' /\ c = c':=by
    have e : (.slice A y.fs.length c : Value) = .slice A' y.fs.length c':=by
     have := congrArg (fun a : Array Value => a[1]?) h4
     exact Option.some.inj this
    injection e with e1 _ e2
    exact ⟨e1,e2⟩
   have HQy:=hZ (HQ.out y h3)
   have hB3 : B0 <= W3.heap.size:=Nat.le_trans zo.out (qw.out.chain h2).size
   have c0:=qc h1 0 (v:=.string ⟨y.nm.toArray⟩) rfl
   have c1:=qc (qr (o:=.cells #[.string ⟨y.nm.toArray⟩,.string ⟨#[]⟩] 42) h1) 1 (v:=.slice A y.fs.length c) rfl
   obtain ⟨W4,hW4⟩ : ∃ W4,W4 = W3.alloc (.cells #[.string ⟨y.nm.toArray⟩,.string ⟨#[]⟩] 42):=⟨_,rfl⟩
   obtain ⟨W5,hW5⟩ : ∃ W5,W5 = W4.alloc (.cells #[.slice (some ⟨W3.heap.size,0,none⟩) 1 1,.slice A y.fs.length c] 23):=⟨_,rfl⟩
   have qf5 : Below W3.heap.size W3 W4:=by rw [hW4];exact qd W3 _
   have qem : Below W4.heap.size W4 W5:=by rw [hW5];exact qd W4 _
   have hs4 : W4.heap.size = W3.heap.size + 1:=by rw [hW4,World.size_alloc]
   have hs5 : W5.heap.size = W4.heap.size + 1:=by rw [hW5,World.size_alloc]
   have hp5 : W5.heap[W3.heap.size + 1]? = some (.cells #[.slice (some ⟨W3.heap.size,0,none⟩) 1 1,.slice A y.fs.length c] 23):=by rw [<- hs4,hW5];exact qe W4 _
   have r1 : qI W5 W5.heap.size 2 (some ⟨W3.heap.size,0,none⟩) 1 (qY [⟨y.nm,[]⟩]):=by
    have h:=qn5 (t:=y.nm) (n:=[]) W3 42 hnml (by unfold maxLen;exact Nat.zero_le _) rfl
    rw [show W3.alloc (.cells #[.string ⟨y.nm.toArray⟩,.string ⟨([] : List UInt8).toArray⟩] 42) = W4 from hW4.symm] at h
    exact (yh (yB qT (Nat.le_refl _) qem h)).more qem.size
   have r2 : qI W5 W5.heap.size 2 A y.fs.length (qY y.fs):=(yh (yB qT hB3 (qf5.chain qem) (zm qL))).more (Nat.le_trans hB3 (qf5.chain qem).size)
   have HC:=hZ (qcm (some ⟨W3.heap.size,0,none⟩) A 1 1 y.fs.length c (W3.heap.size + 1) [⟨y.nm,[]⟩] y.fs (by have := HQy.out;omega) W5 r1 r2 (qc hp5 0 rfl) (qc hp5 1 rfl) (by omega))
   have H5:=hZ (qw.out.chain (h2.chain (qf5.chain qem)))
   have HL : Hid (∀ z ∈ (⟨y.nm,[]⟩ :: y.fs : List Pm),z.t.length <= maxLen /\ z.nm.length <= maxLen):=hZ (fun z hz => by
    rcases List.mem_cons.1 hz with rfl | hz
    ·exact ⟨hnml,by unfold maxLen;exact Nat.zero_le _⟩
    ·exact yv (zm qL) z hz)
   have HO:=hZ h3
   clear h1 h2 h3 h4 hnml vW qL hB3 qf5 qem hs5 hp5 r1 r2
   go_wp2_with fail
   rw [<- hW4,<- hs4,<- hW5] at *
   clear hW5 hW4
   (with_reducible refine HC.out.mono ?_)
   rintro e w6 ⟨v,rfl,hv,qR⟩
   have H6:=hZ (H5.out.chain qR)
   have HV:=hZ hv
   clear qR hv
   go_wp2
   go_ret
   obtain ⟨A6,k6,rfl⟩:=yq HV.out
   refine ⟨?_,H6.out⟩
   rw [HR.out,HO.out]
   have qE : 1 + y.fs.length = (⟨y.nm,[]⟩ :: y.fs : List Pm).length:=by rw [List.length_cons,Nat.add_comm]
   refine ⟨A6,_,k6,rfl,qE,by have := HQy.out;unfold maxLen;omega,qhH qE ?_ HL.out⟩
   have h:=qI.of_own HV.out
   rwa [<- xG] at h
end
section
set_option maxRecDepth 100000
set_option maxHeartbeats 8000000
open Go.RowKit Go.Lib
def qc0 (p : Pg) (d : GAd) (B0 cb : Nat) (f : Fm) : Prop :=
 ∀ (sc : List Pm) (G : Option Addr) (n c B1 : Nat) (fd : FAd) (w : World),n = sc.length -> n <= 3999999000000 -> B1 <= w.heap.size -> qD zp 2 w B1 sc G -> ChkAt w B0 cb d p -> vH w B0 fd f ->
  Calls Tryz.prog 56 #[.pointer (some ⟨cb,0,none⟩),.slice G n c,vv (.slice fd.p f.ps.length fd.np) (.slice fd.a f.ats.length fd.na) (.slice fd.c f.cls.length fd.nc)] w (qV (fmC p sc f) w)
theorem qaL (p : Pg) (d : GAd) (B0 cb : Nat) (l : List Fm) (hok : ∀ f ∈ l,qc0 p d B0 cb f) (sc : List Pm) (G : Option Addr) (n c B1 : Nat) (F : Option Addr) (nf cf : Nat) (vy : nf = l.length) (hmf : nf <= maxLen) (w : World) (hn : n = sc.length) (hm : n <= 3999999000000) (hB1 : B1 <= w.heap.size) (hG : qD zp 2 w B1 sc G) (hC : ChkAt w B0 cb d p) (hF : qai w B0 l F) :
 Calls Tryz.prog 74 #[.pointer (some ⟨cb,0,none⟩),.slice G n c,.slice F nf cf] w (qV (xH p sc l) w):=by
 have HH:=hZ (aZ hF (aZ vy (aZ hC (aZ hG (aZ hB1 (aZ hok (aZ hn hm)))))))
 obtain ⟨R,hR⟩ : ∃ R : Ck,R = xH p sc l:=⟨_,rfl⟩
 have HR:=hZ hR
 rw [<- hR]
 clear hF vy hC hG hB1 hok hn hm hR
 unfold maxLen at hmf
 go_enter Tryz.func74,Tryz.ntmps74
 go_wp2
 go_loopg [10] nf (fun mm j wr => ∃ i : Nat,mm = nf - i /\ i <= nf /\ j = .int .i64 i /\ Hid (Below w.heap.size w wr /\ xH p sc (l.take i) = none))
 case atStart => exact ⟨0,rfl,Nat.zero_le _,rfl,hZ ⟨Below.refl _ _,rfl⟩⟩
 case round =>
  obtain ⟨i,rfl,hi,rfl,HI⟩:=hrel
  have xj : (0 : Int) <= i:=by omega
  by_cases qB : i < nf
  ·have hii : (i : Int) < nf:=by omega
   obtain ⟨f,hg⟩ : ∃ x,l[i]? = some x:=⟨l[i]'(by rw [<- HH.out.2.1];exact qB),List.getElem?_eq_getElem _⟩
   have qz : B0 <= w.heap.size:=Nat.le_trans HH.out.2.2.1.le (Nat.le_of_lt HH.out.2.2.1.lt)
   obtain ⟨a,rfl,qx,Ap,cp,Aa,ca,Ac,cc,d0,d1,d2,hls,rp,ra,rc⟩:=(HH.out.1.stay yk HI.out.1 qz).at_ hg
   obtain ⟨n1,h1⟩ : ∃ n,n = f.ps.length:=⟨_,rfl⟩
   obtain ⟨n2,h2⟩ : ∃ n,n = f.ats.length:=⟨_,rfl⟩
   obtain ⟨n3,h3⟩ : ∃ n,n = f.cls.length:=⟨_,rfl⟩
   rw [<- h1] at d0
   rw [<- h2] at d1
   rw [<- h3] at d2
   have e0 : wr.cell? (a.add (i * 3)) = some (.slice Ap n1 cp):=d0
   have e1 : wr.cell? ⟨(a.add (i * 3)).block,(a.add (i * 3)).off + 1,none⟩ = some (.slice Aa n2 ca):=d1
   have e2 : wr.cell? ⟨(a.add (i * 3)).block,(a.add (i * 3)).off + 2,none⟩ = some (.slice Ac n3 cc):=d2
   obtain ⟨W6,qW⟩ : ∃ W6,W6 = wr.alloc (jb (.slice Ap n1 cp) (.slice Aa n2 ca) (.slice Ac n3 cc)):=⟨_,rfl⟩
   have qR : Below wr.heap.size wr W6:=by rw [qW];exact qd wr _
   have qi:=HI.out.1.chain qR
   have HC:=hZ (HH.out.2.2.2.2.2.1 f (List.mem_of_getElem? hg) sc G n c B1 ⟨Ap,Aa,Ac,cp,ca,cc⟩ W6 HH.out.2.2.2.2.2.2.1 HH.out.2.2.2.2.2.2.2 (Nat.le_trans HH.out.2.2.2.2.1 qi.size) (yB qT HH.out.2.2.2.2.1 qi HH.out.2.2.2.1) (HH.out.2.2.1.on qi) (vH.keep (fun q hq => qR.cell (Nat.lt_of_lt_of_le hq (Nat.le_trans qz HI.out.1.size))) (Nat.le_refl _) ⟨hls,rp,ra,rc⟩))
   dsimp only at HC
   rw [<- h1,<- h2,<- h3] at HC
   obtain ⟨q,hq⟩ : ∃ q,q = fmC p sc f:=⟨_,rfl⟩
   rw [<- hq] at HC
   have H6:=hZ qi
   have HX:=hZ (aZ hg hq)
   clear hg hq qx d0 d1 d2 hls rp ra rc qR qi qz h1 h2 h3
   go_wp2_with fail
   rw [<- qW]
   clear qW e0 e1 e2
   (with_reducible refine HC.out.mono ?_)
   rintro e w3 ⟨he,hb⟩
   have H3:=hZ (H6.out.chain hb)
   clear hb
   cases q with
   | some t =>
     obtain rfl : e = _:=he
     refine ⟨rfl,?_,H3.out⟩
     rw [HR.out,show xH p sc l = some t from yP _ l i f t HX.out.1 HI.out.2 HX.out.2.symm]
     exact rfl
   | none =>
     obtain rfl : e = _:=he
     have HN : Hid (xH p sc (l.take (i + 1)) = none):=hZ (by
      unfold xH
      rw [zR _ l i f HX.out.1,show zJ _ (l.take i) = none from HI.out.2,<- HX.out.2]
      rfl)
     go_wp2
     go_roundg (nf - (i + 1))
     case measure => omega
     case rel => exact ⟨i + 1,rfl,by omega,by go_num,hZ ⟨H3.out,HN.out⟩⟩
  ·have hlt' : ¬ (i : Int) < nf:=by omega
   obtain rfl : i = nf:=by omega
   have h:=HI.out.2
   rw [List.take_of_length_le (by rw [HH.out.2.1];exact Nat.le_refl _)] at h
   have HE:=hZ h
   clear h
   go_wp2
   refine bodyPost_end (results_none rfl _ _ _) rfl ⟨?_,HI.out.1⟩
   rw [HR.out,HE.out]
   exact rfl
theorem qey {α : Type} {V : World -> Nat -> Array Value -> α -> Prop} (nm : α -> List UInt8) (hV : ∀ w B cs x,V w B cs x -> (nm x).length <= maxLen) {k : Nat} {w : World} {B : Nat} {l : List α} {A : Option Addr} (h : qD V k w B l A) : ∀ x ∈ l,(nm x).length <= maxLen:=by
 intro x hx
 obtain ⟨i,hi,he⟩:=List.getElem_of_mem hx
 obtain ⟨_,cs,_,_,_,_,hv⟩:=h i x (by rw [List.getElem?_eq_getElem hi,he])
 exact hV _ _ _ _ hv
theorem qmz (p : Pg) (d : GAd) (B0 cb : Nat) (w : World) (hC : ChkAt w B0 cb d p) :
 Calls Tryz.prog 71 #[.pointer (some ⟨cb,0,none⟩)] w (qV (qcD p) w):=by
 have hB : ∀ W,Below w.heap.size w W -> B0 <= W.heap.size:=fun W hb => Nat.le_trans (Nat.le_trans hC.le (Nat.le_of_lt hC.lt)) hb.size
 have HD0 : Hid (∀ W,Below w.heap.size w W -> Calls Tryz.prog 93 #[.slice d.r p.rs.length d.nr,.func (.func 46) #[] #[]] W (qV (zH [] (p.rs.map (·.nm))) W)):=hZ (fun W hb => by
  have hk:=(hC.on hb).own
  exact qnm 46 (enters_of Tryz.func46 (by kernel_rfl) rfl) (·.nm) qcC p.rs (qey (V:=yW) _ (fun _ _ _ _ ⟨_,_,_,h,_⟩ => h) (qbp hk.2.1)) d.r d.nr _ rfl hk.1.1 B0 W (hB W hb) (qbp hk.2.1))
 have HD1 : Hid (∀ W,Below w.heap.size w W -> Calls Tryz.prog 94 #[.slice d.g p.gs.length d.ng,.func (.func 95) #[] #[]] W (qV (zH [] (p.gs.map (·.nm))) W)):=hZ (fun W hb => by
  have hk:=(hC.on hb).own
  exact qjs 95 (enters_of Tryz.func95 (by kernel_rfl) rfl) (·.nm) qbh p.gs (qka (zm hk.2.2.1)) d.g d.ng _ rfl hk.1.2.1 B0 W (hB W hb) (zm hk.2.2.1))
 have HD2 : Hid (∀ W,Below w.heap.size w W -> Calls Tryz.prog 96 #[.slice d.k p.ks.length d.nk,.func (.func 97) #[] #[]] W (qV (zH [] (p.ks.map (·.nm))) W)):=hZ (fun W hb => by
  have hk:=(hC.on hb).own
  exact qqR 97 (enters_of Tryz.func97 (by kernel_rfl) rfl) (·.nm) qlR p.ks (qey (V:=vA) _ (fun _ _ _ _ ⟨_,_,_,h,_⟩ => h) (qeB hk.2.2.2.1)) d.k d.nk _ rfl hk.1.2.2.1 B0 W (hB W hb) (qeB hk.2.2.2.1))
 have HD3 : Hid (∀ W,Below w.heap.size w W -> Calls Tryz.prog 98 #[.slice d.d p.ds.length d.nd,.func (.func 99) #[] #[]] W (qV (zH [] (p.ds.map (·.nm))) W)):=hZ (fun W hb => by
  have hk:=(hC.on hb).own
  exact qsX 99 (enters_of Tryz.func99 (by kernel_rfl) rfl) (·.nm) qof p.ds (qey (V:=vg) _ (fun _ _ _ _ ⟨_,_,_,_,_,h,_⟩ => h) (qeN hk.2.2.2.2.1)) d.d d.nd _ rfl hk.1.2.2.2.1 B0 W (hB W hb) (qeN hk.2.2.2.2.1))
 have HD4 : Hid (∀ W,Below w.heap.size w W -> Calls Tryz.prog 100 #[.slice d.m p.ms.length d.nm,.func (.func 101) #[] #[]] W (qV (zH [] (p.ms.map (·.nm))) W)):=hZ (fun W hb => by
  have hk:=(hC.on hb).own
  exact qoP 101 (enters_of Tryz.func101 (by kernel_rfl) rfl) (·.nm) qp9 p.ms (qey (V:=VLm) _ (fun _ _ _ _ ⟨_,_,_,_,_,h,_⟩ => h) (qgt hk.2.2.2.2.2.1)) d.m d.nm _ rfl hk.1.2.2.2.2.1 B0 W (hB W hb) (qgt hk.2.2.2.2.2.1))
 have HD5 : Hid (∀ W,Below w.heap.size w W -> Calls Tryz.prog 102 #[.slice d.x p.xs.length d.nx,.func (.func 43) #[] #[]] W (qV (zH [] (p.xs.map (·.nm))) W)):=hZ (fun W hb => by
  have hk:=(hC.on hb).own
  exact qqQ 43 (enters_of Tryz.func43 (by kernel_rfl) rfl) (·.nm) qlQ p.xs (qey (V:=xP) _ (fun _ _ _ _ ⟨_,_,h⟩ => h.1.1) (qde hk.2.2.2.2.2.2)) d.x d.nx _ rfl hk.1.2.2.2.2.2 B0 W (hB W hb) (qde hk.2.2.2.2.2.2))
 have HCL : Hid (∀ W,Below w.heap.size w W -> W.cell? ⟨cb,0,none⟩ = some (.slice d.r p.rs.length d.nr) /\ W.cell? ⟨cb,1,none⟩ = some (.slice d.g p.gs.length d.ng) /\ W.cell? ⟨cb,2,none⟩ = some (.slice d.k p.ks.length d.nk) /\ W.cell? ⟨cb,3,none⟩ = some (.slice d.d p.ds.length d.nd) /\ W.cell? ⟨cb,4,none⟩ = some (.slice d.m p.ms.length d.nm) /\ W.cell? ⟨cb,5,none⟩ = some (.slice d.x p.xs.length d.nx)):=hZ (fun W hb => ⟨(hC.on hb).c0,(hC.on hb).c1,(hC.on hb).c2,(hC.on hb).c3,(hC.on hb).c4,(hC.on hb).c5⟩)
 obtain ⟨R,hR⟩ : ∃ R : Ck,R = qcD p:=⟨_,rfl⟩
 rw [<- hR]
 obtain ⟨r0,h0⟩ : ∃ R : Ck,R = zH [] (p.rs.map (·.nm)):=⟨_,rfl⟩
 obtain ⟨r1,h1⟩ : ∃ R : Ck,R = zH [] (p.gs.map (·.nm)):=⟨_,rfl⟩
 obtain ⟨r2,h2⟩ : ∃ R : Ck,R = zH [] (p.ks.map (·.nm)):=⟨_,rfl⟩
 obtain ⟨r3,h3⟩ : ∃ R : Ck,R = zH [] (p.ds.map (·.nm)):=⟨_,rfl⟩
 obtain ⟨r4,h4⟩ : ∃ R : Ck,R = zH [] (p.ms.map (·.nm)):=⟨_,rfl⟩
 obtain ⟨r5,h5⟩ : ∃ R : Ck,R = zH [] (p.xs.map (·.nm)):=⟨_,rfl⟩
 have HR : Hid (R = zw r0 (zw r1 (zw r2 (zw r3 (zw r4 r5))))):=hZ (by rw [hR,h0,h1,h2,h3,h4,h5];rfl)
 rw [<- h0] at HD0
 rw [<- h1] at HD1
 rw [<- h2] at HD2
 rw [<- h3] at HD3
 rw [<- h4] at HD4
 rw [<- h5] at HD5
 obtain ⟨n0,g0⟩ : ∃ n,n = p.rs.length:=⟨_,rfl⟩
 obtain ⟨n1,g1⟩ : ∃ n,n = p.gs.length:=⟨_,rfl⟩
 obtain ⟨n2,g2⟩ : ∃ n,n = p.ks.length:=⟨_,rfl⟩
 obtain ⟨n3,g3⟩ : ∃ n,n = p.ds.length:=⟨_,rfl⟩
 obtain ⟨n4,g4⟩ : ∃ n,n = p.ms.length:=⟨_,rfl⟩
 obtain ⟨n5,g5⟩ : ∃ n,n = p.xs.length:=⟨_,rfl⟩
 rw [<- g0] at HD0 HCL
 rw [<- g1] at HD1 HCL
 rw [<- g2] at HD2 HCL
 rw [<- g3] at HD3 HCL
 rw [<- g4] at HD4 HCL
 rw [<- g5] at HD5 HCL
 clear hC hB hR h0 h1 h2 h3 h4 h5 g0 g1 g2 g3 g4 g5
 have K0:=hZ (Below.refl w.heap.size w)
 obtain ⟨c0,-,-,-,-,-⟩:=HCL.out _ K0.out
 go_enter Tryz.func71,Tryz.ntmps71
 go_wp2_with fail
 clear c0
 (with_reducible refine (HD0.out _ K0.out).mono ?_)
 rintro e x1 ⟨he,hb⟩
 have K1:=hZ (K0.out.chain hb)
 clear hb
 cases r0 with
 | some t =>
   obtain rfl : e = _:=he
   refine ⟨rfl,?_,K1.out⟩
   rw [HR.out]
   exact rfl
 | none =>
 obtain rfl : e = _:=he
 obtain ⟨-,c0,-,-,-,-⟩:=HCL.out _ K1.out
 go_wp2_with fail
 clear c0
 (with_reducible refine (HD1.out _ K1.out).mono ?_)
 rintro e x2 ⟨he,hb⟩
 have K2:=hZ (K1.out.chain hb)
 clear hb
 cases r1 with
 | some t =>
   obtain rfl : e = _:=he
   refine ⟨rfl,?_,K2.out⟩
   rw [HR.out]
   exact rfl
 | none =>
 obtain rfl : e = _:=he
 obtain ⟨-,-,c0,-,-,-⟩:=HCL.out _ K2.out
 go_wp2_with fail
 clear c0
 (with_reducible refine (HD2.out _ K2.out).mono ?_)
 rintro e x3 ⟨he,hb⟩
 have K3:=hZ (K2.out.chain hb)
 clear hb
 cases r2 with
 | some t =>
   obtain rfl : e = _:=he
   refine ⟨rfl,?_,K3.out⟩
   rw [HR.out]
   exact rfl
 | none =>
 obtain rfl : e = _:=he
 obtain ⟨-,-,-,c0,-,-⟩:=HCL.out _ K3.out
 go_wp2_with fail
 clear c0
 (with_reducible refine (HD3.out _ K3.out).mono ?_)
 rintro e x4 ⟨he,hb⟩
 have K4:=hZ (K3.out.chain hb)
 clear hb
 cases r3 with
 | some t =>
   obtain rfl : e = _:=he
   refine ⟨rfl,?_,K4.out⟩
   rw [HR.out]
   exact rfl
 | none =>
 obtain rfl : e = _:=he
 obtain ⟨-,-,-,-,c0,-⟩:=HCL.out _ K4.out
 go_wp2_with fail
 clear c0
 (with_reducible refine (HD4.out _ K4.out).mono ?_)
 rintro e x5 ⟨he,hb⟩
 have K5:=hZ (K4.out.chain hb)
 clear hb
 cases r4 with
 | some t =>
   obtain rfl : e = _:=he
   refine ⟨rfl,?_,K5.out⟩
   rw [HR.out]
   exact rfl
 | none =>
 obtain rfl : e = _:=he
 obtain ⟨-,-,-,-,-,c0⟩:=HCL.out _ K5.out
 go_wp2_with fail
 clear c0
 (with_reducible refine (HD5.out _ K5.out).mono ?_)
 rintro e x6 ⟨he,hb⟩
 have K6:=hZ (K5.out.chain hb)
 clear hb
 cases r5 with
 | some t =>
   obtain rfl : e = _:=he
   refine ⟨rfl,?_,K6.out⟩
   rw [HR.out]
   exact rfl
 | none =>
 obtain rfl : e = _:=he
 go_wp2
 refine bodyPost_end (results_none rfl _ _ _) rfl ⟨?_,K6.out⟩
 rw [HR.out]
 exact rfl
end
section
set_option maxRecDepth 100000
set_option maxHeartbeats 16000000
open Go.RowKit Go.Lib
theorem qsc {w : World} {B : Nat} {sc br : List Pm} {A : Option Addr} {n : Nat} {D : Option Addr} {m : Nat} (h : VarsAt w B sc br A n D m) : VarsAt w w.heap.size sc br A n D m :=
 ⟨h.hn,h.hm,h.hn2,h.hm2,Nat.le_refl _,fun i x hi => by
   obtain ⟨a,cs,h1,h2,h3⟩:=h.r1 i x hi
   exact ⟨a,cs,h1,Nat.lt_of_lt_of_le h2 h.hB,h3⟩,fun i x hi => by
   obtain ⟨a,cs,h1,h2,h3⟩:=h.r2 i x hi
   exact ⟨a,cs,h1,Nat.lt_of_lt_of_le h2 h.hB,h3⟩⟩
theorem qj7 {w : World} {B : Nat} (hB : B <= w.heap.size) {l : List Pm} {A : Option Addr} (h : qD zp 2 w B l A) : qD zp 2 w w.heap.size l A:=fun i x hi => by
 obtain ⟨a,cs,h1,h2,h3⟩:=h i x hi
 exact ⟨a,cs,h1,Nat.lt_of_lt_of_le h2 hB,h3⟩
theorem qsk (p : Pg) (d : GAd) (B0 cb : Nat) (hfs : qiq p) (f : Fm) (hf : qjO f) : qc0 p d B0 cb f:=by
 intro sc G n c B1 fd w hn hm hB1 hG hC hF
 obtain ⟨Fp,Fa,Fc,kp,ka,kc⟩:=fd
 obtain ⟨hls,rp,ra,rc⟩:=hF
 dsimp only at rp ra rc
 dsimp only
 obtain ⟨np,jS⟩ : ∃ z,z = f.ps.length:=⟨_,rfl⟩
 obtain ⟨na,hna⟩ : ∃ z,z = f.ats.length:=⟨_,rfl⟩
 obtain ⟨nc,jk⟩ : ∃ z,z = f.cls.length:=⟨_,rfl⟩
 rw [<- jS,<- hna,<- jk]
 have qz : B0 <= w.heap.size:=Nat.le_trans hC.le (Nat.le_of_lt hC.lt)
 have zE : Tryz.prog.follows .mixedOrders = true:=by kernel_rfl
 obtain ⟨W1,qh⟩ : ∃ W1,W1 = w.alloc (jb (.slice Fp np kp) (.slice Fa na ka) (.slice Fc nc kc)):=⟨_,rfl⟩
 have qk : Below w.heap.size w W1:=by rw [qh];exact qd w _
 have yc : W1.heap[w.heap.size]? = some (jb (.slice Fp np kp) (.slice Fa na ka) (.slice Fc nc kc)):=by rw [qh];exact qe w _
 have HK : Hid (∀ W,Below W1.heap.size W1 W -> W.cell? ⟨w.heap.size,0,none⟩ = some (.slice Fp np kp) /\ W.cell? ⟨w.heap.size,1,none⟩ = some (.slice Fa na ka) /\ W.cell? ⟨w.heap.size,2,none⟩ = some (.slice Fc nc kc)):=hZ (fun W hb => by
  have q:=qg hb yc
  exact ⟨qc q 0 rfl,qc q 1 rfl,qc q 2 rfl⟩)
 have qw:=hZ qk
 -- the memory that came in,in every world behind
 have HP : Hid (∀ W,Below W1.heap.size W1 W -> qD zp 2 W B0 f.ps Fp):=hZ (fun W hb => yB qT qz (qk.chain hb) (zm rp))
 have HA : Hid (∀ W,Below W1.heap.size W1 W -> qdc W B0 f.ats Fa):=hZ (fun W hb => ra.stay jd (qk.chain hb) qz)
 have HC : Hid (∀ W,Below W1.heap.size W1 W -> qdb W B0 f.cls Fc):=hZ (fun W hb => rc.stay jc (qk.chain hb) qz)
 have HChk : Hid (∀ W,Below W1.heap.size W1 W -> ChkAt W B0 cb d p):=hZ (fun W hb => hC.on (qk.chain hb))
 have HG : Hid (∀ W,Below W1.heap.size W1 W -> qD zp 2 W B1 sc G):=hZ (fun W hb => yB qT hB1 (qk.chain hb) hG)
 have HLe : Hid (∀ W,Below W1.heap.size W1 W -> B0 <= W.heap.size /\ B1 <= W.heap.size /\ w.heap.size <= W.heap.size):=hZ (fun W hb => by have := (qk.chain hb).size;exact ⟨by omega,by omega,by omega⟩)
 have HN:=hZ (aZ hn (aZ hm (aZ jS (aZ hna (aZ jk (aZ hls (aZ hf hfs)))))))
 have hnp6 : np <= 1000000:=by rw [jS];exact hf.1
 have hna6 : na <= 1000000:=by rw [hna];exact hf.2.1
 have hnc6 : nc <= 1000000:=by rw [jk];exact hf.2.2.1
 obtain ⟨a0,a1,a2⟩:=HK.out _ (Below.refl _ _)
 obtain ⟨R,hR⟩ : ∃ R : Ck,R = fmC p sc f:=⟨_,rfl⟩
 have HR:=hZ hR
 rw [<- hR]
 clear hls rp ra rc jS hna jk hn hm hB1 hG hC qz qk yc hf hfs hR
 rw [qh] at a0 a1 a2
 go_enter Tryz.func56,Tryz.ntmps56
 go_wp2
 rw [<- qh]
 clear a0 a1 a2 qh
 go_loopg [16] np (fun mm j wr => ∃ i : Nat,mm = np - i /\ i <= np /\ j = .int .i64 i /\ Hid (Below W1.heap.size W1 wr /\ zJ (qfb sc) (f.ps.take i) = none))
 case atStart => exact ⟨0,rfl,Nat.zero_le _,rfl,hZ ⟨Below.refl _ _,rfl⟩⟩
 case round =>
  obtain ⟨i,rfl,hi,rfl,HI⟩:=hrel
  have xj : (0 : Int) <= i:=by omega
  by_cases qB : i < np
  ·have hii : (i : Int) < np:=by omega
   obtain ⟨x,hx⟩ : ∃ x,f.ps[i]? = some x:=⟨f.ps[i]'(by rw [<- HN.out.2.2.1];exact qB),List.getElem?_eq_getElem _⟩
   obtain ⟨a,cs,rfl,qx,qn,qP,hv⟩:=HP.out wr HI.out.1 i x hx
   obtain ⟨xh,jo,je⟩:=hv
   have e0 : wr.cell? (a.add (i * 2)) = some (.string ⟨x.t.toArray⟩):=by
    have h:=qP 0 _ (by rw [xh];rfl)
    rwa [yl,Nat.add_zero] at h
   have e1 : wr.cell? ⟨(a.add (i * 2)).block,(a.add (i * 2)).off + 1,none⟩ = some (.string ⟨x.nm.toArray⟩):=qP 1 _ (by rw [xh];rfl)
   obtain ⟨u,hu⟩ : ∃ u,u = x.t:=⟨_,rfl⟩
   obtain ⟨y,hy⟩ : ∃ y,y = x.nm:=⟨_,rfl⟩
   rw [<- hu] at e0
   rw [<- hy] at e1
   obtain ⟨W6,qW⟩ : ∃ W6,W6 = wr.alloc (.cells #[.string ⟨u.toArray⟩,.string ⟨y.toArray⟩] 42):=⟨_,rfl⟩
   have qR : Below wr.heap.size wr W6:=by rw [qW];exact qd wr _
   have xu : W6.heap[wr.heap.size]? = some (.cells #[.string ⟨u.toArray⟩,.string ⟨y.toArray⟩] 42 (0,0)):=by rw [qW];exact qe wr _
   have H6:=hZ (HI.out.1.chain qR)
   obtain ⟨h,hh⟩ : ∃ h,h = (qG (fun z : Pm => z.nm) sc y).isSome:=⟨_,rfl⟩
   have HX : Hid (f.ps[i]? = some x /\ qfb sc x = zQ (!h) 8 y):=hZ ⟨hx,by unfold qfb;rw [hh,hy]⟩
   have HHas : Hid (BC W6 80 #[.slice G n c,.string ⟨y.toArray⟩] h):=hZ (fun W hb => by
    rw [hh]
    exact qhg y sc G c n HN.out.1 (Nat.le_trans HN.out.2.1 (by unfold maxLen;omega)) B1 W (HLe.out W (H6.out.chain hb)).2.1 (HG.out W (H6.out.chain hb)))
   obtain ⟨S,hS⟩ : ∃ S : World -> Prop,S = fun W => Below W6.heap.size W6 W:=⟨_,rfl⟩
   have qo : Hid (∀ W,Below W6.heap.size W6 W -> S W):=hZ (fun W hb => by rw [hS];exact hb)
   have qX : Hid (∀ W,S W -> W.cell? ⟨wr.heap.size,1,none⟩ = some (.string ⟨y.toArray⟩)):=hZ (fun W hs => by
    rw [hS] at hs
    exact qc (qg hs xu) 1 rfl)
   have ze:=hZ (Below.refl W6.heap.size W6).drew
   have g0:=qo.out _ ze.out
   clear qP qx qn xh jo je hx hu hy hh qR xu hS
   go_wp2
   rw [<- qW]
   clear qW
   refine wp_region_held (S:=S) zE ?_
   change wpAnyH _ _ _ _ _ 8 #[false,false,false,false,false,false,false,false] _ W6.drew
   refine tk 0 20 (.slice G n c) g0 ?v ?_
   case v => intro Wx hSx;go_simp
   refine tk 1 21 (.pointer (some ⟨wr.heap.size,1,none⟩)) g0 ?v ?_
   case v => intro Wx hSx;go_simp
   refine tk 2 22 (.string ⟨y.toArray⟩) g0 ?v ?_
   case v => intro Wx hSx;obtain z1:=qX.out Wx hSx;go_simp
   refine tk 5 25 (.pointer (some ⟨wr.heap.size,1,none⟩)) g0 ?v ?_
   case v => intro Wx hSx;go_simp
   try simp only [qf]
   refine tk 6 26 (.string ⟨y.toArray⟩) g0 ?v ?_
   case v => intro Wx hSx;obtain z1:=qX.out Wx hSx;go_simp
   try simp only [qf]
   refine o1 3 (fun K hK => ?_)
   go_simp
   (with_reducible refine (HHas.out _ ze.out).mono ?_)
   rintro e x1 ⟨rfl,hb⟩
   have X1:=hZ (ze.out.chain hb)
   clear hb
   refine hK _ _ (qo.out _ X1.out) ?_
   clear hK K
   try simp only [qf]
   refine tk 4 24 (.bool (!h)) (qo.out _ X1.out) ?v ?_
   case v => intro Wx hSx;go_simp
   try simp only [qf]
   refine o1 7 (fun K hK => ?_)
   go_simp
   (with_reducible refine (qU (!h) 8 y x1).mono ?_)
   rintro e x2 ⟨he,hw⟩
   subst hw
   cases h
   ·obtain rfl : e = _:=he
    refine hK _ _ (qo.out _ X1.out) ?_
    clear hK K
    refine wpAnyH_done (by kernel_rfl) ?_ _
    go_wp2
    go_roundg (np - (i + 1))
    case measure => omega
    case rel => exact ⟨i + 1,rfl,by omega,by go_num,hZ ⟨H6.out.chain X1.out,by rw [zR _ f.ps i x HX.out.1,HI.out.2,yD,HX.out.2];rfl⟩⟩
   ·obtain rfl : e = _:=he
    refine ⟨rfl,?_,qw.out.chain (H6.out.chain X1.out)⟩
    rw [HR.out]
    unfold fmC
    rw [yP (qfb sc) f.ps i x (y,8) HX.out.1 HI.out.2 (by rw [HX.out.2];rfl)]
    exact rfl
  ·obtain rfl : np = i:=by omega
   have HEx : Hid (zJ (qfb sc) f.ps = none):=hZ (by
    have h:=HI.out.2
    rwa [List.take_of_length_le (by rw [<- HN.out.2.2.1];exact Nat.le_refl _)] at h)
   have H0:=hZ HI.out.1
   clear HI
   obtain ⟨b0,b1,b2⟩:=HK.out _ H0.out
   have HT:=hZ (qfH p d B0 cb f.ps Fp kp np HN.out.2.2.1 (by unfold maxLen;omega) B0 wr (HLe.out wr H0.out).1 (HP.out wr H0.out) (HChk.out wr H0.out))
   obtain ⟨r2,zW⟩ : ∃ r,r = jU p.rs f.ps:=⟨_,rfl⟩
   rw [<- zW] at HT
   have HR2:=hZ zW
   clear zW
   go_wp2_with fail
   (with_reducible refine HT.out.mono ?_)
   rintro e w2 ⟨he,hb⟩
   have H2:=hZ (H0.out.chain hb)
   clear hb b0 b1 b2
   cases r2 with
   | some t =>
     obtain rfl : e = _:=he
     refine ⟨rfl,?_,qw.out.chain H2.out⟩
     rw [HR.out]
     unfold fmC
     rw [HEx.out,yD,<- HR2.out]
     exact rfl
   | none =>
   obtain rfl : e = _:=he
   obtain ⟨b0,b1,b2⟩:=HK.out _ H2.out
   obtain ⟨W7,vX⟩ : ∃ W7,W7 = w2.alloc (.cells #[.slice G n c,.slice Fp np kp] 23):=⟨_,rfl⟩
   have hb7 : Below w2.heap.size w2 W7:=by rw [vX];exact qd w2 _
   have hp7 : W7.heap[w2.heap.size]? = some (.cells #[.slice G n c,.slice Fp np kp] 23 (0,0)):=by rw [vX];exact qe w2 _
   have H7:=hZ (H2.out.chain hb7)
   have HCc:=hZ (qcm G Fp n c np kp w2.heap.size sc f.ps (by have := HN.out.2.1;omega) W7 (by have h:=yh (qj7 (HLe.out W7 H7.out).2.1 (HG.out W7 H7.out));rw [<- HN.out.1] at h;exact h) (by have h:=yh (qj7 (HLe.out W7 H7.out).1 (HP.out W7 H7.out));rw [<- HN.out.2.2.1] at h;exact h) (qc hp7 0 rfl) (qc hp7 1 rfl) (by rw [vX,qj];omega))
   clear hb7 hp7
   go_wp2_with fail
   rw [<- vX]
   clear vX b0 b1 b2
   (with_reducible refine HCc.out.mono ?_)
   rintro e w3 ⟨v,rfl,qA,hb⟩
   obtain ⟨Av,cv,rfl⟩:=yq qA
   have H3:=hZ (H7.out.chain hb)
   obtain ⟨m,hm⟩ : ∃ m,m = n + np:=⟨_,rfl⟩
   have HL : Hid (m = (sc ++ f.ps).length):=hZ (by rw [hm,List.length_append,<- HN.out.1,<- HN.out.2.2.1])
   have qL : qD zp 2 w3 w3.heap.size (sc ++ f.ps) Av:=by
    have hr:=qI.of_own qA
    rw [<- xG] at hr
    refine qhH (HL.out ▸ hm ▸ rfl) hr (fun x hx => ?_)
    rcases List.mem_append.1 hx with hx | hx
    ·exact yv (HG.out w3 H3.out) x hx
    ·exact yv (HP.out w3 H3.out) x hx
   rw [<- hm]
   have hmm : m <= 4000000000000:=by have := HN.out.2.1;omega
   obtain ⟨W8,hW8⟩ : ∃ W8,W8 = w3.alloc (qao Av m cv none 0 0):=⟨_,rfl⟩
   have hb8 : Below w3.heap.size w3 W8:=by rw [hW8];exact qd w3 _
   have hp8 : W8.heap[w3.heap.size]? = some (qao Av m cv none 0 0):=by rw [hW8];exact qe w3 _
   have H8:=hZ (H3.out.chain hb8)
   have HV : Hid (VarsAt W8 w3.heap.size (sc ++ f.ps) [] Av m none 0):=hZ ⟨HL.out,by unfold maxLen;omega,rfl,Nat.zero_le _,hb8.size,yB qT (Nat.le_refl _) hb8 qL,fun i x hi => by simp at hi⟩
   have HP8:=hZ hp8
   obtain ⟨b0,b1,b2⟩:=HK.out _ H8.out
   clear hb qA qL hb8 hp8 hm
   go_upto_region 8 with fail
   rw [<- hW8]
   clear hW8
   go_wp2
   clear b0 b1 b2
   go_loopg [42] na (fun mm j wr => ∃ i : Nat,mm = na - i /\ i <= na /\ j = .int .i64 i /\ Hid (Below W8.heap.size W8 wr /\ zJ (atC (sc ++ f.ps)) (f.ats.take i) = none))
   case atStart => exact ⟨0,rfl,Nat.zero_le _,rfl,hZ ⟨Below.refl _ _,rfl⟩⟩
   case round =>
    obtain ⟨i,rfl,hi,rfl,HI⟩:=hrel
    have xj : (0 : Int) <= i:=by omega
    by_cases qB : i < na
    ·have hii : (i : Int) < na:=by omega
     obtain ⟨⟨k0,⟨ak,an,sa,al⟩,⟨bk,bn,sb,bl⟩⟩,hg⟩ : ∃ x,f.ats[i]? = some x:=⟨f.ats[i]'(by rw [<- HN.out.2.2.2.1];exact qB),List.getElem?_eq_getElem _⟩
     obtain ⟨a,rfl,qx,ak',an',sa',al',bk',bn',sb',bl',Aa0,ca0,Ab0,cb0,heq1,heq2,qn,hls,ra,rb⟩:=(HA.out wr (H8.out.chain HI.out.1)).at_ hg
     obtain ⟨rfl,rfl,rfl,rfl⟩ : ak' = ak /\ an' = an /\ sa' = sa /\ al' = al:=by injection heq1 with h1 h2 h3 h4;exact ⟨h1.symm,h2.symm,h3.symm,h4.symm⟩
     obtain ⟨rfl,rfl,rfl,rfl⟩ : bk' = bk /\ bn' = bn /\ sb' = sb /\ bl' = bl:=by injection heq2 with h1 h2 h3 h4;exact ⟨h1.symm,h2.symm,h3.symm,h4.symm⟩
     obtain ⟨e0,e1,e2,e3,e4,e5,e6,e7,e8⟩:=qn.flat
     obtain ⟨na0,qe6⟩ : ∃ n,n = al'.length:=⟨_,rfl⟩
     obtain ⟨nb0,qe5⟩ : ∃ n,n = bl'.length:=⟨_,rfl⟩
     rw [<- qe6] at e4
     rw [<- qe5] at e8
     obtain ⟨W6,qW⟩ : ∃ W6,W6 = wr.alloc (.cells #[.int .i64 k0,.int .i64 ak',.int .i64 an',.string ⟨sa'.toArray⟩,.slice Aa0 na0 ca0,.int .i64 bk',.int .i64 bn',.string ⟨sb'.toArray⟩,.slice Ab0 nb0 cb0] 148):=⟨_,rfl⟩
     have qR : Below wr.heap.size wr W6:=by rw [qW];exact qd wr _
     have xu : W6.heap[wr.heap.size]? = some (.cells #[.int .i64 k0,.int .i64 ak',.int .i64 an',.string ⟨sa'.toArray⟩,.slice Aa0 na0 ca0,.int .i64 bk',.int .i64 bn',.string ⟨sb'.toArray⟩,.slice Ab0 nb0 cb0] 148 (0,0)):=by rw [qW];exact qe wr _
     have H6:=hZ (HI.out.1.chain qR)
     have zL:=(HLe.out W6 (H8.out.chain H6.out)).1
     have HCm:=hZ (qmj (sc ++ f.ps) [] Av m cv none 0 0 w3.heap.size k0 ak' an' sa' al' Aa0 ca0 bk' bn' sb' bl' Ab0 cb0 W6 (HV.out.on H6.out) ((ra.stay qR (HLe.out wr (H8.out.chain HI.out.1)).1).more zL) ((rb.stay qR (HLe.out wr (H8.out.chain HI.out.1)).1).more zL) hls.1 hls.2.1 hls.2.2.1 hls.2.2.2)
     obtain ⟨q,hq⟩ : ∃ q,q = qcn (sc ++ f.ps) [] k0 (.mk ak' an' sa' al') (.mk bk' bn' sb' bl'):=⟨_,rfl⟩
     rw [<- hq,<- qe6,<- qe5] at HCm
     have HX:=hZ (aZ hg hq)
     have p6:=qg H6.out HP8.out
     have v0:=qc p6 0 (v:=.slice Av m cv) rfl
     have v1:=qc p6 1 (v:=.slice none 0 0) rfl
     have f0:=qc xu 0 rfl
     have f1:=qc xu 1 rfl
     have f2:=qc xu 2 rfl
     have f3:=qc xu 3 rfl
     have f4:=qc xu 4 rfl
     have f5:=qc xu 5 rfl
     have f6:=qc xu 6 rfl
     have f7:=qc xu 7 rfl
     have f8:=qc xu 8 rfl
     clear qx heq1 heq2 qn hls ra rb qR xu p6 zL hg hq qe6 qe5
     go_upto_region 11 with fail
     rw [<- qW]
     clear qW e0 e1 e2 e3 e4 e5 e6 e7 e8
     go_wp2_with fail
     clear v0 v1 f0 f1 f2 f3 f4 f5 f6 f7 f8
     (with_reducible refine HCm.out.mono ?_)
     rintro e w5 ⟨he,hb⟩
     have H5:=hZ (H6.out.chain hb)
     clear hb
     cases q with
     | some t =>
       obtain rfl : e = _:=he
       refine ⟨rfl,?_,qw.out.chain (H8.out.chain H5.out)⟩
       rw [HR.out]
       unfold fmC
       rw [HEx.out,yD,<- HR2.out,yD,yP (atC (sc ++ f.ps)) f.ats i _ t HX.out.1 HI.out.2 HX.out.2.symm]
       exact rfl
     | none =>
       obtain rfl : e = _:=he
       go_wp2
       go_roundg (na - (i + 1))
       case measure => omega
       case rel => exact ⟨i + 1,rfl,by omega,by go_num,hZ ⟨H5.out,by rw [zR _ f.ats i _ HX.out.1,HI.out.2,yD];exact HX.out.2.symm⟩⟩
    ·obtain rfl : na = i:=by omega
     have HAt : Hid (zJ (atC (sc ++ f.ps)) f.ats = none):=hZ (by
      have h:=HI.out.2
      rwa [List.take_of_length_le (by rw [<- HN.out.2.2.2.1];exact Nat.le_refl _)] at h)
     have H9:=hZ HI.out.1
     clear HI
     obtain ⟨b0,b1,b2⟩:=HK.out _ (H8.out.chain H9.out)
     go_wp2
     clear b0 b1 b2
     go_loopg [58] nc (fun mm j wr => ∃ i : Nat,mm = nc - i /\ i <= nc /\ j = .int .i64 i /\ Hid (Below W8.heap.size W8 wr /\ zJ (clC p (sc ++ f.ps)) (f.cls.take i) = none))
     case atStart => exact ⟨0,rfl,Nat.zero_le _,rfl,hZ ⟨H9.out,rfl⟩⟩
     case round =>
      obtain ⟨i,rfl,hi,rfl,HI⟩:=hrel
      have xj : (0 : Int) <= i:=by omega
      by_cases qB : i < nc
      ·have hii : (i : Int) < nc:=by omega
       obtain ⟨⟨k0,nm0,l0⟩,hg⟩ : ∃ x,f.cls[i]? = some x:=⟨f.cls[i]'(by rw [<- HN.out.2.2.2.2.1];exact qB),List.getElem?_eq_getElem _⟩
       obtain ⟨a,rfl,qx,A',c',d0,d1,d2,yL,hll,qL,qbj⟩:=(HC.out wr (H8.out.chain HI.out.1)).at_ hg
       obtain ⟨nl,qnc⟩ : ∃ n,n = l0.length:=⟨_,rfl⟩
       have e0 : wr.cell? (a.add (i * 3)) = some (.int .i64 k0):=d0
       have e1 : wr.cell? ⟨(a.add (i * 3)).block,(a.add (i * 3)).off + 1,none⟩ = some (.string ⟨nm0.toArray⟩):=d1
       have e2 : wr.cell? ⟨(a.add (i * 3)).block,(a.add (i * 3)).off + 2,none⟩ = some (.slice A' nl c'):=by rw [qnc];exact d2
       obtain ⟨W6,qW⟩ : ∃ W6,W6 = wr.alloc (qcu k0 ⟨nm0.toArray⟩ (.slice A' nl c')):=⟨_,rfl⟩
       have qR : Below wr.heap.size wr W6:=by rw [qW];exact qd wr _
       have xu : W6.heap[wr.heap.size]? = some (qcu k0 ⟨nm0.toArray⟩ (.slice A' nl c')):=by rw [qW];exact qe wr _
       have H6:=hZ (HI.out.1.chain qR)
       have qqt:=(HLe.out wr (H8.out.chain HI.out.1)).1
       obtain ⟨r,hr⟩ : ∃ r,r = jG p ⟨k0,nm0,l0⟩:=⟨_,rfl⟩
       have HCp : Hid (∀ W,Below W6.heap.size W6 W -> Calls Tryz.prog 83 #[.pointer (some ⟨cb,0,none⟩),qgz k0 ⟨nm0.toArray⟩ (.slice A' nl c')] W fun e w' => qpb r e w' /\ Below W.heap.size W w'):=hZ (fun W hb => by
        rw [hr]
        exact qnr p d B0 cb HN.out.2.2.2.2.2.2.2 ⟨k0,nm0,l0⟩ A' nl c' W (HChk.out W (H8.out.chain (H6.out.chain hb))))
       have HAr : Hid (∀ (ps : List Pm) (P : Option Addr) (pn pc : Nat) (W : World),Below W6.heap.size W6 W -> pn = ps.length -> pn <= maxLen -> qD zp 2 W W.heap.size ps P -> Calls Tryz.prog 82 #[jw Av m cv none 0 0,.slice A' nl c',.slice P pn pc,.string ⟨nm0.toArray⟩] W (qV (jp (sc ++ f.ps) [] nm0 l0 ps) W)):=hZ (fun ps P pn pc W hb h1 h2 h3 =>
        qkR (sc ++ f.ps) [] Av m cv none 0 0 W.heap.size nm0 l0 A' c' nl qnc (by rw [qnc];exact hll) ps P pc pn h1 h2 W (qsc (HV.out.on (H6.out.chain hb))) ((qL.stay (qR.chain hb) qqt).more (Nat.le_trans qqt (qR.chain hb).size)) h3)
       have HX : Hid (f.cls[i]? = some ⟨k0,nm0,l0⟩ /\ clC p (sc ++ f.ps) ⟨k0,nm0,l0⟩ = zy r fun ps => jp (sc ++ f.ps) [] nm0 l0 ps):=hZ ⟨hg,by rw [hr];rfl⟩
       obtain ⟨S,hS⟩ : ∃ S : World -> Prop,S = fun W => Below W6.heap.size W6 W:=⟨_,rfl⟩
       have qo : Hid (∀ W,Below W6.heap.size W6 W -> S W):=hZ (fun W hb => by rw [hS];exact hb)
       have qX : Hid (∀ W,S W -> W.cell? ⟨w3.heap.size,0,none⟩ = some (.slice Av m cv) /\ W.cell? ⟨w3.heap.size,1,none⟩ = some (.slice none 0 0) /\ W.cell? ⟨wr.heap.size,0,none⟩ = some (.int .i64 k0) /\ W.cell? ⟨wr.heap.size,1,none⟩ = some (.string ⟨nm0.toArray⟩) /\ W.cell? ⟨wr.heap.size,2,none⟩ = some (.slice A' nl c')):=hZ (fun W hs => by
        rw [hS] at hs
        have p6:=qg (H6.out.chain hs) HP8.out
        have q6:=qg hs xu
        exact ⟨qc p6 0 rfl,qc p6 1 rfl,qc q6 0 rfl,qc q6 1 rfl,qc q6 2 rfl⟩)
       have ze:=hZ (Below.refl W6.heap.size W6).drew
       have g0:=qo.out _ ze.out
       clear qx d0 d1 d2 yL hll qL qbj hg qR xu qqt hr hS qnc
       go_upto_region 16 with fail
       rw [<- qW]
       clear qW e0 e1 e2
       refine wp_region_held (S:=S) zE ?_
       change wpAnyH _ _ _ _ _ 9 #[false,false,false,false,false,false,false,false,false] _ W6.drew
       refine tk 0 62 (jw Av m cv none 0 0) g0 ?v ?_
       case v => intro Wx hSx;obtain ⟨z1,z2,z3,z4,z5⟩:=qX.out Wx hSx;go_simp
       refine tk 1 63 (.pointer (some ⟨wr.heap.size,2,none⟩)) g0 ?v ?_
       case v => intro Wx hSx;go_simp
       refine tk 2 64 (.slice A' nl c') g0 ?v ?_
       case v => intro Wx hSx;obtain ⟨z1,z2,z3,z4,z5⟩:=qX.out Wx hSx;go_simp
       refine tk 3 65 (.pointer (some ⟨cb,0,none⟩)) g0 ?v ?_
       case v => intro Wx hSx;go_simp
       try simp only [qf]
       refine tk 4 66 (qgz k0 ⟨nm0.toArray⟩ (.slice A' nl c')) g0 ?v ?_
       case v => intro Wx hSx;obtain ⟨z1,z2,z3,z4,z5⟩:=qX.out Wx hSx;go_simp
       refine tk 6 68 (.pointer (some ⟨wr.heap.size,1,none⟩)) g0 ?v ?_
       case v => intro Wx hSx;go_simp
       refine tk 7 69 (.string ⟨nm0.toArray⟩) g0 ?v ?_
       case v => intro Wx hSx;obtain ⟨z1,z2,z3,z4,z5⟩:=qX.out Wx hSx;go_simp
       try simp only [qf]
       refine o1 5 (fun K hK => ?_)
       go_simp
       (with_reducible refine (HCp.out _ ze.out).mono ?_)
       rintro e x1 ⟨he,hb⟩
       have X1:=hZ (ze.out.chain hb)
       clear hb
       cases r with
       | error t =>
         obtain rfl : e = _:=he
         refine ⟨rfl,?_,qw.out.chain (H8.out.chain (H6.out.chain X1.out))⟩
         rw [HR.out]
         unfold fmC
         rw [HEx.out,yD,<- HR2.out,yD,HAt.out,yD,yP (clC p (sc ++ f.ps)) f.cls i _ t HX.out.1 HI.out.2 HX.out.2]
         exact rfl
       | ok ps =>
       obtain ⟨P,pn,pc,rfl,hpn,hpm,hpr⟩:=he
       have HA2:=hZ (HAr.out ps P pn pc x1 X1.out hpn hpm hpr)
       obtain ⟨q,hq⟩ : ∃ q,q = jp (sc ++ f.ps) [] nm0 l0 ps:=⟨_,rfl⟩
       rw [<- hq] at HA2
       have HQ : Hid (clC p (sc ++ f.ps) ⟨k0,nm0,l0⟩ = q):=hZ (by rw [HX.out.2,hq];rfl)
       clear hpn hpm hpr hq
       refine hK _ _ (qo.out _ X1.out) ?_
       clear hK K
       try simp only [qf]
       refine o1 8 (fun K hK => ?_)
       go_simp
       (with_reducible refine HA2.out.mono ?_)
       rintro e x2 ⟨he,hb⟩
       have X2:=hZ (X1.out.chain hb)
       clear hb
       cases q with
       | some t =>
         obtain rfl : e = _:=he
         refine ⟨rfl,?_,qw.out.chain (H8.out.chain (H6.out.chain X2.out))⟩
         rw [HR.out]
         unfold fmC
         rw [HEx.out,yD,<- HR2.out,yD,HAt.out,yD,yP (clC p (sc ++ f.ps)) f.cls i _ t HX.out.1 HI.out.2 HQ.out]
         exact rfl
       | none =>
         obtain rfl : e = _:=he
         refine hK _ _ (qo.out _ X2.out) ?_
         clear hK K
         refine wpAnyH_done (by kernel_rfl) ?_ _
         go_wp2
         go_roundg (nc - (i + 1))
         case measure => omega
         case rel => exact ⟨i + 1,rfl,by omega,by go_num,hZ ⟨H6.out.chain X2.out,by rw [zR _ f.cls i _ HX.out.1,HI.out.2,yD];exact HQ.out⟩⟩
      ·obtain rfl : nc = i:=by omega
       have HCl : Hid (zJ (clC p (sc ++ f.ps)) f.cls = none):=hZ (by
        have h:=HI.out.2
        rwa [List.take_of_length_le (by rw [<- HN.out.2.2.2.2.1];exact Nat.le_refl _)] at h)
       have H10:=hZ (H8.out.chain HI.out.1)
       have zL:=(HLe.out wr H10.out).1
       obtain ⟨b0,b1,b2⟩:=HK.out _ H10.out
       have HD:=hZ (qiG f Fp np kp Fa na ka Fc nc kc HN.out.2.2.1 HN.out.2.2.2.1 HN.out.2.2.2.2.1 HN.out.2.2.2.2.2.2.1 wr (qj7 zL (HP.out wr H10.out)) ((HA.out wr H10.out).more jd zL) ((HC.out wr H10.out).more jc zL))
       obtain ⟨q,hq⟩ : ∃ q,q = qhi f:=⟨_,rfl⟩
       rw [<- hq] at HD
       have HQ : Hid (R = q):=hZ (by
        rw [HR.out]
        unfold fmC
        rw [HEx.out,yD,<- HR2.out,yD,HAt.out,yD,HCl.out,yD,hq])
       clear HI zL hq
       go_wp2_with fail
       clear b0 b1 b2
       (with_reducible refine HD.out.mono ?_)
       rintro e w5 ⟨he,hb⟩
       have H5:=hZ (qw.out.chain (H10.out.chain hb))
       clear hb
       cases q with
       | some t =>
         obtain rfl : e = _:=he
         refine ⟨rfl,?_,H5.out⟩
         rw [HQ.out]
         exact rfl
       | none =>
         obtain rfl : e = _:=he
         go_wp2
         refine bodyPost_end (results_none rfl _ _ _) rfl ⟨?_,H5.out⟩
         rw [HQ.out]
         rfl
end
end Go.Proofs.YtojjfdegkooknaaGreatDoor
