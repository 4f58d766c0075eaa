/-
  The code's comparisons of expressions, conditions, atoms, cells, calls, parameters, and formulas. The code's comparisons of statements, of items of programs, and of programs.
-/
import Derived.Test.YtehmoomoocdidaaGreatDoorSTreeQ
import Derived.Test.YtehmoomoocdidaaGreatDoorSTreeQd
import Derived.Test.YtehmoomoocdidaaGreatDoorSTreeQb
import Derived.Test.YtehmoomoocdidaaGreatDoorSTreeQe
import Derived.Test.YtehmoomoocdidaaGreatDoorSTreeQf
import Derived.Test.YtehmoomoocdidaaGreatDoorSTreeQi
set_option linter.unusedVariables false
set_option linter.unusedSimpArgs false
namespace Go.Proofs.YtehmoomoocdidaaGreatDoor
set_option maxRecDepth 100000
set_option maxHeartbeats 4000000
open Go.RowKit
theorem eqExpr_any : ∀ (M : Nat) (x y : Ex),SizeOf.sizeOf x < M → EqAt 106 VEx (fun x y => x = y) x y:=by
 intro M
 induction M with
 | zero => intro x y h;omega
 | succ M ih =>
   intro x y hM cs ds w r hx hy hr
   obtain ⟨k,n,s,l,A,c,rfl,rfl,b1,b2,ra⟩:=hx
   obtain ⟨k2,n2,s2,l2,A2,c2,rfl,rfl,b3,b4,rb⟩:=hy
   obtain ⟨q,hq⟩:=boolOf (l = l2)
   refine eqe_core _ _ rfl rfl k k2 n n2 s s2 (.slice A l.length c) (.slice A2 l2.length c2) rfl rfl rfl rfl rfl rfl rfl rfl q w r (fun W hb => ?_) (hr.trans (by show (_ = _) ↔ _;rw [Ex.mk.injEq,hq]))
   exact eql_Expr VEx vex_keeps _ 106 (enters_of Tryz.func106 (by kernel_rfl) rfl) l l2 (fun x y hx _ => ih x y (by have := List.sizeOf_lt_of_mem hx;simp at hM;omega)) A A2 c c2 W b2 b4 (ra.on hb).rowV (rb.on hb).rowV q (hq.trans (all2_eq _ _).symm)
theorem eqe_at (x y : Ex) : EqAt 106 VEx (fun x y => x = y) x y:=eqExpr_any _ x y (Nat.lt_succ_self _)
theorem eqes_row (l m : List Ex) (A B : Option Addr) (ca cb : Nat) (w : World) (hl : l.length ≤ maxLen) (hm : m.length ≤ maxLen) (ra : ExRow w w.heap.size l A) (rb : ExRow w w.heap.size m B) (r : Bool) (hr : r = true ↔ l = m) :
 Calls Tryz.prog 107 #[.slice A l.length ca,.slice B m.length cb,.func (.func 106) #[] #[]] w fun e w' => e = .returned (.bool r) ∧ Below w.heap.size w w' :=
 eql_Expr VEx vex_keeps _ 106 (enters_of Tryz.func106 (by kernel_rfl) rfl) l m (fun x y _ _ => eqe_at x y) A B ca cb w hl hm ra.rowV rb.rowV r (hr.trans (all2_eq _ _).symm)
theorem eqCond_any : ∀ (M : Nat) (x y : Cn),SizeOf.sizeOf x < M → EqAt 108 VCn (fun x y => x = y) x y:=by
 intro M
 induction M with
 | zero => intro x y h;omega
 | succ M ih =>
   intro x y hM cs ds w r hx hy hr
   obtain ⟨k,ak,an,sa,al,bk,bn,sb,bl,l,Aa,ca,Ab,cb,Al,cl,rfl,rfl,⟨b1,b2,b3,b4,b5⟩,ra,rb,rl⟩:=hx
   obtain ⟨k',ak',an',sa',al',bk',bn',sb',bl',l',Aa',ca',Ab',cb',Al',cl',rfl,rfl,⟨b1',b2',b3',b4',b5'⟩,ra',rb',rl'⟩:=hy
   obtain ⟨q1,h1⟩:=boolOf (Ex.mk ak an sa al = Ex.mk ak' an' sa' al')
   obtain ⟨q2,h2⟩:=boolOf (Ex.mk bk bn sb bl = Ex.mk bk' bn' sb' bl')
   obtain ⟨q3,h3⟩:=boolOf (l = l')
   refine eqc_core _ _ rfl rfl k k' ak ak' an an' sa sa' (.slice Aa al.length ca) (.slice Aa' al'.length ca') bk bk' bn bn' sb sb' (.slice Ab bl.length cb) (.slice Ab' bl'.length cb') (.slice Al l.length cl) (.slice Al' l'.length cl')
    rfl rfl rfl rfl rfl rfl rfl rfl rfl rfl rfl rfl rfl rfl rfl rfl rfl rfl rfl rfl q1 q2 q3 w r (fun W hb => ?_) (fun W hb => ?_) (fun W hb => ?_) (hr.trans (by show (_ = _) ↔ _;rw [Cn.mk.injEq,h1,h2,h3]))
   ·exact eqe_at _ _ _ _ W q1 ⟨ak,an,sa,al,Aa,ca,rfl,rfl,b1,b2,ra.on hb⟩ ⟨ak',an',sa',al',Aa',ca',rfl,rfl,b1',b2',ra'.on hb⟩ h1
   ·exact eqe_at _ _ _ _ W q2 ⟨bk,bn,sb,bl,Ab,cb,rfl,rfl,b3,b4,rb.on hb⟩ ⟨bk',bn',sb',bl',Ab',cb',rfl,rfl,b3',b4',rb'.on hb⟩ h2
   ·exact eql_Cond VCn vcn_keeps _ 108 (enters_of Tryz.func108 (by kernel_rfl) rfl) l l' (fun x y hx _ => ih x y (by have := List.sizeOf_lt_of_mem hx;simp at hM;omega)) Al Al' cl cl' W b5 b5' (rl.on hb).rowV (rl'.on hb).rowV q3 (h3.trans (all2_eq _ _).symm)
theorem eqc_at (x y : Cn) : EqAt 108 VCn (fun x y => x = y) x y:=eqCond_any _ x y (Nat.lt_succ_self _)
theorem eqa_at (x y : At) : EqAt 74 VAt (fun x y => x = y) x y:=by
 intro cs ds w r hx hy hr
 obtain ⟨k,xa,xb⟩:=x
 obtain ⟨k',ya,yb⟩:=y
 obtain ⟨ak,an,sa,al,bk,bn,sb,bl,Aa,ca,Ab,cb,e1,e2,rfl,⟨b1,b2,b3,b4⟩,ra,rb⟩:=hx
 obtain ⟨ak',an',sa',al',bk',bn',sb',bl',Aa',ca',Ab',cb',e3,e4,rfl,⟨b1',b2',b3',b4'⟩,ra',rb'⟩:=hy
 simp only at e1 e2 e3 e4
 subst e1 e2 e3 e4
 obtain ⟨q1,h1⟩:=boolOf (Ex.mk ak an sa al = Ex.mk ak' an' sa' al')
 obtain ⟨q2,h2⟩:=boolOf (Ex.mk bk bn sb bl = Ex.mk bk' bn' sb' bl')
 refine eqa_core _ _ rfl rfl k k' ak ak' an an' sa sa' (.slice Aa al.length ca) (.slice Aa' al'.length ca') bk bk' bn bn' sb sb' (.slice Ab bl.length cb) (.slice Ab' bl'.length cb')
  rfl rfl rfl rfl rfl rfl rfl rfl rfl rfl rfl rfl rfl rfl rfl rfl rfl rfl q1 q2 w r (fun W hb => ?_) (fun W hb => ?_) (hr.trans (by show (_ = _) ↔ _;rw [At.mk.injEq,h1,h2]))
 ·exact eqe_at _ _ _ _ W q1 ⟨ak,an,sa,al,Aa,ca,rfl,rfl,b1,b2,ra.on hb⟩ ⟨ak',an',sa',al',Aa',ca',rfl,rfl,b1',b2',ra'.on hb⟩ h1
 ·exact eqe_at _ _ _ _ W q2 ⟨bk,bn,sb,bl,Ab,cb,rfl,rfl,b3,b4,rb.on hb⟩ ⟨bk',bn',sb',bl',Ab',cb',rfl,rfl,b3',b4',rb'.on hb⟩ h2
theorem eqcl_at (x y : Cl) : EqAt 76 VCl (fun x y => x = y) x y:=by
 intro cs ds w r hx hy hr
 obtain ⟨k,s,l⟩:=x
 obtain ⟨k',s',l'⟩:=y
 obtain ⟨A,c,rfl,b1,b2,ra⟩:=hx
 obtain ⟨A',c',rfl,b1',b2',ra'⟩:=hy
 obtain ⟨q,h⟩:=boolOf (l = l')
 refine eqcl_core _ _ rfl rfl k k' s s' (.slice A l.length c) (.slice A' l'.length c') rfl rfl rfl rfl rfl rfl q w r (fun W hb => ?_) (hr.trans (by show (_ = _) ↔ _;rw [Cl.mk.injEq,h]))
 exact eqes_row l l' A A' c c' W b2 b2' (ra.on hb) (ra'.on hb) q h
theorem eqca_at (x y : Cal) : EqAt 110 VCal (fun x y => x = y) x y:=by
 intro cs ds w r hx hy hr
 obtain ⟨k,s,l⟩:=x
 obtain ⟨k',s',l'⟩:=y
 obtain ⟨A,c,rfl,b1,b2,b3,ra⟩:=hx
 obtain ⟨A',c',rfl,b1',b2',b3',ra'⟩:=hy
 obtain ⟨q,h⟩:=boolOf (l = l')
 refine eqca_core _ _ rfl rfl k k' s s' (.slice A l.length c) (.slice A' l'.length c') rfl rfl rfl rfl rfl rfl q w r (fun W hb => ?_) (hr.trans (by show (_ = _) ↔ _;rw [Cal.mk.injEq,h]))
 exact eqes_row l l' A A' c c' W b3 b3' (ra.on hb) (ra'.on hb) q h
theorem eqp_at (x y : Pm) : EqAt 21 VPm (fun x y => x = y) x y:=by
 intro cs ds w r hx hy hr
 obtain ⟨s,t⟩:=x
 obtain ⟨s',t'⟩:=y
 obtain ⟨rfl,b1,b2⟩:=hx
 obtain ⟨rfl,b1',b2'⟩:=hy
 simp only at b1 b2 b1' b2' ⊢
 have hr : r = true ↔ s = s' ∧ t = t':=hr.trans (by show (_ = _) ↔ _;rw [Pm.mk.injEq])
 have HB:=Lib.hid ((below_alloc w (.cells #[.string ⟨s.toArray⟩,.string ⟨t.toArray⟩] 36)).chain (below_alloc _ (.cells #[.string ⟨s'.toArray⟩,.string ⟨t'.toArray⟩] 36)))
 by_cases h1 : s = s'
 ·subst h1
  by_cases h2 : t = t'
  ·subst h2
   have e : r = true:=hr.2 ⟨rfl,rfl⟩
   clear hr
   subst e
   go_enter Tryz.func21,Tryz.ntmps21
   go_wp2
   go_ret
   exact ⟨by first | rfl | (simp;done),HB.out⟩
  ·have e : r = false:=Bool.eq_false_iff.2 (fun h => h2 (hr.1 h).2)
   have hs : (t == t') = false:=by simpa using h2
   clear hr
   subst e
   go_enter Tryz.func21,Tryz.ntmps21
   go_wp2
   go_ret
   exact ⟨by first | rfl | (simp [h2];done),HB.out⟩
 ·have e : r = false:=Bool.eq_false_iff.2 (fun h => h1 (hr.1 h).1)
  have hs : (s == s') = false:=by simpa using h1
  clear hr
  subst e
  go_enter Tryz.func21,Tryz.ntmps21
  go_wp2
  go_ret
  exact ⟨by first | rfl | (simp [h1];done),HB.out⟩
theorem eqps_row (l m : List Pm) (A B : Option Addr) (ca cb : Nat) (w : World) (hl : l.length ≤ maxLen) (hm : m.length ≤ maxLen) (ra : PmRow w w.heap.size l A) (rb : PmRow w w.heap.size m B) (r : Bool) (hr : r = true ↔ l = m) :
 Calls Tryz.prog 20 #[.slice A l.length ca,.slice B m.length cb,.func (.func 21) #[] #[]] w fun e w' => e = .returned (.bool r) ∧ Below w.heap.size w w' :=
 eql_Param VPm vpm_keeps _ 21 (enters_of Tryz.func21 (by kernel_rfl) rfl) l m (fun x y _ _ => eqp_at x y) A B ca cb w hl hm (pm_rowV ra) (pm_rowV rb) r (hr.trans (all2_eq _ _).symm)
theorem eqf_at (x y : Fm) : EqAt 44 VFm (fun x y => x = y) x y:=by
 intro cs ds w r hx hy hr
 obtain ⟨ps,ats,cl⟩:=x
 obtain ⟨ps',ats',cl'⟩:=y
 obtain ⟨d,rfl,⟨b1,b2,b3⟩,r1,r2,r3⟩:=hx
 obtain ⟨d',rfl,⟨b1',b2',b3'⟩,r1',r2',r3'⟩:=hy
 simp only at b1 b2 b3 b1' b2' b3' r1 r2 r3 r1' r2' r3' ⊢
 obtain ⟨q1,h1⟩:=boolOf (ps = ps')
 obtain ⟨q2,h2⟩:=boolOf (ats = ats')
 obtain ⟨q3,h3⟩:=boolOf (cl = cl')
 refine eqf_core _ _ rfl rfl (.slice d.p ps.length d.np) (.slice d'.p ps'.length d'.np) (.slice d.a ats.length d.na) (.slice d'.a ats'.length d'.na) (.slice d.c cl.length d.nc) (.slice d'.c cl'.length d'.nc) rfl rfl rfl rfl rfl rfl q1 q2 q3 w r (fun W hb => ?_) (fun W hb => ?_) (fun W hb => ?_) (hr.trans (by show (_ = _) ↔ _;rw [Fm.mk.injEq,h1,h2,h3]))
 ·exact eqps_row ps ps' _ _ _ _ W b1 b1' (r1.on pm_keeps hb) (r1'.on pm_keeps hb) q1 h1
 ·exact eql_Atom VAt vat_keeps _ 74 (enters_of Tryz.func74 (by kernel_rfl) rfl) ats ats' (fun x y _ _ => eqa_at x y) _ _ _ _ W b2 b2' (at_rowV (r2.on at_keeps hb)) (at_rowV (r2'.on at_keeps hb)) q2 (h2.trans (all2_eq _ _).symm)
 ·exact eql_Cell VCl vcl_keeps _ 76 (enters_of Tryz.func76 (by kernel_rfl) rfl) cl cl' (fun x y _ _ => eqcl_at x y) _ _ _ _ W b3 b3' (cl_rowV (r3.on cl_keeps hb)) (cl_rowV (r3'.on cl_keeps hb)) q3 (h3.trans (all2_eq _ _).symm)
theorem eqfs_row (l m : List Fm) (A B : Option Addr) (ca cb : Nat) (w : World) (hl : l.length ≤ maxLen) (hm : m.length ≤ maxLen) (ra : FmRow w w.heap.size l A) (rb : FmRow w w.heap.size m B) (r : Bool) (hr : r = true ↔ l = m) :
 Calls Tryz.prog 43 #[.slice A l.length ca,.slice B m.length cb,.func (.func 44) #[] #[]] w fun e w' => e = .returned (.bool r) ∧ Below w.heap.size w w' :=
 eql_Formula VFm vfm_keeps _ 44 (enters_of Tryz.func44 (by kernel_rfl) rfl) l m (fun x y _ _ => eqf_at x y) A B ca cb w hl hm (fm_rowV ra) (fm_rowV rb) r (hr.trans (all2_eq _ _).symm)
end Go.Proofs.YtehmoomoocdidaaGreatDoor
namespace Go.Proofs.YtehmoomoocdidaaGreatDoor
set_option maxRecDepth 100000
set_option maxHeartbeats 4000000
open Go.RowKit
theorem eqss_by (l m : List St) (hE : ∀ x y,x ∈ l → y ∈ m → EqAt 78 VSt SameS x y) (A B : Option Addr) (ca cb : Nat) (w : World) (hl : l.length ≤ maxLen) (hm : m.length ≤ maxLen) (ra : StRow w w.heap.size l A) (rb : StRow w w.heap.size m B) (r : Bool) (hr : r = true ↔ SameL l m) :
 Calls Tryz.prog 45 #[.slice A l.length ca,.slice B m.length cb] w fun e w' => e = .returned (.bool r) ∧ Below w.heap.size w w':=by
 have H:=Lib.hid (eql_Stmt VSt vst_keeps SameS 78 (enters_of Tryz.func78 (by kernel_rfl) rfl) l m hE A B ca cb w hl hm ra.rowV rb.rowV r (hr.trans (sameL_all2 l m).symm))
 clear hE ra rb hr
 generalize l.length = n1 at *
 generalize m.length = n2 at *
 go_enter Tryz.func45,Tryz.ntmps45
 go_wp2_with (go_at_call 77;refine H.out.mono ?_;rintro e w2 ⟨rfl,hb⟩;have HB:=Lib.hid hb;clear hb)
 go_ret
 exact ⟨rfl,HB.out⟩
theorem eqs_any : ∀ (M : Nat) (x y : St),SizeOf.sizeOf x < M → EqAt 78 VSt SameS x y:=by
 intro M
 induction M with
 | zero => intro x y h;omega
 | succ M ih =>
   intro x y hM cs ds w r hx hy hr
   obtain ⟨k,ln,co,nm,fd,fr,⟨ek,en,es,el⟩,⟨ck,⟨ak,an,sa,al⟩,⟨bk,bn,sb,bl⟩,l⟩,cl,iv,b,o⟩:=x
   obtain ⟨k',ln',co',nm',fd',fr',⟨ek',en',es',el'⟩,⟨ck',⟨ak',an',sa',al'⟩,⟨bk',bn',sb',bl'⟩,l'⟩,cl',iv',b',o'⟩:=y
   obtain ⟨d,rfl,⟨⟨m1,m2,m3,m4,m5,m6,m7,m8,m9,m10,m11,m12,m13,m14⟩,re,ra,rb,rl,rc,ri⟩,rs,rt⟩:=hx
   obtain ⟨d',rfl,⟨⟨m1',m2',m3',m4',m5',m6',m7',m8',m9',m10',m11',m12',m13',m14'⟩,re',ra',rb',rl',rc',ri'⟩,rs',rt'⟩:=hy
   obtain ⟨q1,h1⟩:=boolOf (Ex.mk ek en es el = Ex.mk ek' en' es' el')
   obtain ⟨q2,h2⟩:=boolOf (Cn.mk ck (.mk ak an sa al) (.mk bk bn sb bl) l = Cn.mk ck' (.mk ak' an' sa' al') (.mk bk' bn' sb' bl') l')
   obtain ⟨q3,h3⟩:=boolOf (cl = cl')
   obtain ⟨q4,h4⟩:=boolOf (iv = iv')
   obtain ⟨q5,h5⟩:=boolOf (SameL b b')
   obtain ⟨q6,h6⟩:=boolOf (SameL o o')
   refine eqs_core _ _ rfl rfl k k' nm nm' fd fd' fr fr' ek ek' en en' es es' (.slice d.e el.length d.ne) (.slice d'.e el'.length d'.ne) ck ck' ak ak' an an' sa sa' (.slice d.a al.length d.na) (.slice d'.a al'.length d'.na)
    bk bk' bn bn' sb sb' (.slice d.b bl.length d.nb) (.slice d'.b bl'.length d'.nb) (.slice d.l l.length d.nl) (.slice d'.l l'.length d'.nl) (.slice d.c cl.length d.nc) (.slice d'.c cl'.length d'.nc) (.slice d.i iv.length d.ni) (.slice d'.i iv'.length d'.ni)
    (.slice d.s b.length d.ns) (.slice d'.s b'.length d'.ns) (.slice d.t o.length d.nt) (.slice d'.t o'.length d'.nt)
    rfl rfl rfl rfl rfl rfl rfl rfl rfl rfl rfl rfl rfl rfl rfl rfl rfl rfl rfl rfl rfl rfl rfl rfl rfl rfl rfl rfl rfl rfl rfl rfl rfl rfl rfl rfl rfl rfl rfl rfl rfl rfl rfl rfl
    q1 q2 q3 q4 q5 q6 w r (fun W hb => ?_) (fun W hb => ?_) (fun W hb => ?_) (fun W hb => ?_) (fun W hb => ?_) (fun W hb => ?_) (hr.trans (by rw [h1,h2,h3,h4,h5,h6];exact Iff.rfl))
   ·exact eqe_at _ _ _ _ W q1 ⟨ek,en,es,el,d.e,d.ne,rfl,rfl,m4,m5,re.on hb⟩ ⟨ek',en',es',el',d'.e,d'.ne,rfl,rfl,m4',m5',re'.on hb⟩ h1
   ·exact eqc_at _ _ _ _ W q2 ⟨ck,ak,an,sa,al,bk,bn,sb,bl,l,d.a,d.na,d.b,d.nb,d.l,d.nl,rfl,rfl,⟨m6,m7,m8,m9,m10⟩,ra.on hb,rb.on hb,rl.on hb⟩ ⟨ck',ak',an',sa',al',bk',bn',sb',bl',l',d'.a,d'.na,d'.b,d'.nb,d'.l,d'.nl,rfl,rfl,⟨m6',m7',m8',m9',m10'⟩,ra'.on hb,rb'.on hb,rl'.on hb⟩ h2
   ·exact eql_Call VCal vcal_keeps _ 110 (enters_of Tryz.func110 (by kernel_rfl) rfl) cl cl' (fun x y _ _ => eqca_at x y) _ _ _ _ W m11 m11' (cal_rowV (rc.on cal_keeps hb)) (cal_rowV (rc'.on cal_keeps hb)) q3 (h3.trans (all2_eq _ _).symm)
   ·exact eqfs_row iv iv' _ _ _ _ W m12 m12' (ri.on fm_keeps hb) (ri'.on fm_keeps hb) q4 h4
   ·exact eqss_by b b' (fun x y hx _ => ih x y (by have := List.sizeOf_lt_of_mem hx;simp at hM;omega)) _ _ _ _ W m13 m13' (rs.on hb) (rs'.on hb) q5 h5
   ·exact eqss_by o o' (fun x y hx _ => ih x y (by have := List.sizeOf_lt_of_mem hx;simp at hM;omega)) _ _ _ _ W m14 m14' (rt.on hb) (rt'.on hb) q6 h6
theorem eqss_row (l m : List St) (A B : Option Addr) (ca cb : Nat) (w : World) (hl : l.length ≤ maxLen) (hm : m.length ≤ maxLen) (ra : StRow w w.heap.size l A) (rb : StRow w w.heap.size m B) (r : Bool) (hr : r = true ↔ SameL l m) :
 Calls Tryz.prog 45 #[.slice A l.length ca,.slice B m.length cb] w fun e w' => e = .returned (.bool r) ∧ Below w.heap.size w w' :=
 eqss_by l m (fun x y _ _ => eqs_any _ x y (Nat.lt_succ_self _)) A B ca cb w hl hm ra rb r hr
theorem eqrc_at (x y : Rc) : EqAt 19 VRc (fun x y => x = y) x y:=by
 intro cs ds w r hx hy hr
 obtain ⟨s,l⟩:=x
 obtain ⟨s',l'⟩:=y
 obtain ⟨A,c,rfl,b1,b2,ra⟩:=hx
 obtain ⟨A',c',rfl,b1',b2',ra'⟩:=hy
 obtain ⟨q,h⟩:=boolOf (l = l')
 refine eqrc_core _ _ rfl rfl s s' (.slice A l.length c) (.slice A' l'.length c') rfl rfl rfl rfl q w r (fun W hb => ?_) (hr.trans (by show (_ = _) ↔ _;rw [Rc.mk.injEq,h]))
 exact eqps_row l l' A A' c c' W b2 b2' (ra.on pm_keeps hb) (ra'.on pm_keeps hb) q h
theorem eqlk_at (x y : Lk) : EqAt 23 VLk (fun x y => x = y) x y:=by
 intro cs ds w r hx hy hr
 obtain ⟨s,l⟩:=x
 obtain ⟨s',l'⟩:=y
 obtain ⟨A,c,rfl,b1,b2,ra⟩:=hx
 obtain ⟨A',c',rfl,b1',b2',ra'⟩:=hy
 obtain ⟨q,h⟩:=boolOf (l = l')
 refine eqlk_core _ _ rfl rfl s s' (.slice A l.length c) (.slice A' l'.length c') rfl rfl rfl rfl q w r (fun W hb => ?_) (hr.trans (by show (_ = _) ↔ _;rw [Lk.mk.injEq,h]))
 exact eqfs_row l l' A A' c c' W b2 b2' (ra.on fm_keeps hb) (ra'.on fm_keeps hb) q h
theorem eqdf_at (x y : Df) : EqAt 25 VDf (fun x y => x = y) x y:=by
 intro cs ds w r hx hy hr
 obtain ⟨s,l,m⟩:=x
 obtain ⟨s',l',m'⟩:=y
 obtain ⟨A,c,A2,c2,rfl,b1,b2,b3,ra,rb⟩:=hx
 obtain ⟨A',c',A2',c2',rfl,b1',b2',b3',ra',rb'⟩:=hy
 obtain ⟨q,h⟩:=boolOf (l = l')
 obtain ⟨q2,h2⟩:=boolOf (m = m')
 refine eqdf_core _ _ rfl rfl s s' (.slice A l.length c) (.slice A' l'.length c') (.slice A2 m.length c2) (.slice A2' m'.length c2') rfl rfl rfl rfl rfl rfl q q2 w r (fun W hb => ?_) (fun W hb => ?_) (hr.trans (by show (_ = _) ↔ _;rw [Df.mk.injEq,h,h2]))
 ·exact eqps_row l l' A A' c c' W b2 b2' (ra.on pm_keeps hb) (ra'.on pm_keeps hb) q h
 ·exact eqfs_row m m' A2 A2' c2 c2' W b3 b3' (rb.on fm_keeps hb) (rb'.on fm_keeps hb) q2 h2
theorem eqlm_at (x y : Lm) : EqAt 27 VLm (fun x y => x = y) x y:=by
 intro cs ds w r hx hy hr
 obtain ⟨s,l,f,g⟩:=x
 obtain ⟨s',l',f',g'⟩:=y
 obtain ⟨A,c,d,e,rfl,b1,b2,ra,rf,rg⟩:=hx
 obtain ⟨A',c',d',e',rfl,b1',b2',ra',rf',rg'⟩:=hy
 obtain ⟨q,h⟩:=boolOf (l = l')
 obtain ⟨q2,h2⟩:=boolOf (f = f')
 obtain ⟨q3,h3⟩:=boolOf (g = g')
 refine eqlm_core _ _ rfl rfl s s' (.slice A l.length c) (.slice A' l'.length c') (.slice d.p f.ps.length d.np) (.slice d'.p f'.ps.length d'.np) (.slice d.a f.ats.length d.na) (.slice d'.a f'.ats.length d'.na) (.slice d.c f.cls.length d.nc) (.slice d'.c f'.cls.length d'.nc)
  (.slice e.p g.ps.length e.np) (.slice e'.p g'.ps.length e'.np) (.slice e.a g.ats.length e.na) (.slice e'.a g'.ats.length e'.na) (.slice e.c g.cls.length e.nc) (.slice e'.c g'.cls.length e'.nc)
  rfl rfl rfl rfl rfl rfl rfl rfl rfl rfl rfl rfl rfl rfl rfl rfl q q2 q3 w r (fun W hb => ?_) (fun W hb => ?_) (fun W hb => ?_) (hr.trans (by show (_ = _) ↔ _;rw [Lm.mk.injEq,h,h2,h3]))
 ·exact eqps_row l l' A A' c c' W b2 b2' (ra.on pm_keeps hb) (ra'.on pm_keeps hb) q h
 ·exact eqf_at f f' _ _ W q2 ⟨d,rfl,rf.on hb⟩ ⟨d',rfl,rf'.on hb⟩ h2
 ·exact eqf_at g g' _ _ W q3 ⟨e,rfl,rg.on hb⟩ ⟨e',rfl,rg'.on hb⟩ h3
theorem eqpr_at (x y : Pr) : EqAt 29 VPr SamePr x y:=by
 intro cs ds w r hx hy hr
 obtain ⟨d,rfl,⟨m1,m2,m3,m4,m5,m6,m7,m8,m9⟩,r1,r2,r3,r4,r5,r6⟩:=hx
 obtain ⟨d',rfl,⟨m1',m2',m3',m4',m5',m6',m7',m8',m9'⟩,r1',r2',r3',r4',r5',r6'⟩:=hy
 obtain ⟨q1,h1⟩:=boolOf (x.ps = y.ps)
 obtain ⟨q2,h2⟩:=boolOf (x.lg = y.lg)
 obtain ⟨q3,h3⟩:=boolOf (x.rq = y.rq)
 obtain ⟨q4,h4⟩:=boolOf (x.es = y.es)
 obtain ⟨q5,h5⟩:=boolOf (x.lo = y.lo)
 obtain ⟨q6,h6⟩:=boolOf (SameL x.bd y.bd)
 refine eqpr_core _ _ rfl rfl x.nm y.nm (.slice d.p x.ps.length d.np) (.slice d'.p y.ps.length d'.np) (.slice d.g x.lg.length d.ng) (.slice d'.g y.lg.length d'.ng) x.rt y.rt x.rn y.rn x.ct y.ct (.slice d.r x.rq.length d.nr) (.slice d'.r y.rq.length d'.nr)
  (.slice d.e x.es.length d.ne) (.slice d'.e y.es.length d'.ne) (.slice d.l x.lo.length d.nl) (.slice d'.l y.lo.length d'.nl) (.slice d.b x.bd.length d.nb) (.slice d'.b y.bd.length d'.nb)
  rfl rfl rfl rfl rfl rfl rfl rfl rfl rfl rfl rfl rfl rfl rfl rfl rfl rfl rfl rfl q1 q2 q3 q4 q5 q6 w r (fun W hb => ?_) (fun W hb => ?_) (fun W hb => ?_) (fun W hb => ?_) (fun W hb => ?_) (fun W hb => ?_) (hr.trans (by unfold SamePr;rw [h1,h2,h3,h4,h5,h6,and_assoc]))
 ·exact eqps_row _ _ _ _ _ _ W m2 m2' (r1.on pm_keeps hb) (r1'.on pm_keeps hb) q1 h1
 ·exact eqps_row _ _ _ _ _ _ W m3 m3' (r2.on pm_keeps hb) (r2'.on pm_keeps hb) q2 h2
 ·exact eqfs_row _ _ _ _ _ _ W m6 m6' (r3.on fm_keeps hb) (r3'.on fm_keeps hb) q3 h3
 ·exact eqfs_row _ _ _ _ _ _ W m7 m7' (r4.on fm_keeps hb) (r4'.on fm_keeps hb) q4 h4
 ·exact eqps_row _ _ _ _ _ _ W m8 m8' (r5.on pm_keeps hb) (r5'.on pm_keeps hb) q5 h5
 ·exact eqss_row _ _ _ _ _ _ W m9 m9' (r6.on hb) (r6'.on hb) q6 h6
theorem eqpg_any (p q : Pg) (d d' : GAd) (w : World) (hp : PgOwn w w.heap.size d p) (hq : PgOwn w w.heap.size d' q) (r : Bool) (hr : r = true ↔ SamePg p q) :
 Calls Tryz.prog 9 #[progV d p,progV d' q] w fun e w' => e = .returned (.bool r) ∧ Below w.heap.size w w':=by
 obtain ⟨⟨m1,m2,m3,m4,m5,m6⟩,r1,r2,r3,r4,r5,r6⟩:=hp
 obtain ⟨⟨m1',m2',m3',m4',m5',m6'⟩,r1',r2',r3',r4',r5',r6'⟩:=hq
 obtain ⟨q1,h1⟩:=boolOf (p.rs = q.rs)
 obtain ⟨q2,h2⟩:=boolOf (p.gs = q.gs)
 obtain ⟨q3,h3⟩:=boolOf (p.ks = q.ks)
 obtain ⟨q4,h4⟩:=boolOf (p.ds = q.ds)
 obtain ⟨q5,h5⟩:=boolOf (p.ms = q.ms)
 obtain ⟨q6,h6⟩:=boolOf (All2 SamePr p.xs q.xs)
 refine eqpg_core _ _ rfl rfl (.slice d.r p.rs.length d.nr) (.slice d'.r q.rs.length d'.nr) (.slice d.g p.gs.length d.ng) (.slice d'.g q.gs.length d'.ng) (.slice d.k p.ks.length d.nk) (.slice d'.k q.ks.length d'.nk) (.slice d.d p.ds.length d.nd) (.slice d'.d q.ds.length d'.nd)
  (.slice d.m p.ms.length d.nm) (.slice d'.m q.ms.length d'.nm) (.slice d.x p.xs.length d.nx) (.slice d'.x q.xs.length d'.nx)
  rfl rfl rfl rfl rfl rfl rfl rfl rfl rfl rfl rfl q1 q2 q3 q4 q5 q6 w r (fun W hb => ?_) (fun W hb => ?_) (fun W hb => ?_) (fun W hb => ?_) (fun W hb => ?_) (fun W hb => ?_) (hr.trans (by unfold SamePg;rw [h1,h2,h3,h4,h5,h6]))
 ·exact eql_Record VRc vrc_keeps _ 19 (enters_of Tryz.func19 (by kernel_rfl) rfl) _ _ (fun x y _ _ => eqrc_at x y) _ _ _ _ W m1 m1' (rc_rowV (r1.on rc_keeps hb)) (rc_rowV (r1'.on rc_keeps hb)) q1 (h1.trans (all2_eq _ _).symm)
 ·exact eqps_row _ _ _ _ _ _ W m2 m2' (r2.on pm_keeps hb) (r2'.on pm_keeps hb) q2 h2
 ·exact eql_Lock VLk vlk_keeps _ 23 (enters_of Tryz.func23 (by kernel_rfl) rfl) _ _ (fun x y _ _ => eqlk_at x y) _ _ _ _ W m3 m3' (lk_rowV (r3.on lk_keeps hb)) (lk_rowV (r3'.on lk_keeps hb)) q3 (h3.trans (all2_eq _ _).symm)
 ·exact eql_Def VDf vdf_keeps _ 25 (enters_of Tryz.func25 (by kernel_rfl) rfl) _ _ (fun x y _ _ => eqdf_at x y) _ _ _ _ W m4 m4' (df_rowV (r4.on df_keeps hb)) (df_rowV (r4'.on df_keeps hb)) q4 (h4.trans (all2_eq _ _).symm)
 ·exact eql_Lemma VLm vlm_keeps _ 27 (enters_of Tryz.func27 (by kernel_rfl) rfl) _ _ (fun x y _ _ => eqlm_at x y) _ _ _ _ W m5 m5' (lm_rowV (r5.on lm_keeps hb)) (lm_rowV (r5'.on lm_keeps hb)) q5 (h5.trans (all2_eq _ _).symm)
 ·exact eql_Proc VPr vpr_keeps _ 29 (enters_of Tryz.func29 (by kernel_rfl) rfl) _ _ (fun x y _ _ => eqpr_at x y) _ _ _ _ W m6 m6' (pr_rowV (r6.on pr_keeps hb)) (pr_rowV (r6'.on pr_keeps hb)) q6 h6
end Go.Proofs.YtehmoomoocdidaaGreatDoor
