/-
  The code's comparisons of expressions, conditions, atoms, cells, calls, parameters, and formulas. The code's comparisons of statements, of items of programs, and of programs.
-/
import Derived.Test.YtnkpgpmaiicdeaaGreatDoorSTreeQ
import Derived.Test.YtnkpgpmaiicdeaaGreatDoorSTreeQd
import Derived.Test.YtnkpgpmaiicdeaaGreatDoorSTreeQb
import Derived.Test.YtnkpgpmaiicdeaaGreatDoorSTreeQe
import Derived.Test.YtnkpgpmaiicdeaaGreatDoorSTreeQa
set_option linter.unusedVariables false
set_option linter.unusedSimpArgs false
namespace Go.Proofs.YtnkpgpmaiicdeaaGreatDoor
set_option maxRecDepth 100000
set_option maxHeartbeats 4000000
open Go.RowKit
theorem eqExpr_any : ∀ (M : Nat) (x y : Ex),SizeOf.sizeOf x < M → EqAt 54 VEx (fun x y => x = y) x y:=by
 intro M
 induction M with
 | zero => intro x y h;omega
 | succ M ih =>
   intro x y hM cs ds w r hx hy hr
   obtain ⟨k,n,s,l,A,c,rfl,rfl,b1,b2,ra⟩:=hx
   obtain ⟨k2,n2,s2,l2,A2,c2,rfl,rfl,b3,b4,rb⟩:=hy
   obtain ⟨q,hq⟩:=boolOf (l = l2)
   refine eqe_core _ _ rfl rfl k k2 n n2 s s2 (.slice A l.length c) (.slice A2 l2.length c2) rfl rfl rfl rfl rfl rfl rfl rfl q w r (fun W hb => ?_) (hr.trans (by show (_ = _) ↔ _;rw [Ex.mk.injEq,hq]))
   exact eql_Expr VEx vex_keeps _ 54 (enters_of Tryz.func54 (by kernel_rfl) rfl) l l2 (fun x y hx _ => ih x y (by have := List.sizeOf_lt_of_mem hx;simp at hM;omega)) A A2 c c2 W b2 b4 (ra.on hb).rowV (rb.on hb).rowV q (hq.trans (all2_eq _ _).symm)
theorem eqe_at (x y : Ex) : EqAt 54 VEx (fun x y => x = y) x y:=eqExpr_any _ x y (Nat.lt_succ_self _)
theorem eqes_row (l m : List Ex) (A B : Option Addr) (ca cb : Nat) (w : World) (hl : l.length ≤ maxLen) (hm : m.length ≤ maxLen) (ra : ExRow w w.heap.size l A) (rb : ExRow w w.heap.size m B) (r : Bool) (hr : r = true ↔ l = m) :
 Calls Tryz.prog 94 #[.slice A l.length ca,.slice B m.length cb,.func (.func 54) #[] #[]] w fun e w' => e = .returned (.bool r) ∧ Below w.heap.size w w' :=
 eql_Expr VEx vex_keeps _ 54 (enters_of Tryz.func54 (by kernel_rfl) rfl) l m (fun x y _ _ => eqe_at x y) A B ca cb w hl hm ra.rowV rb.rowV r (hr.trans (all2_eq _ _).symm)
theorem eqCond_any : ∀ (M : Nat) (x y : Cn),SizeOf.sizeOf x < M → EqAt 55 VCn (fun x y => x = y) x y:=by
 intro M
 induction M with
 | zero => intro x y h;omega
 | succ M ih =>
   intro x y hM cs ds w r hx hy hr
   obtain ⟨k,ak,an,sa,al,bk,bn,sb,bl,l,Aa,ca,Ab,cb,Al,cl,rfl,rfl,⟨b1,b2,b3,b4,b5⟩,ra,rb,rl⟩:=hx
   obtain ⟨k',ak',an',sa',al',bk',bn',sb',bl',l',Aa',ca',Ab',cb',Al',cl',rfl,rfl,⟨b1',b2',b3',b4',b5'⟩,ra',rb',rl'⟩:=hy
   obtain ⟨q1,h1⟩:=boolOf (Ex.mk ak an sa al = Ex.mk ak' an' sa' al')
   obtain ⟨q2,h2⟩:=boolOf (Ex.mk bk bn sb bl = Ex.mk bk' bn' sb' bl')
   obtain ⟨q3,h3⟩:=boolOf (l = l')
   refine eqc_core _ _ rfl rfl k k' ak ak' an an' sa sa' (.slice Aa al.length ca) (.slice Aa' al'.length ca') bk bk' bn bn' sb sb' (.slice Ab bl.length cb) (.slice Ab' bl'.length cb') (.slice Al l.length cl) (.slice Al' l'.length cl')
    rfl rfl rfl rfl rfl rfl rfl rfl rfl rfl rfl rfl rfl rfl rfl rfl rfl rfl rfl rfl q1 q2 q3 w r (fun W hb => ?_) (fun W hb => ?_) (fun W hb => ?_) (hr.trans (by show (_ = _) ↔ _;rw [Cn.mk.injEq,h1,h2,h3]))
   ·exact eqe_at _ _ _ _ W q1 ⟨ak,an,sa,al,Aa,ca,rfl,rfl,b1,b2,ra.on hb⟩ ⟨ak',an',sa',al',Aa',ca',rfl,rfl,b1',b2',ra'.on hb⟩ h1
   ·exact eqe_at _ _ _ _ W q2 ⟨bk,bn,sb,bl,Ab,cb,rfl,rfl,b3,b4,rb.on hb⟩ ⟨bk',bn',sb',bl',Ab',cb',rfl,rfl,b3',b4',rb'.on hb⟩ h2
   ·exact eql_Cond VCn vcn_keeps _ 55 (enters_of Tryz.func55 (by kernel_rfl) rfl) l l' (fun x y hx _ => ih x y (by have := List.sizeOf_lt_of_mem hx;simp at hM;omega)) Al Al' cl cl' W b5 b5' (rl.on hb).rowV (rl'.on hb).rowV q3 (h3.trans (all2_eq _ _).symm)
theorem eqc_at (x y : Cn) : EqAt 55 VCn (fun x y => x = y) x y:=eqCond_any _ x y (Nat.lt_succ_self _)
theorem eqa_at (x y : At) : EqAt 99 VAt (fun x y => x = y) x y:=by
 intro cs ds w r hx hy hr
 obtain ⟨k,xa,xb⟩:=x
 obtain ⟨k',ya,yb⟩:=y
 obtain ⟨ak,an,sa,al,bk,bn,sb,bl,Aa,ca,Ab,cb,e1,e2,rfl,⟨b1,b2,b3,b4⟩,ra,rb⟩:=hx
 obtain ⟨ak',an',sa',al',bk',bn',sb',bl',Aa',ca',Ab',cb',e3,e4,rfl,⟨b1',b2',b3',b4'⟩,ra',rb'⟩:=hy
 simp only at e1 e2 e3 e4
 subst e1 e2 e3 e4
 obtain ⟨q1,h1⟩:=boolOf (Ex.mk ak an sa al = Ex.mk ak' an' sa' al')
 obtain ⟨q2,h2⟩:=boolOf (Ex.mk bk bn sb bl = Ex.mk bk' bn' sb' bl')
 refine eqa_core _ _ rfl rfl k k' ak ak' an an' sa sa' (.slice Aa al.length ca) (.slice Aa' al'.length ca') bk bk' bn bn' sb sb' (.slice Ab bl.length cb) (.slice Ab' bl'.length cb')
  rfl rfl rfl rfl rfl rfl rfl rfl rfl rfl rfl rfl rfl rfl rfl rfl rfl rfl q1 q2 w r (fun W hb => ?_) (fun W hb => ?_) (hr.trans (by show (_ = _) ↔ _;rw [At.mk.injEq,h1,h2]))
 ·exact eqe_at _ _ _ _ W q1 ⟨ak,an,sa,al,Aa,ca,rfl,rfl,b1,b2,ra.on hb⟩ ⟨ak',an',sa',al',Aa',ca',rfl,rfl,b1',b2',ra'.on hb⟩ h1
 ·exact eqe_at _ _ _ _ W q2 ⟨bk,bn,sb,bl,Ab,cb,rfl,rfl,b3,b4,rb.on hb⟩ ⟨bk',bn',sb',bl',Ab',cb',rfl,rfl,b3',b4',rb'.on hb⟩ h2
theorem eqcl_at (x y : Cl) : EqAt 101 VCl (fun x y => x = y) x y:=by
 intro cs ds w r hx hy hr
 obtain ⟨k,s,l⟩:=x
 obtain ⟨k',s',l'⟩:=y
 obtain ⟨A,c,rfl,b1,b2,ra⟩:=hx
 obtain ⟨A',c',rfl,b1',b2',ra'⟩:=hy
 obtain ⟨q,h⟩:=boolOf (l = l')
 refine eqcl_core _ _ rfl rfl k k' s s' (.slice A l.length c) (.slice A' l'.length c') rfl rfl rfl rfl rfl rfl q w r (fun W hb => ?_) (hr.trans (by show (_ = _) ↔ _;rw [Cl.mk.injEq,h]))
 exact eqes_row l l' A A' c c' W b2 b2' (ra.on hb) (ra'.on hb) q h
theorem eqca_at (x y : Cal) : EqAt 57 VCal (fun x y => x = y) x y:=by
 intro cs ds w r hx hy hr
 obtain ⟨k,s,l⟩:=x
 obtain ⟨k',s',l'⟩:=y
 obtain ⟨A,c,rfl,b1,b2,b3,ra⟩:=hx
 obtain ⟨A',c',rfl,b1',b2',b3',ra'⟩:=hy
 obtain ⟨q,h⟩:=boolOf (l = l')
 refine eqca_core _ _ rfl rfl k k' s s' (.slice A l.length c) (.slice A' l'.length c') rfl rfl rfl rfl rfl rfl q w r (fun W hb => ?_) (hr.trans (by show (_ = _) ↔ _;rw [Cal.mk.injEq,h]))
 exact eqes_row l l' A A' c c' W b3 b3' (ra.on hb) (ra'.on hb) q h
theorem eqp_at (x y : Pm) : EqAt 97 VPm (fun x y => x = y) x y:=by
 intro cs ds w r hx hy hr
 obtain ⟨s,t⟩:=x
 obtain ⟨s',t'⟩:=y
 obtain ⟨rfl,b1,b2⟩:=hx
 obtain ⟨rfl,b1',b2'⟩:=hy
 simp only at b1 b2 b1' b2' ⊢
 have hr : r = true ↔ s = s' ∧ t = t':=hr.trans (by show (_ = _) ↔ _;rw [Pm.mk.injEq])
 have HB:=Lib.hid ((below_alloc w (.cells #[.string ⟨s.toArray⟩,.string ⟨t.toArray⟩] 44)).chain (below_alloc _ (.cells #[.string ⟨s'.toArray⟩,.string ⟨t'.toArray⟩] 44)))
 by_cases h1 : s = s'
 ·subst h1
  by_cases h2 : t = t'
  ·subst h2
   have e : r = true:=hr.2 ⟨rfl,rfl⟩
   clear hr
   subst e
   go_enter Tryz.func97,Tryz.ntmps97
   go_wp2
   go_ret
   exact ⟨by first | rfl | (simp;done),HB.out⟩
  ·have e : r = false:=Bool.eq_false_iff.2 (fun h => h2 (hr.1 h).2)
   have hs : (t == t') = false:=by simpa using h2
   clear hr
   subst e
   go_enter Tryz.func97,Tryz.ntmps97
   go_wp2
   go_ret
   exact ⟨by first | rfl | (simp [h2];done),HB.out⟩
 ·have e : r = false:=Bool.eq_false_iff.2 (fun h => h1 (hr.1 h).1)
  have hs : (s == s') = false:=by simpa using h1
  clear hr
  subst e
  go_enter Tryz.func97,Tryz.ntmps97
  go_wp2
  go_ret
  exact ⟨by first | rfl | (simp [h1];done),HB.out⟩
theorem eqps_row (l m : List Pm) (A B : Option Addr) (ca cb : Nat) (w : World) (hl : l.length ≤ maxLen) (hm : m.length ≤ maxLen) (ra : PmRow w w.heap.size l A) (rb : PmRow w w.heap.size m B) (r : Bool) (hr : r = true ↔ l = m) :
 Calls Tryz.prog 96 #[.slice A l.length ca,.slice B m.length cb,.func (.func 97) #[] #[]] w fun e w' => e = .returned (.bool r) ∧ Below w.heap.size w w' :=
 eql_Param VPm vpm_keeps _ 97 (enters_of Tryz.func97 (by kernel_rfl) rfl) l m (fun x y _ _ => eqp_at x y) A B ca cb w hl hm (pm_rowV ra) (pm_rowV rb) r (hr.trans (all2_eq _ _).symm)
theorem eqf_at (x y : Fm) : EqAt 59 VFm (fun x y => x = y) x y:=by
 intro cs ds w r hx hy hr
 obtain ⟨ps,ats,cl⟩:=x
 obtain ⟨ps',ats',cl'⟩:=y
 obtain ⟨d,rfl,⟨b1,b2,b3⟩,r1,r2,r3⟩:=hx
 obtain ⟨d',rfl,⟨b1',b2',b3'⟩,r1',r2',r3'⟩:=hy
 simp only at b1 b2 b3 b1' b2' b3' r1 r2 r3 r1' r2' r3' ⊢
 obtain ⟨q1,h1⟩:=boolOf (ps = ps')
 obtain ⟨q2,h2⟩:=boolOf (ats = ats')
 obtain ⟨q3,h3⟩:=boolOf (cl = cl')
 refine eqf_core _ _ rfl rfl (.slice d.p ps.length d.np) (.slice d'.p ps'.length d'.np) (.slice d.a ats.length d.na) (.slice d'.a ats'.length d'.na) (.slice d.c cl.length d.nc) (.slice d'.c cl'.length d'.nc) rfl rfl rfl rfl rfl rfl q1 q2 q3 w r (fun W hb => ?_) (fun W hb => ?_) (fun W hb => ?_) (hr.trans (by show (_ = _) ↔ _;rw [Fm.mk.injEq,h1,h2,h3]))
 ·exact eqps_row ps ps' _ _ _ _ W b1 b1' (r1.on pm_keeps hb) (r1'.on pm_keeps hb) q1 h1
 ·exact eql_Atom VAt vat_keeps _ 99 (enters_of Tryz.func99 (by kernel_rfl) rfl) ats ats' (fun x y _ _ => eqa_at x y) _ _ _ _ W b2 b2' (at_rowV (r2.on at_keeps hb)) (at_rowV (r2'.on at_keeps hb)) q2 (h2.trans (all2_eq _ _).symm)
 ·exact eql_Cell VCl vcl_keeps _ 101 (enters_of Tryz.func101 (by kernel_rfl) rfl) cl cl' (fun x y _ _ => eqcl_at x y) _ _ _ _ W b3 b3' (cl_rowV (r3.on cl_keeps hb)) (cl_rowV (r3'.on cl_keeps hb)) q3 (h3.trans (all2_eq _ _).symm)
theorem eqfs_row (l m : List Fm) (A B : Option Addr) (ca cb : Nat) (w : World) (hl : l.length ≤ maxLen) (hm : m.length ≤ maxLen) (ra : FmRow w w.heap.size l A) (rb : FmRow w w.heap.size m B) (r : Bool) (hr : r = true ↔ l = m) :
 Calls Tryz.prog 58 #[.slice A l.length ca,.slice B m.length cb,.func (.func 59) #[] #[]] w fun e w' => e = .returned (.bool r) ∧ Below w.heap.size w w' :=
 eql_Formula VFm vfm_keeps _ 59 (enters_of Tryz.func59 (by kernel_rfl) rfl) l m (fun x y _ _ => eqf_at x y) A B ca cb w hl hm (fm_rowV ra) (fm_rowV rb) r (hr.trans (all2_eq _ _).symm)
end Go.Proofs.YtnkpgpmaiicdeaaGreatDoor
namespace Go.Proofs.YtnkpgpmaiicdeaaGreatDoor
set_option maxRecDepth 100000
set_option maxHeartbeats 4000000
open Go.RowKit
theorem eqss_by (l m : List St) (hE : ∀ x y,x ∈ l → y ∈ m → EqAt 32 VSt SameS x y) (A B : Option Addr) (ca cb : Nat) (w : World) (hl : l.length ≤ maxLen) (hm : m.length ≤ maxLen) (ra : StRow w w.heap.size l A) (rb : StRow w w.heap.size m B) (r : Bool) (hr : r = true ↔ SameL l m) :
 Calls Tryz.prog 9 #[.slice A l.length ca,.slice B m.length cb] w fun e w' => e = .returned (.bool r) ∧ Below w.heap.size w w':=by
 have H:=Lib.hid (eql_Stmt VSt vst_keeps SameS 32 (enters_of Tryz.func32 (by kernel_rfl) rfl) l m hE A B ca cb w hl hm ra.rowV rb.rowV r (hr.trans (sameL_all2 l m).symm))
 clear hE ra rb hr
 generalize l.length = n1 at *
 generalize m.length = n2 at *
 go_enter Tryz.func9,Tryz.ntmps9
 go_wp2_with (go_at_call 31;refine H.out.mono ?_;rintro e w2 ⟨rfl,hb⟩;have HB:=Lib.hid hb;clear hb)
 go_ret
 exact ⟨rfl,HB.out⟩
theorem eqs_any : ∀ (M : Nat) (x y : St),SizeOf.sizeOf x < M → EqAt 32 VSt SameS x y:=by
 intro M
 induction M with
 | zero => intro x y h;omega
 | succ M ih =>
   intro x y hM cs ds w r hx hy hr
   obtain ⟨k,ln,co,nm,fd,fr,⟨ek,en,es,el⟩,⟨ck,⟨ak,an,sa,al⟩,⟨bk,bn,sb,bl⟩,l⟩,cl,iv,b,o⟩:=x
   obtain ⟨k',ln',co',nm',fd',fr',⟨ek',en',es',el'⟩,⟨ck',⟨ak',an',sa',al'⟩,⟨bk',bn',sb',bl'⟩,l'⟩,cl',iv',b',o'⟩:=y
   obtain ⟨d,rfl,⟨⟨m1,m2,m3,m4,m5,m6,m7,m8,m9,m10,m11,m12,m13,m14⟩,re,ra,rb,rl,rc,ri⟩,rs,rt⟩:=hx
   obtain ⟨d',rfl,⟨⟨m1',m2',m3',m4',m5',m6',m7',m8',m9',m10',m11',m12',m13',m14'⟩,re',ra',rb',rl',rc',ri'⟩,rs',rt'⟩:=hy
   obtain ⟨q1,h1⟩:=boolOf (Ex.mk ek en es el = Ex.mk ek' en' es' el')
   obtain ⟨q2,h2⟩:=boolOf (Cn.mk ck (.mk ak an sa al) (.mk bk bn sb bl) l = Cn.mk ck' (.mk ak' an' sa' al') (.mk bk' bn' sb' bl') l')
   obtain ⟨q3,h3⟩:=boolOf (cl = cl')
   obtain ⟨q4,h4⟩:=boolOf (iv = iv')
   obtain ⟨q5,h5⟩:=boolOf (SameL b b')
   obtain ⟨q6,h6⟩:=boolOf (SameL o o')
   refine eqs_core _ _ rfl rfl k k' nm nm' fd fd' fr fr' ek ek' en en' es es' (.slice d.e el.length d.ne) (.slice d'.e el'.length d'.ne) ck ck' ak ak' an an' sa sa' (.slice d.a al.length d.na) (.slice d'.a al'.length d'.na)
    bk bk' bn bn' sb sb' (.slice d.b bl.length d.nb) (.slice d'.b bl'.length d'.nb) (.slice d.l l.length d.nl) (.slice d'.l l'.length d'.nl) (.slice d.c cl.length d.nc) (.slice d'.c cl'.length d'.nc) (.slice d.i iv.length d.ni) (.slice d'.i iv'.length d'.ni)
    (.slice d.s b.length d.ns) (.slice d'.s b'.length d'.ns) (.slice d.t o.length d.nt) (.slice d'.t o'.length d'.nt)
    rfl rfl rfl rfl rfl rfl rfl rfl rfl rfl rfl rfl rfl rfl rfl rfl rfl rfl rfl rfl rfl rfl rfl rfl rfl rfl rfl rfl rfl rfl rfl rfl rfl rfl rfl rfl rfl rfl rfl rfl rfl rfl rfl rfl
    q1 q2 q3 q4 q5 q6 w r (fun W hb => ?_) (fun W hb => ?_) (fun W hb => ?_) (fun W hb => ?_) (fun W hb => ?_) (fun W hb => ?_) (hr.trans (by rw [h1,h2,h3,h4,h5,h6];exact Iff.rfl))
   ·exact eqe_at _ _ _ _ W q1 ⟨ek,en,es,el,d.e,d.ne,rfl,rfl,m4,m5,re.on hb⟩ ⟨ek',en',es',el',d'.e,d'.ne,rfl,rfl,m4',m5',re'.on hb⟩ h1
   ·exact eqc_at _ _ _ _ W q2 ⟨ck,ak,an,sa,al,bk,bn,sb,bl,l,d.a,d.na,d.b,d.nb,d.l,d.nl,rfl,rfl,⟨m6,m7,m8,m9,m10⟩,ra.on hb,rb.on hb,rl.on hb⟩ ⟨ck',ak',an',sa',al',bk',bn',sb',bl',l',d'.a,d'.na,d'.b,d'.nb,d'.l,d'.nl,rfl,rfl,⟨m6',m7',m8',m9',m10'⟩,ra'.on hb,rb'.on hb,rl'.on hb⟩ h2
   ·exact eql_Call VCal vcal_keeps _ 57 (enters_of Tryz.func57 (by kernel_rfl) rfl) cl cl' (fun x y _ _ => eqca_at x y) _ _ _ _ W m11 m11' (cal_rowV (rc.on cal_keeps hb)) (cal_rowV (rc'.on cal_keeps hb)) q3 (h3.trans (all2_eq _ _).symm)
   ·exact eqfs_row iv iv' _ _ _ _ W m12 m12' (ri.on fm_keeps hb) (ri'.on fm_keeps hb) q4 h4
   ·exact eqss_by b b' (fun x y hx _ => ih x y (by have := List.sizeOf_lt_of_mem hx;simp at hM;omega)) _ _ _ _ W m13 m13' (rs.on hb) (rs'.on hb) q5 h5
   ·exact eqss_by o o' (fun x y hx _ => ih x y (by have := List.sizeOf_lt_of_mem hx;simp at hM;omega)) _ _ _ _ W m14 m14' (rt.on hb) (rt'.on hb) q6 h6
theorem eqss_row (l m : List St) (A B : Option Addr) (ca cb : Nat) (w : World) (hl : l.length ≤ maxLen) (hm : m.length ≤ maxLen) (ra : StRow w w.heap.size l A) (rb : StRow w w.heap.size m B) (r : Bool) (hr : r = true ↔ SameL l m) :
 Calls Tryz.prog 9 #[.slice A l.length ca,.slice B m.length cb] w fun e w' => e = .returned (.bool r) ∧ Below w.heap.size w w' :=
 eqss_by l m (fun x y _ _ => eqs_any _ x y (Nat.lt_succ_self _)) A B ca cb w hl hm ra rb r hr
end Go.Proofs.YtnkpgpmaiicdeaaGreatDoor
