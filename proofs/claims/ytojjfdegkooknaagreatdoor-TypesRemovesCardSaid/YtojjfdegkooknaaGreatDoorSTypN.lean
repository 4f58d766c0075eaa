import Derived.Test.YtojjfdegkooknaaGreatDoorSTypT
import Derived.Test.YtojjfdegkooknaaGreatDoorSTypX
import Derived.Test.YtojjfdegkooknaaGreatDoorSTypH
set_option linter.unusedVariables false
set_option linter.unusedSimpArgs false
namespace Go.Proofs.YtojjfdegkooknaaGreatDoor
section
set_option maxRecDepth 100000
set_option maxHeartbeats 8000000
open Go.RowKit
def qcZ (sc br : List Pm) (nm : List UInt8) (x : Ex × Pm) : Ck :=
 match yZ sc br x.1 with
 | .ok y => zQ (jP y x.2.t) 9 nm
 | .error t => some t
def jp (sc br : List Pm) (nm : List UInt8) (l : List Ex) (ps : List Pm) : Ck:=zw (zQ (l.length == ps.length) 2 nm) (zJ (qcZ sc br nm) (l.zip ps))
theorem qie {sc br : List Pm} {nm : List UInt8} {x : Ex × Pm} {t : jl} (h : yZ sc br x.1 = .error t) : qcZ sc br nm x = some t:=by
 unfold qcZ
 rw [h]
theorem qmm {sc br : List Pm} {nm : List UInt8} {x : Ex × Pm} {y : List UInt8} (h : yZ sc br x.1 = .ok y) : qcZ sc br nm x = zQ (jP y x.2.t) 9 nm:=by
 unfold qcZ
 rw [h]
theorem qkR (sc br : List Pm) (A : Option Addr) (n c : Nat) (D : Option Addr) (m d : Nat) (B0 : Nat) (nm : List UInt8) (l : List Ex) (E : Option Addr) (ce ne : Nat) (zN : ne = l.length) (hme : ne <= maxLen) (ps : List Pm) (P : Option Addr) (cp np : Nat) (jS : np = ps.length) (hmp : np <= maxLen) (w : World) (hV : VarsAt w B0 sc br A n D m) (hr : ExRow w w.heap.size l E) (hA : qD zp 2 w B0 ps P) :
 Calls Tryz.prog 82 #[jw A n c D m d,.slice E ne ce,.slice P np cp,.string ⟨nm.toArray⟩] w (qV (jp sc br nm l ps) w):=by
 obtain ⟨W1,qh⟩ : ∃ W1,W1 = w.alloc (qao A n c D m d):=⟨_,rfl⟩
 have qk : Below w.heap.size w W1:=by rw [qh];exact qd w _
 have yc : W1.heap[w.heap.size]? = some (qao A n c D m d):=by rw [qh];exact qe w _
 have qw:=hZ (aZ qk yc)
 obtain ⟨R,hR⟩ : ∃ R : Ck,R = jp sc br nm l ps:=⟨_,rfl⟩
 rw [<- hR]
 have HH:=hZ (aZ hV (aZ hr (aZ hA (aZ zN jS))))
 have zE : Tryz.prog.follows .mixedOrders = true:=by kernel_rfl
 by_cases zS : ne = np
 ·have hb : ((ne : Int) == (np : Int)) = true:=by rw [zS];exact beq_self_eq_true _
  have HR : Hid (R = zJ (qcZ sc br nm) (l.zip ps)):=hZ (by
   rw [hR];unfold jp
   rw [show (l.length == ps.length) = true by rw [<- zN,<- jS,zS];exact beq_self_eq_true _]
   rfl)
  have HD:=hZ (qU true 2 nm W1)
  have HZ : Hid ((l.zip ps).length = ne):=hZ (by rw [List.length_zip,<- zN,<- jS,zS];exact Nat.min_self _)
  clear hV hr hA zN jS hR qk yc
  subst zS
  unfold maxLen at hme
  clear hmp
  go_enter Tryz.func82,Tryz.ntmps82
  go_wp2_with fail
  rw [<- qh]
  clear qh
  (with_reducible refine HD.out.mono ?_)
  rintro e w2 ⟨he,hw⟩
  subst hw
  obtain rfl : e = _:=he
  go_wp2
  go_loopg [19] ne (fun mm j wr => ∃ i : Nat,mm = ne - i /\ i <= ne /\ j = .int .i64 i /\ Hid (Below w2.heap.size w2 wr /\ zJ (qcZ sc br nm) ((l.zip ps).take i) = none))
  case atStart => exact ⟨0,rfl,Nat.zero_le _,rfl,hZ ⟨Below.refl _ _,rfl⟩⟩
  case round =>
   obtain ⟨i,rfl,hi,rfl,HI⟩:=hrel
   have xj : (0 : Int) <= i:=by omega
   by_cases qB : i < ne
   ·have hii : (i : Int) < ne:=by omega
    have hbr:=qw.out.1.chain HI.out.1
    obtain ⟨⟨⟨k0,n0,s0,l0⟩,x⟩,hgz⟩ : ∃ y,(l.zip ps)[i]? = some y:=⟨(l.zip ps)[i]'(by rw [HZ.out];exact qB),List.getElem?_eq_getElem _⟩
    obtain ⟨hg,hx⟩:=List.getElem?_zip_eq_some.1 hgz
    obtain ⟨a,A',c',rfl,qx,d0,d1,d2,d3,hs0,jT,qL⟩:=(HH.out.2.1.on hbr).at_ hg
    have e0 : wr.cell? (a.add (i * 4)) = some (.int .i64 k0):=d0
    have e1 : wr.cell? ⟨(a.add (i * 4)).block,(a.add (i * 4)).off + 1,none⟩ = some (.int .i64 n0):=d1
    have e2 : wr.cell? ⟨(a.add (i * 4)).block,(a.add (i * 4)).off + 2,none⟩ = some (.string ⟨s0.toArray⟩):=d2
    have e3 : wr.cell? ⟨(a.add (i * 4)).block,(a.add (i * 4)).off + 3,none⟩ = some (.slice A' l0.length c'):=d3
    obtain ⟨W6,qW⟩ : ∃ W6,W6 = wr.alloc (zg k0 n0 ⟨s0.toArray⟩ (.slice A' l0.length c')):=⟨_,rfl⟩
    have qR : Below wr.heap.size wr W6:=by rw [qW];exact qd wr _
    have xu : W6.heap[wr.heap.size]? = some (zg k0 n0 ⟨s0.toArray⟩ (.slice A' l0.length c')):=by rw [qW];exact qe wr _
    obtain ⟨b,cs,rfl,qi,qn,qP,hv⟩:=(yB qT HH.out.1.hB (hbr.chain qR) HH.out.2.2.1) i x hx
    have f0 : W6.cell? (b.add (i * 2)) = some (.string ⟨x.t.toArray⟩):=by
     have h:=qP 0 _ (by rw [hv.1];rfl)
     rwa [yl,Nat.add_zero] at h
    have hV6:=HH.out.1.on (hbr.chain qR)
    have hbb6 : (b.add (i * 2)).block < W6.heap.size:=by rw [qm];exact Nat.lt_of_lt_of_le qi hV6.hB
    have hb16 : W6.heap[w.heap.size]? = some (qao A n c D m d):=qg (HI.out.1.chain qR) qw.out.2
    obtain ⟨S,hS⟩ : ∃ S : World -> Prop,S = fun W => Below W6.heap.size W6 W:=⟨_,rfl⟩
    have qo : Hid (∀ W,Below W6.heap.size W6 W -> S W):=hZ (fun W hb => by rw [hS];exact hb)
    have qX : Hid (∀ W,S W -> (W.cell? ⟨w.heap.size,0,none⟩ = some (.slice A n c) /\ W.cell? ⟨w.heap.size,1,none⟩ = some (.slice D m d)) /\ (W.cell? ⟨wr.heap.size,0,none⟩ = some (.int .i64 k0) /\ W.cell? ⟨wr.heap.size,1,none⟩ = some (.int .i64 n0) /\ W.cell? ⟨wr.heap.size,2,none⟩ = some (.string ⟨s0.toArray⟩) /\ W.cell? ⟨wr.heap.size,3,none⟩ = some (.slice A' l0.length c')) /\ W.cell? (b.add (i * 2)) = some (.string ⟨x.t.toArray⟩)):=hZ (fun W hs => by
     rw [hS] at hs
     have q1:=qg hs hb16
     have q2:=qg hs xu
     exact ⟨⟨qc q1 0 rfl,qc q1 1 rfl⟩,⟨qc q2 0 rfl,qc q2 1 rfl,qc q2 2 rfl,qc q2 3 rfl⟩,(hs.cell hbb6).trans f0⟩)
    obtain ⟨q,hq⟩ : ∃ q,q = yZ sc br (.mk k0 n0 s0 l0):=⟨_,rfl⟩
    have HC : Hid (∀ W,Below W6.heap.size W6 W -> Calls Tryz.prog 114 #[jw A n c D m d,zG k0 n0 ⟨s0.toArray⟩ (.slice A' l0.length c')] W (jH q W)):=hZ (fun W hb => by
     rw [hq]
     exact qcN sc br A n c D m d B0 k0 n0 s0 l0 A' c' W (hV6.on hb) (qL.on (qR.chain hb)) hs0 jT)
    have ze:=hZ (Below.refl W6.heap.size W6).drew
    have H6:=hZ (hbr.chain qR)
    have H6':=hZ (HI.out.1.chain qR)
    obtain ⟨u,hu⟩ : ∃ u,u = x.t:=⟨_,rfl⟩
    have HX:=hZ (aZ hgz (aZ hq hu))
    rw [<- hu] at qX
    have g0:=qo.out _ ze.out
    clear hgz hg hx hq hu qx d0 d1 d2 d3 hs0 jT qL qR xu qi qn qP hv f0 hV6 hbb6 hb16 hS hbr
    go_wp2
    rw [<- qW]
    clear qW
    refine wp_region_held (S:=S) zE ?_
    change wpAnyH _ _ _ _ _ 11 #[false,false,false,false,false,false,false,false,false,false,false] _ W6.drew
    refine tk 0 24 (jw A n c D m d) g0 ?v ?_
    case v => intro Wx hSx;obtain ⟨⟨z1,z2⟩,⟨z3,z4,z5,z6⟩,z7⟩:=qX.out Wx hSx;go_simp
    refine tk 1 25 (zG k0 n0 ⟨s0.toArray⟩ (.slice A' l0.length c')) g0 ?v ?_
    case v => intro Wx hSx;obtain ⟨⟨z1,z2⟩,⟨z3,z4,z5,z6⟩,z7⟩:=qX.out Wx hSx;go_simp
    refine tk 3 27 (.slice (some b) ne cp) g0 ?v ?_
    case v => intro Wx hSx;go_simp
    refine tk 4 28 (.int .i64 i) g0 ?v ?_
    case v => intro Wx hSx;go_simp
    refine tk 9 33 (.string ⟨nm.toArray⟩) g0 ?v ?_
    case v => intro Wx hSx;go_simp
    try simp only [qf]
    refine tk 5 29 (.pointer (some (b.add (i * 2)))) g0 ?v ?_
    case v => intro Wx hSx;go_simp
    try simp only [qf]
    refine tk 6 30 (.pointer (some (b.add (i * 2)))) g0 ?v ?_
    case v => intro Wx hSx;go_simp
    try simp only [qf]
    refine tk 7 31 (.string ⟨u.toArray⟩) g0 ?v ?_
    case v => intro Wx hSx;obtain ⟨⟨z1,z2⟩,⟨z3,z4,z5,z6⟩,z7⟩:=qX.out Wx hSx;go_simp
    try simp only [qf]
    refine o1 2 (fun K hK => ?_)
    go_simp
    (with_reducible refine (HC.out _ ze.out).mono ?_)
    rintro e w3 ⟨he,qt⟩
    have H3:=hZ (ze.out.chain qt)
    have hs3:=qo.out _ H3.out
    clear qt
    cases q with
    | error t =>
      obtain rfl : e = _:=he
      refine ⟨rfl,?_,H6.out.chain H3.out⟩
      rw [HR.out,yP _ _ i _ t HX.out.1 HI.out.2 (qie HX.out.2.1.symm)]
      exact rfl
    | ok y =>
      obtain rfl : e = _:=he
      refine hK _ _ hs3 ?_
      clear hK K
      try simp only [qf]
      refine o1 8 (fun K hK => ?_)
      go_simp
      (with_reducible refine (qdE y u w3).mono ?_)
      rintro e w4 ⟨rfl,hw⟩
      subst hw
      refine hK _ _ hs3 ?_
      clear hK K
      try simp only [qf]
      have qqw : qcZ sc br nm (.mk k0 n0 s0 l0,x) = zQ (jP y u) 9 nm:=by rw [HX.out.2.2];exact qmm HX.out.2.1.symm
      obtain ⟨v,hv⟩ : ∃ v,v = jP y u:=⟨_,rfl⟩
      rw [<- hv] at qqw ⊢
      have HM:=hZ qqw
      clear qqw hv
      refine o1 10 (fun K hK => ?_)
      go_simp
      (with_reducible refine (qU v 9 nm w4).mono ?_)
      rintro e w5 ⟨he,hw⟩
      subst hw
      cases v
      ·obtain rfl : e = _:=he
       refine ⟨rfl,?_,H6.out.chain H3.out⟩
       rw [HR.out,yP _ _ i _ (nm,9) HX.out.1 HI.out.2 HM.out]
       exact rfl
      ·obtain rfl : e = _:=he
       refine hK _ _ hs3 ?_
       clear hK K
       refine wpAnyH_done (by kernel_rfl) ?_ _
       have HN : Hid (zJ (qcZ sc br nm) ((l.zip ps).take (i + 1)) = none):=hZ (by
        rw [zR _ _ i _ HX.out.1,HI.out.2,HM.out]
        rfl)
       go_wp2
       go_roundg (ne - (i + 1))
       case measure => omega
       case rel => exact ⟨i + 1,rfl,by omega,by go_num,hZ ⟨H6'.out.chain H3.out,HN.out⟩⟩
   ·have hlt' : ¬ (i : Int) < ne:=by omega
    obtain rfl : i = ne:=by omega
    go_wp2
    refine bodyPost_end (results_none rfl _ _ _) rfl ⟨?_,qw.out.1.chain HI.out.1⟩
    have h:=HI.out.2
    rw [List.take_of_length_le (by rw [HZ.out];exact Nat.le_refl _)] at h
    rw [HR.out,h]
    exact rfl
 ·have hni : ¬ ((ne : Int) = (np : Int)):=fun h => zS (Int.ofNat_inj.1 h)
  have hb : ((ne : Int) == (np : Int)) = false:=beq_eq_false_iff_ne.2 hni
  have HR : Hid (R = some (nm,2)):=hZ (by
   rw [hR];unfold jp
   rw [show (l.length == ps.length) = false by rw [<- zN,<- jS];exact beq_eq_false_iff_ne.2 zS]
   rfl)
  have HD:=hZ (qU false 2 nm W1)
  clear hV hr hA zN jS hR qk yc
  go_enter Tryz.func82,Tryz.ntmps82
  go_wp2_with fail
  rw [<- qh]
  clear qh
  (with_reducible refine HD.out.mono ?_)
  rintro e w2 ⟨he,hw⟩
  subst hw
  obtain rfl : e = _:=he
  exact ⟨rfl,by rw [HR.out];exact rfl,qw.out.1⟩
end
section
def zy {α : Type} : Except jl α -> (α -> Ck) -> Ck
 | .error t,_ => some t
 | .ok x,f => f x
def xx {α : Type} (o : Option α) (s : List UInt8) (x : Int) : Except jl α:=match o with
 | some y => .ok y
 | none => .error (s,x)
def qqS (o : Option Df) (n : List UInt8) : Except jl (List Pm):=match o with
 | some d => .ok d.ps
 | none => .error (n,7)
def qp0 (o : Option Rc) (n : List UInt8) : Except jl (List Pm):=match o with
 | some r => .ok (⟨r.nm,[]⟩ :: r.fs)
 | none => .error (n,7)
def jG (p : Pg) (x : Cl) : Except jl (List Pm):=if x.k = 2 then qqS (qG (·.nm) p.ds x.nm) x.nm else qp0 (qG (·.nm) p.rs x.nm) x.nm
mutual
def zr : Ex -> List (List UInt8)
 | .mk k _ s l => (if k = 2 then [s] else []) ++ qF l
def qF : List Ex -> List (List UInt8)
 | [] => []
 | x :: l => zr x ++ qF l
end
theorem qck : ∀ l m : List Ex,qF (l ++ m) = qF l ++ qF m
 | [],_ => by rw [qF];rfl
 | x :: l,m => by rw [List.cons_append,qF,qF,qck l m,List.append_assoc]
theorem qdG (l : List Ex) (k : Nat) (x : Ex) (h : l[k]? = some x) : qF (l.take (k + 1)) = qF (l.take k) ++ zr x:=by
 rw [List.take_add_one,h,qck]
 show _ ++ qF [x] = _
 rw [qF,qF,List.append_nil]
def qak : Ex -> List (List UInt8)
 | .mk k _ s _ => if k = 2 then [s] else []
def qH (l : List Ex) : List (List UInt8):=l.flatMap qak
structure Stp where
 nd : List (List UInt8)
 ms : List (List UInt8)
def jF (x : Cl) : List Stp:=if x.k = 1 then match x.l with
 | [] => []
 | a :: r => [⟨zr a,qH r⟩]
 else []
def qaT (x : At) : List Stp:=if x.k = 1 then [⟨zr x.a,qak x.b⟩,⟨zr x.b,qak x.a⟩] else []
def xE (f : Fm) : List Stp:=f.cls.flatMap jF ++ f.ats.flatMap qaT
abbrev xC:=List UInt8 -> Bool
def qhD (U : xC) (s : Stp) : xC:=if s.nd.any U then U else fun n => U n && !s.ms.contains n
def jO (l : List Stp) (U : xC) : xC:=l.foldl qhD U
def qct (l : List Stp) : Nat -> xC -> xC
 | 0,U => U
 | n + 1,U => qct l n (jO l U)
def qce (ps : List Pm) : xC:=fun n => ps.any fun x => x.t == jy && x.nm == n
def detU (f : Fm) : xC:=qct (xE f) (f.ps.length + 1) (qce f.ps)
def qhi (f : Fm) : Ck:=zJ (fun x : Pm => zQ (!detU f x.nm) 11 x.nm) f.ps
def atC (sc : List Pm) (a : At) : Ck:=qcn sc [] a.k a.a a.b
def clC (p : Pg) (sc : List Pm) (x : Cl) : Ck:=zy (jG p x) fun ps => jp sc [] x.nm x.l ps
def qfb (sc : List Pm) (x : Pm) : Ck:=zQ (!(qG (·.nm) sc x.nm).isSome) 8 x.nm
def fmC (p : Pg) (sc : List Pm) (f : Fm) : Ck :=
 zw (zJ (qfb sc) f.ps) (zw (jU p.rs f.ps) (zw (zJ (atC (sc ++ f.ps)) f.ats) (zw (zJ (clC p (sc ++ f.ps)) f.cls) (qhi f))))
def xH (p : Pg) (sc : List Pm) (l : List Fm) : Ck:=zJ (fmC p sc) l
def dfC (p : Pg) (d : Df) : Ck:=zw (yU p.rs d.ps) (zw (match d.ps with
 | [] => none
 | x :: _ => zQ (!(x.t == jy)) 9 d.nm) (xH p d.ps d.cs))
def lmC (p : Pg) (m : Lm) : Ck:=zw (yU p.rs m.ps) (zw (zQ (m.lf.ps.length == 0) 3 m.nm) (zw (fmC p m.ps m.lf) (fmC p m.ps m.rt)))
/-! ### statements -/
def qpQ (o : Option Pm) (h : Bool) (s : List UInt8) : Except jl (List UInt8):=match o with
 | none => .error (s,7)
 | some x => if h then .ok x.t else .error (s,6)
def jV (sc asn : List Pm) (s : List UInt8) : Except jl (List UInt8):=qpQ (qG (·.nm) sc s) (qG (·.nm) asn s).isSome s
def qa2 (p : Pg) (sc br : List Pm) (s : List UInt8) : Except jl Rc:=match vG sc br s with
 | .error t => .error t
 | .ok t => xx (qG (·.nm) p.rs t) s 9
def qag (p : Pg) (sc br asn : List Pm) (c : Cal) : Ck:=zy (xx (qG (·.nm) p.xs c.p) c.p 7) fun x =>
 zw (jp sc br c.p c.l x.ps) (if c.r = [] then none else zy (jV sc asn c.r) fun t => zQ (t == x.rt) 9 c.r)
def qg6 (p : Pg) (sc br asn : List Pm) (a b : Cal) : Ck :=
 zw (qag p sc br asn a) (zw (qag p sc br asn b) (zQ (a.r == [] || !(a.r == b.r)) 8 a.r))
def qiJ (sc br asn : List Pm) (nm : List UInt8) (e : Ex) : Ck:=zy (jV sc asn nm) fun t => zy (yZ sc br e) fun y => zQ (jP y t) 9 nm
def ldC (p : Pg) (sc br asn : List Pm) (nm fd fr : List UInt8) : Ck:=zy (jV sc asn nm) fun t => zy (qa2 p sc br fr) fun r => zy (xx (qG (·.nm) r.fs fd) fd 7) fun f => zQ (f.t == t) 9 nm
def svC (p : Pg) (sc br : List Pm) (nm fd : List UInt8) (e : Ex) : Ck:=zy (qa2 p sc br nm) fun r => zy (xx (qG (·.nm) r.fs fd) fd 7) fun f => zy (yZ sc br e) fun y => zQ (jP y f.t) 9 fd
def nwC (p : Pg) (sc asn : List Pm) (nm fr : List UInt8) : Ck:=zy (xx (qG (·.nm) p.rs fr) fr 7) fun r => zy (jV sc asn nm) fun t => zQ (t == r.nm) 9 nm
def frC (p : Pg) (sc br : List Pm) (nm : List UInt8) : Ck:=zy (qa2 p sc br nm) fun _ => none
def inC (sc asn : List Pm) (nm : List UInt8) : Ck:=zy (jV sc asn nm) fun t => zQ (t == jy) 9 nm
def wiC (p : Pg) (nm : List UInt8) : Ck:=zy (xx (qG (·.nm) p.ks nm) nm 7) fun _ => none
def stC (p : Pg) (sc br asn : List Pm) : St -> Ck
 | .mk k _ _ nm fd fr e c cl iv _ _ =>
   if k = 1 then qiJ sc br asn nm e
   else if k = 2 then ldC p sc br asn nm fd fr
   else if k = 3 then svC p sc br nm fd e
   else if k = 4 then nwC p sc asn nm fr
   else if k = 5 then frC p sc br nm
   else if k = 6 then inC sc asn nm
   else if k = 7 then (match cl with
    | a :: _ => qag p sc br asn a
    | [] => none)
   else if k = 8 \/ k = 10 then vY sc br c
   else if k = 9 then zw (vY sc br c) (xH p sc iv)
   else if k = 11 then wiC p nm
   else if k = 12 then (match cl with
    | a :: b :: _ => qg6 p sc br asn a b
    | _ => none)
   else none
abbrev PCk:=Ck × (Int × Int)
def vm : PCk -> (Int × Int -> PCk) -> PCk
 | (some t,q),_ => (some t,q)
 | (none,q),f => f q
mutual
def stP (p : Pg) (sc br asn : List Pm) : St -> PCk
 | .mk k ln co nm fd fr e c cl iv b o => vm (stC p sc br asn (.mk k ln co nm fd fr e c cl iv b o),(ln,co)) fun q => vm (yg p sc br asn q b) fun q => yg p sc br asn q o
def yg (p : Pg) (sc br asn : List Pm) (q : Int × Int) : List St -> PCk
 | [] => (none,q)
 | s :: l => vm (stP p sc br asn s) fun q => yg p sc br asn q l
end
def zk (x : Pr) : List Pm:=yb x ++ x.lo
def prC (p : Pg) (x : Pr) : PCk :=
 vm (zw (yU p.rs (yE p.gs x)) (zw (xH p (p.gs ++ x.ps ++ x.lg) x.rq) (xH p (p.gs ++ x.ps ++ x.lg ++ yb x) x.es)),(x.ln,x.co)) fun q =>
  yg p (yE p.gs x) x.lg (zk x) q x.bd
def vK (p : Pg) (q : Int × Int) : List Pr -> PCk
 | [] => (none,q)
 | x :: l => vm (prC p x) fun q => vK p q l
def qcD (p : Pg) : Ck :=
 zw (zH [] (p.rs.map (·.nm))) (zw (zH [] (p.gs.map (·.nm))) (zw (zH [] (p.ks.map (·.nm))) (zw (zH [] (p.ds.map (·.nm))) (zw (zH [] (p.ms.map (·.nm))) (zH [] (p.xs.map (·.nm)))))))
def pgC (p : Pg) : PCk :=
 vm (zw (qcD p) (zw (zJ (fun r : Rc => yU p.rs r.fs) p.rs) (zw (jU p.rs p.gs) (zw (zJ (fun k : Lk => xH p p.gs k.iv) p.ks) (zw (zJ (dfC p) p.ds) (zJ (lmC p) p.ms))))),(0,0)) fun q => vK p q p.xs
theorem qdU (t : jl) (q : Int × Int) (f : Int × Int -> PCk) : vm (some t,q) f = (some t,q):=rfl
theorem qcy (q : Int × Int) (f : Int × Int -> PCk) : vm (none,q) f = f q:=rfl
end
end Go.Proofs.YtojjfdegkooknaaGreatDoor
