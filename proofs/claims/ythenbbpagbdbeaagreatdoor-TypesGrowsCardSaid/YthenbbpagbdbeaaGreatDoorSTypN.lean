import Derived.Test.YthenbbpagbdbeaaGreatDoorSTypT
import Derived.Test.YthenbbpagbdbeaaGreatDoorSTypX
import Derived.Test.YthenbbpagbdbeaaGreatDoorSTypH
set_option linter.unusedVariables false
set_option linter.unusedSimpArgs false
namespace Go.Proofs.YthenbbpagbdbeaaGreatDoor
set_option maxRecDepth 100000
set_option maxHeartbeats 8000000
open Go.RowKit
def argC (sc br : List Pm) (nm : List UInt8) (x : Ex × Pm) : Ck :=
 match exT sc br x.1 with
 | .ok y => demC (fitsB y x.2.t) 9 nm
 | .error t => some t
def argsC (sc br : List Pm) (nm : List UInt8) (l : List Ex) (ps : List Pm) : Ck:=seqC (demC (l.length == ps.length) 2 nm) (allC (argC sc br nm) (l.zip ps))
theorem argC_error {sc br : List Pm} {nm : List UInt8} {x : Ex × Pm} {t : Thr} (h : exT sc br x.1 = .error t) : argC sc br nm x = some t:=by
 unfold argC
 rw [h]
theorem argC_ok {sc br : List Pm} {nm : List UInt8} {x : Ex × Pm} {y : List UInt8} (h : exT sc br x.1 = .ok y) : argC sc br nm x = demC (fitsB y x.2.t) 9 nm:=by
 unfold argC
 rw [h]
theorem args_any (sc br : List Pm) (A : Option Addr) (n c : Nat) (D : Option Addr) (m d : Nat) (B0 : Nat) (nm : List UInt8) (l : List Ex) (E : Option Addr) (ce ne : Nat) (hne : ne = l.length) (hme : ne ≤ maxLen) (ps : List Pm) (P : Option Addr) (cp np : Nat) (hnp : np = ps.length) (hmp : np ≤ maxLen) (w : World) (hV : VarsAt w B0 sc br A n D m) (hr : ExRow w w.heap.size l E) (hA : RowV VPm 2 w B0 ps P) :
 Calls Tryz.prog 67 #[varsV A n c D m d,.slice E ne ce,.slice P np cp,.string ⟨nm.toArray⟩] w (CkPost (argsC sc br nm l ps) w):=by
 obtain ⟨W1,hW1⟩ : ∃ W1,W1 = w.alloc (varsC A n c D m d):=⟨_,rfl⟩
 have hb1 : Below w.heap.size w W1:=by rw [hW1];exact below_alloc w _
 have hp1 : W1.heap[w.heap.size]? = some (varsC A n c D m d):=by rw [hW1];exact heap_of_alloc w _
 have HB1:=Lib.hid (And.intro hb1 hp1)
 obtain ⟨R,hR⟩ : ∃ R : Ck,R = argsC sc br nm l ps:=⟨_,rfl⟩
 rw [← hR]
 have HH:=Lib.hid (And.intro hV (And.intro hr (And.intro hA (And.intro hne hnp))))
 have hmx : Tryz.prog.follows .mixedOrders = true:=by kernel_rfl
 by_cases hnn : ne = np
 ·have hb : ((ne : Int) == (np : Int)) = true:=by rw [hnn];exact beq_self_eq_true _
  have HR : Hid (R = allC (argC sc br nm) (l.zip ps)):=Lib.hid (by
   rw [hR];unfold argsC
   rw [show (l.length == ps.length) = true by rw [← hne,← hnp,hnn];exact beq_self_eq_true _]
   rfl)
  have HD:=Lib.hid (demand_any true 2 nm W1)
  have HZ : Hid ((l.zip ps).length = ne):=Lib.hid (by rw [List.length_zip,← hne,← hnp,hnn];exact Nat.min_self _)
  clear hV hr hA hne hnp hR hb1 hp1
  subst hnn
  unfold maxLen at hme
  clear hmp
  go_enter Tryz.func67,Tryz.ntmps67
  go_wp2_with fail
  rw [← hW1]
  clear hW1
  (with_reducible refine HD.out.mono ?_)
  rintro e w2 ⟨he,hw⟩
  subst hw
  obtain rfl : e = _:=he
  go_wp2
  go_loopg [19] ne (fun mm j wr => ∃ i : Nat,mm = ne - i ∧ i ≤ ne ∧ j = .int .i64 i ∧ Hid (Below w2.heap.size w2 wr ∧ allC (argC sc br nm) ((l.zip ps).take i) = none))
  case atStart => exact ⟨0,rfl,Nat.zero_le _,rfl,Lib.hid ⟨Below.refl _ _,rfl⟩⟩
  case round =>
   obtain ⟨i,rfl,hi,rfl,HI⟩:=hrel
   have hi0 : (0 : Int) ≤ i:=by omega
   by_cases hlt : i < ne
   ·have hii : (i : Int) < ne:=by omega
    have hbr:=HB1.out.1.chain HI.out.1
    obtain ⟨⟨⟨k0,n0,s0,l0⟩,x⟩,hgz⟩ : ∃ y,(l.zip ps)[i]? = some y:=⟨(l.zip ps)[i]'(by rw [HZ.out];exact hlt),List.getElem?_eq_getElem _⟩
    obtain ⟨hg,hx⟩:=List.getElem?_zip_eq_some.1 hgz
    obtain ⟨a,A',c',rfl,hab,d0,d1,d2,d3,hs0,hl0,hrow⟩:=(HH.out.2.1.on hbr).at_ hg
    have e0 : wr.cell? (a.add (i * 4)) = some (.int .i64 k0):=d0
    have e1 : wr.cell? ⟨(a.add (i * 4)).block,(a.add (i * 4)).off + 1,none⟩ = some (.int .i64 n0):=d1
    have e2 : wr.cell? ⟨(a.add (i * 4)).block,(a.add (i * 4)).off + 2,none⟩ = some (.string ⟨s0.toArray⟩):=d2
    have e3 : wr.cell? ⟨(a.add (i * 4)).block,(a.add (i * 4)).off + 3,none⟩ = some (.slice A' l0.length c'):=d3
    obtain ⟨W6,hW6⟩ : ∃ W6,W6 = wr.alloc (exprC k0 n0 ⟨s0.toArray⟩ (.slice A' l0.length c')):=⟨_,rfl⟩
    have hb6 : Below wr.heap.size wr W6:=by rw [hW6];exact below_alloc wr _
    have hp6 : W6.heap[wr.heap.size]? = some (exprC k0 n0 ⟨s0.toArray⟩ (.slice A' l0.length c')):=by rw [hW6];exact heap_of_alloc wr _
    obtain ⟨b,cs,rfl,hbb,hcs,hca,hv⟩:=(rowB vpm_keeps HH.out.1.hB (hbr.chain hb6) HH.out.2.2.1) i x hx
    have f0 : W6.cell? (b.add (i * 2)) = some (.string ⟨x.t.toArray⟩):=by
     have h:=hca 0 _ (by rw [hv.1];rfl)
     rwa [add_add_plain,Nat.add_zero] at h
    have hV6:=HH.out.1.on (hbr.chain hb6)
    have hbb6 : (b.add (i * 2)).block < W6.heap.size:=by rw [block_adds];exact Nat.lt_of_lt_of_le hbb hV6.hB
    have hb16 : W6.heap[w.heap.size]? = some (varsC A n c D m d):=kept_box (HI.out.1.chain hb6) HB1.out.2
    obtain ⟨S,hS⟩ : ∃ S : World → Prop,S = fun W => Below W6.heap.size W6 W:=⟨_,rfl⟩
    have HS2 : Hid (∀ W,Below W6.heap.size W6 W → S W):=Lib.hid (fun W hb => by rw [hS];exact hb)
    have HLD : Hid (∀ W,S W → (W.cell? ⟨w.heap.size,0,none⟩ = some (.slice A n c) ∧ W.cell? ⟨w.heap.size,1,none⟩ = some (.slice D m d)) ∧ (W.cell? ⟨wr.heap.size,0,none⟩ = some (.int .i64 k0) ∧ W.cell? ⟨wr.heap.size,1,none⟩ = some (.int .i64 n0) ∧ W.cell? ⟨wr.heap.size,2,none⟩ = some (.string ⟨s0.toArray⟩) ∧ W.cell? ⟨wr.heap.size,3,none⟩ = some (.slice A' l0.length c')) ∧ W.cell? (b.add (i * 2)) = some (.string ⟨x.t.toArray⟩)):=Lib.hid (fun W hs => by
     rw [hS] at hs
     have q1:=kept_box hs hb16
     have q2:=kept_box hs hp6
     exact ⟨⟨cell_of_block q1 0 rfl,cell_of_block q1 1 rfl⟩,⟨cell_of_block q2 0 rfl,cell_of_block q2 1 rfl,cell_of_block q2 2 rfl,cell_of_block q2 3 rfl⟩,(hs.cell hbb6).trans f0⟩)
    obtain ⟨q,hq⟩ : ∃ q,q = exT sc br (.mk k0 n0 s0 l0):=⟨_,rfl⟩
    have HC : Hid (∀ W,Below W6.heap.size W6 W → Calls Tryz.prog 97 #[varsV A n c D m d,exprV k0 n0 ⟨s0.toArray⟩ (.slice A' l0.length c')] W (StrPost q W)):=Lib.hid (fun W hb => by
     rw [hq]
     exact expr_any' sc br A n c D m d B0 k0 n0 s0 l0 A' c' W (hV6.on hb) (hrow.on (hb6.chain hb)) hs0 hl0)
    have HX0:=Lib.hid (Below.refl W6.heap.size W6).drew
    have H6:=Lib.hid (hbr.chain hb6)
    have H6':=Lib.hid (HI.out.1.chain hb6)
    obtain ⟨u,hu⟩ : ∃ u,u = x.t:=⟨_,rfl⟩
    have HX:=Lib.hid (And.intro hgz (And.intro hq hu))
    rw [← hu] at HLD
    have g0:=HS2.out _ HX0.out
    clear hgz hg hx hq hu hab d0 d1 d2 d3 hs0 hl0 hrow hb6 hp6 hbb hcs hca hv f0 hV6 hbb6 hb16 hS hbr
    go_wp2
    rw [← hW6]
    clear hW6
    refine wp_region_held (S:=S) hmx ?_
    change wpAnyH _ _ _ _ _ 11 #[false,false,false,false,false,false,false,false,false,false,false] _ W6.drew
    refine tk 0 24 (varsV A n c D m d) g0 ?v ?_
    case v => intro Wx hSx;obtain ⟨⟨z1,z2⟩,⟨z3,z4,z5,z6⟩,z7⟩:=HLD.out Wx hSx;go_simp
    refine tk 1 25 (exprV k0 n0 ⟨s0.toArray⟩ (.slice A' l0.length c')) g0 ?v ?_
    case v => intro Wx hSx;obtain ⟨⟨z1,z2⟩,⟨z3,z4,z5,z6⟩,z7⟩:=HLD.out Wx hSx;go_simp
    refine tk 3 27 (.slice (some b) ne cp) g0 ?v ?_
    case v => intro Wx hSx;go_simp
    refine tk 4 28 (.int .i64 i) g0 ?v ?_
    case v => intro Wx hSx;go_simp
    refine tk 9 33 (.string ⟨nm.toArray⟩) g0 ?v ?_
    case v => intro Wx hSx;go_simp
    try simp only [Act.put,List.setIfInBounds_toArray,List.set_cons_zero,List.set_cons_succ]
    refine tk 5 29 (.pointer (some (b.add (i * 2)))) g0 ?v ?_
    case v => intro Wx hSx;go_simp
    try simp only [Act.put,List.setIfInBounds_toArray,List.set_cons_zero,List.set_cons_succ]
    refine tk 6 30 (.pointer (some (b.add (i * 2)))) g0 ?v ?_
    case v => intro Wx hSx;go_simp
    try simp only [Act.put,List.setIfInBounds_toArray,List.set_cons_zero,List.set_cons_succ]
    refine tk 7 31 (.string ⟨u.toArray⟩) g0 ?v ?_
    case v => intro Wx hSx;obtain ⟨⟨z1,z2⟩,⟨z3,z4,z5,z6⟩,z7⟩:=HLD.out Wx hSx;go_simp
    try simp only [Act.put,List.setIfInBounds_toArray,List.set_cons_zero,List.set_cons_succ]
    refine o1 2 (fun K hK => ?_)
    go_simp
    (with_reducible refine (HC.out _ HX0.out).mono ?_)
    rintro e w3 ⟨he,hb3⟩
    have H3:=Lib.hid (HX0.out.chain hb3)
    have hs3:=HS2.out _ H3.out
    clear hb3
    cases q with
    | error t =>
      obtain rfl : e = _:=he
      refine ⟨rfl,?_,H6.out.chain H3.out⟩
      rw [HR.out,allC_some _ _ i _ t HX.out.1 HI.out.2 (argC_error HX.out.2.1.symm)]
      exact rfl
    | ok y =>
      obtain rfl : e = _:=he
      refine hK _ _ hs3 ?_
      clear hK K
      try simp only [Act.put,List.setIfInBounds_toArray,List.set_cons_zero,List.set_cons_succ]
      refine o1 8 (fun K hK => ?_)
      go_simp
      (with_reducible refine (fits_any y u w3).mono ?_)
      rintro e w4 ⟨rfl,hw⟩
      subst hw
      refine hK _ _ hs3 ?_
      clear hK K
      try simp only [Act.put,List.setIfInBounds_toArray,List.set_cons_zero,List.set_cons_succ]
      have hdem : argC sc br nm (.mk k0 n0 s0 l0,x) = demC (fitsB y u) 9 nm:=by rw [HX.out.2.2];exact argC_ok HX.out.2.1.symm
      obtain ⟨v,hv⟩ : ∃ v,v = fitsB y u:=⟨_,rfl⟩
      rw [← hv] at hdem ⊢
      have HM:=Lib.hid hdem
      clear hdem hv
      refine o1 10 (fun K hK => ?_)
      go_simp
      (with_reducible refine (demand_any v 9 nm w4).mono ?_)
      rintro e w5 ⟨he,hw⟩
      subst hw
      cases v
      ·obtain rfl : e = _:=he
       refine ⟨rfl,?_,H6.out.chain H3.out⟩
       rw [HR.out,allC_some _ _ i _ (nm,9) HX.out.1 HI.out.2 HM.out]
       exact rfl
      ·obtain rfl : e = _:=he
       refine hK _ _ hs3 ?_
       clear hK K
       refine wpAnyH_done (by kernel_rfl) ?_ _
       have HN : Hid (allC (argC sc br nm) ((l.zip ps).take (i + 1)) = none):=Lib.hid (by
        rw [allC_take_succ _ _ i _ HX.out.1,HI.out.2,HM.out]
        rfl)
       go_wp2
       go_roundg (ne - (i + 1))
       case measure => omega
       case rel => exact ⟨i + 1,rfl,by omega,by go_num,Lib.hid ⟨H6'.out.chain H3.out,HN.out⟩⟩
   ·have hlt' : ¬ (i : Int) < ne:=by omega
    obtain rfl : i = ne:=by omega
    go_wp2
    refine bodyPost_end (results_none rfl _ _ _) rfl ⟨?_,HB1.out.1.chain HI.out.1⟩
    have h:=HI.out.2
    rw [List.take_of_length_le (by rw [HZ.out];exact Nat.le_refl _)] at h
    rw [HR.out,h]
    exact rfl
 ·have hni : ¬ ((ne : Int) = (np : Int)):=fun h => hnn (Int.ofNat_inj.1 h)
  have hb : ((ne : Int) == (np : Int)) = false:=beq_eq_false_iff_ne.2 hni
  have HR : Hid (R = some (nm,2)):=Lib.hid (by
   rw [hR];unfold argsC
   rw [show (l.length == ps.length) = false by rw [← hne,← hnp];exact beq_eq_false_iff_ne.2 hnn]
   rfl)
  have HD:=Lib.hid (demand_any false 2 nm W1)
  clear hV hr hA hne hnp hR hb1 hp1
  go_enter Tryz.func67,Tryz.ntmps67
  go_wp2_with fail
  rw [← hW1]
  clear hW1
  (with_reducible refine HD.out.mono ?_)
  rintro e w2 ⟨he,hw⟩
  subst hw
  obtain rfl : e = _:=he
  exact ⟨rfl,by rw [HR.out];exact rfl,HB1.out.1⟩
end Go.Proofs.YthenbbpagbdbeaaGreatDoor
namespace Go.Proofs.YthenbbpagbdbeaaGreatDoor
def bindC {α : Type} : Except Thr α → (α → Ck) → Ck
 | .error t,_ => some t
 | .ok x,f => f x
def gotE {α : Type} (o : Option α) (s : List UInt8) (x : Int) : Except Thr α:=match o with
 | some y => .ok y
 | none => .error (s,x)
def dfPs (o : Option Df) (n : List UInt8) : Except Thr (List Pm):=match o with
 | some d => .ok d.ps
 | none => .error (n,7)
def rcPs (o : Option Rc) (n : List UInt8) : Except Thr (List Pm):=match o with
 | some r => .ok (⟨r.nm,[]⟩ :: r.fs)
 | none => .error (n,7)
def cellPsE (p : Pg) (x : Cl) : Except Thr (List Pm):=if x.k = 2 then dfPs (fstO (·.nm) p.ds x.nm) x.nm else rcPs (fstO (·.nm) p.rs x.nm) x.nm
mutual
def exVars : Ex → List (List UInt8)
 | .mk k _ s l => (if k = 2 then [s] else []) ++ exsVars l
def exsVars : List Ex → List (List UInt8)
 | [] => []
 | x :: l => exVars x ++ exsVars l
end
theorem exsVars_append : ∀ l m : List Ex,exsVars (l ++ m) = exsVars l ++ exsVars m
 | [],_ => by rw [exsVars];rfl
 | x :: l,m => by rw [List.cons_append,exsVars,exsVars,exsVars_append l m,List.append_assoc]
theorem exsVars_take (l : List Ex) (k : Nat) (x : Ex) (h : l[k]? = some x) : exsVars (l.take (k + 1)) = exsVars (l.take k) ++ exVars x:=by
 rw [List.take_add_one,h,exsVars_append]
 show _ ++ exsVars [x] = _
 rw [exsVars,exsVars,List.append_nil]
def plainN : Ex → List (List UInt8)
 | .mk k _ s _ => if k = 2 then [s] else []
def plainL (l : List Ex) : List (List UInt8):=l.flatMap plainN
structure Stp where
 nd : List (List UInt8)
 ms : List (List UInt8)
def stepsCl (x : Cl) : List Stp:=if x.k = 1 then match x.l with
 | [] => []
 | a :: r => [⟨exVars a,plainL r⟩]
 else []
def stepsAt (x : At) : List Stp:=if x.k = 1 then [⟨exVars x.a,plainN x.b⟩,⟨exVars x.b,plainN x.a⟩] else []
def stepsF (f : Fm) : List Stp:=f.cls.flatMap stepsCl ++ f.ats.flatMap stepsAt
abbrev Unk:=List UInt8 → Bool
def stepU (U : Unk) (s : Stp) : Unk:=if s.nd.any U then U else fun n => U n && !s.ms.contains n
def passU (l : List Stp) (U : Unk) : Unk:=l.foldl stepU U
def iterU (l : List Stp) : Nat → Unk → Unk
 | 0,U => U
 | n + 1,U => iterU l n (passU l U)
def unk0 (ps : List Pm) : Unk:=fun n => ps.any fun x => x.t == intB && x.nm == n
def detU (f : Fm) : Unk:=iterU (stepsF f) (f.ps.length + 1) (unk0 f.ps)
def detC (f : Fm) : Ck:=allC (fun x : Pm => demC (!detU f x.nm) 11 x.nm) f.ps
def atC (sc : List Pm) (a : At) : Ck:=cmpC sc [] a.k a.a a.b
def clC (p : Pg) (sc : List Pm) (x : Cl) : Ck:=bindC (cellPsE p x) fun ps => argsC sc [] x.nm x.l ps
def exiC (sc : List Pm) (x : Pm) : Ck:=demC (!(fstO (·.nm) sc x.nm).isSome) 8 x.nm
def fmC (p : Pg) (sc : List Pm) (f : Fm) : Ck :=
 seqC (allC (exiC sc) f.ps) (seqC (tysC p.rs f.ps) (seqC (allC (atC (sc ++ f.ps)) f.ats) (seqC (allC (clC p (sc ++ f.ps)) f.cls) (detC f))))
def fmsC (p : Pg) (sc : List Pm) (l : List Fm) : Ck:=allC (fmC p sc) l
def dfC (p : Pg) (d : Df) : Ck:=seqC (paramsC p.rs d.ps) (seqC (match d.ps with
 | [] => none
 | x :: _ => demC (!(x.t == intB)) 9 d.nm) (fmsC p d.ps d.cs))
def lmC (p : Pg) (m : Lm) : Ck:=seqC (paramsC p.rs m.ps) (seqC (demC (m.lf.ps.length == 0) 3 m.nm) (seqC (fmC p m.ps m.lf) (fmC p m.ps m.rt)))
/-! ### statements -/
def trgO (o : Option Pm) (h : Bool) (s : List UInt8) : Except Thr (List UInt8):=match o with
 | none => .error (s,7)
 | some x => if h then .ok x.t else .error (s,6)
def trgE (sc asn : List Pm) (s : List UInt8) : Except Thr (List UInt8):=trgO (fstO (·.nm) sc s) (fstO (·.nm) asn s).isSome s
def recE (p : Pg) (sc br : List Pm) (s : List UInt8) : Except Thr Rc:=match kindE sc br s with
 | .error t => .error t
 | .ok t => gotE (fstO (·.nm) p.rs t) s 9
def calC (p : Pg) (sc br asn : List Pm) (c : Cal) : Ck:=bindC (gotE (fstO (·.nm) p.xs c.p) c.p 7) fun x =>
 seqC (argsC sc br c.p c.l x.ps) (if c.r = [] then none else bindC (trgE sc asn c.r) fun t => demC (t == x.rt) 9 c.r)
def parC (p : Pg) (sc br asn : List Pm) (a b : Cal) : Ck :=
 seqC (calC p sc br asn a) (seqC (calC p sc br asn b) (demC (a.r == [] || !(a.r == b.r)) 8 a.r))
def asgC (sc br asn : List Pm) (nm : List UInt8) (e : Ex) : Ck:=bindC (trgE sc asn nm) fun t => bindC (exT sc br e) fun y => demC (fitsB y t) 9 nm
def ldC (p : Pg) (sc br asn : List Pm) (nm fd fr : List UInt8) : Ck:=bindC (trgE sc asn nm) fun t => bindC (recE p sc br fr) fun r => bindC (gotE (fstO (·.nm) r.fs fd) fd 7) fun f => demC (f.t == t) 9 nm
def svC (p : Pg) (sc br : List Pm) (nm fd : List UInt8) (e : Ex) : Ck:=bindC (recE p sc br nm) fun r => bindC (gotE (fstO (·.nm) r.fs fd) fd 7) fun f => bindC (exT sc br e) fun y => demC (fitsB y f.t) 9 fd
def nwC (p : Pg) (sc asn : List Pm) (nm fr : List UInt8) : Ck:=bindC (gotE (fstO (·.nm) p.rs fr) fr 7) fun r => bindC (trgE sc asn nm) fun t => demC (t == r.nm) 9 nm
def frC (p : Pg) (sc br : List Pm) (nm : List UInt8) : Ck:=bindC (recE p sc br nm) fun _ => none
def inC (sc asn : List Pm) (nm : List UInt8) : Ck:=bindC (trgE sc asn nm) fun t => demC (t == intB) 9 nm
def wiC (p : Pg) (nm : List UInt8) : Ck:=bindC (gotE (fstO (·.nm) p.ks nm) nm 7) fun _ => none
def stC (p : Pg) (sc br asn : List Pm) : St → Ck
 | .mk k _ _ nm fd fr e c cl iv _ _ =>
   if k = 1 then asgC sc br asn nm e
   else if k = 2 then ldC p sc br asn nm fd fr
   else if k = 3 then svC p sc br nm fd e
   else if k = 4 then nwC p sc asn nm fr
   else if k = 5 then frC p sc br nm
   else if k = 6 then inC sc asn nm
   else if k = 7 then (match cl with
    | a :: _ => calC p sc br asn a
    | [] => none)
   else if k = 8 ∨ k = 10 then cnC sc br c
   else if k = 9 then seqC (cnC sc br c) (fmsC p sc iv)
   else if k = 11 then wiC p nm
   else if k = 12 then (match cl with
    | a :: b :: _ => parC p sc br asn a b
    | _ => none)
   else none
abbrev PCk:=Ck × (Int × Int)
def seqP : PCk → (Int × Int → PCk) → PCk
 | (some t,q),_ => (some t,q)
 | (none,q),f => f q
mutual
def stP (p : Pg) (sc br asn : List Pm) : St → PCk
 | .mk k ln co nm fd fr e c cl iv b o => seqP (stC p sc br asn (.mk k ln co nm fd fr e c cl iv b o),(ln,co)) fun q => seqP (stsP p sc br asn q b) fun q => stsP p sc br asn q o
def stsP (p : Pg) (sc br asn : List Pm) (q : Int × Int) : List St → PCk
 | [] => (none,q)
 | s :: l => seqP (stP p sc br asn s) fun q => stsP p sc br asn q l
end
def bodyAs (x : Pr) : List Pm:=resL x ++ x.lo
def prC (p : Pg) (x : Pr) : PCk :=
 seqP (seqC (paramsC p.rs (scopeL p.gs x)) (seqC (fmsC p (p.gs ++ x.ps ++ x.lg) x.rq) (fmsC p (p.gs ++ x.ps ++ x.lg ++ resL x) x.es)),(x.ln,x.co)) fun q =>
  stsP p (scopeL p.gs x) x.lg (bodyAs x) q x.bd
def prsC (p : Pg) (q : Int × Int) : List Pr → PCk
 | [] => (none,q)
 | x :: l => seqP (prC p x) fun q => prsC p q l
def namesC (p : Pg) : Ck :=
 seqC (diffC [] (p.rs.map (·.nm))) (seqC (diffC [] (p.gs.map (·.nm))) (seqC (diffC [] (p.ks.map (·.nm))) (seqC (diffC [] (p.ds.map (·.nm))) (seqC (diffC [] (p.ms.map (·.nm))) (diffC [] (p.xs.map (·.nm)))))))
def pgC (p : Pg) : PCk :=
 seqP (seqC (namesC p) (seqC (allC (fun r : Rc => paramsC p.rs r.fs) p.rs) (seqC (tysC p.rs p.gs) (seqC (allC (fun k : Lk => fmsC p p.gs k.iv) p.ks) (seqC (allC (dfC p) p.ds) (allC (lmC p) p.ms))))),(0,0)) fun q => prsC p q p.xs
theorem seqP_some (t : Thr) (q : Int × Int) (f : Int × Int → PCk) : seqP (some t,q) f = (some t,q):=rfl
theorem seqP_none (q : Int × Int) (f : Int × Int → PCk) : seqP (none,q) f = f q:=rfl
end Go.Proofs.YthenbbpagbdbeaaGreatDoor
