/-
  Programs as trees, and the rows of memory that hold their items. An argument of type api.Program, opened to its tree.
-/
import Derived.Test.YtkopbfndfkibbaaGreatDoorSTreeO
set_option linter.unusedVariables false
set_option linter.unusedSimpArgs false
namespace Go.Proofs.YtkopbfndfkibbaaGreatDoor
set_option maxRecDepth 100000
open Go.RowKit
structure Rc where
 nm : List UInt8
 fs : List Pm
structure Lk where
 nm : List UInt8
 iv : List Fm
structure Df where
 nm : List UInt8
 ps : List Pm
 cs : List Fm
structure Lm where
 nm : List UInt8
 ps : List Pm
 lf : Fm
 rt : Fm
structure Pr where
 nm : List UInt8
 ln : Int
 co : Int
 ps : List Pm
 lg : List Pm
 rt : List UInt8
 rn : List UInt8
 ct : Bool
 rq : List Fm
 es : List Fm
 lo : List Pm
 bd : List St
structure Pg where
 rs : List Rc
 gs : List Pm
 ks : List Lk
 ds : List Df
 ms : List Lm
 xs : List Pr
def RcAt (w : World) (B : Nat) (p : Addr) (x : Rc) : Prop :=
 ∃ (A : Option Addr) (c : Nat),w.cell? p = some (.string ⟨x.nm.toArray⟩) ∧ w.cell? (p.add 1) = some (.slice A x.fs.length c) ∧ x.nm.length ≤ maxLen ∧ x.fs.length ≤ maxLen ∧ PmRow w B x.fs A
theorem rc_keeps : Keeps RcAt:=by
 rintro w w' B B' p x hk hB hp ⟨A,c,h0,h1,h2,h3,h4⟩
 exact ⟨A,c,(hk _ hp).trans h0,(hk _ (by rw [block_adds];exact hp)).trans h1,h2,h3,h4.keep pm_keeps hk hB⟩
def LkAt (w : World) (B : Nat) (p : Addr) (x : Lk) : Prop :=
 ∃ (A : Option Addr) (c : Nat),w.cell? p = some (.string ⟨x.nm.toArray⟩) ∧ w.cell? (p.add 1) = some (.slice A x.iv.length c) ∧ x.nm.length ≤ maxLen ∧ x.iv.length ≤ maxLen ∧ FmRow w B x.iv A
theorem lk_keeps : Keeps LkAt:=by
 rintro w w' B B' p x hk hB hp ⟨A,c,h0,h1,h2,h3,h4⟩
 exact ⟨A,c,(hk _ hp).trans h0,(hk _ (by rw [block_adds];exact hp)).trans h1,h2,h3,h4.keep fm_keeps hk hB⟩
def DfAt (w : World) (B : Nat) (p : Addr) (x : Df) : Prop :=
 ∃ (A : Option Addr) (c : Nat) (A2 : Option Addr) (c2 : Nat),w.cell? p = some (.string ⟨x.nm.toArray⟩) ∧ w.cell? (p.add 1) = some (.slice A x.ps.length c) ∧ w.cell? (p.add 2) = some (.slice A2 x.cs.length c2) ∧
  x.nm.length ≤ maxLen ∧ x.ps.length ≤ maxLen ∧ x.cs.length ≤ maxLen ∧ PmRow w B x.ps A ∧ FmRow w B x.cs A2
theorem df_keeps : Keeps DfAt:=by
 rintro w w' B B' p x hk hB hp ⟨A,c,A2,c2,h0,h1,h2,h3,h4,h5,h6,h7⟩
 have e : ∀ j,(p.add j).block < B:=fun j => by rw [block_adds];exact hp
 exact ⟨A,c,A2,c2,(hk _ hp).trans h0,(hk _ (e 1)).trans h1,(hk _ (e 2)).trans h2,h3,h4,h5,h6.keep pm_keeps hk hB,h7.keep fm_keeps hk hB⟩
structure FAd where
 p : Option Addr
 a : Option Addr
 c : Option Addr
 np : Nat
 na : Nat
 nc : Nat
def FmOwn (w : World) (B : Nat) (d : FAd) (x : Fm) : Prop :=
 (x.ps.length ≤ maxLen ∧ x.ats.length ≤ maxLen ∧ x.cls.length ≤ maxLen) ∧ PmRow w B x.ps d.p ∧ AtRow w B x.ats d.a ∧ ClRow w B x.cls d.c
theorem FmOwn.keep {w w' : World} {B B' : Nat} (hk : ∀ q : Addr,q.block < B → w'.cell? q = w.cell? q) (hB : B ≤ B') {d : FAd} {x : Fm} (h : FmOwn w B d x) : FmOwn w' B' d x:=by
 obtain ⟨h0,h1,h2,h3⟩:=h
 exact ⟨h0,h1.keep pm_keeps hk hB,h2.keep at_keeps hk hB,h3.keep cl_keeps hk hB⟩
theorem FmOwn.on {w w' : World} (hb : Below w.heap.size w w') {d : FAd} {x : Fm} (h : FmOwn w w.heap.size d x) : FmOwn w' w'.heap.size d x:=h.keep (fun _ hp => hb.cell hp) hb.size
def lmCs (A : Option Addr) (c : Nat) (d e : FAd) (x : Lm) : Array Value :=
 #[.string ⟨x.nm.toArray⟩,.slice A x.ps.length c,.slice d.p x.lf.ps.length d.np,.slice d.a x.lf.ats.length d.na,.slice d.c x.lf.cls.length d.nc,.slice e.p x.rt.ps.length e.np,.slice e.a x.rt.ats.length e.na,.slice e.c x.rt.cls.length e.nc]
def LmAt (w : World) (B : Nat) (p : Addr) (x : Lm) : Prop :=
 ∃ (A : Option Addr) (c : Nat) (d e : FAd),(∀ j v,(lmCs A c d e x)[j]? = some v → w.cell? (p.add j) = some v) ∧ x.nm.length ≤ maxLen ∧ x.ps.length ≤ maxLen ∧ PmRow w B x.ps A ∧ FmOwn w B d x.lf ∧ FmOwn w B e x.rt
theorem lm_keeps : Keeps LmAt:=by
 rintro w w' B B' p x hk hB hp ⟨A,c,d,e,h0,h1,h2,h3,h4,h5⟩
 exact ⟨A,c,d,e,fun j v hv => (hk _ (by rw [block_adds];exact hp)).trans (h0 j v hv),h1,h2,h3.keep pm_keeps hk hB,h4.keep hk hB,h5.keep hk hB⟩
structure PAd where
 p : Option Addr
 g : Option Addr
 r : Option Addr
 e : Option Addr
 l : Option Addr
 b : Option Addr
 np : Nat
 ng : Nat
 nr : Nat
 ne : Nat
 nl : Nat
 nb : Nat
def prCs (d : PAd) (x : Pr) : Array Value :=
 #[.string ⟨x.nm.toArray⟩,.int .i64 x.ln,.int .i64 x.co,.slice d.p x.ps.length d.np,.slice d.g x.lg.length d.ng,.string ⟨x.rt.toArray⟩,.string ⟨x.rn.toArray⟩,.bool x.ct,.slice d.r x.rq.length d.nr,.slice d.e x.es.length d.ne,.slice d.l x.lo.length d.nl,.slice d.b x.bd.length d.nb]
def PrOwn (w : World) (B : Nat) (d : PAd) (x : Pr) : Prop :=
 (x.nm.length ≤ maxLen ∧ x.ps.length ≤ maxLen ∧ x.lg.length ≤ maxLen ∧ x.rt.length ≤ maxLen ∧ x.rn.length ≤ maxLen ∧ x.rq.length ≤ maxLen ∧ x.es.length ≤ maxLen ∧ x.lo.length ≤ maxLen ∧ x.bd.length ≤ maxLen) ∧
   PmRow w B x.ps d.p ∧ PmRow w B x.lg d.g ∧ FmRow w B x.rq d.r ∧ FmRow w B x.es d.e ∧ PmRow w B x.lo d.l ∧ StRow w B x.bd d.b
theorem PrOwn.keep {w w' : World} {B B' : Nat} (hk : ∀ q : Addr,q.block < B → w'.cell? q = w.cell? q) (hB : B ≤ B') {d : PAd} {x : Pr} (h : PrOwn w B d x) : PrOwn w' B' d x:=by
 obtain ⟨h0,h1,h2,h3,h4,h5,h6⟩:=h
 exact ⟨h0,h1.keep pm_keeps hk hB,h2.keep pm_keeps hk hB,h3.keep fm_keeps hk hB,h4.keep fm_keeps hk hB,h5.keep pm_keeps hk hB,h6.keep hk hB⟩
theorem PrOwn.on {w w' : World} (hb : Below w.heap.size w w') {d : PAd} {x : Pr} (h : PrOwn w w.heap.size d x) : PrOwn w' w'.heap.size d x:=h.keep (fun _ hp => hb.cell hp) hb.size
def PrAt (w : World) (B : Nat) (p : Addr) (x : Pr) : Prop :=
 ∃ d : PAd,(∀ j v,(prCs d x)[j]? = some v → w.cell? (p.add j) = some v) ∧ PrOwn w B d x
theorem pr_keeps : Keeps PrAt:=by
 rintro w w' B B' p x hk hB hp ⟨d,h0,h1⟩
 exact ⟨d,fun j v hv => (hk _ (by rw [block_adds];exact hp)).trans (h0 j v hv),h1.keep hk hB⟩
abbrev RcRow:=RowX RcAt 2
abbrev LkRow:=RowX LkAt 2
abbrev DfRow:=RowX DfAt 3
abbrev LmRow:=RowX LmAt 8
abbrev PrRow:=RowX PrAt 12
structure GAd where
 r : Option Addr
 g : Option Addr
 k : Option Addr
 d : Option Addr
 m : Option Addr
 x : Option Addr
 nr : Nat
 ng : Nat
 nk : Nat
 nd : Nat
 nm : Nat
 nx : Nat
def PgOwn (w : World) (B : Nat) (d : GAd) (p : Pg) : Prop :=
 (p.rs.length ≤ maxLen ∧ p.gs.length ≤ maxLen ∧ p.ks.length ≤ maxLen ∧ p.ds.length ≤ maxLen ∧ p.ms.length ≤ maxLen ∧ p.xs.length ≤ maxLen) ∧
   RcRow w B p.rs d.r ∧ PmRow w B p.gs d.g ∧ LkRow w B p.ks d.k ∧ DfRow w B p.ds d.d ∧ LmRow w B p.ms d.m ∧ PrRow w B p.xs d.x
theorem PgOwn.keep {w w' : World} {B B' : Nat} (hk : ∀ q : Addr,q.block < B → w'.cell? q = w.cell? q) (hB : B ≤ B') {d : GAd} {p : Pg} (h : PgOwn w B d p) : PgOwn w' B' d p:=by
 obtain ⟨h0,h1,h2,h3,h4,h5,h6⟩:=h
 exact ⟨h0,h1.keep rc_keeps hk hB,h2.keep pm_keeps hk hB,h3.keep lk_keeps hk hB,h4.keep df_keeps hk hB,h5.keep lm_keeps hk hB,h6.keep pr_keeps hk hB⟩
theorem PgOwn.on {w w' : World} (hb : Below w.heap.size w w') {d : GAd} {p : Pg} (h : PgOwn w w.heap.size d p) : PgOwn w' w'.heap.size d p:=h.keep (fun _ hp => hb.cell hp) hb.size
abbrev progV (d : GAd) (p : Pg) : Value:=.agg #[.slice d.r p.rs.length d.nr,.slice d.g p.gs.length d.ng,.slice d.k p.ks.length d.nk,.slice d.d p.ds.length d.nd,.slice d.m p.ms.length d.nm,.slice d.x p.xs.length d.nx]
end Go.Proofs.YtkopbfndfkibbaaGreatDoor
namespace Go.Proofs.YtkopbfndfkibbaaGreatDoor
set_option maxRecDepth 100000
open Go.RowKit Go.ChangeShapes Go.WideShapes Go.Deep
variable {H : Type} {enc : TypeId × Value → H} {w : World} {spare : Nat → Bool} {held : Bool}
instance : Inhabited Rc:=⟨⟨[],[]⟩⟩
instance : Inhabited Lk:=⟨⟨[],[]⟩⟩
instance : Inhabited Df:=⟨⟨[],[],[]⟩⟩
instance : Inhabited Lm:=⟨⟨[],[],⟨[],[],[]⟩,⟨[],[],[]⟩⟩⟩
instance : Inhabited Pr:=⟨⟨[],0,0,[],[],[],[],false,[],[],[],[]⟩⟩
theorem open_params {x : DataW H × List MemPlace} {fuel : Nat} {cs : List Value} (h : DataW.trod enc Tryz.prog w 0 spare held fuel 23 cs = some x) : ∃ A c es,cs = [.slice A es.length c] ∧ PmRow w w.heap.size es A ∧ es.length ≤ maxLen :=
 open_rows (P:=PmAt) (n:=2) (by decide) Tryz.underlying23 (by kernel_rfl) (fun x fuel cs p h1 h2 => open_param p h1 h2) h
theorem open_formulas {x : DataW H × List MemPlace} {fuel : Nat} {cs : List Value} (h : DataW.trod enc Tryz.prog w 0 spare held fuel 42 cs = some x) : ∃ A c es,cs = [.slice A es.length c] ∧ FmRow w w.heap.size es A ∧ es.length ≤ maxLen :=
 open_rows (P:=FmAt) (n:=3) (by decide) Tryz.underlying42 (by kernel_rfl) (fun x fuel cs p h1 h2 => open_formula_at p h1 h2) h
theorem open_record {x : DataW H × List MemPlace} {fuel : Nat} {cs : List Value} (p : Addr) (h : DataW.trod enc Tryz.prog w 0 spare held fuel 76 cs = some x) (hc : w.cells? 0 p 2 = some cs) : ∃ e,RcAt w w.heap.size p e:=by
 obtain ⟨ys,n,_,hx1,hlen,hyl,hf⟩:=DataW.trod_struct (fs:=_) Tryz.underlying76 h
 have hlen2 : cs.length = 2:=hlen.trans (by kernel_rfl)
 have e0:=hf 0 _ rfl
 have e1:=hf 1 _ rfl
 match cs,hlen2 with
 | [u0,u1],_ =>
   match ys,hyl with
   | [y0,y1],_ =>
     have k2 : Tryz.prog.cellsOf 9 = 1:=by kernel_rfl
     have k3 : Tryz.prog.cellsOf 23 = 1:=by kernel_rfl
     obtain ⟨s,hs,_,hz⟩:=DataW.trod_string (x:=y0) (cs:=[u0]) Tryz.underlying9 (by simpa [k2] using e0)
     obtain ⟨A,c,es,he,hr,hl⟩:=open_params (x:=y1) (fuel:=n) (cs:=[u1]) (by simpa [k3] using e1)
     injection hs with hs;injection he with he
     subst hs he
     exact ⟨⟨s.data.toList,es⟩,A,c,cell_at0 hc (by decide),cells4_at hc (by decide),hz,hl,hr⟩
theorem open_lock {x : DataW H × List MemPlace} {fuel : Nat} {cs : List Value} (p : Addr) (h : DataW.trod enc Tryz.prog w 0 spare held fuel 63 cs = some x) (hc : w.cells? 0 p 2 = some cs) : ∃ e,LkAt w w.heap.size p e:=by
 obtain ⟨ys,n,_,hx1,hlen,hyl,hf⟩:=DataW.trod_struct (fs:=_) Tryz.underlying63 h
 have hlen2 : cs.length = 2:=hlen.trans (by kernel_rfl)
 have e0:=hf 0 _ rfl
 have e1:=hf 1 _ rfl
 match cs,hlen2 with
 | [u0,u1],_ =>
   match ys,hyl with
   | [y0,y1],_ =>
     have k2 : Tryz.prog.cellsOf 9 = 1:=by kernel_rfl
     have k3 : Tryz.prog.cellsOf 42 = 1:=by kernel_rfl
     obtain ⟨s,hs,_,hz⟩:=DataW.trod_string (x:=y0) (cs:=[u0]) Tryz.underlying9 (by simpa [k2] using e0)
     obtain ⟨A,c,es,he,hr,hl⟩:=open_formulas (x:=y1) (fuel:=n) (cs:=[u1]) (by simpa [k3] using e1)
     injection hs with hs;injection he with he
     subst hs he
     exact ⟨⟨s.data.toList,es⟩,A,c,cell_at0 hc (by decide),cells4_at hc (by decide),hz,hl,hr⟩
theorem open_def {x : DataW H × List MemPlace} {fuel : Nat} {cs : List Value} (p : Addr) (h : DataW.trod enc Tryz.prog w 0 spare held fuel 55 cs = some x) (hc : w.cells? 0 p 3 = some cs) : ∃ e,DfAt w w.heap.size p e:=by
 obtain ⟨ys,n,_,hx1,hlen,hyl,hf⟩:=DataW.trod_struct (fs:=_) Tryz.underlying55 h
 have hlen2 : cs.length = 3:=hlen.trans (by kernel_rfl)
 have e0:=hf 0 _ rfl
 have e1:=hf 1 _ rfl
 have e2:=hf 2 _ rfl
 match cs,hlen2 with
 | [u0,u1,u2],_ =>
   match ys,hyl with
   | [y0,y1,y2],_ =>
     have k2 : Tryz.prog.cellsOf 9 = 1:=by kernel_rfl
     have k3 : Tryz.prog.cellsOf 23 = 1:=by kernel_rfl
     have k4 : Tryz.prog.cellsOf 42 = 1:=by kernel_rfl
     obtain ⟨s,hs,_,hz⟩:=DataW.trod_string (x:=y0) (cs:=[u0]) Tryz.underlying9 (by simpa [k2] using e0)
     obtain ⟨A,c,es,he,hr,hl⟩:=open_params (x:=y1) (fuel:=n) (cs:=[u1]) (by simpa [k3] using e1)
     obtain ⟨A2,c2,es2,he2,hr2,hl2⟩:=open_formulas (x:=y2) (fuel:=n) (cs:=[u2]) (by simpa [k4] using e2)
     injection hs with hs;injection he with he;injection he2 with he2
     subst hs he he2
     exact ⟨⟨s.data.toList,es,es2⟩,A,c,A2,c2,cell_at0 hc (by decide),cells4_at hc (by decide),cells4_at hc (by decide),hz,hl,hl2,hr,hr2⟩
theorem open_lemma {x : DataW H × List MemPlace} {fuel : Nat} {cs : List Value} (p : Addr) (h : DataW.trod enc Tryz.prog w 0 spare held fuel 61 cs = some x) (hc : w.cells? 0 p 8 = some cs) : ∃ e,LmAt w w.heap.size p e:=by
 obtain ⟨ys,n,_,hx1,hlen,hyl,hf⟩:=DataW.trod_struct (fs:=_) Tryz.underlying61 h
 have hlen2 : cs.length = 8:=hlen.trans (by kernel_rfl)
 have e0:=hf 0 _ rfl
 have e1:=hf 1 _ rfl
 have e2:=hf 2 _ rfl
 have e3:=hf 3 _ rfl
 match cs,hlen2 with
 | [u0,u1,u2,u3,u4,u5,u6,u7],_ =>
   match ys,hyl with
   | [y0,y1,y2,y3],_ =>
     have k2 : Tryz.prog.cellsOf 9 = 1:=by kernel_rfl
     have k3 : Tryz.prog.cellsOf 23 = 1:=by kernel_rfl
     have k4 : Tryz.prog.cellsOf 59 = 3:=by kernel_rfl
     obtain ⟨s,hs,_,hz⟩:=DataW.trod_string (x:=y0) (cs:=[u0]) Tryz.underlying9 (by simpa [k2] using e0)
     obtain ⟨A,c,es,he,hr,hl⟩:=open_params (x:=y1) (fuel:=n) (cs:=[u1]) (by simpa [k3] using e1)
     obtain ⟨f,Ap,cp,Aa,ca,Ac,cc,hf1,hb1,r1,r2,r3⟩:=open_formula (x:=y2) (fuel:=n) (cs:=[u2,u3,u4]) (by simpa [k4] using e2)
     obtain ⟨g,Bp,dp,Ba,da,Bc,dc,hf2,hb2,q1,q2,q3⟩:=open_formula (x:=y3) (fuel:=n) (cs:=[u5,u6,u7]) (by simpa [k4] using e3)
     injection hs with hs;injection he with he
     simp only [List.cons.injEq,and_true] at hf1 hf2
     obtain ⟨a1,a2,a3⟩:=hf1
     obtain ⟨b1,b2,b3⟩:=hf2
     subst hs he a1 a2 a3 b1 b2 b3
     refine ⟨⟨s.data.toList,es,f,g⟩,A,c,⟨Ap,Aa,Ac,cp,ca,cc⟩,⟨Bp,Ba,Bc,dp,da,dc⟩,fun j v hv => ?_,hz,hl,hr,⟨hb1,r1,r2,r3⟩,⟨hb2,q1,q2,q3⟩⟩
     have hj : j < 8:=(Array.getElem?_eq_some_iff.1 hv).1
     rw [cells4_at hc hj]
     unfold lmCs at hv
     rw [List.getElem?_toArray] at hv
     exact hv
theorem open_proc {x : DataW H × List MemPlace} {fuel : Nat} {cs : List Value} (p : Addr) (h : DataW.trod enc Tryz.prog w 0 spare held fuel 67 cs = some x) (hc : w.cells? 0 p 12 = some cs) : ∃ e,PrAt w w.heap.size p e:=by
 obtain ⟨ys,n,_,hx1,hlen,hyl,hf⟩:=DataW.trod_struct (fs:=_) Tryz.underlying67 h
 have hlen2 : cs.length = 12:=hlen.trans (by kernel_rfl)
 have e0:=hf 0 _ rfl
 have e1:=hf 1 _ rfl
 have e2:=hf 2 _ rfl
 have e3:=hf 3 _ rfl
 have e4:=hf 4 _ rfl
 have e5:=hf 5 _ rfl
 have e6:=hf 6 _ rfl
 have e7:=hf 7 _ rfl
 have e8:=hf 8 _ rfl
 have e9:=hf 9 _ rfl
 match cs,hlen2 with
 | [u0,u1,u2,u3,u4,u5,u6,u7,u8,u9,u10,u11],_ =>
   match ys,hyl with
   | [y0,y1,y2,y3,y4,y5,y6,y7,y8,y9],_ =>
     have k1 : Tryz.prog.cellsOf 3 = 1:=by kernel_rfl
     have k2 : Tryz.prog.cellsOf 9 = 1:=by kernel_rfl
     have k3 : Tryz.prog.cellsOf 23 = 1:=by kernel_rfl
     have k4 : Tryz.prog.cellsOf 42 = 1:=by kernel_rfl
     have k5 : Tryz.prog.cellsOf 37 = 2:=by kernel_rfl
     have k6 : Tryz.prog.cellsOf 65 = 2:=by kernel_rfl
     have k7 : Tryz.prog.cellsOf 4 = 1:=by kernel_rfl
     have k8 : Tryz.prog.cellsOf 43 = 1:=by kernel_rfl
     obtain ⟨s,hs,_,hz⟩:=DataW.trod_string (x:=y0) (cs:=[u0]) Tryz.underlying9 (by simpa [k2] using e0)
     have e1' : DataW.trod enc Tryz.prog w 0 spare held n 37 [u1,u2] = some y1:=by simpa [k5] using e1
     have e4' : DataW.trod enc Tryz.prog w 0 spare held n 65 [u5,u6] = some y4:=by simpa [k6] using e4
     obtain ⟨zs,n2,_,_,_,hzl,hg⟩:=DataW.trod_struct (fs:=_) Tryz.underlying37 e1'
     obtain ⟨ts,n3,_,_,_,htl,hk⟩:=DataW.trod_struct (fs:=_) Tryz.underlying65 e4'
     have g0:=hg 0 _ rfl
     have g1:=hg 1 _ rfl
     have t0:=hk 0 _ rfl
     have t1:=hk 1 _ rfl
     match zs,hzl,ts,htl with
     | [z0,z1],_,[v0,v1],_ =>
       obtain ⟨ln,hln,_⟩:=DataW.trod_int (x:=z0) (cs:=[u1]) Tryz.underlying3 (by simpa [k1] using g0)
       obtain ⟨co,hco,_⟩:=DataW.trod_int (x:=z1) (cs:=[u2]) Tryz.underlying3 (by simpa [k1] using g1)
       obtain ⟨rt,hrt,_,mrt⟩:=DataW.trod_string (x:=v0) (cs:=[u5]) Tryz.underlying9 (by simpa [k2] using t0)
       obtain ⟨rn,hrn,_,mrn⟩:=DataW.trod_string (x:=v1) (cs:=[u6]) Tryz.underlying9 (by simpa [k2] using t1)
       obtain ⟨A1,c1,ps,h1,r1,l1⟩:=open_params (x:=y2) (fuel:=n) (cs:=[u3]) (by simpa [k3] using e2)
       obtain ⟨A2,c2,lg,h2,r2,l2⟩:=open_params (x:=y3) (fuel:=n) (cs:=[u4]) (by simpa [k3] using e3)
       obtain ⟨b,hb,_⟩:=DataW.trod_bool (x:=y5) (cs:=[u7]) Tryz.underlying4 (by simpa [k7] using e5)
       obtain ⟨A3,c3,rq,h3,r3,l3⟩:=open_formulas (x:=y6) (fuel:=n) (cs:=[u8]) (by simpa [k4] using e6)
       obtain ⟨A4,c4,es,h4,r4,l4⟩:=open_formulas (x:=y7) (fuel:=n) (cs:=[u9]) (by simpa [k4] using e7)
       obtain ⟨A5,c5,lo,h5,r5,l5⟩:=open_params (x:=y8) (fuel:=n) (cs:=[u10]) (by simpa [k3] using e8)
       obtain ⟨A6,c6,bd,h6,r6,l6⟩:=open_stmts _ y9 (Nat.lt_succ_self _) n [u11] (by simpa [k8] using e9)
       injection hs with hs;injection hln with hln;injection hco with hco;injection hrt with hrt;injection hrn with hrn;injection hb with hb
       injection h1 with h1;injection h2 with h2;injection h3 with h3;injection h4 with h4;injection h5 with h5;injection h6 with h6
       subst hs hln hco hrt hrn hb h1 h2 h3 h4 h5 h6
       refine ⟨⟨s.data.toList,ln,co,ps,lg,rt.data.toList,rn.data.toList,b,rq,es,lo,bd⟩,⟨A1,A2,A3,A4,A5,A6,c1,c2,c3,c4,c5,c6⟩,fun j v hv => ?_,⟨hz,l1,l2,mrt,mrn,l3,l4,l5,l6⟩,r1,r2,r3,r4,r5,r6⟩
       have hj : j < 12:=(Array.getElem?_eq_some_iff.1 hv).1
       rw [cells4_at hc hj]
       unfold prCs at hv
       rw [List.getElem?_toArray] at hv
       exact hv
theorem open_programA {b0 : Nat} {v : Value} {d : DataW H} {p : List MemPlace} (hv : Value.okWide Tryz.prog w .any b0 29 v) (h : DataW.Trod enc Tryz.prog w 0 spare held 29 v d p) :
 ∃ (e : Pg) (g : GAd),v = progV g e ∧ PgOwn w w.heap.size g e:=by
 obtain ⟨cs,rfl,_⟩:=okWide_struct Tryz.underlying29 hv
 obtain ⟨fuel,hf⟩:=h
 have hf : DataW.trod enc Tryz.prog w 0 spare held fuel 29 cs.toList = some (d,p):=by simpa [Value.cells] using hf
 obtain ⟨ys,n,_,hx1,hlen,hyl,hf⟩:=DataW.trod_struct (fs:=_) Tryz.underlying29 hf
 have hlen2 : cs.toList.length = 6:=hlen.trans (by kernel_rfl)
 obtain ⟨us,hus⟩ : ∃ us,us = cs.toList:=⟨_,rfl⟩
 rw [← hus] at hlen2 hf
 have e0:=hf 0 _ rfl
 have e1:=hf 1 _ rfl
 have e2:=hf 2 _ rfl
 have e3:=hf 3 _ rfl
 have e4:=hf 4 _ rfl
 have e5:=hf 5 _ rfl
 match us,hlen2 with
 | [u0,u1,u2,u3,u4,u5],_ =>
   match ys,hyl with
   | [y0,y1,y2,y3,y4,y5],_ =>
     have k1 : Tryz.prog.cellsOf 22 = 1:=by kernel_rfl
     have k2 : Tryz.prog.cellsOf 23 = 1:=by kernel_rfl
     have k3 : Tryz.prog.cellsOf 24 = 1:=by kernel_rfl
     have k4 : Tryz.prog.cellsOf 25 = 1:=by kernel_rfl
     have k5 : Tryz.prog.cellsOf 26 = 1:=by kernel_rfl
     have k6 : Tryz.prog.cellsOf 27 = 1:=by kernel_rfl
     obtain ⟨A0,c0,l0,h0,r0,b0⟩:=open_rows (P:=RcAt) (n:=2) (by decide) Tryz.underlying22 (by kernel_rfl) (fun x fuel cs p h1 h2 => open_record p h1 h2) (x:=y0) (fuel:=n) (cs:=[u0]) (by simpa [k1] using e0)
     obtain ⟨A1,c1,l1,h1,r1,b1⟩:=open_params (x:=y1) (fuel:=n) (cs:=[u1]) (by simpa [k2] using e1)
     obtain ⟨A2,c2,l2,h2,r2,b2⟩:=open_rows (P:=LkAt) (n:=2) (by decide) Tryz.underlying24 (by kernel_rfl) (fun x fuel cs p h1 h2 => open_lock p h1 h2) (x:=y2) (fuel:=n) (cs:=[u2]) (by simpa [k3] using e2)
     obtain ⟨A3,c3,l3,h3,r3,b3⟩:=open_rows (P:=DfAt) (n:=3) (by decide) Tryz.underlying25 (by kernel_rfl) (fun x fuel cs p h1 h2 => open_def p h1 h2) (x:=y3) (fuel:=n) (cs:=[u3]) (by simpa [k4] using e3)
     obtain ⟨A4,c4,l4,h4,r4,b4⟩:=open_rows (P:=LmAt) (n:=8) (by decide) Tryz.underlying26 (by kernel_rfl) (fun x fuel cs p h1 h2 => open_lemma p h1 h2) (x:=y4) (fuel:=n) (cs:=[u4]) (by simpa [k5] using e4)
     obtain ⟨A5,c5,l5,h5,r5,b5⟩:=open_rows (P:=PrAt) (n:=12) (by decide) Tryz.underlying27 (by kernel_rfl) (fun x fuel cs p h1 h2 => open_proc p h1 h2) (x:=y5) (fuel:=n) (cs:=[u5]) (by simpa [k6] using e5)
     injection h0 with h0;injection h1 with h1;injection h2 with h2;injection h3 with h3;injection h4 with h4;injection h5 with h5
     subst h0 h1 h2 h3 h4 h5
     refine ⟨⟨l0,l1,l2,l3,l4,l5⟩,⟨A0,A1,A2,A3,A4,A5,c0,c1,c2,c3,c4,c5⟩,?_,⟨b0,b1,b2,b3,b4,b5⟩,r0,r1,r2,r3,r4,r5⟩
     rw [show cs = #[.slice A0 l0.length c0,.slice A1 l1.length c1,.slice A2 l2.length c2,.slice A3 l3.length c3,.slice A4 l4.length c4,.slice A5 l5.length c5] from by apply Array.toList_inj.1;exact hus.symm]
end Go.Proofs.YtkopbfndfkibbaaGreatDoor
