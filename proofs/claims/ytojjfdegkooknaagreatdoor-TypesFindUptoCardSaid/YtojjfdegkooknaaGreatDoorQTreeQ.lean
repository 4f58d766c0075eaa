import Derived.Test.YtojjfdegkooknaaGreatDoorQTreeB
import Derived.Test.YtojjfdegkooknaaGreatDoorQTreeRp
import Derived.Deep.RegionHeld3
import Derived.Laws.Tables
import Derived.Deep.CutRange
import Derived.Test.YtojjfdegkooknaaGreatDoorQTreeO
set_option linter.unusedVariables false
set_option linter.unusedSimpArgs false
namespace Go.Proofs.YtojjfdegkooknaaGreatDoor
open Go.RowKit
def KeepsV {α : Type} (V : World → Nat → Array Value → α → Prop) : Prop :=
 ∀ (w w' : World) (B B' : Nat) (cs : Array Value) (x : α),(∀ q : Addr,q.block < B → w'.cell? q = w.cell? q) → B ≤ B' → V w B cs x → V w' B' cs x
def RowV {α : Type} (V : World → Nat → Array Value → α → Prop) (n : Nat) (w : World) (B : Nat) (l : List α) (A : Option Addr) : Prop :=
 ∀ (i : Nat) x,l[i]? = some x → ∃ (a : Addr) (cs : Array Value),A = some a ∧ a.block < B ∧ cs.size = n ∧ (∀ (j : Nat) v,cs[j]? = some v → w.cell? ((a.add (i * n)).add j) = some v) ∧ V w B cs x
theorem kept {α : Type} {V : World → Nat → Array Value → α → Prop} (hV : KeepsV V) {w w' : World} (hb : Below w.heap.size w w') {cs : Array Value} {x : α} (h : V w w.heap.size cs x) : V w' w'.heap.size cs x :=
 hV _ _ _ _ _ _ (fun _ hq => hb.cell hq) hb.size h
end Go.Proofs.YtojjfdegkooknaaGreatDoor
namespace Go.Proofs.YtojjfdegkooknaaGreatDoor
open Go.RowKit
section
variable {P : Program} {ops : Array Oper} {Q : Exit → Act → World → Prop} {md : Region.Mode} {S : World → Prop}
theorem anyH_two (i j : Nat) {oi oj : Oper} {k : Nat} {l : Array Bool} {a : Act} {w : World} (hr : Region.ready md ops l = [i,j]) (hoi : ops[i]? = some oi) (hoj : ops[j]? = some oj)
 (hwi : Region.wanted oi (yielded ops a.tmps) = true) (hwj : Region.wanted oj (yielded ops a.tmps) = true)
 (hi : ∀ K : Act → World → Prop,(∀ a w,S w → wpAnyH P md ops Q S k (l.setIfInBounds i true) a w → K a w) → Oper.wp P oi a w K Q)
 (hj : ∀ K : Act → World → Prop,(∀ a w,S w → wpAnyH P md ops Q S k (l.setIfInBounds j true) a w → K a w) → Oper.wp P oj a w K Q) : wpAnyH P md ops Q S (k + 1) l a w:=by
 refine ⟨fun h0 => (by rw [hr] at h0;cases h0),fun n hn => ?_⟩
 rw [hr] at hn
 simp only [List.mem_cons,List.not_mem_nil,or_false] at hn
 rcases hn with rfl | rfl
 ·unfold wpOp
  rw [hoi]
  show if Region.wanted oi (yielded ops a.tmps) = true then _ else _
  rw [if_pos hwi]
  exact .inl (hi _ (fun _ _ h1 h2 => ⟨h1,h2⟩))
 ·unfold wpOp
  rw [hoj]
  show if Region.wanted oj (yielded ops a.tmps) = true then _ else _
  rw [if_pos hwj]
  exact .inl (hj _ (fun _ _ h1 h2 => ⟨h1,h2⟩))
end
theorem Below.setRow {B : Nat} {a w : World} (h : Below B a w) {g : Nat} (hg : B ≤ g) (cs : Array Value) : Below B a (w.setRow g cs) :=
 ⟨h.os,h.tape,h.output,by rw [size_setRow];exact h.size,fun i hi => (setRow_other w g i cs (by omega)).trans (h.block i hi)⟩
theorem store_row {W : World} {b : Nat} {T : TypeId} {zc cs : Array Value} (hb : W.heap[b]? = some (.cells zc T (0,0))) (hsz : zc.size = cs.size) (h1 : cs.all (·.oneCell') = true) :
 (storeCells ⟨b,0,none⟩ cs.toList).run Tryz.prog W = .ok () (W.setRow b cs):=by
 have := run_storeCells_from (P:=Tryz.prog) b T cs.toList 0 zc W hb (by simp [hsz]) (fun v hv => (Array.all_eq_true_iff_forall_mem.1 h1) v (by simpa using hv))
 simpa using this
end Go.Proofs.YtojjfdegkooknaaGreatDoor
namespace Go.Proofs.YtojjfdegkooknaaGreatDoor
open Go.RowKit
-- the cells of each type
def VEx (w : World) (B : Nat) (cs : Array Value) (x : Ex) : Prop :=
 ∃ (k n : Int) (s : List UInt8) (l : List Ex) (A : Option Addr) (c : Nat),x = .mk k n s l ∧ cs = #[.int .i64 k,.int .i64 n,.string ⟨s.toArray⟩,.slice A l.length c] ∧ s.length ≤ maxLen ∧ l.length ≤ maxLen ∧ ExRow w B l A
theorem vex_keeps : KeepsV VEx:=by
 rintro w w' B B' cs x hk hB ⟨k,n,s,l,A,c,h1,h2,h3,h4,h5⟩
 exact ⟨k,n,s,l,A,c,h1,h2,h3,h4,h5.keep hk hB⟩
theorem ExRow.rowV {w : World} {B : Nat} {l : List Ex} {A : Option Addr} (h : ExRow w B l A) : RowV VEx 4 w B l A:=by
 intro i x hi
 obtain ⟨k,n,s,m⟩:=x
 obtain ⟨a,A',c',rfl,hab,c0,c1,c2,c3,h1,h2,h3⟩:=h.at_ hi
 refine ⟨a,#[.int .i64 k,.int .i64 n,.string ⟨s.toArray⟩,.slice A' m.length c'],rfl,hab,rfl,fun j v hv => ?_,k,n,s,m,A',c',rfl,rfl,h1,h2,h3⟩
 match j,hv with
 | 0,hv => rw [← hv];simpa [Addr.add] using c0
 | 1,hv => rw [← hv];exact c1
 | 2,hv => rw [← hv];exact c2
 | 3,hv => rw [← hv];exact c3
 | j + 4,hv => simp at hv
def VCn (w : World) (B : Nat) (cs : Array Value) (x : Cn) : Prop :=
 ∃ (k ak an : Int) (sa : List UInt8) (al : List Ex) (bk bn : Int) (sb : List UInt8) (bl : List Ex) (l : List Cn) (Aa : Option Addr) (ca : Nat) (Ab : Option Addr) (cb : Nat) (Al : Option Addr) (cl : Nat),x = .mk k (.mk ak an sa al) (.mk bk bn sb bl) l ∧
  cs = #[.int .i64 k,.int .i64 ak,.int .i64 an,.string ⟨sa.toArray⟩,.slice Aa al.length ca,.int .i64 bk,.int .i64 bn,.string ⟨sb.toArray⟩,.slice Ab bl.length cb,.slice Al l.length cl] ∧
  (sa.length ≤ maxLen ∧ al.length ≤ maxLen ∧ sb.length ≤ maxLen ∧ bl.length ≤ maxLen ∧ l.length ≤ maxLen) ∧ ExRow w B al Aa ∧ ExRow w B bl Ab ∧ CnRow w B l Al
theorem vcn_keeps : KeepsV VCn:=by
 rintro w w' B B' cs x hk hB ⟨k,ak,an,sa,al,bk,bn,sb,bl,l,Aa,ca,Ab,cb,Al,cl,h1,h2,h3,h4,h5,h6⟩
 exact ⟨k,ak,an,sa,al,bk,bn,sb,bl,l,Aa,ca,Ab,cb,Al,cl,h1,h2,h3,h4.keep hk hB,h5.keep hk hB,h6.keep hk hB⟩
theorem CnRow.rowV {w : World} {B : Nat} {l : List Cn} {A : Option Addr} (h : CnRow w B l A) : RowV VCn 10 w B l A:=by
 intro i x hi
 obtain ⟨k,⟨ak,an,sa,al⟩,⟨bk,bn,sb,bl⟩,m⟩:=x
 obtain ⟨a,Aa,Ca,Ab,Cb,Al,Cl,rfl,hab,hc,b1,b2,b3,b4,b5,ra,rb,rl⟩:=h.at_ hi
 refine ⟨a,#[.int .i64 k,.int .i64 ak,.int .i64 an,.string ⟨sa.toArray⟩,.slice Aa al.length Ca,.int .i64 bk,.int .i64 bn,.string ⟨sb.toArray⟩,.slice Ab bl.length Cb,.slice Al m.length Cl],rfl,hab,rfl,fun j v hv => ?_,
  k,ak,an,sa,al,bk,bn,sb,bl,m,Aa,Ca,Ab,Cb,Al,Cl,rfl,rfl,⟨b1,b2,b3,b4,b5⟩,ra,rb,rl⟩
 match j,hv with
 | 0,hv => rw [← hv];simpa [Addr.add] using hc.c0
 | 1,hv => rw [← hv];exact hc.c1
 | 2,hv => rw [← hv];exact hc.c2
 | 3,hv => rw [← hv];exact hc.c3
 | 4,hv => rw [← hv];exact hc.c4
 | 5,hv => rw [← hv];exact hc.c5
 | 6,hv => rw [← hv];exact hc.c6
 | 7,hv => rw [← hv];exact hc.c7
 | 8,hv => rw [← hv];exact hc.c8
 | 9,hv => rw [← hv];exact hc.c9
 | j + 10,hv => simp at hv
def VPm (_ : World) (_ : Nat) (cs : Array Value) (x : Pm) : Prop:=cs = #[.string ⟨x.t.toArray⟩,.string ⟨x.nm.toArray⟩] ∧ x.t.length ≤ maxLen ∧ x.nm.length ≤ maxLen
theorem vpm_keeps : KeepsV VPm:=fun _ _ _ _ _ _ _ _ h => h
theorem pm_rowV {w : World} {B : Nat} {l : List Pm} {A : Option Addr} (h : PmRow w B l A) : RowV VPm 2 w B l A:=by
 intro i x hi
 obtain ⟨a,rfl,hab,c0,c1,h1,h2⟩:=h.at_ hi
 refine ⟨a,#[.string ⟨x.t.toArray⟩,.string ⟨x.nm.toArray⟩],rfl,hab,rfl,fun j v hv => ?_,rfl,h1,h2⟩
 match j,hv with
 | 0,hv => rw [← hv];simpa [Addr.add] using c0
 | 1,hv => rw [← hv];exact c1
 | j + 2,hv => simp at hv
def VAt (w : World) (B : Nat) (cs : Array Value) (x : At) : Prop :=
 ∃ (ak an : Int) (sa : List UInt8) (al : List Ex) (bk bn : Int) (sb : List UInt8) (bl : List Ex) (Aa : Option Addr) (ca : Nat) (Ab : Option Addr) (cb : Nat),x.a = .mk ak an sa al ∧ x.b = .mk bk bn sb bl ∧
  cs = #[.int .i64 x.k,.int .i64 ak,.int .i64 an,.string ⟨sa.toArray⟩,.slice Aa al.length ca,.int .i64 bk,.int .i64 bn,.string ⟨sb.toArray⟩,.slice Ab bl.length cb] ∧
  (sa.length ≤ maxLen ∧ al.length ≤ maxLen ∧ sb.length ≤ maxLen ∧ bl.length ≤ maxLen) ∧ ExRow w B al Aa ∧ ExRow w B bl Ab
theorem vat_keeps : KeepsV VAt:=by
 rintro w w' B B' cs x hk hB ⟨ak,an,sa,al,bk,bn,sb,bl,Aa,ca,Ab,cb,h1,h2,h3,h4,h5,h6⟩
 exact ⟨ak,an,sa,al,bk,bn,sb,bl,Aa,ca,Ab,cb,h1,h2,h3,h4,h5.keep hk hB,h6.keep hk hB⟩
theorem at_rowV {w : World} {B : Nat} {l : List At} {A : Option Addr} (h : AtRow w B l A) : RowV VAt 9 w B l A:=by
 intro i x hi
 obtain ⟨a,rfl,hab,ak,an,sa,al,bk,bn,sb,bl,Aa,ca,Ab,cb,h1,h2,hc,h3,h4,h5⟩:=h.at_ hi
 refine ⟨a,#[.int .i64 x.k,.int .i64 ak,.int .i64 an,.string ⟨sa.toArray⟩,.slice Aa al.length ca,.int .i64 bk,.int .i64 bn,.string ⟨sb.toArray⟩,.slice Ab bl.length cb],rfl,hab,rfl,fun j v hv => ?_,
  ak,an,sa,al,bk,bn,sb,bl,Aa,ca,Ab,cb,h1,h2,rfl,h3,h4,h5⟩
 match j,hv with
 | 0,hv => rw [← hv];simpa [Addr.add] using hc.c0
 | 1,hv => rw [← hv];exact hc.c1
 | 2,hv => rw [← hv];exact hc.c2
 | 3,hv => rw [← hv];exact hc.c3
 | 4,hv => rw [← hv];exact hc.c4
 | 5,hv => rw [← hv];exact hc.c5
 | 6,hv => rw [← hv];exact hc.c6
 | 7,hv => rw [← hv];exact hc.c7
 | 8,hv => rw [← hv];exact hc.c8
 | j + 9,hv => simp at hv
def VCl (w : World) (B : Nat) (cs : Array Value) (x : Cl) : Prop :=
 ∃ (A : Option Addr) (c : Nat),cs = #[.int .i64 x.k,.string ⟨x.nm.toArray⟩,.slice A x.l.length c] ∧ x.nm.length ≤ maxLen ∧ x.l.length ≤ maxLen ∧ ExRow w B x.l A ∧ x.l.length ≤ c
theorem vcl_keeps : KeepsV VCl:=by
 rintro w w' B B' cs x hk hB ⟨A,c,h1,h2,h3,h4,h5⟩
 exact ⟨A,c,h1,h2,h3,h4.keep hk hB,h5⟩
theorem cl_rowV {w : World} {B : Nat} {l : List Cl} {A : Option Addr} (h : ClRow w B l A) : RowV VCl 3 w B l A:=by
 intro i x hi
 obtain ⟨a,rfl,hab,A',c,c0,c1,c2,h1,h2,h3,h4⟩:=h.at_ hi
 refine ⟨a,#[.int .i64 x.k,.string ⟨x.nm.toArray⟩,.slice A' x.l.length c],rfl,hab,rfl,fun j v hv => ?_,A',c,rfl,h1,h2,h3,h4⟩
 match j,hv with
 | 0,hv => rw [← hv];simpa [Addr.add] using c0
 | 1,hv => rw [← hv];exact c1
 | 2,hv => rw [← hv];exact c2
 | j + 3,hv => simp at hv
def VCal (w : World) (B : Nat) (cs : Array Value) (x : Cal) : Prop :=
 ∃ (A : Option Addr) (c : Nat),cs = #[.string ⟨x.r.toArray⟩,.string ⟨x.p.toArray⟩,.slice A x.l.length c] ∧ x.r.length ≤ maxLen ∧ x.p.length ≤ maxLen ∧ x.l.length ≤ maxLen ∧ ExRow w B x.l A
theorem vcal_keeps : KeepsV VCal:=by
 rintro w w' B B' cs x hk hB ⟨A,c,h1,h2,h3,h4,h5⟩
 exact ⟨A,c,h1,h2,h3,h4,h5.keep hk hB⟩
theorem cal_rowV {w : World} {B : Nat} {l : List Cal} {A : Option Addr} (h : CalRow w B l A) : RowV VCal 3 w B l A:=by
 intro i x hi
 obtain ⟨a,rfl,hab,A',c,c0,c1,c2,h1,h2,h3,h4⟩:=h.at_ hi
 refine ⟨a,#[.string ⟨x.r.toArray⟩,.string ⟨x.p.toArray⟩,.slice A' x.l.length c],rfl,hab,rfl,fun j v hv => ?_,A',c,rfl,h1,h2,h3,h4⟩
 match j,hv with
 | 0,hv => rw [← hv];simpa [Addr.add] using c0
 | 1,hv => rw [← hv];exact c1
 | 2,hv => rw [← hv];exact c2
 | j + 3,hv => simp at hv
def VFm (w : World) (B : Nat) (cs : Array Value) (x : Fm) : Prop :=
 ∃ d : FAd,cs = #[.slice d.p x.ps.length d.np,.slice d.a x.ats.length d.na,.slice d.c x.cls.length d.nc] ∧ FmOwn w B d x
theorem vfm_keeps : KeepsV VFm:=by
 rintro w w' B B' cs x hk hB ⟨d,h1,h2⟩
 exact ⟨d,h1,h2.keep hk hB⟩
theorem fm_rowV {w : World} {B : Nat} {l : List Fm} {A : Option Addr} (h : FmRow w B l A) : RowV VFm 3 w B l A:=by
 intro i x hi
 obtain ⟨a,rfl,hab,Ap,cp,Aa,ca,Ac,cc,c0,c1,c2,h1,h2,h3,h4⟩:=h.at_ hi
 refine ⟨a,#[.slice Ap x.ps.length cp,.slice Aa x.ats.length ca,.slice Ac x.cls.length cc],rfl,hab,rfl,fun j v hv => ?_,⟨Ap,Aa,Ac,cp,ca,cc⟩,rfl,h1,h2,h3,h4⟩
 match j,hv with
 | 0,hv => rw [← hv];simpa [Addr.add] using c0
 | 1,hv => rw [← hv];exact c1
 | 2,hv => rw [← hv];exact c2
 | j + 3,hv => simp at hv
def VSt (w : World) (B : Nat) (cs : Array Value) (x : St) : Prop :=
 ∃ d : SAd,cs = stCs d x ∧ StOwn w B d x ∧ StRow w B x.body d.s ∧ StRow w B x.els d.t
theorem StRow.rowV {w : World} {B : Nat} {l : List St} {A : Option Addr} (h : StRow w B l A) : RowV VSt 24 w B l A:=by
 intro i x hi
 obtain ⟨a,d,rfl,hab,hc,h1,h2,h3⟩:=h.at_ hi
 exact ⟨a,stCs d x,rfl,hab,stCs_size d x,hc,d,rfl,h1,h2,h3⟩
def VRc (w : World) (B : Nat) (cs : Array Value) (x : Rc) : Prop :=
 ∃ (A : Option Addr) (c : Nat),cs = #[.string ⟨x.nm.toArray⟩,.slice A x.fs.length c] ∧ x.nm.length ≤ maxLen ∧ x.fs.length ≤ maxLen ∧ PmRow w B x.fs A
theorem vrc_keeps : KeepsV VRc:=by
 rintro w w' B B' cs x hk hB ⟨A,c,h1,h2,h3,h4⟩
 exact ⟨A,c,h1,h2,h3,h4.keep pm_keeps hk hB⟩
theorem rc_rowV {w : World} {B : Nat} {l : List Rc} {A : Option Addr} (h : RcRow w B l A) : RowV VRc 2 w B l A:=by
 intro i x hi
 obtain ⟨a,rfl,hab,A',c,c0,c1,h1,h2,h3⟩:=h.at_ hi
 refine ⟨a,#[.string ⟨x.nm.toArray⟩,.slice A' x.fs.length c],rfl,hab,rfl,fun j v hv => ?_,A',c,rfl,h1,h2,h3⟩
 match j,hv with
 | 0,hv => rw [← hv];simpa [Addr.add] using c0
 | 1,hv => rw [← hv];exact c1
 | j + 2,hv => simp at hv
def VLk (w : World) (B : Nat) (cs : Array Value) (x : Lk) : Prop :=
 ∃ (A : Option Addr) (c : Nat),cs = #[.string ⟨x.nm.toArray⟩,.slice A x.iv.length c] ∧ x.nm.length ≤ maxLen ∧ x.iv.length ≤ maxLen ∧ FmRow w B x.iv A
theorem vlk_keeps : KeepsV VLk:=by
 rintro w w' B B' cs x hk hB ⟨A,c,h1,h2,h3,h4⟩
 exact ⟨A,c,h1,h2,h3,h4.keep fm_keeps hk hB⟩
theorem lk_rowV {w : World} {B : Nat} {l : List Lk} {A : Option Addr} (h : LkRow w B l A) : RowV VLk 2 w B l A:=by
 intro i x hi
 obtain ⟨a,rfl,hab,A',c,c0,c1,h1,h2,h3⟩:=h.at_ hi
 refine ⟨a,#[.string ⟨x.nm.toArray⟩,.slice A' x.iv.length c],rfl,hab,rfl,fun j v hv => ?_,A',c,rfl,h1,h2,h3⟩
 match j,hv with
 | 0,hv => rw [← hv];simpa [Addr.add] using c0
 | 1,hv => rw [← hv];exact c1
 | j + 2,hv => simp at hv
def VDf (w : World) (B : Nat) (cs : Array Value) (x : Df) : Prop :=
 ∃ (A : Option Addr) (c : Nat) (A2 : Option Addr) (c2 : Nat),cs = #[.string ⟨x.nm.toArray⟩,.slice A x.ps.length c,.slice A2 x.cs.length c2] ∧ x.nm.length ≤ maxLen ∧ x.ps.length ≤ maxLen ∧ x.cs.length ≤ maxLen ∧ PmRow w B x.ps A ∧ FmRow w B x.cs A2
theorem vdf_keeps : KeepsV VDf:=by
 rintro w w' B B' cs x hk hB ⟨A,c,A2,c2,h1,h2,h3,h4,h5,h6⟩
 exact ⟨A,c,A2,c2,h1,h2,h3,h4,h5.keep pm_keeps hk hB,h6.keep fm_keeps hk hB⟩
theorem df_rowV {w : World} {B : Nat} {l : List Df} {A : Option Addr} (h : DfRow w B l A) : RowV VDf 3 w B l A:=by
 intro i x hi
 obtain ⟨a,rfl,hab,A',c,A2,e,c0,c1,c2,h1,h2,h3,h4,h5⟩:=h.at_ hi
 refine ⟨a,#[.string ⟨x.nm.toArray⟩,.slice A' x.ps.length c,.slice A2 x.cs.length e],rfl,hab,rfl,fun j v hv => ?_,A',c,A2,e,rfl,h1,h2,h3,h4,h5⟩
 match j,hv with
 | 0,hv => rw [← hv];simpa [Addr.add] using c0
 | 1,hv => rw [← hv];exact c1
 | 2,hv => rw [← hv];exact c2
 | j + 3,hv => simp at hv
def VLm (w : World) (B : Nat) (cs : Array Value) (x : Lm) : Prop :=
 ∃ (A : Option Addr) (c : Nat) (d e : FAd),cs = lmCs A c d e x ∧ x.nm.length ≤ maxLen ∧ x.ps.length ≤ maxLen ∧ PmRow w B x.ps A ∧ FmOwn w B d x.lf ∧ FmOwn w B e x.rt
theorem vlm_keeps : KeepsV VLm:=by
 rintro w w' B B' cs x hk hB ⟨A,c,d,e,h1,h2,h3,h4,h5,h6⟩
 exact ⟨A,c,d,e,h1,h2,h3,h4.keep pm_keeps hk hB,h5.keep hk hB,h6.keep hk hB⟩
theorem lm_rowV {w : World} {B : Nat} {l : List Lm} {A : Option Addr} (h : LmRow w B l A) : RowV VLm 8 w B l A:=by
 intro i x hi
 obtain ⟨a,rfl,hab,A',c,d,e,hc,h1,h2,h3,h4,h5⟩:=h.at_ hi
 exact ⟨a,lmCs A' c d e x,rfl,hab,rfl,hc,A',c,d,e,rfl,h1,h2,h3,h4,h5⟩
def VPr (w : World) (B : Nat) (cs : Array Value) (x : Pr) : Prop:=∃ d : PAd,cs = prCs d x ∧ PrOwn w B d x
theorem vpr_keeps : KeepsV VPr:=by
 rintro w w' B B' cs x hk hB ⟨d,h1,h2⟩
 exact ⟨d,h1,h2.keep hk hB⟩
theorem pr_rowV {w : World} {B : Nat} {l : List Pr} {A : Option Addr} (h : PrRow w B l A) : RowV VPr 12 w B l A:=by
 intro i x hi
 obtain ⟨a,rfl,hab,d,hc,h1⟩:=h.at_ hi
 exact ⟨a,prCs d x,rfl,hab,rfl,hc,d,rfl,h1⟩
-- statements and programs,apart from places
end Go.Proofs.YtojjfdegkooknaaGreatDoor
