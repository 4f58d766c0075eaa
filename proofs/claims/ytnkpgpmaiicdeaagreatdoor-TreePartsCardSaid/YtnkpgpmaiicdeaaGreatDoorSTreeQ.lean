/-
  Equality of trees: plain words. Lists whose elements correspond; rows of memory whose elements are told by their cells; contracts of functions that compare.
  Equality of trees: the cells of each type, and its rows; statements and programs apart from places.
-/
import Derived.Test.YtnkpgpmaiicdeaaGreatDoorSTreeB
import Derived.Test.YtnkpgpmaiicdeaaGreatDoorSTreeRp
import Derived.Deep.RegionHeld3
import Derived.Laws.Tables
import Derived.Deep.CutRange
import Derived.Test.YtnkpgpmaiicdeaaGreatDoorSTreeO
set_option linter.unusedVariables false
set_option linter.unusedSimpArgs false
namespace Go.Proofs.YtnkpgpmaiicdeaaGreatDoor
open Go.RowKit
theorem boolOf (P : Prop) : ∃ b : Bool,b = true ↔ P:=by
 by_cases h : P
 ·exact ⟨true,by simp [h]⟩
 ·exact ⟨false,by simp [h]⟩
def All2 {α : Type} (R : α → α → Prop) (l m : List α) : Prop:=l.length = m.length ∧ ∀ (i : Nat) x y,l[i]? = some x → m[i]? = some y → R x y
theorem all2_eq {α : Type} (l m : List α) : All2 (fun x y => x = y) l m ↔ l = m:=by
 constructor
 ·rintro ⟨h1,h2⟩
  refine List.ext_getElem h1 (fun i h3 h4 => h2 i _ _ (List.getElem?_eq_getElem h3) (List.getElem?_eq_getElem h4))
 ·rintro rfl
  exact ⟨rfl,fun i x y hx hy => Option.some.inj (hx.symm.trans hy)⟩
theorem all2_nil {α : Type} (R : α → α → Prop) : All2 R [] []:=⟨rfl,fun i x y hx => by simp at hx⟩
theorem all2_cons {α : Type} (R : α → α → Prop) (x y : α) (l m : List α) : All2 R (x :: l) (y :: m) ↔ R x y ∧ All2 R l m:=by
 constructor
 ·rintro ⟨h1,h2⟩
  exact ⟨h2 0 x y rfl rfl,by simpa using h1,fun i x' y' hx hy => h2 (i + 1) x' y' hx hy⟩
 ·rintro ⟨h0,h1,h2⟩
  refine ⟨by simpa using h1,fun i x' y' hx hy => ?_⟩
  match i,hx,hy with
  | 0,hx,hy =>
    obtain rfl:=Option.some.inj hx
    obtain rfl:=Option.some.inj hy
    exact h0
  | i + 1,hx,hy => exact h2 i x' y' hx hy
def KeepsV {α : Type} (V : World → Nat → Array Value → α → Prop) : Prop :=
 ∀ (w w' : World) (B B' : Nat) (cs : Array Value) (x : α),(∀ q : Addr,q.block < B → w'.cell? q = w.cell? q) → B ≤ B' → V w B cs x → V w' B' cs x
def RowV {α : Type} (V : World → Nat → Array Value → α → Prop) (n : Nat) (w : World) (B : Nat) (l : List α) (A : Option Addr) : Prop :=
 ∀ (i : Nat) x,l[i]? = some x → ∃ (a : Addr) (cs : Array Value),A = some a ∧ a.block < B ∧ cs.size = n ∧ (∀ (j : Nat) v,cs[j]? = some v → w.cell? ((a.add (i * n)).add j) = some v) ∧ V w B cs x
def EqAt {α : Type} (F : Nat) (V : World → Nat → Array Value → α → Prop) (R : α → α → Prop) (x y : α) : Prop :=
 ∀ (cs ds : Array Value) (w : World) (r : Bool),V w w.heap.size cs x → V w w.heap.size ds y → (r = true ↔ R x y) → Calls Tryz.prog F #[.agg cs,.agg ds] w fun e w' => e = .returned (.bool r) ∧ Below w.heap.size w w'
def EqRow {α : Type} (F : Nat) (ex : Array Value) (P : World → Nat → List α → Option Addr → Prop) (R : List α → List α → Prop) (l m : List α) : Prop :=
 ∀ (A B : Option Addr) (ca cb : Nat) (w : World) (r : Bool),l.length ≤ maxLen → m.length ≤ maxLen → P w w.heap.size l A → P w w.heap.size m B → (r = true ↔ R l m) →
  Calls Tryz.prog F (#[.slice A l.length ca,.slice B m.length cb] ++ ex) w fun e w' => e = .returned (.bool r) ∧ Below w.heap.size w w'
theorem kept {α : Type} {V : World → Nat → Array Value → α → Prop} (hV : KeepsV V) {w w' : World} (hb : Below w.heap.size w w') {cs : Array Value} {x : α} (h : V w w.heap.size cs x) : V w' w'.heap.size cs x :=
 hV _ _ _ _ _ _ (fun _ hq => hb.cell hq) hb.size h
end Go.Proofs.YtnkpgpmaiicdeaaGreatDoor
namespace Go.Proofs.YtnkpgpmaiicdeaaGreatDoor
open Go.RowKit
section
variable {P : Program} {ops : Array Oper} {Q : Exit → Act → World → Prop} {md : Region.Mode} {S : World → Prop}
theorem anyH_two (i j : Nat) {oi oj : Oper} {k : Nat} {l : Array Bool} {a : Act} {w : World} (hr : Region.ready md ops l = [i,j]) (hoi : ops[i]? = some oi) (hoj : ops[j]? = some oj)
 (hwi : Region.wanted oi (yielded ops a.tmps) = true) (hwj : Region.wanted oj (yielded ops a.tmps) = true)
 (hi : ∀ K : Act → World → Prop,(∀ a w,S w → wpAnyH P md ops Q S k (l.setIfInBounds i true) a w → K a w) → Oper.wp P oi a w K Q)
 (hj : ∀ K : Act → World → Prop,(∀ a w,S w → wpAnyH P md ops Q S k (l.setIfInBounds j true) a w → K a w) → Oper.wp P oj a w K Q) : wpAnyH P md ops Q S (k + 1) l a w:=by
 refine ⟨fun h0 => (by rw [hr] at h0;cases h0),fun n hn => ?_⟩
 rw [hr] at hn
 simp only [List.mem_cons,List.not_mem_nil,or_false] at hn
 rcases hn with rfl | rfl
 ·unfold wpOp
  rw [hoi]
  show if Region.wanted oi (yielded ops a.tmps) = true then _ else _
  rw [if_pos hwi]
  exact .inl (hi _ (fun _ _ h1 h2 => ⟨h1,h2⟩))
 ·unfold wpOp
  rw [hoj]
  show if Region.wanted oj (yielded ops a.tmps) = true then _ else _
  rw [if_pos hwj]
  exact .inl (hj _ (fun _ _ h1 h2 => ⟨h1,h2⟩))
end
def TwoBox (wr : World) (T : TypeId) (cs ds : Array Value) (v6 v7 : Value) (wx : World) : Prop :=
 ∃ (b c : Nat) (W : World),W = wx ∧ v6 = .pointer (some ⟨b,0,none⟩) ∧ v7 = .pointer (some ⟨c,0,none⟩) ∧ W.heap[b]? = some (.cells cs T (0,0)) ∧ W.heap[c]? = some (.cells ds T (0,0)) ∧ Below wr.heap.size wr W
theorem Below.setRow {B : Nat} {a w : World} (h : Below B a w) {g : Nat} (hg : B ≤ g) (cs : Array Value) : Below B a (w.setRow g cs) :=
 ⟨h.os,h.tape,h.output,by rw [size_setRow];exact h.size,fun i hi => (setRow_other w g i cs (by omega)).trans (h.block i hi)⟩
theorem store_row {W : World} {b : Nat} {T : TypeId} {zc cs : Array Value} (hb : W.heap[b]? = some (.cells zc T (0,0))) (hsz : zc.size = cs.size) (h1 : cs.all (·.oneCell') = true) :
 (storeCells ⟨b,0,none⟩ cs.toList).run Tryz.prog W = .ok () (W.setRow b cs):=by
 have := run_storeCells_from (P:=Tryz.prog) b T cs.toList 0 zc W hb (by simp [hsz]) (fun v hv => (Array.all_eq_true_iff_forall_mem.1 h1) v (by simpa using hv))
 simpa using this
theorem two_first {W : World} {T : TypeId} {zc cs ds : Array Value} {b c : Nat} (hb : W.heap[b]? = some (.cells zc T (0,0))) (hc : W.heap[c]? = some (.cells zc T (0,0))) (hbc : b ≠ c) :
 ((W.setRow b cs).setRow c ds).heap[b]? = some (.cells cs T (0,0)) ∧ ((W.setRow b cs).setRow c ds).heap[c]? = some (.cells ds T (0,0)) ∧ (W.setRow b cs).heap[c]? = some (.cells zc T (0,0)):=by
 have h1:=setRow_heap W b zc cs T (0,0) hb
 have h2 : (W.setRow b cs).heap[c]? = some (.cells zc T (0,0)):=(setRow_other W b c cs (Ne.symm hbc)).trans hc
 exact ⟨(setRow_other _ c b ds hbc).trans h1,setRow_heap _ c zc ds T (0,0) h2,h2⟩
end Go.Proofs.YtnkpgpmaiicdeaaGreatDoor
namespace Go.Proofs.YtnkpgpmaiicdeaaGreatDoor
open Go.RowKit
-- the cells of each type
def VEx (w : World) (B : Nat) (cs : Array Value) (x : Ex) : Prop :=
 ∃ (k n : Int) (s : List UInt8) (l : List Ex) (A : Option Addr) (c : Nat),x = .mk k n s l ∧ cs = #[.int .i64 k,.int .i64 n,.string ⟨s.toArray⟩,.slice A l.length c] ∧ s.length ≤ maxLen ∧ l.length ≤ maxLen ∧ ExRow w B l A
theorem vex_keeps : KeepsV VEx:=by
 rintro w w' B B' cs x hk hB ⟨k,n,s,l,A,c,h1,h2,h3,h4,h5⟩
 exact ⟨k,n,s,l,A,c,h1,h2,h3,h4,h5.keep hk hB⟩
theorem ExRow.rowV {w : World} {B : Nat} {l : List Ex} {A : Option Addr} (h : ExRow w B l A) : RowV VEx 4 w B l A:=by
 intro i x hi
 obtain ⟨k,n,s,m⟩:=x
 obtain ⟨a,A',c',rfl,hab,c0,c1,c2,c3,h1,h2,h3⟩:=h.at_ hi
 refine ⟨a,#[.int .i64 k,.int .i64 n,.string ⟨s.toArray⟩,.slice A' m.length c'],rfl,hab,rfl,fun j v hv => ?_,k,n,s,m,A',c',rfl,rfl,h1,h2,h3⟩
 match j,hv with
 | 0,hv => rw [← hv];simpa [Addr.add] using c0
 | 1,hv => rw [← hv];exact c1
 | 2,hv => rw [← hv];exact c2
 | 3,hv => rw [← hv];exact c3
 | j + 4,hv => simp at hv
def VCn (w : World) (B : Nat) (cs : Array Value) (x : Cn) : Prop :=
 ∃ (k ak an : Int) (sa : List UInt8) (al : List Ex) (bk bn : Int) (sb : List UInt8) (bl : List Ex) (l : List Cn) (Aa : Option Addr) (ca : Nat) (Ab : Option Addr) (cb : Nat) (Al : Option Addr) (cl : Nat),x = .mk k (.mk ak an sa al) (.mk bk bn sb bl) l ∧
  cs = #[.int .i64 k,.int .i64 ak,.int .i64 an,.string ⟨sa.toArray⟩,.slice Aa al.length ca,.int .i64 bk,.int .i64 bn,.string ⟨sb.toArray⟩,.slice Ab bl.length cb,.slice Al l.length cl] ∧
  (sa.length ≤ maxLen ∧ al.length ≤ maxLen ∧ sb.length ≤ maxLen ∧ bl.length ≤ maxLen ∧ l.length ≤ maxLen) ∧ ExRow w B al Aa ∧ ExRow w B bl Ab ∧ CnRow w B l Al
theorem vcn_keeps : KeepsV VCn:=by
 rintro w w' B B' cs x hk hB ⟨k,ak,an,sa,al,bk,bn,sb,bl,l,Aa,ca,Ab,cb,Al,cl,h1,h2,h3,h4,h5,h6⟩
 exact ⟨k,ak,an,sa,al,bk,bn,sb,bl,l,Aa,ca,Ab,cb,Al,cl,h1,h2,h3,h4.keep hk hB,h5.keep hk hB,h6.keep hk hB⟩
theorem CnRow.rowV {w : World} {B : Nat} {l : List Cn} {A : Option Addr} (h : CnRow w B l A) : RowV VCn 10 w B l A:=by
 intro i x hi
 obtain ⟨k,⟨ak,an,sa,al⟩,⟨bk,bn,sb,bl⟩,m⟩:=x
 obtain ⟨a,Aa,Ca,Ab,Cb,Al,Cl,rfl,hab,hc,b1,b2,b3,b4,b5,ra,rb,rl⟩:=h.at_ hi
 refine ⟨a,#[.int .i64 k,.int .i64 ak,.int .i64 an,.string ⟨sa.toArray⟩,.slice Aa al.length Ca,.int .i64 bk,.int .i64 bn,.string ⟨sb.toArray⟩,.slice Ab bl.length Cb,.slice Al m.length Cl],rfl,hab,rfl,fun j v hv => ?_,
  k,ak,an,sa,al,bk,bn,sb,bl,m,Aa,Ca,Ab,Cb,Al,Cl,rfl,rfl,⟨b1,b2,b3,b4,b5⟩,ra,rb,rl⟩
 match j,hv with
 | 0,hv => rw [← hv];simpa [Addr.add] using hc.c0
 | 1,hv => rw [← hv];exact hc.c1
 | 2,hv => rw [← hv];exact hc.c2
 | 3,hv => rw [← hv];exact hc.c3
 | 4,hv => rw [← hv];exact hc.c4
 | 5,hv => rw [← hv];exact hc.c5
 | 6,hv => rw [← hv];exact hc.c6
 | 7,hv => rw [← hv];exact hc.c7
 | 8,hv => rw [← hv];exact hc.c8
 | 9,hv => rw [← hv];exact hc.c9
 | j + 10,hv => simp at hv
def VPm (_ : World) (_ : Nat) (cs : Array Value) (x : Pm) : Prop:=cs = #[.string ⟨x.t.toArray⟩,.string ⟨x.nm.toArray⟩] ∧ x.t.length ≤ maxLen ∧ x.nm.length ≤ maxLen
theorem vpm_keeps : KeepsV VPm:=fun _ _ _ _ _ _ _ _ h => h
theorem pm_rowV {w : World} {B : Nat} {l : List Pm} {A : Option Addr} (h : PmRow w B l A) : RowV VPm 2 w B l A:=by
 intro i x hi
 obtain ⟨a,rfl,hab,c0,c1,h1,h2⟩:=h.at_ hi
 refine ⟨a,#[.string ⟨x.t.toArray⟩,.string ⟨x.nm.toArray⟩],rfl,hab,rfl,fun j v hv => ?_,rfl,h1,h2⟩
 match j,hv with
 | 0,hv => rw [← hv];simpa [Addr.add] using c0
 | 1,hv => rw [← hv];exact c1
 | j + 2,hv => simp at hv
def VAt (w : World) (B : Nat) (cs : Array Value) (x : At) : Prop :=
 ∃ (ak an : Int) (sa : List UInt8) (al : List Ex) (bk bn : Int) (sb : List UInt8) (bl : List Ex) (Aa : Option Addr) (ca : Nat) (Ab : Option Addr) (cb : Nat),x.a = .mk ak an sa al ∧ x.b = .mk bk bn sb bl ∧
  cs = #[.int .i64 x.k,.int .i64 ak,.int .i64 an,.string ⟨sa.toArray⟩,.slice Aa al.length ca,.int .i64 bk,.int .i64 bn,.string ⟨sb.toArray⟩,.slice Ab bl.length cb] ∧
  (sa.length ≤ maxLen ∧ al.length ≤ maxLen ∧ sb.length ≤ maxLen ∧ bl.length ≤ maxLen) ∧ ExRow w B al Aa ∧ ExRow w B bl Ab
theorem vat_keeps : KeepsV VAt:=by
 rintro w w' B B' cs x hk hB ⟨ak,an,sa,al,bk,bn,sb,bl,Aa,ca,Ab,cb,h1,h2,h3,h4,h5,h6⟩
 exact ⟨ak,an,sa,al,bk,bn,sb,bl,Aa,ca,Ab,cb,h1,h2,h3,h4,h5.keep hk hB,h6.keep hk hB⟩
theorem at_rowV {w : World} {B : Nat} {l : List At} {A : Option Addr} (h : AtRow w B l A) : RowV VAt 9 w B l A:=by
 intro i x hi
 obtain ⟨a,rfl,hab,ak,an,sa,al,bk,bn,sb,bl,Aa,ca,Ab,cb,h1,h2,hc,h3,h4,h5⟩:=h.at_ hi
 refine ⟨a,#[.int .i64 x.k,.int .i64 ak,.int .i64 an,.string ⟨sa.toArray⟩,.slice Aa al.length ca,.int .i64 bk,.int .i64 bn,.string ⟨sb.toArray⟩,.slice Ab bl.length cb],rfl,hab,rfl,fun j v hv => ?_,
  ak,an,sa,al,bk,bn,sb,bl,Aa,ca,Ab,cb,h1,h2,rfl,h3,h4,h5⟩
 match j,hv with
 | 0,hv => rw [← hv];simpa [Addr.add] using hc.c0
 | 1,hv => rw [← hv];exact hc.c1
 | 2,hv => rw [← hv];exact hc.c2
 | 3,hv => rw [← hv];exact hc.c3
 | 4,hv => rw [← hv];exact hc.c4
 | 5,hv => rw [← hv];exact hc.c5
 | 6,hv => rw [← hv];exact hc.c6
 | 7,hv => rw [← hv];exact hc.c7
 | 8,hv => rw [← hv];exact hc.c8
 | j + 9,hv => simp at hv
def VCl (w : World) (B : Nat) (cs : Array Value) (x : Cl) : Prop :=
 ∃ (A : Option Addr) (c : Nat),cs = #[.int .i64 x.k,.string ⟨x.nm.toArray⟩,.slice A x.l.length c] ∧ x.nm.length ≤ maxLen ∧ x.l.length ≤ maxLen ∧ ExRow w B x.l A
theorem vcl_keeps : KeepsV VCl:=by
 rintro w w' B B' cs x hk hB ⟨A,c,h1,h2,h3,h4⟩
 exact ⟨A,c,h1,h2,h3,h4.keep hk hB⟩
theorem cl_rowV {w : World} {B : Nat} {l : List Cl} {A : Option Addr} (h : ClRow w B l A) : RowV VCl 3 w B l A:=by
 intro i x hi
 obtain ⟨a,rfl,hab,A',c,c0,c1,c2,h1,h2,h3⟩:=h.at_ hi
 refine ⟨a,#[.int .i64 x.k,.string ⟨x.nm.toArray⟩,.slice A' x.l.length c],rfl,hab,rfl,fun j v hv => ?_,A',c,rfl,h1,h2,h3⟩
 match j,hv with
 | 0,hv => rw [← hv];simpa [Addr.add] using c0
 | 1,hv => rw [← hv];exact c1
 | 2,hv => rw [← hv];exact c2
 | j + 3,hv => simp at hv
def VCal (w : World) (B : Nat) (cs : Array Value) (x : Cal) : Prop :=
 ∃ (A : Option Addr) (c : Nat),cs = #[.string ⟨x.r.toArray⟩,.string ⟨x.p.toArray⟩,.slice A x.l.length c] ∧ x.r.length ≤ maxLen ∧ x.p.length ≤ maxLen ∧ x.l.length ≤ maxLen ∧ ExRow w B x.l A
theorem vcal_keeps : KeepsV VCal:=by
 rintro w w' B B' cs x hk hB ⟨A,c,h1,h2,h3,h4,h5⟩
 exact ⟨A,c,h1,h2,h3,h4,h5.keep hk hB⟩
theorem cal_rowV {w : World} {B : Nat} {l : List Cal} {A : Option Addr} (h : CalRow w B l A) : RowV VCal 3 w B l A:=by
 intro i x hi
 obtain ⟨a,rfl,hab,A',c,c0,c1,c2,h1,h2,h3,h4⟩:=h.at_ hi
 refine ⟨a,#[.string ⟨x.r.toArray⟩,.string ⟨x.p.toArray⟩,.slice A' x.l.length c],rfl,hab,rfl,fun j v hv => ?_,A',c,rfl,h1,h2,h3,h4⟩
 match j,hv with
 | 0,hv => rw [← hv];simpa [Addr.add] using c0
 | 1,hv => rw [← hv];exact c1
 | 2,hv => rw [← hv];exact c2
 | j + 3,hv => simp at hv
def VFm (w : World) (B : Nat) (cs : Array Value) (x : Fm) : Prop :=
 ∃ d : FAd,cs = #[.slice d.p x.ps.length d.np,.slice d.a x.ats.length d.na,.slice d.c x.cls.length d.nc] ∧ FmOwn w B d x
theorem vfm_keeps : KeepsV VFm:=by
 rintro w w' B B' cs x hk hB ⟨d,h1,h2⟩
 exact ⟨d,h1,h2.keep hk hB⟩
theorem fm_rowV {w : World} {B : Nat} {l : List Fm} {A : Option Addr} (h : FmRow w B l A) : RowV VFm 3 w B l A:=by
 intro i x hi
 obtain ⟨a,rfl,hab,Ap,cp,Aa,ca,Ac,cc,c0,c1,c2,h1,h2,h3,h4⟩:=h.at_ hi
 refine ⟨a,#[.slice Ap x.ps.length cp,.slice Aa x.ats.length ca,.slice Ac x.cls.length cc],rfl,hab,rfl,fun j v hv => ?_,⟨Ap,Aa,Ac,cp,ca,cc⟩,rfl,h1,h2,h3,h4⟩
 match j,hv with
 | 0,hv => rw [← hv];simpa [Addr.add] using c0
 | 1,hv => rw [← hv];exact c1
 | 2,hv => rw [← hv];exact c2
 | j + 3,hv => simp at hv
def VSt (w : World) (B : Nat) (cs : Array Value) (x : St) : Prop :=
 ∃ d : SAd,cs = stCs d x ∧ StOwn w B d x ∧ StRow w B x.body d.s ∧ StRow w B x.els d.t
theorem vst_keeps : KeepsV VSt:=by
 rintro w w' B B' cs x hk hB ⟨d,h1,h2,h3,h4⟩
 exact ⟨d,h1,h2.keep hk hB,h3.keep hk hB,h4.keep hk hB⟩
theorem StRow.rowV {w : World} {B : Nat} {l : List St} {A : Option Addr} (h : StRow w B l A) : RowV VSt 24 w B l A:=by
 intro i x hi
 obtain ⟨a,d,rfl,hab,hc,h1,h2,h3⟩:=h.at_ hi
 exact ⟨a,stCs d x,rfl,hab,stCs_size d x,hc,d,rfl,h1,h2,h3⟩
def VRc (w : World) (B : Nat) (cs : Array Value) (x : Rc) : Prop :=
 ∃ (A : Option Addr) (c : Nat),cs = #[.string ⟨x.nm.toArray⟩,.slice A x.fs.length c] ∧ x.nm.length ≤ maxLen ∧ x.fs.length ≤ maxLen ∧ PmRow w B x.fs A
theorem vrc_keeps : KeepsV VRc:=by
 rintro w w' B B' cs x hk hB ⟨A,c,h1,h2,h3,h4⟩
 exact ⟨A,c,h1,h2,h3,h4.keep pm_keeps hk hB⟩
theorem rc_rowV {w : World} {B : Nat} {l : List Rc} {A : Option Addr} (h : RcRow w B l A) : RowV VRc 2 w B l A:=by
 intro i x hi
 obtain ⟨a,rfl,hab,A',c,c0,c1,h1,h2,h3⟩:=h.at_ hi
 refine ⟨a,#[.string ⟨x.nm.toArray⟩,.slice A' x.fs.length c],rfl,hab,rfl,fun j v hv => ?_,A',c,rfl,h1,h2,h3⟩
 match j,hv with
 | 0,hv => rw [← hv];simpa [Addr.add] using c0
 | 1,hv => rw [← hv];exact c1
 | j + 2,hv => simp at hv
def VLk (w : World) (B : Nat) (cs : Array Value) (x : Lk) : Prop :=
 ∃ (A : Option Addr) (c : Nat),cs = #[.string ⟨x.nm.toArray⟩,.slice A x.iv.length c] ∧ x.nm.length ≤ maxLen ∧ x.iv.length ≤ maxLen ∧ FmRow w B x.iv A
theorem vlk_keeps : KeepsV VLk:=by
 rintro w w' B B' cs x hk hB ⟨A,c,h1,h2,h3,h4⟩
 exact ⟨A,c,h1,h2,h3,h4.keep fm_keeps hk hB⟩
theorem lk_rowV {w : World} {B : Nat} {l : List Lk} {A : Option Addr} (h : LkRow w B l A) : RowV VLk 2 w B l A:=by
 intro i x hi
 obtain ⟨a,rfl,hab,A',c,c0,c1,h1,h2,h3⟩:=h.at_ hi
 refine ⟨a,#[.string ⟨x.nm.toArray⟩,.slice A' x.iv.length c],rfl,hab,rfl,fun j v hv => ?_,A',c,rfl,h1,h2,h3⟩
 match j,hv with
 | 0,hv => rw [← hv];simpa [Addr.add] using c0
 | 1,hv => rw [← hv];exact c1
 | j + 2,hv => simp at hv
def VDf (w : World) (B : Nat) (cs : Array Value) (x : Df) : Prop :=
 ∃ (A : Option Addr) (c : Nat) (A2 : Option Addr) (c2 : Nat),cs = #[.string ⟨x.nm.toArray⟩,.slice A x.ps.length c,.slice A2 x.cs.length c2] ∧ x.nm.length ≤ maxLen ∧ x.ps.length ≤ maxLen ∧ x.cs.length ≤ maxLen ∧ PmRow w B x.ps A ∧ FmRow w B x.cs A2
theorem vdf_keeps : KeepsV VDf:=by
 rintro w w' B B' cs x hk hB ⟨A,c,A2,c2,h1,h2,h3,h4,h5,h6⟩
 exact ⟨A,c,A2,c2,h1,h2,h3,h4,h5.keep pm_keeps hk hB,h6.keep fm_keeps hk hB⟩
theorem df_rowV {w : World} {B : Nat} {l : List Df} {A : Option Addr} (h : DfRow w B l A) : RowV VDf 3 w B l A:=by
 intro i x hi
 obtain ⟨a,rfl,hab,A',c,A2,e,c0,c1,c2,h1,h2,h3,h4,h5⟩:=h.at_ hi
 refine ⟨a,#[.string ⟨x.nm.toArray⟩,.slice A' x.ps.length c,.slice A2 x.cs.length e],rfl,hab,rfl,fun j v hv => ?_,A',c,A2,e,rfl,h1,h2,h3,h4,h5⟩
 match j,hv with
 | 0,hv => rw [← hv];simpa [Addr.add] using c0
 | 1,hv => rw [← hv];exact c1
 | 2,hv => rw [← hv];exact c2
 | j + 3,hv => simp at hv
def VLm (w : World) (B : Nat) (cs : Array Value) (x : Lm) : Prop :=
 ∃ (A : Option Addr) (c : Nat) (d e : FAd),cs = lmCs A c d e x ∧ x.nm.length ≤ maxLen ∧ x.ps.length ≤ maxLen ∧ PmRow w B x.ps A ∧ FmOwn w B d x.lf ∧ FmOwn w B e x.rt
theorem vlm_keeps : KeepsV VLm:=by
 rintro w w' B B' cs x hk hB ⟨A,c,d,e,h1,h2,h3,h4,h5,h6⟩
 exact ⟨A,c,d,e,h1,h2,h3,h4.keep pm_keeps hk hB,h5.keep hk hB,h6.keep hk hB⟩
theorem lm_rowV {w : World} {B : Nat} {l : List Lm} {A : Option Addr} (h : LmRow w B l A) : RowV VLm 8 w B l A:=by
 intro i x hi
 obtain ⟨a,rfl,hab,A',c,d,e,hc,h1,h2,h3,h4,h5⟩:=h.at_ hi
 exact ⟨a,lmCs A' c d e x,rfl,hab,rfl,hc,A',c,d,e,rfl,h1,h2,h3,h4,h5⟩
def VPr (w : World) (B : Nat) (cs : Array Value) (x : Pr) : Prop:=∃ d : PAd,cs = prCs d x ∧ PrOwn w B d x
theorem vpr_keeps : KeepsV VPr:=by
 rintro w w' B B' cs x hk hB ⟨d,h1,h2⟩
 exact ⟨d,h1,h2.keep hk hB⟩
theorem pr_rowV {w : World} {B : Nat} {l : List Pr} {A : Option Addr} (h : PrRow w B l A) : RowV VPr 12 w B l A:=by
 intro i x hi
 obtain ⟨a,rfl,hab,d,hc,h1⟩:=h.at_ hi
 exact ⟨a,prCs d x,rfl,hab,rfl,hc,d,rfl,h1⟩
-- statements and programs,apart from places
inductive SameL : List St → List St → Prop
 | nil : SameL [] []
 | cons (k ln co ln2 co2 : Int) (nm fd fr : List UInt8) (e : Ex) (c : Cn) (cl : List Cal) (iv : List Fm) (b o b2 o2 l m : List St) : SameL b b2 → SameL o o2 → SameL l m → SameL (.mk k ln co nm fd fr e c cl iv b o :: l) (.mk k ln2 co2 nm fd fr e c cl iv b2 o2 :: m)
def SameS : St → St → Prop
 | .mk k _ _ nm fd fr e c cl iv b o,.mk k2 _ _ nm2 fd2 fr2 e2 c2 cl2 iv2 b2 o2 => k = k2 ∧ nm = nm2 ∧ fd = fd2 ∧ fr = fr2 ∧ e = e2 ∧ c = c2 ∧ cl = cl2 ∧ iv = iv2 ∧ SameL b b2 ∧ SameL o o2
theorem sameL_cons (s t : St) (l m : List St) : SameL (s :: l) (t :: m) ↔ SameS s t ∧ SameL l m:=by
 obtain ⟨k,ln,co,nm,fd,fr,e,c,cl,iv,b,o⟩:=s
 obtain ⟨k2,ln2,co2,nm2,fd2,fr2,e2,c2,cl2,iv2,b2,o2⟩:=t
 constructor
 ·intro h
  cases h with
  | cons _ _ _ _ _ _ _ _ _ _ _ _ _ _ _ _ _ _ h1 h2 h3 => exact ⟨⟨rfl,rfl,rfl,rfl,rfl,rfl,rfl,rfl,h1,h2⟩,h3⟩
 ·rintro ⟨⟨rfl,rfl,rfl,rfl,rfl,rfl,rfl,rfl,h1,h2⟩,h3⟩
  exact .cons _ _ _ _ _ _ _ _ _ _ _ _ _ _ _ _ _ _ h1 h2 h3
theorem sameL_all2 : ∀ l m : List St,All2 SameS l m ↔ SameL l m:=by
 intro l
 induction l with
 | nil =>
   intro m
   cases m with
   | nil => exact ⟨fun _ => .nil,fun _ => all2_nil _⟩
   | cons t m => exact ⟨fun h => by have := h.1;simp at this,fun h => by cases h⟩
 | cons s l ih =>
   intro m
   cases m with
   | nil => exact ⟨fun h => by have := h.1;simp at this,fun h => by cases h⟩
   | cons t m => rw [all2_cons,sameL_cons,ih m]
def SamePr (x y : Pr) : Prop :=
 x.nm = y.nm ∧ x.rt = y.rt ∧ x.rn = y.rn ∧ x.ct = y.ct ∧ x.ps = y.ps ∧ x.lg = y.lg ∧ x.rq = y.rq ∧ x.es = y.es ∧ x.lo = y.lo ∧ SameL x.bd y.bd
def SamePg (p q : Pg) : Prop:=p.rs = q.rs ∧ p.gs = q.gs ∧ p.ks = q.ks ∧ p.ds = q.ds ∧ p.ms = q.ms ∧ All2 SamePr p.xs q.xs
end Go.Proofs.YtnkpgpmaiicdeaaGreatDoor
