import Derived.Test.YtojjfdegkooknaaGreatDoorSTreeB
import Derived.Test.YtojjfdegkooknaaGreatDoorSTreeRp
import Derived.Deep.RegionHeld3
import Derived.Laws.Tables
import Derived.Deep.CutRange
import Derived.Test.YtojjfdegkooknaaGreatDoorSTreeO
set_option linter.unusedVariables false
set_option linter.unusedSimpArgs false
namespace Go.Proofs.YtojjfdegkooknaaGreatDoor
section
open Go.RowKit
def ju {α : Type} (V : World -> Nat -> Array Value -> α -> Prop) : Prop :=
 ∀ (w w' : World) (B B' : Nat) (cs : Array Value) (x : α),(∀ q : Addr,q.block < B -> w'.cell? q = w.cell? q) -> B <= B' -> V w B cs x -> V w' B' cs x
def qD {α : Type} (V : World -> Nat -> Array Value -> α -> Prop) (n : Nat) (w : World) (B : Nat) (l : List α) (A : Option Addr) : Prop :=
 ∀ (i : Nat) x,l[i]? = some x -> ∃ (a : Addr) (cs : Array Value),A = some a /\ a.block < B /\ cs.size = n /\ (∀ (j : Nat) v,cs[j]? = some v -> w.cell? ((a.add (i * n)).add j) = some v) /\ V w B cs x
theorem kept {α : Type} {V : World -> Nat -> Array Value -> α -> Prop} (hV : ju V) {w w' : World} (hb : Below w.heap.size w w') {cs : Array Value} {x : α} (h : V w w.heap.size cs x) : V w' w'.heap.size cs x :=
 hV _ _ _ _ _ _ (fun _ hq => hb.cell hq) hb.size h
end
section
open Go.RowKit
section
variable {P : Program} {ops : Array Oper} {Q : Exit -> Act -> World -> Prop} {md : Region.Mode} {S : World -> Prop}
theorem zM (i j : Nat) {oi oj : Oper} {k : Nat} {l : Array Bool} {a : Act} {w : World} (hr : Region.ready md ops l = [i,j]) (hoi : ops[i]? = some oi) (hoj : ops[j]? = some oj)
 (hwi : Region.wanted oi (yielded ops a.tmps) = true) (hwj : Region.wanted oj (yielded ops a.tmps) = true)
 (hi : ∀ K : Act -> World -> Prop,(∀ a w,S w -> wpAnyH P md ops Q S k (l.setIfInBounds i true) a w -> K a w) -> Oper.wp P oi a w K Q)
 (hj : ∀ K : Act -> World -> Prop,(∀ a w,S w -> wpAnyH P md ops Q S k (l.setIfInBounds j true) a w -> K a w) -> Oper.wp P oj a w K Q) : wpAnyH P md ops Q S (k + 1) l a w:=by
 refine ⟨fun h0 => (by rw [hr] at h0;cases h0),fun n hn => ?_⟩
 rw [hr] at hn
 simp only [List.mem_cons,List.not_mem_nil,or_false] at hn
 rcases hn with rfl | rfl
 ·unfold wpOp
  rw [hoi]
  show if Region.wanted oi (yielded ops a.tmps) = true then _ else _
  rw [if_pos hwi]
  exact .inl (hi _ (fun _ _ h1 h2 => ⟨h1,h2⟩))
 ·unfold wpOp
  rw [hoj]
  show if Region.wanted oj (yielded ops a.tmps) = true then _ else _
  rw [if_pos hwj]
  exact .inl (hj _ (fun _ _ h1 h2 => ⟨h1,h2⟩))
end
theorem Below.setRow {B : Nat} {a w : World} (h : Below B a w) {g : Nat} (hg : B <= g) (cs : Array Value) : Below B a (w.setRow g cs) :=
 ⟨h.os,h.tape,h.output,by rw [size_setRow];exact h.size,fun i hi => (setRow_other w g i cs (by omega)).trans (h.block i hi)⟩
theorem zl {W : World} {b : Nat} {T : TypeId} {zc cs : Array Value} (hb : W.heap[b]? = some (.cells zc T (0,0))) (qK : zc.size = cs.size) (h1 : cs.all (·.oneCell') = true) :
 (storeCells ⟨b,0,none⟩ cs.toList).run Tryz.prog W = .ok () (W.setRow b cs):=by
 have := run_storeCells_from (P:=Tryz.prog) b T cs.toList 0 zc W hb (by simp [qK]) (fun v hv => (Array.all_eq_true_iff_forall_mem.1 h1) v (by simpa using hv))
 simpa using this
end
section
open Go.RowKit
-- the cells of each type
def VEx (w : World) (B : Nat) (cs : Array Value) (x : Ex) : Prop :=
 ∃ (k n : Int) (s : List UInt8) (l : List Ex) (A : Option Addr) (c : Nat),x = .mk k n s l /\ cs = #[.int .i64 k,.int .i64 n,.string ⟨s.toArray⟩,.slice A l.length c] /\ s.length <= maxLen /\ l.length <= maxLen /\ ExRow w B l A
theorem ExRow.rowV {w : World} {B : Nat} {l : List Ex} {A : Option Addr} (h : ExRow w B l A) : qD VEx 4 w B l A:=by
 intro i x hi
 obtain ⟨k,n,s,m⟩:=x
 obtain ⟨a,A',c',rfl,qx,c0,c1,c2,c3,h1,h2,h3⟩:=h.at_ hi
 refine ⟨a,#[.int .i64 k,.int .i64 n,.string ⟨s.toArray⟩,.slice A' m.length c'],rfl,qx,rfl,fun j v hv => ?_,k,n,s,m,A',c',rfl,rfl,h1,h2,h3⟩
 match j,hv with
 | 0,hv => rw [<- hv];simpa [Addr.add] using c0
 | 1,hv => rw [<- hv];exact c1
 | 2,hv => rw [<- hv];exact c2
 | 3,hv => rw [<- hv];exact c3
 | j + 4,hv => simp at hv
def VCn (w : World) (B : Nat) (cs : Array Value) (x : Cn) : Prop :=
 ∃ (k ak an : Int) (sa : List UInt8) (al : List Ex) (bk bn : Int) (sb : List UInt8) (bl : List Ex) (l : List Cn) (Aa : Option Addr) (ca : Nat) (Ab : Option Addr) (cb : Nat) (Al : Option Addr) (cl : Nat),x = .mk k (.mk ak an sa al) (.mk bk bn sb bl) l /\
  cs = #[.int .i64 k,.int .i64 ak,.int .i64 an,.string ⟨sa.toArray⟩,.slice Aa al.length ca,.int .i64 bk,.int .i64 bn,.string ⟨sb.toArray⟩,.slice Ab bl.length cb,.slice Al l.length cl] /\
  (sa.length <= maxLen /\ al.length <= maxLen /\ sb.length <= maxLen /\ bl.length <= maxLen /\ l.length <= maxLen) /\ ExRow w B al Aa /\ ExRow w B bl Ab /\ CnRow w B l Al
theorem CnRow.rowV {w : World} {B : Nat} {l : List Cn} {A : Option Addr} (h : CnRow w B l A) : qD VCn 10 w B l A:=by
 intro i x hi
 obtain ⟨k,⟨ak,an,sa,al⟩,⟨bk,bn,sb,bl⟩,m⟩:=x
 obtain ⟨a,Aa,Ca,Ab,Cb,Al,Cl,rfl,qx,hc,b1,b2,b3,b4,b5,ra,rb,rl⟩:=h.at_ hi
 refine ⟨a,#[.int .i64 k,.int .i64 ak,.int .i64 an,.string ⟨sa.toArray⟩,.slice Aa al.length Ca,.int .i64 bk,.int .i64 bn,.string ⟨sb.toArray⟩,.slice Ab bl.length Cb,.slice Al m.length Cl],rfl,qx,rfl,fun j v hv => ?_,
  k,ak,an,sa,al,bk,bn,sb,bl,m,Aa,Ca,Ab,Cb,Al,Cl,rfl,rfl,⟨b1,b2,b3,b4,b5⟩,ra,rb,rl⟩
 match j,hv with
 | 0,hv => rw [<- hv];simpa [Addr.add] using hc.c0
 | 1,hv => rw [<- hv];exact hc.c1
 | 2,hv => rw [<- hv];exact hc.c2
 | 3,hv => rw [<- hv];exact hc.c3
 | 4,hv => rw [<- hv];exact hc.c4
 | 5,hv => rw [<- hv];exact hc.c5
 | 6,hv => rw [<- hv];exact hc.c6
 | 7,hv => rw [<- hv];exact hc.c7
 | 8,hv => rw [<- hv];exact hc.c8
 | 9,hv => rw [<- hv];exact hc.c9
 | j + 10,hv => simp at hv
def zp (_ : World) (_ : Nat) (cs : Array Value) (x : Pm) : Prop:=cs = #[.string ⟨x.t.toArray⟩,.string ⟨x.nm.toArray⟩] /\ x.t.length <= maxLen /\ x.nm.length <= maxLen
theorem qT : ju zp:=fun _ _ _ _ _ _ _ _ h => h
theorem zm {w : World} {B : Nat} {l : List Pm} {A : Option Addr} (h : yT w B l A) : qD zp 2 w B l A:=by
 intro i x hi
 obtain ⟨a,rfl,qx,c0,c1,h1,h2⟩:=h.at_ hi
 refine ⟨a,#[.string ⟨x.t.toArray⟩,.string ⟨x.nm.toArray⟩],rfl,qx,rfl,fun j v hv => ?_,rfl,h1,h2⟩
 match j,hv with
 | 0,hv => rw [<- hv];simpa [Addr.add] using c0
 | 1,hv => rw [<- hv];exact c1
 | j + 2,hv => simp at hv
def VSt (w : World) (B : Nat) (cs : Array Value) (x : St) : Prop :=
 ∃ d : SAd,cs = jW d x /\ xS w B d x /\ StRow w B x.body d.s /\ StRow w B x.els d.t
theorem qiO : ju VSt:=by
 rintro w w' B B' cs x hk hB ⟨d,h1,h2,h3,h4⟩
 exact ⟨d,h1,h2.keep hk hB,h3.keep hk hB,h4.keep hk hB⟩
theorem StRow.rowV {w : World} {B : Nat} {l : List St} {A : Option Addr} (h : StRow w B l A) : qD VSt 24 w B l A:=by
 intro i x hi
 obtain ⟨a,d,rfl,qx,hc,h1,h2,h3⟩:=h.at_ hi
 exact ⟨a,jW d x,rfl,qx,zO d x,hc,d,rfl,h1,h2,h3⟩
def yW (w : World) (B : Nat) (cs : Array Value) (x : Rc) : Prop :=
 ∃ (A : Option Addr) (c : Nat),cs = #[.string ⟨x.nm.toArray⟩,.slice A x.fs.length c] /\ x.nm.length <= maxLen /\ x.fs.length <= maxLen /\ yT w B x.fs A
theorem yC : ju yW:=by
 rintro w w' B B' cs x hk hB ⟨A,c,h1,h2,h3,h4⟩
 exact ⟨A,c,h1,h2,h3,h4.keep zj hk hB⟩
theorem qbp {w : World} {B : Nat} {l : List Rc} {A : Option Addr} (h : qrP w B l A) : qD yW 2 w B l A:=by
 intro i x hi
 obtain ⟨a,rfl,qx,A',c,c0,c1,h1,h2,h3⟩:=h.at_ hi
 refine ⟨a,#[.string ⟨x.nm.toArray⟩,.slice A' x.fs.length c],rfl,qx,rfl,fun j v hv => ?_,A',c,rfl,h1,h2,h3⟩
 match j,hv with
 | 0,hv => rw [<- hv];simpa [Addr.add] using c0
 | 1,hv => rw [<- hv];exact c1
 | j + 2,hv => simp at hv
def vA (w : World) (B : Nat) (cs : Array Value) (x : Lk) : Prop :=
 ∃ (A : Option Addr) (c : Nat),cs = #[.string ⟨x.nm.toArray⟩,.slice A x.iv.length c] /\ x.nm.length <= maxLen /\ x.iv.length <= maxLen /\ qai w B x.iv A
theorem jA : ju vA:=by
 rintro w w' B B' cs x hk hB ⟨A,c,h1,h2,h3,h4⟩
 exact ⟨A,c,h1,h2,h3,h4.keep yk hk hB⟩
theorem qeB {w : World} {B : Nat} {l : List Lk} {A : Option Addr} (h : qrR w B l A) : qD vA 2 w B l A:=by
 intro i x hi
 obtain ⟨a,rfl,qx,A',c,c0,c1,h1,h2,h3⟩:=h.at_ hi
 refine ⟨a,#[.string ⟨x.nm.toArray⟩,.slice A' x.iv.length c],rfl,qx,rfl,fun j v hv => ?_,A',c,rfl,h1,h2,h3⟩
 match j,hv with
 | 0,hv => rw [<- hv];simpa [Addr.add] using c0
 | 1,hv => rw [<- hv];exact c1
 | j + 2,hv => simp at hv
def vg (w : World) (B : Nat) (cs : Array Value) (x : Df) : Prop :=
 ∃ (A : Option Addr) (c : Nat) (A2 : Option Addr) (c2 : Nat),cs = #[.string ⟨x.nm.toArray⟩,.slice A x.ps.length c,.slice A2 x.cs.length c2] /\ x.nm.length <= maxLen /\ x.ps.length <= maxLen /\ x.cs.length <= maxLen /\ yT w B x.ps A /\ qai w B x.cs A2
theorem ji : ju vg:=by
 rintro w w' B B' cs x hk hB ⟨A,c,A2,c2,h1,h2,h3,h4,h5,h6⟩
 exact ⟨A,c,A2,c2,h1,h2,h3,h4,h5.keep zj hk hB,h6.keep yk hk hB⟩
theorem qeN {w : World} {B : Nat} {l : List Df} {A : Option Addr} (h : qr3 w B l A) : qD vg 3 w B l A:=by
 intro i x hi
 obtain ⟨a,rfl,qx,A',c,A2,e,c0,c1,c2,h1,h2,h3,h4,h5⟩:=h.at_ hi
 refine ⟨a,#[.string ⟨x.nm.toArray⟩,.slice A' x.ps.length c,.slice A2 x.cs.length e],rfl,qx,rfl,fun j v hv => ?_,A',c,A2,e,rfl,h1,h2,h3,h4,h5⟩
 match j,hv with
 | 0,hv => rw [<- hv];simpa [Addr.add] using c0
 | 1,hv => rw [<- hv];exact c1
 | 2,hv => rw [<- hv];exact c2
 | j + 3,hv => simp at hv
def VLm (w : World) (B : Nat) (cs : Array Value) (x : Lm) : Prop :=
 ∃ (A : Option Addr) (c : Nat) (d e : FAd),cs = qg9 A c d e x /\ x.nm.length <= maxLen /\ x.ps.length <= maxLen /\ yT w B x.ps A /\ vH w B d x.lf /\ vH w B e x.rt
theorem qcx : ju VLm:=by
 rintro w w' B B' cs x hk hB ⟨A,c,d,e,h1,h2,h3,h4,h5,h6⟩
 exact ⟨A,c,d,e,h1,h2,h3,h4.keep zj hk hB,h5.keep hk hB,h6.keep hk hB⟩
theorem qgt {w : World} {B : Nat} {l : List Lm} {A : Option Addr} (h : qrQ w B l A) : qD VLm 8 w B l A:=by
 intro i x hi
 obtain ⟨a,rfl,qx,A',c,d,e,hc,h1,h2,h3,h4,h5⟩:=h.at_ hi
 exact ⟨a,qg9 A' c d e x,rfl,qx,rfl,hc,A',c,d,e,rfl,h1,h2,h3,h4,h5⟩
def xP (w : World) (B : Nat) (cs : Array Value) (x : Pr) : Prop:=∃ d : PAd,cs = jJ d x /\ xJ w B d x
theorem xf : ju xP:=by
 rintro w w' B B' cs x hk hB ⟨d,h1,h2⟩
 exact ⟨d,h1,h2.keep hk hB⟩
theorem qde {w : World} {B : Nat} {l : List Pr} {A : Option Addr} (h : qnB w B l A) : qD xP 12 w B l A:=by
 intro i x hi
 obtain ⟨a,rfl,qx,d,hc,h1⟩:=h.at_ hi
 exact ⟨a,jJ d x,rfl,qx,rfl,hc,d,rfl,h1⟩
-- statements and programs,apart from places
end
end Go.Proofs.YtojjfdegkooknaaGreatDoor
