import Derived.Deep.Slices
import Derived.ChangeSame
import Derived.ChangeSlices
import Derived.Test.YtojjfdegkooknaaGreatDoorQTreeL
set_option linter.unusedVariables false
set_option linter.unusedSimpArgs false
namespace Go.Proofs.YtojjfdegkooknaaGreatDoor
set_option maxRecDepth 100000
set_option maxHeartbeats 4000000
open Go.RowKit Go.ChangeShapes Go.WideShapes Go.Deep
variable {H : Type} {enc : TypeId × Value → H} {w : World} {spare : Nat → Bool} {held : Bool}
theorem cells4_at {p : Addr} {b : Nat} {cs : List Value} {k : Nat} (h : w.cells? b p k = some cs) {j : Nat} (hj : j < k) : w.cell? (p.add j) = cs[j]?:=(World.cells?_some h).2.2 j hj
theorem cell_ltO {w : World} {a : Addr} {v : Value} (h : w.cell? a = some v) : a.block < w.heap.size:=World.block_lt_of_cell? w a h
def ExCs (w : World) (cs : List Value) (e : Ex) (A : Option Addr) (c : Nat) : Prop :=
 ∃ k n s l,e = .mk k n s l ∧ cs = [.int .i64 k,.int .i64 n,.string ⟨s.toArray⟩,.slice A l.length c] ∧ s.length ≤ maxLen ∧ l.length ≤ maxLen ∧ ExRow w w.heap.size l A
theorem open_expr_by {N : Nat} (IH : ∀ (x : DataW H × List MemPlace),SizeOf.sizeOf x.1 < N → ∀ fuel cs,DataW.trod enc Tryz.prog w 0 spare held fuel 82 cs = some x → ∃ A c es,cs = [.slice A es.length c] ∧ ExRow w w.heap.size es A ∧ es.length ≤ maxLen)
 {x : DataW H × List MemPlace} (hx : SizeOf.sizeOf x.1 ≤ N) {fuel : Nat} {cs : List Value} (h : DataW.trod enc Tryz.prog w 0 spare held fuel 84 cs = some x) : ∃ e A c,ExCs w cs e A c:=by
 obtain ⟨ys,n,_,hx1,hlen,hyl,hf⟩:=DataW.trod_struct (fs:=_) Tryz.underlying84 h
 have hlen2 : cs.length = 4:=hlen.trans (by kernel_rfl)
 have e0:=hf 0 _ rfl
 have e1:=hf 1 _ rfl
 have e2:=hf 2 _ rfl
 have e3:=hf 3 _ rfl
 match cs,hlen2 with
 | [u0,u1,u2,u3],_ =>
   match ys,hyl with
   | [y0,y1,y2,y3],_ =>
     have k1 : Tryz.prog.cellsOf 3 = 1:=by kernel_rfl
     have k2 : Tryz.prog.cellsOf 9 = 1:=by kernel_rfl
     have k3 : Tryz.prog.cellsOf 82 = 1:=by kernel_rfl
     obtain ⟨a,ha,_⟩:=DataW.trod_int (x:=y0) (cs:=[u0]) Tryz.underlying3 (by simpa [k1] using e0)
     obtain ⟨b,hb,_⟩:=DataW.trod_int (x:=y1) (cs:=[u1]) Tryz.underlying3 (by simpa [k1] using e1)
     obtain ⟨s,hs,_,hz⟩:=DataW.trod_string (x:=y2) (cs:=[u2]) Tryz.underlying9 (by simpa [k2] using e2)
     have hsz : SizeOf.sizeOf y3.1 < N:=by
      have h1 : SizeOf.sizeOf x.1 ≤ N:=hx
      rw [hx1] at h1
      simp at h1
      omega
     obtain ⟨A,c,es,he,hr,hl⟩:=IH y3 hsz n [u3] (by simpa [k3] using e3)
     injection ha with ha;injection hb with hb;injection hs with hs;injection he with he
     exact ⟨.mk a b s.data.toList es,A,c,a,b,s.data.toList,es,rfl,by rw [ha,hb,hs,he],hz,hl,hr⟩
theorem open_exprs : ∀ (N : Nat) (x : DataW H × List MemPlace),SizeOf.sizeOf x.1 < N → ∀ fuel cs,DataW.trod enc Tryz.prog w 0 spare held fuel 82 cs = some x → ∃ A c es,cs = [.slice A es.length c] ∧ ExRow w w.heap.size es A ∧ es.length ≤ maxLen:=by
 intro N
 induction N with
 | zero => intro x h;omega
 | succ N ih =>
   intro x hx fuel cs h
   rcases open_slice Tryz.underlying82 h with ⟨e0,_⟩ | ⟨a,len,cap,m,n,D,Pl,e0,hb,hl,hm,hmm,hxx,hi⟩
   ·exact ⟨none,0,[],e0,.nil _,Nat.zero_le _⟩
   ·have hlm : len ≤ m:=by rw [hmm];split <;> omega
    have k4 : Tryz.prog.cellsOf 84 = 4:=by kernel_rfl
    have hq : ∀ i,i < len → ∃ t : Ex × Option Addr × Nat,∃ cs',w.cells? 0 (a.add (i * 4)) 4 = some cs' ∧ ExCs w cs' t.1 t.2.1 t.2.2:=fun i hi' => by
     obtain ⟨cs',h1,h2⟩:=hi i (by omega)
     have hsz : SizeOf.sizeOf (D i) ≤ N:=by
      have h1:=hx
      rw [hxx] at h1
      have hmem : D i ∈ (List.range len).map D:=List.mem_map.2 ⟨i,List.mem_range.2 hi',rfl⟩
      have h2:=List.sizeOf_lt_of_mem hmem
      simp at h1
      omega
     obtain ⟨e,A,c,he⟩:=open_expr_by ih (x:=(D i,Pl i)) hsz h2
     rw [k4] at h1
     exact ⟨(e,A,c),cs',h1,he⟩
    have : Inhabited (Ex × Option Addr × Nat):=⟨(.mk 0 0 [] [],none,0)⟩
    obtain ⟨f,hF⟩:=choose_lt hq
    have hlen : ((List.range len).map fun i => (f i).1).length = len:=by simp
    refine ⟨some a,cap,(List.range len).map fun i => (f i).1,by rw [hlen];exact e0,?_,by rw [hlen];omega⟩
    by_cases h0 : len = 0
    ·subst h0;exact .nil _
    ·have hab : a.block < w.heap.size:=by
      obtain ⟨cs',h1,k,n',s,l,_,rfl,_⟩:=hF 0 (by omega)
      have := cell_ltO (show w.cell? ((a.add (0 * 4)).add 0) = some (.int .i64 k) from cells4_at h1 (by decide))
      rwa [block_adds,block_adds] at this
     have hget : ∀ i e,((List.range len).map fun i => (f i).1)[i]? = some e → i < len ∧ (f i).1 = e:=fun i e h => by
      have hi:=(List.getElem?_eq_some_iff.1 h).1
      rw [hlen] at hi
      rw [List.getElem?_map,List.getElem?_range hi] at h
      exact ⟨hi,Option.some.inj h⟩
     refine .row a _ (fun i => (f i).2.1) (fun i => (f i).2.2) hab (fun i k n' s l h => ?_) (fun i k n' s l h => ?_)
     ·obtain ⟨hi',he⟩:=hget i _ h
      obtain ⟨cs',h1,k',n'',s',l',h2,rfl,h3,h4,_⟩:=hF i hi'
      rw [he] at h2
      injection h2 with e1 e2 e3 e4
      subst e1 e2 e3 e4
      exact ⟨by simpa [Addr.add] using (cells4_at h1 (show 0 < 4 by decide)),cells4_at h1 (by decide),cells4_at h1 (by decide),cells4_at h1 (by decide),h3,h4⟩
     ·obtain ⟨hi',he⟩:=hget i _ h
      obtain ⟨cs',h1,k',n'',s',l',h2,rfl,_,_,h5⟩:=hF i hi'
      rw [he] at h2
      injection h2 with e1 e2 e3 e4
      subst e4
      exact h5
theorem open_expr {x : DataW H × List MemPlace} {fuel : Nat} {cs : List Value} (h : DataW.trod enc Tryz.prog w 0 spare held fuel 84 cs = some x) : ∃ e A c,ExCs w cs e A c :=
 open_expr_by (N:=SizeOf.sizeOf x.1) (fun y _ => open_exprs _ y (Nat.lt_succ_self _)) (Nat.le_refl _) h
end Go.Proofs.YtojjfdegkooknaaGreatDoor
namespace Go.Proofs.YtojjfdegkooknaaGreatDoor
set_option maxRecDepth 100000
set_option maxHeartbeats 4000000
open Go.RowKit Go.ChangeShapes Go.WideShapes Go.Deep
variable {H : Type} {enc : TypeId × Value → H} {w : World} {spare : Nat → Bool} {held : Bool}
def CnCs (w : World) (cs : List Value) (e : Cn) (Aa : Option Addr) (ca : Nat) (Ab : Option Addr) (cb : Nat) (Al : Option Addr) (cl : Nat) : Prop :=
 ∃ (k ak an : Int) (sa : List UInt8) (al : List Ex) (bk bn : Int) (sb : List UInt8) (bl : List Ex) (l : List Cn),e = .mk k (.mk ak an sa al) (.mk bk bn sb bl) l ∧ cs = [.int .i64 k,.int .i64 ak,.int .i64 an,.string ⟨sa.toArray⟩,.slice Aa al.length ca,.int .i64 bk,.int .i64 bn,.string ⟨sb.toArray⟩,.slice Ab bl.length cb,.slice Al l.length cl] ∧
  (sa.length ≤ maxLen ∧ al.length ≤ maxLen ∧ sb.length ≤ maxLen ∧ bl.length ≤ maxLen ∧ l.length ≤ maxLen) ∧ ExRow w w.heap.size al Aa ∧ ExRow w w.heap.size bl Ab ∧ CnRow w w.heap.size l Al
theorem open_cond_by {N : Nat} (IH : ∀ (x : DataW H × List MemPlace),SizeOf.sizeOf x.1 < N → ∀ fuel cs,DataW.trod enc Tryz.prog w 0 spare held fuel 85 cs = some x → ∃ A c es,cs = [.slice A es.length c] ∧ CnRow w w.heap.size es A ∧ es.length ≤ maxLen)
 {x : DataW H × List MemPlace} (hx : SizeOf.sizeOf x.1 ≤ N) {fuel : Nat} {cs : List Value} (h : DataW.trod enc Tryz.prog w 0 spare held fuel 87 cs = some x) : ∃ e Aa ca Ab cb Al cl,CnCs w cs e Aa ca Ab cb Al cl:=by
 obtain ⟨ys,n,_,hx1,hlen,hyl,hf⟩:=DataW.trod_struct (fs:=_) Tryz.underlying87 h
 have hlen2 : cs.length = 10:=hlen.trans (by kernel_rfl)
 have e0:=hf 0 _ rfl
 have e1:=hf 1 _ rfl
 have e2:=hf 2 _ rfl
 have e3:=hf 3 _ rfl
 match cs,hlen2 with
 | [u0,u1,u2,u3,u4,u5,u6,u7,u8,u9],_ =>
   match ys,hyl with
   | [y0,y1,y2,y3],_ =>
     have k1 : Tryz.prog.cellsOf 3 = 1:=by kernel_rfl
     have k2 : Tryz.prog.cellsOf 84 = 4:=by kernel_rfl
     have k3 : Tryz.prog.cellsOf 85 = 1:=by kernel_rfl
     obtain ⟨a,ha,_⟩:=DataW.trod_int (x:=y0) (cs:=[u0]) Tryz.underlying3 (by simpa [k1] using e0)
     obtain ⟨ea,Aa,ca,ak,an,sa,al,rfl,hca,p1,p2,p3⟩:=open_expr (x:=y1) (cs:=[u1,u2,u3,u4]) (by simpa [k2] using e1)
     obtain ⟨eb,Ab,cb,bk,bn,sb,bl,rfl,hcb,q1,q2,q3⟩:=open_expr (x:=y2) (cs:=[u5,u6,u7,u8]) (by simpa [k2] using e2)
     have hsz : SizeOf.sizeOf y3.1 < N:=by
      have h1 : SizeOf.sizeOf x.1 ≤ N:=hx
      rw [hx1] at h1
      simp at h1
      omega
     obtain ⟨A,c,es,he,hr,hl⟩:=IH y3 hsz n [u9] (by simpa [k3] using e3)
     injection ha with ha
     injection he with he
     injection hca with a1 a2
     injection a2 with a2 a3
     injection a3 with a3 a4
     injection a4 with a4 _
     injection hcb with b1 b2
     injection b2 with b2 b3
     injection b3 with b3 b4
     injection b4 with b4 _
     exact ⟨.mk a (.mk ak an sa al) (.mk bk bn sb bl) es,Aa,ca,Ab,cb,A,c,a,ak,an,sa,al,bk,bn,sb,bl,es,rfl,by rw [ha,he,a1,a2,a3,a4,b1,b2,b3,b4],⟨p1,p2,q1,q2,hl⟩,p3,q3,hr⟩
abbrev CTup : Type:=Cn × (Option Addr × Nat) × (Option Addr × Nat) × (Option Addr × Nat)
theorem open_conds : ∀ (N : Nat) (x : DataW H × List MemPlace),SizeOf.sizeOf x.1 < N → ∀ fuel cs,DataW.trod enc Tryz.prog w 0 spare held fuel 85 cs = some x → ∃ A c es,cs = [.slice A es.length c] ∧ CnRow w w.heap.size es A ∧ es.length ≤ maxLen:=by
 intro N
 induction N with
 | zero => intro x h;omega
 | succ N ih =>
   intro x hx fuel cs h
   rcases open_slice Tryz.underlying85 h with ⟨e0,_⟩ | ⟨a,len,cap,m,n,D,Pl,e0,hb,hl,hm,hmm,hxx,hi⟩
   ·exact ⟨none,0,[],e0,.nil _,Nat.zero_le _⟩
   ·have hlm : len ≤ m:=by rw [hmm];split <;> omega
    have k4 : Tryz.prog.cellsOf 87 = 10:=by kernel_rfl
    have hq : ∀ i,i < len → ∃ t : CTup,∃ cs',w.cells? 0 (a.add (i * 10)) 10 = some cs' ∧ CnCs w cs' t.1 t.2.1.1 t.2.1.2 t.2.2.1.1 t.2.2.1.2 t.2.2.2.1 t.2.2.2.2:=fun i hi' => by
     obtain ⟨cs',h1,h2⟩:=hi i (by omega)
     have hsz : SizeOf.sizeOf (D i) ≤ N:=by
      have h1:=hx
      rw [hxx] at h1
      have hmem : D i ∈ (List.range len).map D:=List.mem_map.2 ⟨i,List.mem_range.2 hi',rfl⟩
      have h2:=List.sizeOf_lt_of_mem hmem
      simp at h1
      omega
     obtain ⟨e,Aa,ca,Ab,cb,Al,cl,he⟩:=open_cond_by ih (x:=(D i,Pl i)) hsz h2
     rw [k4] at h1
     exact ⟨(e,(Aa,ca),(Ab,cb),(Al,cl)),cs',h1,he⟩
    have : Inhabited CTup:=⟨(.mk 0 (.mk 0 0 [] []) (.mk 0 0 [] []) [],(none,0),(none,0),(none,0))⟩
    obtain ⟨f,hF⟩:=choose_lt hq
    have hlen : ((List.range len).map fun i => (f i).1).length = len:=by simp
    refine ⟨some a,cap,(List.range len).map fun i => (f i).1,by rw [hlen];exact e0,?_,by rw [hlen];omega⟩
    by_cases h0 : len = 0
    ·subst h0;exact .nil _
    ·have hab : a.block < w.heap.size:=by
      obtain ⟨cs',h1,k,ak,an,sa,al,bk,bn,sb,bl,l,_,rfl,_⟩:=hF 0 (by omega)
      have := cell_ltO (show w.cell? ((a.add (0 * 10)).add 0) = some (.int .i64 k) from cells4_at h1 (by decide))
      rwa [block_adds,block_adds] at this
     have hget : ∀ i e,((List.range len).map fun i => (f i).1)[i]? = some e → i < len ∧ (f i).1 = e:=fun i e h => by
      have hi:=(List.getElem?_eq_some_iff.1 h).1
      rw [hlen] at hi
      rw [List.getElem?_map,List.getElem?_range hi] at h
      exact ⟨hi,Option.some.inj h⟩
     refine .row a _ (fun i => (f i).2.1.1) (fun i => (f i).2.2.1.1) (fun i => (f i).2.2.2.1) (fun i => (f i).2.1.2) (fun i => (f i).2.2.1.2) (fun i => (f i).2.2.2.2) hab (fun i k ak an sa al bk bn sb bl l h => ?_) (fun i k ak an sa al bk bn sb bl l h => ?_)
     ·obtain ⟨hi',he⟩:=hget i _ h
      obtain ⟨cs',h1,k',ak',an',sa',al',bk',bn',sb',bl',l',h2,rfl,⟨b1,b2,b3,b4,b5⟩,ra,rb,rl⟩:=hF i hi'
      rw [he] at h2
      injection h2 with e1 e2 e3 e4
      injection e2 with f1 f2 f3 f4
      injection e3 with g1 g2 g3 g4
      subst e1 e4 f1 f2 f3 f4 g1 g2 g3 g4
      exact ⟨⟨by simpa [Addr.add] using (cells4_at h1 (show 0 < 10 by decide)),cells4_at h1 (by decide),cells4_at h1 (by decide),cells4_at h1 (by decide),cells4_at h1 (by decide),cells4_at h1 (by decide),cells4_at h1 (by decide),cells4_at h1 (by decide),cells4_at h1 (by decide),cells4_at h1 (by decide)⟩,b1,b2,b3,b4,b5,ra,rb⟩
     ·obtain ⟨hi',he⟩:=hget i _ h
      obtain ⟨cs',h1,k',ak',an',sa',al',bk',bn',sb',bl',l',h2,rfl,_,ra,rb,rl⟩:=hF i hi'
      rw [he] at h2
      injection h2 with e1 e2 e3 e4
      subst e4
      exact rl
end Go.Proofs.YtojjfdegkooknaaGreatDoor
namespace Go.Proofs.YtojjfdegkooknaaGreatDoor
set_option maxRecDepth 100000
set_option maxHeartbeats 4000000
open Go.RowKit Go.ChangeShapes Go.WideShapes Go.Deep
variable {H : Type} {enc : TypeId × Value → H} {w : World} {spare : Nat → Bool} {held : Bool}
theorem open_rows {α : Type} [Inhabited α] {P : World → Nat → Addr → α → Prop} {n : Nat} (hn : 0 < n) {T E : TypeId} (hT : Tryz.prog.underlying T = some (.slice E)) (hE : Tryz.prog.cellsOf E = n)
 (hP : ∀ (x : DataW H × List MemPlace) fuel cs p,DataW.trod enc Tryz.prog w 0 spare held fuel E cs = some x → w.cells? 0 p n = some cs → ∃ e,P w w.heap.size p e)
 {x : DataW H × List MemPlace} {fuel : Nat} {cs : List Value} (h : DataW.trod enc Tryz.prog w 0 spare held fuel T cs = some x) : ∃ A c es,cs = [.slice A es.length c] ∧ RowX P n w w.heap.size es A ∧ es.length ≤ maxLen:=by
 rcases open_slice hT h with ⟨e0,_⟩ | ⟨a,len,cap,m,n',D,Pl,e0,hb,hl,hm,hmm,hxx,hi⟩
 ·exact ⟨none,0,[],e0,.nil _,Nat.zero_le _⟩
 ·have hlm : len ≤ m:=by rw [hmm];split <;> omega
  rw [hE] at hi
  have hq : ∀ i,i < len → ∃ t : α,P w w.heap.size (a.add (i * n)) t:=fun i hi' => by
   obtain ⟨cs',h1,h2⟩:=hi i (by omega)
   exact hP (D i,Pl i) _ cs' _ h2 h1
  obtain ⟨f,hF⟩:=choose_lt hq
  have hlen : ((List.range len).map f).length = len:=by simp
  refine ⟨some a,cap,(List.range len).map f,by rw [hlen];exact e0,?_,by rw [hlen];omega⟩
  by_cases h0 : len = 0
  ·subst h0;exact .nil _
  ·have hab : a.block < w.heap.size:=by
    obtain ⟨cs',h1,_⟩:=hi 0 (by omega)
    have hl':=(World.cells?_some h1).2.1
    have h3:=cells4_at h1 hn
    rw [List.getElem?_eq_getElem (by omega)] at h3
    have := cell_ltO h3
    rwa [block_adds,block_adds] at this
   refine .row a _ hab (fun i x h => ?_)
   have hi':=(List.getElem?_eq_some_iff.1 h).1
   rw [hlen] at hi'
   rw [List.getElem?_map,List.getElem?_range hi'] at h
   obtain rfl:=Option.some.inj h
   exact hF i hi'
theorem cell_at0 {p : Addr} {b : Nat} {cs : List Value} {k : Nat} (h : w.cells? b p k = some cs) (hk : 0 < k) : w.cell? p = cs[0]?:=by
 simpa [Addr.add] using cells4_at h hk
instance : Inhabited Pm:=⟨⟨[],[]⟩⟩
instance : Inhabited At:=⟨⟨0,.mk 0 0 [] [],.mk 0 0 [] []⟩⟩
instance : Inhabited Cl:=⟨⟨0,[],[]⟩⟩
instance : Inhabited Fm:=⟨⟨[],[],[]⟩⟩
theorem open_param {x : DataW H × List MemPlace} {fuel : Nat} {cs : List Value} (p : Addr) (h : DataW.trod enc Tryz.prog w 0 spare held fuel 42 cs = some x) (hc : w.cells? 0 p 2 = some cs) : ∃ e,PmAt w w.heap.size p e:=by
 obtain ⟨ys,n,_,hx1,hlen,hyl,hf⟩:=DataW.trod_struct (fs:=_) Tryz.underlying42 h
 have hlen2 : cs.length = 2:=hlen.trans (by kernel_rfl)
 have e0:=hf 0 _ rfl
 have e1:=hf 1 _ rfl
 match cs,hlen2 with
 | [u0,u1],_ =>
   match ys,hyl with
   | [y0,y1],_ =>
     have k2 : Tryz.prog.cellsOf 9 = 1:=by kernel_rfl
     obtain ⟨s,hs,_,hz⟩:=DataW.trod_string (x:=y0) (cs:=[u0]) Tryz.underlying9 (by simpa [k2] using e0)
     obtain ⟨t,ht,_,hz2⟩:=DataW.trod_string (x:=y1) (cs:=[u1]) Tryz.underlying9 (by simpa [k2] using e1)
     injection hs with hs;injection ht with ht
     subst hs ht
     exact ⟨⟨s.data.toList,t.data.toList⟩,cell_at0 hc (by decide),cells4_at hc (by decide),hz,hz2⟩
theorem open_atom {x : DataW H × List MemPlace} {fuel : Nat} {cs : List Value} (p : Addr) (h : DataW.trod enc Tryz.prog w 0 spare held fuel 148 cs = some x) (hc : w.cells? 0 p 9 = some cs) : ∃ e,AtAt w w.heap.size p e:=by
 obtain ⟨ys,n,_,hx1,hlen,hyl,hf⟩:=DataW.trod_struct (fs:=_) Tryz.underlying148 h
 have hlen2 : cs.length = 9:=hlen.trans (by kernel_rfl)
 have e0:=hf 0 _ rfl
 have e1:=hf 1 _ rfl
 have e2:=hf 2 _ rfl
 match cs,hlen2 with
 | [u0,u1,u2,u3,u4,u5,u6,u7,u8],_ =>
   match ys,hyl with
   | [y0,y1,y2],_ =>
     have k1 : Tryz.prog.cellsOf 3 = 1:=by kernel_rfl
     have k2 : Tryz.prog.cellsOf 84 = 4:=by kernel_rfl
     obtain ⟨a,ha,_⟩:=DataW.trod_int (x:=y0) (cs:=[u0]) Tryz.underlying3 (by simpa [k1] using e0)
     obtain ⟨ea,Aa,ca,ak,an,sa,al,rfl,hca,p1,p2,p3⟩:=open_expr (x:=y1) (cs:=[u1,u2,u3,u4]) (by simpa [k2] using e1)
     obtain ⟨eb,Ab,cb,bk,bn,sb,bl,rfl,hcb,q1,q2,q3⟩:=open_expr (x:=y2) (cs:=[u5,u6,u7,u8]) (by simpa [k2] using e2)
     injection ha with ha
     injection hca with a1 a2
     injection a2 with a2 a3
     injection a3 with a3 a4
     injection a4 with a4 _
     injection hcb with b1 b2
     injection b2 with b2 b3
     injection b3 with b3 b4
     injection b4 with b4 _
     subst ha a1 a2 a3 a4 b1 b2 b3 b4
     exact ⟨⟨a,.mk ak an sa al,.mk bk bn sb bl⟩,ak,an,sa,al,bk,bn,sb,bl,Aa,ca,Ab,cb,rfl,rfl,
      ⟨cell_at0 hc (by decide),cells4_at hc (by decide),cells4_at hc (by decide),cells4_at hc (by decide),cells4_at hc (by decide),cells4_at hc (by decide),cells4_at hc (by decide),cells4_at hc (by decide),cells4_at hc (by decide)⟩,⟨p1,p2,q1,q2⟩,p3,q3⟩
theorem slice_cap {T E : TypeId} (hT : Tryz.prog.underlying T = some (.slice E)) {x : DataW H × List MemPlace} {fuel : Nat} {A : Option Addr} {n c : Nat} (h : DataW.trod enc Tryz.prog w 0 spare held fuel T [.slice A n c] = some x) : n ≤ c:=by
 rcases open_slice hT h with ⟨e0,_⟩ | ⟨a,len,cap,m,n',D,Pl,e0,hb,hl,hm,hmm,hxx,hi⟩
 ·injection e0 with e0
  injection e0 with _ e1 e2
  omega
 ·injection e0 with e0
  injection e0 with _ e1 e2
  omega
theorem open_cell {x : DataW H × List MemPlace} {fuel : Nat} {cs : List Value} (p : Addr) (h : DataW.trod enc Tryz.prog w 0 spare held fuel 97 cs = some x) (hc : w.cells? 0 p 3 = some cs) : ∃ e,ClAt w w.heap.size p e:=by
 obtain ⟨ys,n,_,hx1,hlen,hyl,hf⟩:=DataW.trod_struct (fs:=_) Tryz.underlying97 h
 have hlen2 : cs.length = 3:=hlen.trans (by kernel_rfl)
 have e0:=hf 0 _ rfl
 have e1:=hf 1 _ rfl
 have e2:=hf 2 _ rfl
 match cs,hlen2 with
 | [u0,u1,u2],_ =>
   match ys,hyl with
   | [y0,y1,y2],_ =>
     have k1 : Tryz.prog.cellsOf 3 = 1:=by kernel_rfl
     have k2 : Tryz.prog.cellsOf 9 = 1:=by kernel_rfl
     have k3 : Tryz.prog.cellsOf 82 = 1:=by kernel_rfl
     obtain ⟨a,ha,_⟩:=DataW.trod_int (x:=y0) (cs:=[u0]) Tryz.underlying3 (by simpa [k1] using e0)
     obtain ⟨s,hs,_,hz⟩:=DataW.trod_string (x:=y1) (cs:=[u1]) Tryz.underlying9 (by simpa [k2] using e1)
     have e2' : DataW.trod enc Tryz.prog w 0 spare held n 82 [u2] = some y2:=by simpa [k3] using e2
     obtain ⟨A,c,es,he,hr,hl⟩:=open_exprs _ y2 (Nat.lt_succ_self _) n [u2] e2'
     injection ha with ha;injection hs with hs;injection he with he
     subst ha hs he
     exact ⟨⟨a,s.data.toList,es⟩,A,c,cell_at0 hc (by decide),cells4_at hc (by decide),cells4_at hc (by decide),hz,hl,hr,slice_cap Tryz.underlying82 e2'⟩
def FmCs (w : World) (cs : List Value) (e : Fm) : Prop :=
 ∃ (Ap : Option Addr) (cp : Nat) (Aa : Option Addr) (ca : Nat) (Ac : Option Addr) (cc : Nat),cs = [.slice Ap e.ps.length cp,.slice Aa e.ats.length ca,.slice Ac e.cls.length cc] ∧
  (e.ps.length ≤ maxLen ∧ e.ats.length ≤ maxLen ∧ e.cls.length ≤ maxLen) ∧ PmRow w w.heap.size e.ps Ap ∧ AtRow w w.heap.size e.ats Aa ∧ ClRow w w.heap.size e.cls Ac
theorem open_formula {x : DataW H × List MemPlace} {fuel : Nat} {cs : List Value} (h : DataW.trod enc Tryz.prog w 0 spare held fuel 69 cs = some x) : ∃ e,FmCs w cs e:=by
 obtain ⟨ys,n,_,hx1,hlen,hyl,hf⟩:=DataW.trod_struct (fs:=_) Tryz.underlying69 h
 have hlen2 : cs.length = 3:=hlen.trans (by kernel_rfl)
 have e0:=hf 0 _ rfl
 have e1:=hf 1 _ rfl
 have e2:=hf 2 _ rfl
 match cs,hlen2 with
 | [u0,u1,u2],_ =>
   match ys,hyl with
   | [y0,y1,y2],_ =>
     have k1 : Tryz.prog.cellsOf 23 = 1:=by kernel_rfl
     have k2 : Tryz.prog.cellsOf 66 = 1:=by kernel_rfl
     have k3 : Tryz.prog.cellsOf 67 = 1:=by kernel_rfl
     obtain ⟨A0,c0,l0,h0,r0,b0⟩:=open_rows (P:=PmAt) (n:=2) (by decide) Tryz.underlying23 (by kernel_rfl) (fun x fuel cs p h1 h2 => open_param p h1 h2) (x:=y0) (cs:=[u0]) (by simpa [k1] using e0)
     obtain ⟨A1,c1,l1,h1,r1,b1⟩:=open_rows (P:=AtAt) (n:=9) (by decide) Tryz.underlying66 (by kernel_rfl) (fun x fuel cs p h1 h2 => open_atom p h1 h2) (x:=y1) (cs:=[u1]) (by simpa [k2] using e1)
     obtain ⟨A2,c2,l2,h2,r2,b2⟩:=open_rows (P:=ClAt) (n:=3) (by decide) Tryz.underlying67 (by kernel_rfl) (fun x fuel cs p h1 h2 => open_cell p h1 h2) (x:=y2) (cs:=[u2]) (by simpa [k3] using e2)
     injection h0 with h0;injection h1 with h1;injection h2 with h2
     subst h0 h1 h2
     exact ⟨⟨l0,l1,l2⟩,A0,c0,A1,c1,A2,c2,rfl,⟨b0,b1,b2⟩,r0,r1,r2⟩
end Go.Proofs.YtojjfdegkooknaaGreatDoor
namespace Go.Proofs.YtojjfdegkooknaaGreatDoor
set_option maxRecDepth 100000
set_option maxHeartbeats 4000000
open Go.RowKit Go.ChangeShapes Go.WideShapes Go.Deep
variable {H : Type} {enc : TypeId × Value → H} {w : World} {spare : Nat → Bool} {held : Bool}
instance : Inhabited Cal:=⟨⟨[],[],[]⟩⟩
theorem open_call {x : DataW H × List MemPlace} {fuel : Nat} {cs : List Value} (p : Addr) (h : DataW.trod enc Tryz.prog w 0 spare held fuel 217 cs = some x) (hc : w.cells? 0 p 3 = some cs) : ∃ e,CalAt w w.heap.size p e:=by
 obtain ⟨ys,n,_,hx1,hlen,hyl,hf⟩:=DataW.trod_struct (fs:=_) Tryz.underlying217 h
 have hlen2 : cs.length = 3:=hlen.trans (by kernel_rfl)
 have e0:=hf 0 _ rfl
 have e1:=hf 1 _ rfl
 have e2:=hf 2 _ rfl
 match cs,hlen2 with
 | [u0,u1,u2],_ =>
   match ys,hyl with
   | [y0,y1,y2],_ =>
     have k2 : Tryz.prog.cellsOf 9 = 1:=by kernel_rfl
     have k3 : Tryz.prog.cellsOf 82 = 1:=by kernel_rfl
     obtain ⟨s,hs,_,hz⟩:=DataW.trod_string (x:=y0) (cs:=[u0]) Tryz.underlying9 (by simpa [k2] using e0)
     obtain ⟨t,ht,_,hz2⟩:=DataW.trod_string (x:=y1) (cs:=[u1]) Tryz.underlying9 (by simpa [k2] using e1)
     obtain ⟨A,c,es,he,hr,hl⟩:=open_exprs _ y2 (Nat.lt_succ_self _) n [u2] (by simpa [k3] using e2)
     injection hs with hs;injection ht with ht;injection he with he
     subst hs ht he
     exact ⟨⟨s.data.toList,t.data.toList,es⟩,A,c,cell_at0 hc (by decide),cells4_at hc (by decide),cells4_at hc (by decide),hz,hz2,hl,hr⟩
theorem open_formula_at {x : DataW H × List MemPlace} {fuel : Nat} {cs : List Value} (p : Addr) (h : DataW.trod enc Tryz.prog w 0 spare held fuel 69 cs = some x) (hc : w.cells? 0 p 3 = some cs) : ∃ e,FmAt w w.heap.size p e:=by
 obtain ⟨e,Ap,cp,Aa,ca,Ac,cc,rfl,h1,h2,h3,h4⟩:=open_formula h
 exact ⟨e,Ap,cp,Aa,ca,Ac,cc,cell_at0 hc (by decide),cells4_at hc (by decide),cells4_at hc (by decide),h1,h2,h3,h4⟩
def StCs (w : World) (cs : List Value) (s : St) (d : SAd) : Prop:=cs = (stCs d s).toList ∧ StOwn w w.heap.size d s ∧ StRow w w.heap.size s.body d.s ∧ StRow w w.heap.size s.els d.t
theorem open_stmt_by {N : Nat} (IH : ∀ (x : DataW H × List MemPlace),SizeOf.sizeOf x.1 < N → ∀ fuel cs,DataW.trod enc Tryz.prog w 0 spare held fuel 44 cs = some x → ∃ A c ss,cs = [.slice A ss.length c] ∧ StRow w w.heap.size ss A ∧ ss.length ≤ maxLen)
 {x : DataW H × List MemPlace} (hx : SizeOf.sizeOf x.1 ≤ N) {fuel : Nat} {cs : List Value} (h : DataW.trod enc Tryz.prog w 0 spare held fuel 90 cs = some x) : ∃ s d,StCs w cs s d:=by
 obtain ⟨ys,n,_,hx1,hlen,hyl,hf⟩:=DataW.trod_struct (fs:=_) Tryz.underlying90 h
 have hlen2 : cs.length = 24:=hlen.trans (by kernel_rfl)
 have e0:=hf 0 _ rfl
 have e1:=hf 1 _ rfl
 have e2:=hf 2 _ rfl
 have e3:=hf 3 _ rfl
 have e4:=hf 4 _ rfl
 have e5:=hf 5 _ rfl
 have e6:=hf 6 _ rfl
 have e7:=hf 7 _ rfl
 have e8:=hf 8 _ rfl
 have e9:=hf 9 _ rfl
 have e10:=hf 10 _ rfl
 match cs,hlen2 with
 | [u0,u1,u2,u3,u4,u5,u6,u7,u8,u9,u10,u11,u12,u13,u14,u15,u16,u17,u18,u19,u20,u21,u22,u23],_ =>
   match ys,hyl with
   | [y0,y1,y2,y3,y4,y5,y6,y7,y8,y9,y10],_ =>
     have k1 : Tryz.prog.cellsOf 3 = 1:=by kernel_rfl
     have k2 : Tryz.prog.cellsOf 9 = 1:=by kernel_rfl
     have k3 : Tryz.prog.cellsOf 40 = 2:=by kernel_rfl
     have k4 : Tryz.prog.cellsOf 84 = 4:=by kernel_rfl
     have k5 : Tryz.prog.cellsOf 87 = 10:=by kernel_rfl
     have k6 : Tryz.prog.cellsOf 88 = 1:=by kernel_rfl
     have k7 : Tryz.prog.cellsOf 43 = 1:=by kernel_rfl
     have k8 : Tryz.prog.cellsOf 44 = 1:=by kernel_rfl
     obtain ⟨k,hk,_⟩:=DataW.trod_int (x:=y0) (cs:=[u0]) Tryz.underlying3 (by simpa [k1] using e0)
     have e1' : DataW.trod enc Tryz.prog w 0 spare held n 40 [u1,u2] = some y1:=by simpa [k3] using e1
     obtain ⟨zs,n2,_,_,_,hzl,hg⟩:=DataW.trod_struct (fs:=_) Tryz.underlying40 e1'
     have g0:=hg 0 _ rfl
     have g1:=hg 1 _ rfl
     match zs,hzl with
     | [z0,z1],_ =>
       obtain ⟨ln,hln,_⟩:=DataW.trod_int (x:=z0) (cs:=[u1]) Tryz.underlying3 (by simpa [k1] using g0)
       obtain ⟨co,hco,_⟩:=DataW.trod_int (x:=z1) (cs:=[u2]) Tryz.underlying3 (by simpa [k1] using g1)
       obtain ⟨nm,hnm,_,mnm⟩:=DataW.trod_string (x:=y2) (cs:=[u3]) Tryz.underlying9 (by simpa [k2] using e2)
       obtain ⟨fd,hfd,_,mfd⟩:=DataW.trod_string (x:=y3) (cs:=[u4]) Tryz.underlying9 (by simpa [k2] using e3)
       obtain ⟨fr,hfr,_,mfr⟩:=DataW.trod_string (x:=y4) (cs:=[u5]) Tryz.underlying9 (by simpa [k2] using e4)
       obtain ⟨ee,Ae,ce,ek,en,es,el,rfl,hce,p1,p2,p3⟩:=open_expr (x:=y5) (cs:=[u6,u7,u8,u9]) (by simpa [k4] using e5)
       obtain ⟨ec,Aa,ca,Ab,cb,Al,cl,ck,ak,an,sa,al,bk,bn,sb,bl,l,rfl,hcc,⟨q1,q2,q3,q4,q5⟩,qa,qb,ql⟩:=open_cond_by (N:=SizeOf.sizeOf y6.1) (fun y _ => open_conds _ y (Nat.lt_succ_self _)) (Nat.le_refl _) (x:=y6) (cs:=[u10,u11,u12,u13,u14,u15,u16,u17,u18,u19]) (by simpa [k5] using e6)
       obtain ⟨Ac,cc,xl,hcl,rc,mcl⟩:=open_rows (P:=CalAt) (n:=3) (by decide) Tryz.underlying88 (by kernel_rfl) (fun x fuel cs p h1 h2 => open_call p h1 h2) (x:=y7) (cs:=[u20]) (by simpa [k6] using e7)
       obtain ⟨Ai,ci,iv,hiv,ri,miv⟩:=open_rows (P:=FmAt) (n:=3) (by decide) Tryz.underlying43 (by kernel_rfl) (fun x fuel cs p h1 h2 => open_formula_at p h1 h2) (x:=y8) (cs:=[u21]) (by simpa [k7] using e8)
       have hsz : SizeOf.sizeOf y9.1 < N ∧ SizeOf.sizeOf y10.1 < N:=by
        have h1 : SizeOf.sizeOf x.1 ≤ N:=hx
        rw [hx1] at h1
        simp at h1
        omega
       obtain ⟨As,cs',b,hb,rb,mb⟩:=IH y9 hsz.1 n [u22] (by simpa [k8] using e9)
       obtain ⟨At,ct,o,ho,ro,mo⟩:=IH y10 hsz.2 n [u23] (by simpa [k8] using e10)
       injection hk with hk;injection hln with hln;injection hco with hco;injection hnm with hnm;injection hfd with hfd;injection hfr with hfr
       injection hcl with hcl;injection hiv with hiv;injection hb with hb;injection ho with ho
       simp only [List.cons.injEq,and_true] at hce hcc
       obtain ⟨a1,a2,a3,a4⟩:=hce
       obtain ⟨b1,b2,b3,b4,b5,b6,b7,b8,b9,b10⟩:=hcc
       subst hk hln hco hnm hfd hfr hcl hiv hb ho a1 a2 a3 a4 b1 b2 b3 b4 b5 b6 b7 b8 b9 b10
       exact ⟨.mk k ln co nm.data.toList fd.data.toList fr.data.toList (.mk ek en es el) (.mk ck (.mk ak an sa al) (.mk bk bn sb bl) l) xl iv b o,⟨Ae,Aa,Ab,Al,Ac,Ai,As,At,ce,ca,cb,cl,cc,ci,cs',ct⟩,rfl,
        ⟨⟨mnm,mfd,mfr,p1,p2,q1,q2,q3,q4,q5,mcl,miv,mb,mo⟩,p3,qa,qb,ql,rc,ri⟩,rb,ro⟩
theorem open_stmts : ∀ (N : Nat) (x : DataW H × List MemPlace),SizeOf.sizeOf x.1 < N → ∀ fuel cs,DataW.trod enc Tryz.prog w 0 spare held fuel 44 cs = some x → ∃ A c ss,cs = [.slice A ss.length c] ∧ StRow w w.heap.size ss A ∧ ss.length ≤ maxLen:=by
 intro N
 induction N with
 | zero => intro x h;omega
 | succ N ih =>
   intro x hx fuel cs h
   rcases open_slice Tryz.underlying44 h with ⟨e0,_⟩ | ⟨a,len,cap,m,n,D,Pl,e0,hb,hl,hm,hmm,hxx,hi⟩
   ·exact ⟨none,0,[],e0,.nil _,Nat.zero_le _⟩
   ·have hlm : len ≤ m:=by rw [hmm];split <;> omega
    have k4 : Tryz.prog.cellsOf 90 = 24:=by kernel_rfl
    rw [k4] at hi
    have hq : ∀ i,i < len → ∃ t : St × SAd,∃ cs',w.cells? 0 (a.add (i * 24)) 24 = some cs' ∧ StCs w cs' t.1 t.2:=fun i hi' => by
     obtain ⟨cs',h1,h2⟩:=hi i (by omega)
     have hsz : SizeOf.sizeOf (D i) ≤ N:=by
      have h1:=hx
      rw [hxx] at h1
      have hmem : D i ∈ (List.range len).map D:=List.mem_map.2 ⟨i,List.mem_range.2 hi',rfl⟩
      have h2:=List.sizeOf_lt_of_mem hmem
      simp at h1
      omega
     obtain ⟨s,d,hs⟩:=open_stmt_by ih (x:=(D i,Pl i)) hsz h2
     exact ⟨(s,d),cs',h1,hs⟩
    have : Inhabited (St × SAd):=⟨(.mk 0 0 0 [] [] [] (.mk 0 0 [] []) (.mk 0 (.mk 0 0 [] []) (.mk 0 0 [] []) []) [] [] [] [],⟨none,none,none,none,none,none,none,none,0,0,0,0,0,0,0,0⟩)⟩
    obtain ⟨f,hF⟩:=choose_lt hq
    have hlen : ((List.range len).map fun i => (f i).1).length = len:=by simp
    refine ⟨some a,cap,(List.range len).map fun i => (f i).1,by rw [hlen];exact e0,?_,by rw [hlen];omega⟩
    by_cases h0 : len = 0
    ·subst h0;exact .nil _
    ·have hab : a.block < w.heap.size:=by
      obtain ⟨cs',h1,_⟩:=hi 0 (by omega)
      have hl':=(World.cells?_some h1).2.1
      have h3:=cells4_at h1 (show 0 < 24 by decide)
      rw [List.getElem?_eq_getElem (by omega)] at h3
      have := cell_ltO h3
      rwa [block_adds,block_adds] at this
     have hget : ∀ i e,((List.range len).map fun i => (f i).1)[i]? = some e → i < len ∧ (f i).1 = e:=fun i e h => by
      have hi:=(List.getElem?_eq_some_iff.1 h).1
      rw [hlen] at hi
      rw [List.getElem?_map,List.getElem?_range hi] at h
      exact ⟨hi,Option.some.inj h⟩
     refine .row a _ (fun i => (f i).2) hab (fun i s h => ?_) (fun i s h => ?_) (fun i s h => ?_)
     ·obtain ⟨hi',rfl⟩:=hget i _ h
      obtain ⟨cs',h1,rfl,h3,_,_⟩:=hF i hi'
      refine ⟨fun j v hv => ?_,h3⟩
      have hj : j < 24:=by rw [← stCs_size (f i).2 (f i).1];exact (Array.getElem?_eq_some_iff.1 hv).1
      rw [cells4_at h1 hj]
      simpa using hv
     ·obtain ⟨hi',rfl⟩:=hget i _ h
      obtain ⟨cs',h1,_,_,h4,_⟩:=hF i hi'
      exact h4
     ·obtain ⟨hi',rfl⟩:=hget i _ h
      obtain ⟨cs',h1,_,_,_,h5⟩:=hF i hi'
      exact h5
end Go.Proofs.YtojjfdegkooknaaGreatDoor
namespace Go.Proofs.YtojjfdegkooknaaGreatDoor
set_option maxRecDepth 100000
open Go.RowKit
structure Rc where
 nm : List UInt8
 fs : List Pm
structure Lk where
 nm : List UInt8
 iv : List Fm
structure Df where
 nm : List UInt8
 ps : List Pm
 cs : List Fm
structure Lm where
 nm : List UInt8
 ps : List Pm
 lf : Fm
 rt : Fm
structure Pr where
 nm : List UInt8
 ln : Int
 co : Int
 ps : List Pm
 lg : List Pm
 rt : List UInt8
 rn : List UInt8
 ct : Bool
 rq : List Fm
 es : List Fm
 lo : List Pm
 bd : List St
structure Pg where
 rs : List Rc
 gs : List Pm
 ks : List Lk
 ds : List Df
 ms : List Lm
 xs : List Pr
def RcAt (w : World) (B : Nat) (p : Addr) (x : Rc) : Prop :=
 ∃ (A : Option Addr) (c : Nat),w.cell? p = some (.string ⟨x.nm.toArray⟩) ∧ w.cell? (p.add 1) = some (.slice A x.fs.length c) ∧ x.nm.length ≤ maxLen ∧ x.fs.length ≤ maxLen ∧ PmRow w B x.fs A
theorem rc_keeps : Keeps RcAt:=by
 rintro w w' B B' p x hk hB hp ⟨A,c,h0,h1,h2,h3,h4⟩
 exact ⟨A,c,(hk _ hp).trans h0,(hk _ (by rw [block_adds];exact hp)).trans h1,h2,h3,h4.keep pm_keeps hk hB⟩
def LkAt (w : World) (B : Nat) (p : Addr) (x : Lk) : Prop :=
 ∃ (A : Option Addr) (c : Nat),w.cell? p = some (.string ⟨x.nm.toArray⟩) ∧ w.cell? (p.add 1) = some (.slice A x.iv.length c) ∧ x.nm.length ≤ maxLen ∧ x.iv.length ≤ maxLen ∧ FmRow w B x.iv A
theorem lk_keeps : Keeps LkAt:=by
 rintro w w' B B' p x hk hB hp ⟨A,c,h0,h1,h2,h3,h4⟩
 exact ⟨A,c,(hk _ hp).trans h0,(hk _ (by rw [block_adds];exact hp)).trans h1,h2,h3,h4.keep fm_keeps hk hB⟩
def DfAt (w : World) (B : Nat) (p : Addr) (x : Df) : Prop :=
 ∃ (A : Option Addr) (c : Nat) (A2 : Option Addr) (c2 : Nat),w.cell? p = some (.string ⟨x.nm.toArray⟩) ∧ w.cell? (p.add 1) = some (.slice A x.ps.length c) ∧ w.cell? (p.add 2) = some (.slice A2 x.cs.length c2) ∧
  x.nm.length ≤ maxLen ∧ x.ps.length ≤ maxLen ∧ x.cs.length ≤ maxLen ∧ PmRow w B x.ps A ∧ FmRow w B x.cs A2
theorem df_keeps : Keeps DfAt:=by
 rintro w w' B B' p x hk hB hp ⟨A,c,A2,c2,h0,h1,h2,h3,h4,h5,h6,h7⟩
 have e : ∀ j,(p.add j).block < B:=fun j => by rw [block_adds];exact hp
 exact ⟨A,c,A2,c2,(hk _ hp).trans h0,(hk _ (e 1)).trans h1,(hk _ (e 2)).trans h2,h3,h4,h5,h6.keep pm_keeps hk hB,h7.keep fm_keeps hk hB⟩
structure FAd where
 p : Option Addr
 a : Option Addr
 c : Option Addr
 np : Nat
 na : Nat
 nc : Nat
def FmOwn (w : World) (B : Nat) (d : FAd) (x : Fm) : Prop :=
 (x.ps.length ≤ maxLen ∧ x.ats.length ≤ maxLen ∧ x.cls.length ≤ maxLen) ∧ PmRow w B x.ps d.p ∧ AtRow w B x.ats d.a ∧ ClRow w B x.cls d.c
theorem FmOwn.keep {w w' : World} {B B' : Nat} (hk : ∀ q : Addr,q.block < B → w'.cell? q = w.cell? q) (hB : B ≤ B') {d : FAd} {x : Fm} (h : FmOwn w B d x) : FmOwn w' B' d x:=by
 obtain ⟨h0,h1,h2,h3⟩:=h
 exact ⟨h0,h1.keep pm_keeps hk hB,h2.keep at_keeps hk hB,h3.keep cl_keeps hk hB⟩
theorem FmOwn.on {w w' : World} (hb : Below w.heap.size w w') {d : FAd} {x : Fm} (h : FmOwn w w.heap.size d x) : FmOwn w' w'.heap.size d x:=h.keep (fun _ hp => hb.cell hp) hb.size
def lmCs (A : Option Addr) (c : Nat) (d e : FAd) (x : Lm) : Array Value :=
 #[.string ⟨x.nm.toArray⟩,.slice A x.ps.length c,.slice d.p x.lf.ps.length d.np,.slice d.a x.lf.ats.length d.na,.slice d.c x.lf.cls.length d.nc,.slice e.p x.rt.ps.length e.np,.slice e.a x.rt.ats.length e.na,.slice e.c x.rt.cls.length e.nc]
def LmAt (w : World) (B : Nat) (p : Addr) (x : Lm) : Prop :=
 ∃ (A : Option Addr) (c : Nat) (d e : FAd),(∀ j v,(lmCs A c d e x)[j]? = some v → w.cell? (p.add j) = some v) ∧ x.nm.length ≤ maxLen ∧ x.ps.length ≤ maxLen ∧ PmRow w B x.ps A ∧ FmOwn w B d x.lf ∧ FmOwn w B e x.rt
theorem lm_keeps : Keeps LmAt:=by
 rintro w w' B B' p x hk hB hp ⟨A,c,d,e,h0,h1,h2,h3,h4,h5⟩
 exact ⟨A,c,d,e,fun j v hv => (hk _ (by rw [block_adds];exact hp)).trans (h0 j v hv),h1,h2,h3.keep pm_keeps hk hB,h4.keep hk hB,h5.keep hk hB⟩
structure PAd where
 p : Option Addr
 g : Option Addr
 r : Option Addr
 e : Option Addr
 l : Option Addr
 b : Option Addr
 np : Nat
 ng : Nat
 nr : Nat
 ne : Nat
 nl : Nat
 nb : Nat
def prCs (d : PAd) (x : Pr) : Array Value :=
 #[.string ⟨x.nm.toArray⟩,.int .i64 x.ln,.int .i64 x.co,.slice d.p x.ps.length d.np,.slice d.g x.lg.length d.ng,.string ⟨x.rt.toArray⟩,.string ⟨x.rn.toArray⟩,.bool x.ct,.slice d.r x.rq.length d.nr,.slice d.e x.es.length d.ne,.slice d.l x.lo.length d.nl,.slice d.b x.bd.length d.nb]
def PrOwn (w : World) (B : Nat) (d : PAd) (x : Pr) : Prop :=
 (x.nm.length ≤ maxLen ∧ x.ps.length ≤ maxLen ∧ x.lg.length ≤ maxLen ∧ x.rt.length ≤ maxLen ∧ x.rn.length ≤ maxLen ∧ x.rq.length ≤ maxLen ∧ x.es.length ≤ maxLen ∧ x.lo.length ≤ maxLen ∧ x.bd.length ≤ maxLen) ∧
   PmRow w B x.ps d.p ∧ PmRow w B x.lg d.g ∧ FmRow w B x.rq d.r ∧ FmRow w B x.es d.e ∧ PmRow w B x.lo d.l ∧ StRow w B x.bd d.b
theorem PrOwn.keep {w w' : World} {B B' : Nat} (hk : ∀ q : Addr,q.block < B → w'.cell? q = w.cell? q) (hB : B ≤ B') {d : PAd} {x : Pr} (h : PrOwn w B d x) : PrOwn w' B' d x:=by
 obtain ⟨h0,h1,h2,h3,h4,h5,h6⟩:=h
 exact ⟨h0,h1.keep pm_keeps hk hB,h2.keep pm_keeps hk hB,h3.keep fm_keeps hk hB,h4.keep fm_keeps hk hB,h5.keep pm_keeps hk hB,h6.keep hk hB⟩
theorem PrOwn.on {w w' : World} (hb : Below w.heap.size w w') {d : PAd} {x : Pr} (h : PrOwn w w.heap.size d x) : PrOwn w' w'.heap.size d x:=h.keep (fun _ hp => hb.cell hp) hb.size
def PrAt (w : World) (B : Nat) (p : Addr) (x : Pr) : Prop :=
 ∃ d : PAd,(∀ j v,(prCs d x)[j]? = some v → w.cell? (p.add j) = some v) ∧ PrOwn w B d x
theorem pr_keeps : Keeps PrAt:=by
 rintro w w' B B' p x hk hB hp ⟨d,h0,h1⟩
 exact ⟨d,fun j v hv => (hk _ (by rw [block_adds];exact hp)).trans (h0 j v hv),h1.keep hk hB⟩
abbrev RcRow:=RowX RcAt 2
abbrev LkRow:=RowX LkAt 2
abbrev DfRow:=RowX DfAt 3
abbrev LmRow:=RowX LmAt 8
abbrev PrRow:=RowX PrAt 12
structure GAd where
 r : Option Addr
 g : Option Addr
 k : Option Addr
 d : Option Addr
 m : Option Addr
 x : Option Addr
 nr : Nat
 ng : Nat
 nk : Nat
 nd : Nat
 nm : Nat
 nx : Nat
def PgOwn (w : World) (B : Nat) (d : GAd) (p : Pg) : Prop :=
 (p.rs.length ≤ maxLen ∧ p.gs.length ≤ maxLen ∧ p.ks.length ≤ maxLen ∧ p.ds.length ≤ maxLen ∧ p.ms.length ≤ maxLen ∧ p.xs.length ≤ maxLen) ∧
   RcRow w B p.rs d.r ∧ PmRow w B p.gs d.g ∧ LkRow w B p.ks d.k ∧ DfRow w B p.ds d.d ∧ LmRow w B p.ms d.m ∧ PrRow w B p.xs d.x
theorem PgOwn.keep {w w' : World} {B B' : Nat} (hk : ∀ q : Addr,q.block < B → w'.cell? q = w.cell? q) (hB : B ≤ B') {d : GAd} {p : Pg} (h : PgOwn w B d p) : PgOwn w' B' d p:=by
 obtain ⟨h0,h1,h2,h3,h4,h5,h6⟩:=h
 exact ⟨h0,h1.keep rc_keeps hk hB,h2.keep pm_keeps hk hB,h3.keep lk_keeps hk hB,h4.keep df_keeps hk hB,h5.keep lm_keeps hk hB,h6.keep pr_keeps hk hB⟩
theorem PgOwn.on {w w' : World} (hb : Below w.heap.size w w') {d : GAd} {p : Pg} (h : PgOwn w w.heap.size d p) : PgOwn w' w'.heap.size d p:=h.keep (fun _ hp => hb.cell hp) hb.size
abbrev progV (d : GAd) (p : Pg) : Value:=.agg #[.slice d.r p.rs.length d.nr,.slice d.g p.gs.length d.ng,.slice d.k p.ks.length d.nk,.slice d.d p.ds.length d.nd,.slice d.m p.ms.length d.nm,.slice d.x p.xs.length d.nx]
end Go.Proofs.YtojjfdegkooknaaGreatDoor
namespace Go.Proofs.YtojjfdegkooknaaGreatDoor
set_option maxRecDepth 100000
open Go.RowKit Go.ChangeShapes Go.WideShapes Go.Deep
variable {H : Type} {enc : TypeId × Value → H} {w : World} {spare : Nat → Bool} {held : Bool}
instance : Inhabited Rc:=⟨⟨[],[]⟩⟩
instance : Inhabited Lk:=⟨⟨[],[]⟩⟩
instance : Inhabited Df:=⟨⟨[],[],[]⟩⟩
instance : Inhabited Lm:=⟨⟨[],[],⟨[],[],[]⟩,⟨[],[],[]⟩⟩⟩
instance : Inhabited Pr:=⟨⟨[],0,0,[],[],[],[],false,[],[],[],[]⟩⟩
theorem open_params {x : DataW H × List MemPlace} {fuel : Nat} {cs : List Value} (h : DataW.trod enc Tryz.prog w 0 spare held fuel 23 cs = some x) : ∃ A c es,cs = [.slice A es.length c] ∧ PmRow w w.heap.size es A ∧ es.length ≤ maxLen :=
 open_rows (P:=PmAt) (n:=2) (by decide) Tryz.underlying23 (by kernel_rfl) (fun x fuel cs p h1 h2 => open_param p h1 h2) h
theorem open_formulas {x : DataW H × List MemPlace} {fuel : Nat} {cs : List Value} (h : DataW.trod enc Tryz.prog w 0 spare held fuel 43 cs = some x) : ∃ A c es,cs = [.slice A es.length c] ∧ FmRow w w.heap.size es A ∧ es.length ≤ maxLen :=
 open_rows (P:=FmAt) (n:=3) (by decide) Tryz.underlying43 (by kernel_rfl) (fun x fuel cs p h1 h2 => open_formula_at p h1 h2) h
theorem open_record {x : DataW H × List MemPlace} {fuel : Nat} {cs : List Value} (p : Addr) (h : DataW.trod enc Tryz.prog w 0 spare held fuel 36 cs = some x) (hc : w.cells? 0 p 2 = some cs) : ∃ e,RcAt w w.heap.size p e:=by
 obtain ⟨ys,n,_,hx1,hlen,hyl,hf⟩:=DataW.trod_struct (fs:=_) Tryz.underlying36 h
 have hlen2 : cs.length = 2:=hlen.trans (by kernel_rfl)
 have e0:=hf 0 _ rfl
 have e1:=hf 1 _ rfl
 match cs,hlen2 with
 | [u0,u1],_ =>
   match ys,hyl with
   | [y0,y1],_ =>
     have k2 : Tryz.prog.cellsOf 9 = 1:=by kernel_rfl
     have k3 : Tryz.prog.cellsOf 23 = 1:=by kernel_rfl
     obtain ⟨s,hs,_,hz⟩:=DataW.trod_string (x:=y0) (cs:=[u0]) Tryz.underlying9 (by simpa [k2] using e0)
     obtain ⟨A,c,es,he,hr,hl⟩:=open_params (x:=y1) (fuel:=n) (cs:=[u1]) (by simpa [k3] using e1)
     injection hs with hs;injection he with he
     subst hs he
     exact ⟨⟨s.data.toList,es⟩,A,c,cell_at0 hc (by decide),cells4_at hc (by decide),hz,hl,hr⟩
theorem open_lock {x : DataW H × List MemPlace} {fuel : Nat} {cs : List Value} (p : Addr) (h : DataW.trod enc Tryz.prog w 0 spare held fuel 61 cs = some x) (hc : w.cells? 0 p 2 = some cs) : ∃ e,LkAt w w.heap.size p e:=by
 obtain ⟨ys,n,_,hx1,hlen,hyl,hf⟩:=DataW.trod_struct (fs:=_) Tryz.underlying61 h
 have hlen2 : cs.length = 2:=hlen.trans (by kernel_rfl)
 have e0:=hf 0 _ rfl
 have e1:=hf 1 _ rfl
 match cs,hlen2 with
 | [u0,u1],_ =>
   match ys,hyl with
   | [y0,y1],_ =>
     have k2 : Tryz.prog.cellsOf 9 = 1:=by kernel_rfl
     have k3 : Tryz.prog.cellsOf 43 = 1:=by kernel_rfl
     obtain ⟨s,hs,_,hz⟩:=DataW.trod_string (x:=y0) (cs:=[u0]) Tryz.underlying9 (by simpa [k2] using e0)
     obtain ⟨A,c,es,he,hr,hl⟩:=open_formulas (x:=y1) (fuel:=n) (cs:=[u1]) (by simpa [k3] using e1)
     injection hs with hs;injection he with he
     subst hs he
     exact ⟨⟨s.data.toList,es⟩,A,c,cell_at0 hc (by decide),cells4_at hc (by decide),hz,hl,hr⟩
theorem open_def {x : DataW H × List MemPlace} {fuel : Nat} {cs : List Value} (p : Addr) (h : DataW.trod enc Tryz.prog w 0 spare held fuel 64 cs = some x) (hc : w.cells? 0 p 3 = some cs) : ∃ e,DfAt w w.heap.size p e:=by
 obtain ⟨ys,n,_,hx1,hlen,hyl,hf⟩:=DataW.trod_struct (fs:=_) Tryz.underlying64 h
 have hlen2 : cs.length = 3:=hlen.trans (by kernel_rfl)
 have e0:=hf 0 _ rfl
 have e1:=hf 1 _ rfl
 have e2:=hf 2 _ rfl
 match cs,hlen2 with
 | [u0,u1,u2],_ =>
   match ys,hyl with
   | [y0,y1,y2],_ =>
     have k2 : Tryz.prog.cellsOf 9 = 1:=by kernel_rfl
     have k3 : Tryz.prog.cellsOf 23 = 1:=by kernel_rfl
     have k4 : Tryz.prog.cellsOf 43 = 1:=by kernel_rfl
     obtain ⟨s,hs,_,hz⟩:=DataW.trod_string (x:=y0) (cs:=[u0]) Tryz.underlying9 (by simpa [k2] using e0)
     obtain ⟨A,c,es,he,hr,hl⟩:=open_params (x:=y1) (fuel:=n) (cs:=[u1]) (by simpa [k3] using e1)
     obtain ⟨A2,c2,es2,he2,hr2,hl2⟩:=open_formulas (x:=y2) (fuel:=n) (cs:=[u2]) (by simpa [k4] using e2)
     injection hs with hs;injection he with he;injection he2 with he2
     subst hs he he2
     exact ⟨⟨s.data.toList,es,es2⟩,A,c,A2,c2,cell_at0 hc (by decide),cells4_at hc (by decide),cells4_at hc (by decide),hz,hl,hl2,hr,hr2⟩
theorem open_lemma {x : DataW H × List MemPlace} {fuel : Nat} {cs : List Value} (p : Addr) (h : DataW.trod enc Tryz.prog w 0 spare held fuel 71 cs = some x) (hc : w.cells? 0 p 8 = some cs) : ∃ e,LmAt w w.heap.size p e:=by
 obtain ⟨ys,n,_,hx1,hlen,hyl,hf⟩:=DataW.trod_struct (fs:=_) Tryz.underlying71 h
 have hlen2 : cs.length = 8:=hlen.trans (by kernel_rfl)
 have e0:=hf 0 _ rfl
 have e1:=hf 1 _ rfl
 have e2:=hf 2 _ rfl
 have e3:=hf 3 _ rfl
 match cs,hlen2 with
 | [u0,u1,u2,u3,u4,u5,u6,u7],_ =>
   match ys,hyl with
   | [y0,y1,y2,y3],_ =>
     have k2 : Tryz.prog.cellsOf 9 = 1:=by kernel_rfl
     have k3 : Tryz.prog.cellsOf 23 = 1:=by kernel_rfl
     have k4 : Tryz.prog.cellsOf 69 = 3:=by kernel_rfl
     obtain ⟨s,hs,_,hz⟩:=DataW.trod_string (x:=y0) (cs:=[u0]) Tryz.underlying9 (by simpa [k2] using e0)
     obtain ⟨A,c,es,he,hr,hl⟩:=open_params (x:=y1) (fuel:=n) (cs:=[u1]) (by simpa [k3] using e1)
     obtain ⟨f,Ap,cp,Aa,ca,Ac,cc,hf1,hb1,r1,r2,r3⟩:=open_formula (x:=y2) (fuel:=n) (cs:=[u2,u3,u4]) (by simpa [k4] using e2)
     obtain ⟨g,Bp,dp,Ba,da,Bc,dc,hf2,hb2,q1,q2,q3⟩:=open_formula (x:=y3) (fuel:=n) (cs:=[u5,u6,u7]) (by simpa [k4] using e3)
     injection hs with hs;injection he with he
     simp only [List.cons.injEq,and_true] at hf1 hf2
     obtain ⟨a1,a2,a3⟩:=hf1
     obtain ⟨b1,b2,b3⟩:=hf2
     subst hs he a1 a2 a3 b1 b2 b3
     refine ⟨⟨s.data.toList,es,f,g⟩,A,c,⟨Ap,Aa,Ac,cp,ca,cc⟩,⟨Bp,Ba,Bc,dp,da,dc⟩,fun j v hv => ?_,hz,hl,hr,⟨hb1,r1,r2,r3⟩,⟨hb2,q1,q2,q3⟩⟩
     have hj : j < 8:=(Array.getElem?_eq_some_iff.1 hv).1
     rw [cells4_at hc hj]
     unfold lmCs at hv
     rw [List.getElem?_toArray] at hv
     exact hv
theorem open_proc {x : DataW H × List MemPlace} {fuel : Nat} {cs : List Value} (p : Addr) (h : DataW.trod enc Tryz.prog w 0 spare held fuel 46 cs = some x) (hc : w.cells? 0 p 12 = some cs) : ∃ e,PrAt w w.heap.size p e:=by
 obtain ⟨ys,n,_,hx1,hlen,hyl,hf⟩:=DataW.trod_struct (fs:=_) Tryz.underlying46 h
 have hlen2 : cs.length = 12:=hlen.trans (by kernel_rfl)
 have e0:=hf 0 _ rfl
 have e1:=hf 1 _ rfl
 have e2:=hf 2 _ rfl
 have e3:=hf 3 _ rfl
 have e4:=hf 4 _ rfl
 have e5:=hf 5 _ rfl
 have e6:=hf 6 _ rfl
 have e7:=hf 7 _ rfl
 have e8:=hf 8 _ rfl
 have e9:=hf 9 _ rfl
 match cs,hlen2 with
 | [u0,u1,u2,u3,u4,u5,u6,u7,u8,u9,u10,u11],_ =>
   match ys,hyl with
   | [y0,y1,y2,y3,y4,y5,y6,y7,y8,y9],_ =>
     have k1 : Tryz.prog.cellsOf 3 = 1:=by kernel_rfl
     have k2 : Tryz.prog.cellsOf 9 = 1:=by kernel_rfl
     have k3 : Tryz.prog.cellsOf 23 = 1:=by kernel_rfl
     have k4 : Tryz.prog.cellsOf 43 = 1:=by kernel_rfl
     have k5 : Tryz.prog.cellsOf 40 = 2:=by kernel_rfl
     have k6 : Tryz.prog.cellsOf 42 = 2:=by kernel_rfl
     have k7 : Tryz.prog.cellsOf 4 = 1:=by kernel_rfl
     have k8 : Tryz.prog.cellsOf 44 = 1:=by kernel_rfl
     obtain ⟨s,hs,_,hz⟩:=DataW.trod_string (x:=y0) (cs:=[u0]) Tryz.underlying9 (by simpa [k2] using e0)
     have e1' : DataW.trod enc Tryz.prog w 0 spare held n 40 [u1,u2] = some y1:=by simpa [k5] using e1
     have e4' : DataW.trod enc Tryz.prog w 0 spare held n 42 [u5,u6] = some y4:=by simpa [k6] using e4
     obtain ⟨zs,n2,_,_,_,hzl,hg⟩:=DataW.trod_struct (fs:=_) Tryz.underlying40 e1'
     obtain ⟨ts,n3,_,_,_,htl,hk⟩:=DataW.trod_struct (fs:=_) Tryz.underlying42 e4'
     have g0:=hg 0 _ rfl
     have g1:=hg 1 _ rfl
     have t0:=hk 0 _ rfl
     have t1:=hk 1 _ rfl
     match zs,hzl,ts,htl with
     | [z0,z1],_,[v0,v1],_ =>
       obtain ⟨ln,hln,_⟩:=DataW.trod_int (x:=z0) (cs:=[u1]) Tryz.underlying3 (by simpa [k1] using g0)
       obtain ⟨co,hco,_⟩:=DataW.trod_int (x:=z1) (cs:=[u2]) Tryz.underlying3 (by simpa [k1] using g1)
       obtain ⟨rt,hrt,_,mrt⟩:=DataW.trod_string (x:=v0) (cs:=[u5]) Tryz.underlying9 (by simpa [k2] using t0)
       obtain ⟨rn,hrn,_,mrn⟩:=DataW.trod_string (x:=v1) (cs:=[u6]) Tryz.underlying9 (by simpa [k2] using t1)
       obtain ⟨A1,c1,ps,h1,r1,l1⟩:=open_params (x:=y2) (fuel:=n) (cs:=[u3]) (by simpa [k3] using e2)
       obtain ⟨A2,c2,lg,h2,r2,l2⟩:=open_params (x:=y3) (fuel:=n) (cs:=[u4]) (by simpa [k3] using e3)
       obtain ⟨b,hb,_⟩:=DataW.trod_bool (x:=y5) (cs:=[u7]) Tryz.underlying4 (by simpa [k7] using e5)
       obtain ⟨A3,c3,rq,h3,r3,l3⟩:=open_formulas (x:=y6) (fuel:=n) (cs:=[u8]) (by simpa [k4] using e6)
       obtain ⟨A4,c4,es,h4,r4,l4⟩:=open_formulas (x:=y7) (fuel:=n) (cs:=[u9]) (by simpa [k4] using e7)
       obtain ⟨A5,c5,lo,h5,r5,l5⟩:=open_params (x:=y8) (fuel:=n) (cs:=[u10]) (by simpa [k3] using e8)
       obtain ⟨A6,c6,bd,h6,r6,l6⟩:=open_stmts _ y9 (Nat.lt_succ_self _) n [u11] (by simpa [k8] using e9)
       injection hs with hs;injection hln with hln;injection hco with hco;injection hrt with hrt;injection hrn with hrn;injection hb with hb
       injection h1 with h1;injection h2 with h2;injection h3 with h3;injection h4 with h4;injection h5 with h5;injection h6 with h6
       subst hs hln hco hrt hrn hb h1 h2 h3 h4 h5 h6
       refine ⟨⟨s.data.toList,ln,co,ps,lg,rt.data.toList,rn.data.toList,b,rq,es,lo,bd⟩,⟨A1,A2,A3,A4,A5,A6,c1,c2,c3,c4,c5,c6⟩,fun j v hv => ?_,⟨hz,l1,l2,mrt,mrn,l3,l4,l5,l6⟩,r1,r2,r3,r4,r5,r6⟩
       have hj : j < 12:=(Array.getElem?_eq_some_iff.1 hv).1
       rw [cells4_at hc hj]
       unfold prCs at hv
       rw [List.getElem?_toArray] at hv
       exact hv
theorem open_programA {b0 : Nat} {v : Value} {d : DataW H} {p : List MemPlace} (hv : Value.okWide Tryz.prog w .any b0 29 v) (h : DataW.Trod enc Tryz.prog w 0 spare held 29 v d p) :
 ∃ (e : Pg) (g : GAd),v = progV g e ∧ PgOwn w w.heap.size g e:=by
 obtain ⟨cs,rfl,_⟩:=okWide_struct Tryz.underlying29 hv
 obtain ⟨fuel,hf⟩:=h
 have hf : DataW.trod enc Tryz.prog w 0 spare held fuel 29 cs.toList = some (d,p):=by simpa [Value.cells] using hf
 obtain ⟨ys,n,_,hx1,hlen,hyl,hf⟩:=DataW.trod_struct (fs:=_) Tryz.underlying29 hf
 have hlen2 : cs.toList.length = 6:=hlen.trans (by kernel_rfl)
 obtain ⟨us,hus⟩ : ∃ us,us = cs.toList:=⟨_,rfl⟩
 rw [← hus] at hlen2 hf
 have e0:=hf 0 _ rfl
 have e1:=hf 1 _ rfl
 have e2:=hf 2 _ rfl
 have e3:=hf 3 _ rfl
 have e4:=hf 4 _ rfl
 have e5:=hf 5 _ rfl
 match us,hlen2 with
 | [u0,u1,u2,u3,u4,u5],_ =>
   match ys,hyl with
   | [y0,y1,y2,y3,y4,y5],_ =>
     have k1 : Tryz.prog.cellsOf 22 = 1:=by kernel_rfl
     have k2 : Tryz.prog.cellsOf 23 = 1:=by kernel_rfl
     have k3 : Tryz.prog.cellsOf 24 = 1:=by kernel_rfl
     have k4 : Tryz.prog.cellsOf 25 = 1:=by kernel_rfl
     have k5 : Tryz.prog.cellsOf 26 = 1:=by kernel_rfl
     have k6 : Tryz.prog.cellsOf 27 = 1:=by kernel_rfl
     obtain ⟨A0,c0,l0,h0,r0,b0⟩:=open_rows (P:=RcAt) (n:=2) (by decide) Tryz.underlying22 (by kernel_rfl) (fun x fuel cs p h1 h2 => open_record p h1 h2) (x:=y0) (fuel:=n) (cs:=[u0]) (by simpa [k1] using e0)
     obtain ⟨A1,c1,l1,h1,r1,b1⟩:=open_params (x:=y1) (fuel:=n) (cs:=[u1]) (by simpa [k2] using e1)
     obtain ⟨A2,c2,l2,h2,r2,b2⟩:=open_rows (P:=LkAt) (n:=2) (by decide) Tryz.underlying24 (by kernel_rfl) (fun x fuel cs p h1 h2 => open_lock p h1 h2) (x:=y2) (fuel:=n) (cs:=[u2]) (by simpa [k3] using e2)
     obtain ⟨A3,c3,l3,h3,r3,b3⟩:=open_rows (P:=DfAt) (n:=3) (by decide) Tryz.underlying25 (by kernel_rfl) (fun x fuel cs p h1 h2 => open_def p h1 h2) (x:=y3) (fuel:=n) (cs:=[u3]) (by simpa [k4] using e3)
     obtain ⟨A4,c4,l4,h4,r4,b4⟩:=open_rows (P:=LmAt) (n:=8) (by decide) Tryz.underlying26 (by kernel_rfl) (fun x fuel cs p h1 h2 => open_lemma p h1 h2) (x:=y4) (fuel:=n) (cs:=[u4]) (by simpa [k5] using e4)
     obtain ⟨A5,c5,l5,h5,r5,b5⟩:=open_rows (P:=PrAt) (n:=12) (by decide) Tryz.underlying27 (by kernel_rfl) (fun x fuel cs p h1 h2 => open_proc p h1 h2) (x:=y5) (fuel:=n) (cs:=[u5]) (by simpa [k6] using e5)
     injection h0 with h0;injection h1 with h1;injection h2 with h2;injection h3 with h3;injection h4 with h4;injection h5 with h5
     subst h0 h1 h2 h3 h4 h5
     refine ⟨⟨l0,l1,l2,l3,l4,l5⟩,⟨A0,A1,A2,A3,A4,A5,c0,c1,c2,c3,c4,c5⟩,?_,⟨b0,b1,b2,b3,b4,b5⟩,r0,r1,r2,r3,r4,r5⟩
     rw [show cs = #[.slice A0 l0.length c0,.slice A1 l1.length c1,.slice A2 l2.length c2,.slice A3 l3.length c3,.slice A4 l4.length c4,.slice A5 l5.length c5] from by apply Array.toList_inj.1;exact hus.symm]
end Go.Proofs.YtojjfdegkooknaaGreatDoor
