import Derived.Test.YtojjfdegkooknaaGreatDoorRows
import Derived.WideKeyArgs
import Derived.OpenShut
import Derived.ChangeSame
import Derived.ProofKit
import Derived.Test.YtojjfdegkooknaaGreatDoorQTreeO
import Derived.Test.YtojjfdegkooknaaGreatDoorQTreeQ
import Derived.Test.YtojjfdegkooknaaGreatDoorQTreeCj
import GoSem.ClaimJoined
import Derived.Test.YtojjfdegkooknaaGreatDoorQTypRf
import Derived.MakeChecks
import Derived.Deep.Slices
set_option linter.unusedVariables false
set_option linter.unusedSimpArgs false
namespace Go.Proofs.YtojjfdegkooknaaGreatDoor
open Go.ChangeShapes Go.WideShapes Go.RowKit Go.WideElems
theorem trodAll_stays {H : Type} {enc : TypeId × Value → H} {P : Program} {base : Nat} {W W' : World} {sp' : Nat → Bool} (hl : laidOutB P = true) :
 ∀ {ts : List TypeId} {vs : List Value} {ds : List (DataW H)} {ps : List MemPlace},(∀ t ∈ ts,P.readableRec t = true ∧ t < P.types.size) → DataW.TrodAll enc P W base (fun _ => true) true ts vs ds ps →
  (∀ p ∈ ps,W.sameAt W' p) → (∀ p ∈ ps,sp' p.block = true) → DataW.TrodAll enc P W' base sp' true ts vs ds ps
 | [],vs,ds,ps,_,h,_,_ => by
   obtain ⟨rfl,rfl,rfl⟩:=trodAll_nil h
   exact rfl
 | t :: ts,vs,ds,ps,ht,h,hs,hsp => by
   obtain ⟨v,vs1,d,ds1,a,b,rfl,rfl,rfl,h1,h2⟩:=trodAll_cons h
   have hr:=ht t (List.mem_cons_self ..)
   exact trodAll_cons_mk (Trod_stays hl hr.1 hr.2 h1 (fun p hp => hs p (List.mem_append_left _ hp)) (fun p hp => hsp p (List.mem_append_left _ hp)))
    (trodAll_stays hl (fun t' h' => ht t' (List.mem_cons_of_mem _ h')) h2 (fun p hp => hs p (List.mem_append_right _ hp)) (fun p hp => hsp p (List.mem_append_right _ hp)))
end Go.Proofs.YtojjfdegkooknaaGreatDoor
namespace Go.Proofs.YtojjfdegkooknaaGreatDoor
set_option maxRecDepth 100000
set_option maxHeartbeats 1000000
open Go.RowKit Go.ChangeShapes Go.WideShapes Go.Deep
variable {H : Type} {enc : TypeId × Value → H} {w : World} {spare : Nat → Bool} {held : Bool}
def Light {H : Type} (t : TypeId) (d : DataW H) : Prop:=(d.weights Tryz.prog t).all (fun n => decide (n ≤ reachBytes)) = true
theorem light_each : ∀ (ts : List TypeId) (ds : List (DataW H)),(DataW.weightsEach Tryz.prog ts ds).all (fun n => decide (n ≤ reachBytes)) = true → ∀ (i : Nat) (t : TypeId) (d : DataW H),ts[i]? = some t → ds[i]? = some d → Light t d
 | [],_,_,i,t,d,ht,_ => by simp at ht
 | _ :: _,[],_,i,t,d,_,hd => by simp at hd
 | t0 :: ts,d0 :: ds,h,i,t,d,ht,hd => by
   rw [DataW.weightsEach,List.all_append,Bool.and_eq_true] at h
   match i,ht,hd with
   | 0,ht,hd =>
     obtain rfl : t0 = t:=by simpa using ht
     obtain rfl : d0 = d:=by simpa using hd
     exact h.1
   | i + 1,ht,hd => exact light_each ts ds h.2 i t d (by simpa using ht) (by simpa using hd)
theorem light_all (e : TypeId) : ∀ (ds : List (DataW H)),(DataW.weightsAll Tryz.prog e ds).all (fun n => decide (n ≤ reachBytes)) = true → ∀ d ∈ ds,Light e d
 | [],_,d,hd => by cases hd
 | d0 :: ds,h,d,hd => by
   rw [DataW.weightsAll,List.all_append,Bool.and_eq_true] at h
   rcases List.mem_cons.1 hd with rfl | hd
   ·exact h.1
   ·exact light_all e ds h.2 d hd
theorem struct_light {fs : Array Field} {t : TypeId} {x : DataW H × List MemPlace} {fuel : Nat} {cs : List Value} (ht : Tryz.prog.underlying t = some (.struct fs)) (h : DataW.trod enc Tryz.prog w 0 spare held fuel t cs = some x) (hl : Light t x.1) :
 ∃ n : Nat,∀ (i : Nat) (f : Field),fs[i]? = some f → ∃ y : DataW H × List MemPlace,DataW.trod enc Tryz.prog w 0 spare held n f.type ((cs.drop f.offset).take (Tryz.prog.cellsOf f.type)) = some y ∧ Light f.type y.1:=by
 obtain ⟨ys,n,_,hx,_,hyl,hf⟩:=DataW.trod_struct ht h
 refine ⟨n,fun i f hi => ?_⟩
 have hlt : i < ys.length:=by rw [hyl];exact (Array.getElem?_eq_some_iff.1 hi).1
 have e:=hf i f hi
 rw [List.getElem?_eq_getElem hlt] at e
 unfold Light at hl
 rw [show x.1 = _ from congrArg Prod.fst hx] at hl
 simp only [DataW.weights,ht] at hl
 exact ⟨ys[i],e,light_each _ _ hl i f.type _ (by rw [List.getElem?_map,Array.getElem?_toList,hi];rfl) (by rw [List.getElem?_map,List.getElem?_eq_getElem hlt];rfl)⟩
theorem row_light {α : Type} {V : World → Nat → Array Value → α → Prop} {k : Nat} {t e : TypeId} {Wt : α → Prop} (ht : Tryz.prog.underlying t = some (.slice e)) (hk : Tryz.prog.cellsOf e = k) {B : Nat} {l : List α} {A : Option Addr} {c : Nat} (hr : RowV V k w B l A)
 {fuel : Nat} {x : DataW H × List MemPlace} (h : DataW.trod enc Tryz.prog w 0 spare held fuel t [.slice A l.length c] = some x) (hl : Light t x.1)
 (hel : ∀ y ∈ l,∀ (cs : Array Value) (z : DataW H × List MemPlace) (fu : Nat),V w B cs y → DataW.trod enc Tryz.prog w 0 spare held fu e cs.toList = some z → Light e z.1 → Wt y) :
 l.length * Tryz.prog.bytesOf e ≤ 140737488355328 ∧ ∀ y ∈ l,Wt y:=by
 rcases open_slice ht h with ⟨e0,_⟩ | ⟨a,len,cap,m,n',D,Pl,e0,hb,hlen,hm,hmm,hxx,hi⟩
 ·injection e0 with e0 _
  injection e0 with _ e1 _
  obtain rfl : l = []:=List.length_eq_zero_iff.1 e1
  exact ⟨by simp,fun y hy => by cases hy⟩
 ·injection e0 with e0 _
  injection e0 with eA e1 _
  have hlm : len ≤ m:=by rw [hmm];split <;> omega
  unfold Light at hl
  rw [show x.1 = _ from congrArg Prod.fst hxx] at hl
  simp only [DataW.weights,ht,List.all_cons,List.all_append,Bool.and_eq_true,decide_eq_true_eq,List.length_map,List.length_range] at hl
  obtain ⟨h1,h2,_⟩:=hl
  refine ⟨?_,fun y hy => ?_⟩
  ·unfold reachBytes at h1
   rw [e1]
   have h3 : len * Tryz.prog.bytesOf e ≤ (len + (m - len)) * Tryz.prog.bytesOf e:=Nat.mul_le_mul_right _ (Nat.le_add_right _ _)
   omega
  ·obtain ⟨i,hi',rfl⟩:=List.getElem_of_mem hy
   obtain ⟨a',cs,ha,_,hz,hc,hv⟩:=hr i _ (List.getElem?_eq_getElem hi')
   obtain ⟨cs',g1,g2⟩:=hi i (by omega)
   obtain rfl : a = a':=Option.some.inj (eA.symm.trans ha)
   rw [hk] at g1
   have hl' : cs'.length = k:=(World.cells?_some g1).2.1
   have hcs : cs' = cs.toList:=by
    apply List.ext_getElem?
    intro j
    by_cases hj : j < k
    ·rw [← cells4_at g1 hj,hc j cs[j] (Array.getElem?_eq_getElem (by omega)),Array.getElem?_toList,Array.getElem?_eq_getElem (by omega)]
    ·rw [List.getElem?_eq_none (by omega),List.getElem?_eq_none (by rw [Array.length_toList];omega)]
   subst hcs
   exact hel _ (List.getElem_mem hi') cs (D i,Pl i) n' hv g2 (light_all e _ h2 (D i) (List.mem_map.2 ⟨i,List.mem_range.2 (by omega),rfl⟩))
theorem lw_Expr : Tryz.prog.cellsOf 84 = 4 ∧ Tryz.prog.bytesOf 84 = 56 ∧ Tryz.prog.cellsOf 82 = 1:=⟨by kernel_rfl,by kernel_rfl,by kernel_rfl⟩
theorem lw_Cond : Tryz.prog.cellsOf 87 = 10 ∧ Tryz.prog.bytesOf 87 = 144 ∧ Tryz.prog.cellsOf 85 = 1:=⟨by kernel_rfl,by kernel_rfl,by kernel_rfl⟩
theorem lw_Atom : Tryz.prog.cellsOf 148 = 9 ∧ Tryz.prog.bytesOf 148 = 120 ∧ Tryz.prog.cellsOf 66 = 1:=⟨by kernel_rfl,by kernel_rfl,by kernel_rfl⟩
theorem lw_Cell : Tryz.prog.cellsOf 97 = 3 ∧ Tryz.prog.bytesOf 97 = 48 ∧ Tryz.prog.cellsOf 67 = 1:=⟨by kernel_rfl,by kernel_rfl,by kernel_rfl⟩
theorem lw_Param : Tryz.prog.cellsOf 42 = 2 ∧ Tryz.prog.bytesOf 42 = 32 ∧ Tryz.prog.cellsOf 23 = 1:=⟨by kernel_rfl,by kernel_rfl,by kernel_rfl⟩
theorem lw_Formula : Tryz.prog.cellsOf 69 = 3 ∧ Tryz.prog.bytesOf 69 = 72 ∧ Tryz.prog.cellsOf 43 = 1:=⟨by kernel_rfl,by kernel_rfl,by kernel_rfl⟩
theorem lw_Call : Tryz.prog.cellsOf 217 = 3 ∧ Tryz.prog.bytesOf 217 = 56 ∧ Tryz.prog.cellsOf 88 = 1:=⟨by kernel_rfl,by kernel_rfl,by kernel_rfl⟩
theorem lw_Stmt : Tryz.prog.cellsOf 90 = 24 ∧ Tryz.prog.bytesOf 90 = 368 ∧ Tryz.prog.cellsOf 44 = 1:=⟨by kernel_rfl,by kernel_rfl,by kernel_rfl⟩
theorem ex_light : ∀ (M : Nat) (e : Ex),SizeOf.sizeOf e < M → ∀ {B : Nat} (cs : Array Value) (x : DataW H × List MemPlace) (fu : Nat),VEx w B cs e → DataW.trod enc Tryz.prog w 0 spare held fu 84 cs.toList = some x → Light 84 x.1 → WE e:=by
 intro M
 induction M with
 | zero => intro e h;omega
 | succ M ih =>
   intro e hM B cs x fu hv h hl
   obtain ⟨k,n,s,l,A,c,rfl,rfl,_,_,hr⟩:=hv
   obtain ⟨n',hf⟩:=struct_light (fs:=_) Tryz.underlying84 h hl
   obtain ⟨y3,h3,l3⟩:=hf 3 _ rfl
   have q:=row_light (Wt:=WE) Tryz.underlying82 lw_Expr.1 hr.rowV (by simpa [lw_Expr.2.2] using h3) l3 (fun y hy cs z fu hv ht hz => ih y (by have := List.sizeOf_lt_of_mem hy;simp at hM;omega) cs z fu hv ht hz)
   exact .mk k n s l (by have := q.1;rwa [lw_Expr.2.1] at this) q.2
theorem exs_light {B : Nat} {l : List Ex} {A : Option Addr} {c fu : Nat} {x : DataW H × List MemPlace} (hr : ExRow w B l A) (h : DataW.trod enc Tryz.prog w 0 spare held fu 82 [.slice A l.length c] = some x) (hl : Light 82 x.1) : l.length * 56 ≤ 140737488355328 ∧ ∀ y ∈ l,WE y:=by
 have q:=row_light (Wt:=WE) Tryz.underlying82 lw_Expr.1 hr.rowV h hl (fun y _ cs z fu hv ht hz => ex_light _ y (Nat.lt_succ_self _) cs z fu hv ht hz)
 rwa [lw_Expr.2.1] at q
theorem cn_light : ∀ (M : Nat) (e : Cn),SizeOf.sizeOf e < M → ∀ {B : Nat} (cs : Array Value) (x : DataW H × List MemPlace) (fu : Nat),VCn w B cs e → DataW.trod enc Tryz.prog w 0 spare held fu 87 cs.toList = some x → Light 87 x.1 → WC e:=by
 intro M
 induction M with
 | zero => intro e h;omega
 | succ M ih =>
   intro e hM B cs x fu hv h hl
   obtain ⟨k,ak,an,sa,al,bk,bn,sb,bl,l,Aa,ca,Ab,cb,Al,cl,rfl,rfl,⟨b1,b2,b3,b4,b5⟩,ra,rb,rl⟩:=hv
   obtain ⟨n',hf⟩:=struct_light (fs:=_) Tryz.underlying87 h hl
   obtain ⟨y1,h1,l1⟩:=hf 1 _ rfl
   obtain ⟨y2,h2,l2⟩:=hf 2 _ rfl
   obtain ⟨y3,h3,l3⟩:=hf 3 _ rfl
   have ea:=ex_light _ (.mk ak an sa al) (Nat.lt_succ_self _) #[.int .i64 ak,.int .i64 an,.string ⟨sa.toArray⟩,.slice Aa al.length ca] y1 n' ⟨ak,an,sa,al,Aa,ca,rfl,rfl,b1,b2,ra⟩ (by simpa [lw_Expr.1] using h1) l1
   have eb:=ex_light _ (.mk bk bn sb bl) (Nat.lt_succ_self _) #[.int .i64 bk,.int .i64 bn,.string ⟨sb.toArray⟩,.slice Ab bl.length cb] y2 n' ⟨bk,bn,sb,bl,Ab,cb,rfl,rfl,b3,b4,rb⟩ (by simpa [lw_Expr.1] using h2) l2
   have q:=row_light (Wt:=WC) Tryz.underlying85 lw_Cond.1 rl.rowV (by simpa [lw_Cond.2.2] using h3) l3 (fun y hy cs z fu hv ht hz => ih y (by have := List.sizeOf_lt_of_mem hy;simp at hM;omega) cs z fu hv ht hz)
   exact .mk k _ _ l ea eb (by have := q.1;rwa [lw_Cond.2.1] at this) q.2
theorem at_light {B : Nat} (e : At) (cs : Array Value) (x : DataW H × List MemPlace) (fu : Nat) (hv : VAt w B cs e) (h : DataW.trod enc Tryz.prog w 0 spare held fu 148 cs.toList = some x) (hl : Light 148 x.1) : WA e:=by
 obtain ⟨ak,an,sa,al,bk,bn,sb,bl,Aa,ca,Ab,cb,e1,e2,rfl,⟨b1,b2,b3,b4⟩,ra,rb⟩:=hv
 obtain ⟨n',hf⟩:=struct_light (fs:=_) Tryz.underlying148 h hl
 obtain ⟨y1,h1,l1⟩:=hf 1 _ rfl
 obtain ⟨y2,h2,l2⟩:=hf 2 _ rfl
 unfold WA
 rw [e1,e2]
 exact ⟨ex_light _ (.mk ak an sa al) (Nat.lt_succ_self _) #[.int .i64 ak,.int .i64 an,.string ⟨sa.toArray⟩,.slice Aa al.length ca] y1 n' ⟨ak,an,sa,al,Aa,ca,rfl,rfl,b1,b2,ra⟩ (by simpa [lw_Expr.1] using h1) l1,
  ex_light _ (.mk bk bn sb bl) (Nat.lt_succ_self _) #[.int .i64 bk,.int .i64 bn,.string ⟨sb.toArray⟩,.slice Ab bl.length cb] y2 n' ⟨bk,bn,sb,bl,Ab,cb,rfl,rfl,b3,b4,rb⟩ (by simpa [lw_Expr.1] using h2) l2⟩
theorem cl_light {B : Nat} (e : Cl) (cs : Array Value) (x : DataW H × List MemPlace) (fu : Nat) (hv : VCl w B cs e) (h : DataW.trod enc Tryz.prog w 0 spare held fu 97 cs.toList = some x) (hl : Light 97 x.1) : WL e:=by
 obtain ⟨A,c,rfl,_,_,hr,_⟩:=hv
 obtain ⟨n',hf⟩:=struct_light (fs:=_) Tryz.underlying97 h hl
 obtain ⟨y2,h2,l2⟩:=hf 2 _ rfl
 exact exs_light hr (by simpa [lw_Expr.2.2] using h2) l2
theorem cal_light {B : Nat} (e : Cal) (cs : Array Value) (x : DataW H × List MemPlace) (fu : Nat) (hv : VCal w B cs e) (h : DataW.trod enc Tryz.prog w 0 spare held fu 217 cs.toList = some x) (hl : Light 217 x.1) : e.l.length * 56 ≤ 140737488355328 ∧ ∀ y ∈ e.l,WE y:=by
 obtain ⟨A,c,rfl,_,_,_,hr⟩:=hv
 obtain ⟨n',hf⟩:=struct_light (fs:=_) Tryz.underlying217 h hl
 obtain ⟨y2,h2,l2⟩:=hf 2 _ rfl
 exact exs_light hr (by simpa [lw_Expr.2.2] using h2) l2
theorem fm_light {B : Nat} (e : Fm) (cs : Array Value) (x : DataW H × List MemPlace) (fu : Nat) (hv : VFm w B cs e) (h : DataW.trod enc Tryz.prog w 0 spare held fu 69 cs.toList = some x) (hl : Light 69 x.1) : WF e:=by
 obtain ⟨d,rfl,_,rp,ra,rc⟩:=hv
 obtain ⟨n',hf⟩:=struct_light (fs:=_) Tryz.underlying69 h hl
 obtain ⟨y0,h0,l0⟩:=hf 0 _ rfl
 obtain ⟨y1,h1,l1⟩:=hf 1 _ rfl
 obtain ⟨y2,h2,l2⟩:=hf 2 _ rfl
 have q0:=row_light (V:=VPm) (Wt:=fun _ => True) Tryz.underlying23 lw_Param.1 (pm_rowV rp) (by simpa [lw_Param.2.2] using h0) l0 (fun y _ cs z fu hv ht hz => trivial)
 have q1:=row_light (Wt:=WA) Tryz.underlying66 lw_Atom.1 (at_rowV ra) (by simpa [lw_Atom.2.2] using h1) l1 (fun y _ cs z fu hv ht hz => at_light y cs z fu hv ht hz)
 have q2:=row_light (Wt:=WL) Tryz.underlying67 lw_Cell.1 (cl_rowV rc) (by simpa [lw_Cell.2.2] using h2) l2 (fun y _ cs z fu hv ht hz => cl_light y cs z fu hv ht hz)
 rw [lw_Param.2.1] at q0
 rw [lw_Atom.2.1] at q1
 rw [lw_Cell.2.1] at q2
 exact ⟨q0.1,q1.1,q2.1,q1.2,q2.2⟩
theorem st_light : ∀ (M : Nat) (s : St),SizeOf.sizeOf s < M → ∀ {B : Nat} (cs : Array Value) (x : DataW H × List MemPlace) (fu : Nat),VSt w B cs s → DataW.trod enc Tryz.prog w 0 spare held fu 90 cs.toList = some x → Light 90 x.1 → WOwn s ∧ WS s.body ∧ WS s.els:=by
 intro M
 induction M with
 | zero => intro e h;omega
 | succ M ih =>
   intro s hM B cs x fu hv h hl
   obtain ⟨d,rfl,hown,r1,r2⟩:=hv
   obtain ⟨k0,ln,co,nm,fd,fr,⟨ek,en,es,el⟩,⟨ck,⟨ak,an,sa,al⟩,⟨bk,bn,sb,bl⟩,l⟩,cl,iv,bd,ot⟩:=s
   obtain ⟨⟨m0,m1,m2,m3,m4,m5,m6,m7,m8,m9,m10,m11,m12,m13⟩,re,ra,rb,rl,rc,ri⟩:=hown
   simp only [St.body,St.els] at r1 r2
   simp at hM
   obtain ⟨n',hf⟩:=struct_light (fs:=_) Tryz.underlying90 h hl
   obtain ⟨y5,h5,l5⟩:=hf 5 _ rfl
   obtain ⟨y6,h6,l6⟩:=hf 6 _ rfl
   obtain ⟨y7,h7,l7⟩:=hf 7 _ rfl
   obtain ⟨y8,h8,l8⟩:=hf 8 _ rfl
   obtain ⟨y9,h9,l9⟩:=hf 9 _ rfl
   obtain ⟨y10,h10,l10⟩:=hf 10 _ rfl
   have we:=ex_light _ (.mk ek en es el) (Nat.lt_succ_self _) #[.int .i64 ek,.int .i64 en,.string ⟨es.toArray⟩,.slice d.e el.length d.ne] y5 n' ⟨ek,en,es,el,d.e,d.ne,rfl,rfl,m3,m4,re⟩ (by simpa [lw_Expr.1,stCs] using h5) l5
   have wc:=cn_light _ (.mk ck (.mk ak an sa al) (.mk bk bn sb bl) l) (Nat.lt_succ_self _) #[.int .i64 ck,.int .i64 ak,.int .i64 an,.string ⟨sa.toArray⟩,.slice d.a al.length d.na,.int .i64 bk,.int .i64 bn,.string ⟨sb.toArray⟩,.slice d.b bl.length d.nb,.slice d.l l.length d.nl] y6 n'
    ⟨ck,ak,an,sa,al,bk,bn,sb,bl,l,d.a,d.na,d.b,d.nb,d.l,d.nl,rfl,rfl,⟨m5,m6,m7,m8,m9⟩,ra,rb,rl⟩ (by simpa [lw_Cond.1,stCs] using h6) l6
   have q7:=row_light (Wt:=fun y => y.l.length * 56 ≤ 140737488355328 ∧ ∀ z ∈ y.l,WE z) Tryz.underlying88 lw_Call.1 (cal_rowV rc) (by simpa [lw_Call.2.2,stCs] using h7) l7 (fun y _ cs z fu hv ht hz => cal_light y cs z fu hv ht hz)
   have q8:=row_light (Wt:=WF) Tryz.underlying43 lw_Formula.1 (fm_rowV ri) (by simpa [lw_Formula.2.2,stCs] using h8) l8 (fun y _ cs z fu hv ht hz => fm_light y cs z fu hv ht hz)
   have q9:=row_light (Wt:=fun s => WOwn s ∧ WS s.body ∧ WS s.els) Tryz.underlying44 lw_Stmt.1 r1.rowV (by simpa [lw_Stmt.2.2,stCs] using h9) l9 (fun y hy cs z fu hv ht hz => ih y (by have := List.sizeOf_lt_of_mem hy;omega) cs z fu hv ht hz)
   have q10:=row_light (Wt:=fun s => WOwn s ∧ WS s.body ∧ WS s.els) Tryz.underlying44 lw_Stmt.1 r2.rowV (by simpa [lw_Stmt.2.2,stCs] using h10) l10 (fun y hy cs z fu hv ht hz => ih y (by have := List.sizeOf_lt_of_mem hy;omega) cs z fu hv ht hz)
   rw [lw_Call.2.1] at q7
   rw [lw_Formula.2.1] at q8
   rw [lw_Stmt.2.1] at q9 q10
   exact ⟨⟨we,wc,q7.1,q7.2,q8.1,q8.2⟩,.mk bd (fun y hy => (q9.2 y hy).1) q9.1 (fun y hy => (q9.2 y hy).2.1) (fun y hy => (q9.2 y hy).2.2),.mk ot (fun y hy => (q10.2 y hy).1) q10.1 (fun y hy => (q10.2 y hy).2.1) (fun y hy => (q10.2 y hy).2.2)⟩
end Go.Proofs.YtojjfdegkooknaaGreatDoor
namespace Go.Proofs.YtojjfdegkooknaaGreatDoor
open Go.RowKit
def InReachP {H : Type} (t : TypeId) (d : DataW H) : Prop:=(d.weights Tryz.prog t).all (fun n => decide (n ≤ reachBytes)) = true
end Go.Proofs.YtojjfdegkooknaaGreatDoor
namespace Go.Proofs.YtojjfdegkooknaaGreatDoor
set_option maxRecDepth 100000
open Go.RowKit Go.ChangeShapes Go.WideShapes Go.Deep
variable {H : Type} {enc : TypeId × Value → H} {w : World} {spare : Nat → Bool} {held : Bool}
theorem lw_Proc : Tryz.prog.cellsOf 46 = 12 ∧ Tryz.prog.cellsOf 27 = 1:=⟨by kernel_rfl,by kernel_rfl⟩
theorem pr_light {B : Nat} (y : Pr) (cs : Array Value) (x : DataW H × List MemPlace) (fu : Nat) (hv : VPr w B cs y) (h : DataW.trod enc Tryz.prog w 0 spare held fu 46 cs.toList = some x) (hl : Light 46 x.1) : WS y.bd:=by
 obtain ⟨d,rfl,hown⟩:=hv
 obtain ⟨_,_,_,_,_,_,rb⟩:=hown
 obtain ⟨n',hf⟩:=struct_light (fs:=_) Tryz.underlying46 h hl
 obtain ⟨y9,h9,l9⟩:=hf 9 _ rfl
 have q:=row_light (Wt:=fun s => WOwn s ∧ WS s.body ∧ WS s.els) Tryz.underlying44 lw_Stmt.1 rb.rowV (by simpa [lw_Stmt.2.2,prCs] using h9) l9 (fun y _ cs z fu hv ht hz => st_light _ y (Nat.lt_succ_self _) cs z fu hv ht hz)
 rw [lw_Stmt.2.1] at q
 exact .mk y.bd (fun y hy => (q.2 y hy).1) q.1 (fun y hy => (q.2 y hy).2.1) (fun y hy => (q.2 y hy).2.2)
end Go.Proofs.YtojjfdegkooknaaGreatDoor
namespace Go.Proofs.YtojjfdegkooknaaGreatDoor
set_option maxRecDepth 100000
open Go.RowKit Go.ChangeShapes Go.WideShapes Go.Deep
variable {H : Type} {enc : TypeId × Value → H} {w : World} {spare : Nat → Bool} {held : Bool}
theorem lw_Record : Tryz.prog.cellsOf 36 = 2 ∧ Tryz.prog.cellsOf 22 = 1:=⟨by kernel_rfl,by kernel_rfl⟩
/-! ### Reach -/
theorem pms_light {B : Nat} {l : List Pm} {A : Option Addr} {c fu : Nat} {x : DataW H × List MemPlace} (hr : PmRow w B l A) (h : DataW.trod enc Tryz.prog w 0 spare held fu 23 [.slice A l.length c] = some x) (hl : Light 23 x.1) : l.length * 32 ≤ 140737488355328:=by
 have q:=row_light (V:=VPm) (Wt:=fun _ => True) Tryz.underlying23 lw_Param.1 (pm_rowV hr) h hl (fun y _ cs z fu hv ht hz => trivial)
 rw [lw_Param.2.1] at q
 exact q.1
theorem fms_light {B : Nat} {l : List Fm} {A : Option Addr} {c fu : Nat} {x : DataW H × List MemPlace} (hr : FmRow w B l A) (h : DataW.trod enc Tryz.prog w 0 spare held fu 43 [.slice A l.length c] = some x) (hl : Light 43 x.1) : l.length * 72 ≤ 140737488355328 ∧ ∀ y ∈ l,WF y:=by
 have q:=row_light (Wt:=WF) Tryz.underlying43 lw_Formula.1 (fm_rowV hr) h hl (fun y _ cs z fu hv ht hz => fm_light y cs z fu hv ht hz)
 rw [lw_Formula.2.1] at q
 exact q
theorem prw_light {B : Nat} (y : Pr) (cs : Array Value) (x : DataW H × List MemPlace) (fu : Nat) (hv : VPr w B cs y) (h : DataW.trod enc Tryz.prog w 0 spare held fu 46 cs.toList = some x) (hl : Light 46 x.1) : WPr y:=by
 have hbd:=pr_light y cs x fu hv h hl
 obtain ⟨d,rfl,hown⟩:=hv
 obtain ⟨_,rp,rg,rq,re,rl,rb⟩:=hown
 obtain ⟨n',hf⟩:=struct_light (fs:=_) Tryz.underlying46 h hl
 obtain ⟨y2,h2,l2⟩:=hf 2 _ rfl
 obtain ⟨y3,h3,l3⟩:=hf 3 _ rfl
 obtain ⟨y6,h6,l6⟩:=hf 6 _ rfl
 obtain ⟨y7,h7,l7⟩:=hf 7 _ rfl
 obtain ⟨y8,h8,l8⟩:=hf 8 _ rfl
 have q6:=fms_light rq (by simpa [lw_Formula.2.2,prCs] using h6) l6
 have q7:=fms_light re (by simpa [lw_Formula.2.2,prCs] using h7) l7
 refine ⟨pms_light rp (by simpa [lw_Param.2.2,prCs] using h2) l2,pms_light rg (by simpa [lw_Param.2.2,prCs] using h3) l3,q6.1,q7.1,pms_light rl (by simpa [lw_Param.2.2,prCs] using h8) l8,fun z hz => ?_,hbd⟩
 rcases List.mem_append.1 hz with hz | hz
 ·exact q6.2 z hz
 ·exact q7.2 z hz
theorem rcw_light {B : Nat} (y : Rc) (cs : Array Value) (x : DataW H × List MemPlace) (fu : Nat) (hv : VRc w B cs y) (h : DataW.trod enc Tryz.prog w 0 spare held fu 36 cs.toList = some x) (hl : Light 36 x.1) : y.fs.length * 32 ≤ 140737488355328:=by
 obtain ⟨A,c,rfl,_,_,hr⟩:=hv
 obtain ⟨n',hf⟩:=struct_light (fs:=_) Tryz.underlying36 h hl
 obtain ⟨y1,h1,l1⟩:=hf 1 _ rfl
 exact pms_light hr (by simpa [lw_Param.2.2] using h1) l1
theorem pgw_light {g : GAd} {x : Pg} {d : DataW H} {p : List MemPlace} (hp : PgOwn w w.heap.size g x) (h : DataW.Trod enc Tryz.prog w 0 spare held 29 (progV g x) d p) (hl : Light 29 d) : (∀ y ∈ x.rs,y.fs.length * 32 ≤ 140737488355328) ∧ ∀ y ∈ x.xs,WPr y:=by
 obtain ⟨fuel,hf⟩:=h
 have hf : DataW.trod enc Tryz.prog w 0 spare held fuel 29 [.slice g.r x.rs.length g.nr,.slice g.g x.gs.length g.ng,.slice g.k x.ks.length g.nk,.slice g.d x.ds.length g.nd,.slice g.m x.ms.length g.nm,.slice g.x x.xs.length g.nx] = some (d,p):=by simpa [Value.cells,progV] using hf
 obtain ⟨n',hs⟩:=struct_light (fs:=_) Tryz.underlying29 hf hl
 obtain ⟨y0,h0,l0⟩:=hs 0 _ rfl
 obtain ⟨y5,h5,l5⟩:=hs 5 _ rfl
 obtain ⟨_,r1,_,_,_,_,r6⟩:=hp
 exact ⟨(row_light (Wt:=fun y : Rc => y.fs.length * 32 ≤ 140737488355328) Tryz.underlying22 lw_Record.1 (rc_rowV r1) (by simpa [lw_Record.2] using h0) l0 (fun y _ cs z fu hv ht hz => rcw_light y cs z fu hv ht hz)).2,
  (row_light (Wt:=WPr) Tryz.underlying27 lw_Proc.1 (pr_rowV r6) (by simpa [lw_Proc.2] using h5) l5 (fun y _ cs z fu hv ht hz => prw_light y cs z fu hv ht hz)).2⟩
/-! ### Bulk -/
theorem bulk_one {H : Type} (d : DataW H) : 1 ≤ Rows.uptoBulk d:=by
 cases d with
 | lit l => cases l <;> simp [Rows.uptoBulk]
 | nil => simp [Rows.uptoBulk]
 | ptr d => simp [Rows.uptoBulk]
 | slice elems spare => simp [Rows.uptoBulk]
 | agg parts => simp [Rows.uptoBulk]
 | iface t d => simp [Rows.uptoBulk]
 | map entries => simp [Rows.uptoBulk]
 | held h => simp [Rows.uptoBulk]
theorem bulk_part {H : Type} {d : DataW H} {l : List (DataW H)} (h : d ∈ l) : Rows.uptoBulk d ≤ Rows.uptoBulkAll l:=by
 induction l with
 | nil => cases h
 | cons x r ih =>
   simp only [Rows.uptoBulkAll]
   cases List.mem_cons.1 h with
   | inl e => subst e;omega
   | inr e => have := ih e;omega
theorem bulk_len {H : Type} (l : List (DataW H)) : l.length ≤ Rows.uptoBulkAll l:=by
 induction l with
 | nil => simp [Rows.uptoBulkAll]
 | cons x r ih => have := bulk_one x;simp only [Rows.uptoBulkAll,List.length_cons];omega
theorem struct_small {fs : Array Field} {t : TypeId} {x : DataW H × List MemPlace} {fuel : Nat} {cs : List Value} (ht : Tryz.prog.underlying t = some (.struct fs)) (h : DataW.trod enc Tryz.prog w 0 spare held fuel t cs = some x) (hl : Rows.uptoBulk x.1 ≤ 1048576) :
 ∃ n : Nat,∀ (i : Nat) (f : Field),fs[i]? = some f → ∃ y : DataW H × List MemPlace,DataW.trod enc Tryz.prog w 0 spare held n f.type ((cs.drop f.offset).take (Tryz.prog.cellsOf f.type)) = some y ∧ Rows.uptoBulk y.1 ≤ 1048576:=by
 obtain ⟨ys,n,_,hx,_,hyl,hf⟩:=DataW.trod_struct ht h
 refine ⟨n,fun i f hi => ?_⟩
 have hlt : i < ys.length:=by rw [hyl];exact (Array.getElem?_eq_some_iff.1 hi).1
 have e:=hf i f hi
 rw [List.getElem?_eq_getElem hlt] at e
 rw [show x.1 = _ from congrArg Prod.fst hx] at hl
 simp only [Rows.uptoBulk] at hl
 have hm : ys[i].1 ∈ ys.map (·.1):=List.mem_map.2 ⟨ys[i],List.getElem_mem hlt,rfl⟩
 have := bulk_part hm
 exact ⟨ys[i],e,by omega⟩
theorem row_small {α : Type} {V : World → Nat → Array Value → α → Prop} {k : Nat} {t e : TypeId} {Wt : α → Prop} (ht : Tryz.prog.underlying t = some (.slice e)) (hk : Tryz.prog.cellsOf e = k) {B : Nat} {l : List α} {A : Option Addr} {c : Nat} (hr : RowV V k w B l A)
 {fuel : Nat} {x : DataW H × List MemPlace} (h : DataW.trod enc Tryz.prog w 0 spare held fuel t [.slice A l.length c] = some x) (hl : Rows.uptoBulk x.1 ≤ 1048576)
 (hel : ∀ y ∈ l,∀ (cs : Array Value) (z : DataW H × List MemPlace) (fu : Nat),V w B cs y → DataW.trod enc Tryz.prog w 0 spare held fu e cs.toList = some z → Rows.uptoBulk z.1 ≤ 1048576 → Wt y) :
 l.length ≤ 1048576 ∧ ∀ y ∈ l,Wt y:=by
 rcases open_slice ht h with ⟨e0,_⟩ | ⟨a,len,cap,m,n',D,Pl,e0,hb,hlen,hm,hmm,hxx,hi⟩
 ·injection e0 with e0 _
  injection e0 with _ e1 _
  obtain rfl : l = []:=List.length_eq_zero_iff.1 e1
  exact ⟨by simp,fun y hy => by cases hy⟩
 ·injection e0 with e0 _
  injection e0 with eA e1 _
  have hlm : len ≤ m:=by rw [hmm];split <;> omega
  rw [show x.1 = _ from congrArg Prod.fst hxx] at hl
  simp only [Rows.uptoBulk] at hl
  have hlen2:=bulk_len ((List.range len).map D)
  rw [List.length_map,List.length_range] at hlen2
  refine ⟨by omega,fun y hy => ?_⟩
  obtain ⟨i,hi',rfl⟩:=List.getElem_of_mem hy
  obtain ⟨a',cs,ha,_,hz,hc,hv⟩:=hr i _ (List.getElem?_eq_getElem hi')
  obtain ⟨cs',g1,g2⟩:=hi i (by omega)
  obtain rfl : a = a':=Option.some.inj (eA.symm.trans ha)
  rw [hk] at g1
  have hl' : cs'.length = k:=(World.cells?_some g1).2.1
  have hcs : cs' = cs.toList:=by
   apply List.ext_getElem?
   intro j
   by_cases hj : j < k
   ·rw [← cells4_at g1 hj,hc j cs[j] (Array.getElem?_eq_getElem (by omega)),Array.getElem?_toList,Array.getElem?_eq_getElem (by omega)]
   ·rw [List.getElem?_eq_none (by omega),List.getElem?_eq_none (by rw [Array.length_toList];omega)]
  subst hcs
  have hm : D i ∈ (List.range len).map D:=List.mem_map.2 ⟨i,List.mem_range.2 (by omega),rfl⟩
  have := bulk_part hm
  exact hel _ (List.getElem_mem hi') cs (D i,Pl i) n' hv g2 (by show Rows.uptoBulk (D i) ≤ _;omega)
theorem pms_small {B : Nat} {l : List Pm} {A : Option Addr} {c fu : Nat} {x : DataW H × List MemPlace} (hr : PmRow w B l A) (h : DataW.trod enc Tryz.prog w 0 spare held fu 23 [.slice A l.length c] = some x) (hl : Rows.uptoBulk x.1 ≤ 1048576) : l.length ≤ 1048576 :=
 (row_small (V:=VPm) (Wt:=fun _ => True) Tryz.underlying23 lw_Param.1 (pm_rowV hr) h hl (fun y _ cs z fu hv ht hz => trivial)).1
theorem prw_small {B : Nat} (y : Pr) (cs : Array Value) (x : DataW H × List MemPlace) (fu : Nat) (hv : VPr w B cs y) (h : DataW.trod enc Tryz.prog w 0 spare held fu 46 cs.toList = some x) (hl : Rows.uptoBulk x.1 ≤ 1048576) : y.ps.length ≤ 1048576 ∧ y.lg.length ≤ 1048576 ∧ y.lo.length ≤ 1048576:=by
 obtain ⟨d,rfl,hown⟩:=hv
 obtain ⟨_,rp,rg,rq,re,rl,rb⟩:=hown
 obtain ⟨n',hf⟩:=struct_small (fs:=_) Tryz.underlying46 h hl
 obtain ⟨y2,h2,l2⟩:=hf 2 _ rfl
 obtain ⟨y3,h3,l3⟩:=hf 3 _ rfl
 obtain ⟨y8,h8,l8⟩:=hf 8 _ rfl
 exact ⟨pms_small rp (by simpa [lw_Param.2.2,prCs] using h2) l2,pms_small rg (by simpa [lw_Param.2.2,prCs] using h3) l3,pms_small rl (by simpa [lw_Param.2.2,prCs] using h8) l8⟩
theorem pgw_small {g : GAd} {x : Pg} {d : DataW H} {p : List MemPlace} (hp : PgOwn w w.heap.size g x) (h : DataW.Trod enc Tryz.prog w 0 spare held 29 (progV g x) d p) (hl : Rows.uptoBulk d ≤ 1048576) : ∀ y ∈ x.xs,x.gs.length + y.ps.length + y.lg.length + y.lo.length ≤ 3999999999999:=by
 obtain ⟨fuel,hf⟩:=h
 have hf : DataW.trod enc Tryz.prog w 0 spare held fuel 29 [.slice g.r x.rs.length g.nr,.slice g.g x.gs.length g.ng,.slice g.k x.ks.length g.nk,.slice g.d x.ds.length g.nd,.slice g.m x.ms.length g.nm,.slice g.x x.xs.length g.nx] = some (d,p):=by simpa [Value.cells,progV] using hf
 obtain ⟨n',hs⟩:=struct_small (fs:=_) Tryz.underlying29 hf hl
 obtain ⟨y1,h1,l1⟩:=hs 1 _ rfl
 obtain ⟨y5,h5,l5⟩:=hs 5 _ rfl
 obtain ⟨_,_,rg,_,_,_,r6⟩:=hp
 have q1:=pms_small rg (by simpa [lw_Param.2.2] using h1) l1
 have q5:=(row_small (Wt:=fun y : Pr => y.ps.length ≤ 1048576 ∧ y.lg.length ≤ 1048576 ∧ y.lo.length ≤ 1048576) Tryz.underlying27 lw_Proc.1 (pr_rowV r6) (by simpa [lw_Proc.2] using h5) l5 (fun y _ cs z fu hv ht hz => prw_small y cs z fu hv ht hz)).2
 intro y hy
 have := q5 y hy
 omega
theorem bulk_first {H : Type} {d0 d1 d2 : DataW H} (hk : Rows.uptoSmall H [d0,d1,d2] = true) : Rows.uptoBulk d0 ≤ 1048576:=by
 have h:=of_decide_eq_true hk
 have := bulk_part (d:=d0) (l:=[d0,d1,d2]) (by simp)
 omega
theorem parts_laidF {W : World} (h : laidMetH Tryz.prog Rows.typesFindUptoRow.laid W) : PartsAt W:=by
 intro r hr
 rw [MakeChecks.laidMetH_plain _ _ _ (by kernel_rfl)] at h
 obtain ⟨ps,⟨g,t,cs,fuel,p,q,hg,ht,hv,hd,_,_⟩,_,_⟩:=h
 obtain rfl:=Option.some.inj ((show Tryz.prog.globalNamed "sepal/tree.partsOf" = some 0 by kernel_rfl).symm.trans hg)
 obtain rfl:=Option.some.inj ((show (Tryz.prog.globals[0]?).map (·.type) = some 272 by kernel_rfl).symm.trans ht)
 obtain ⟨xs,m,_,ex,_,hl,hel⟩:=DataW.trod_array Tryz.underlying272 hd
 have c5 : Tryz.prog.cellsOf 271 = 1:=by kernel_rfl
 have hE:=hel r hr
 rw [c5,Nat.mul_one,List.getElem?_eq_getElem (by omega)] at hE
 obtain ⟨z,e1,e2,_⟩:=DataW.trod_int Tryz.underlying271 hE
 have hlen : partsL.length = 13:=rfl
 have e3 : (xs.map (·.1)) = partsL.map fun n => (DataW.lit (.int .i64 n) : DataW Unit):=(DataW.agg.inj (Prod.mk.inj ex).1).symm
 have e4 : (xs.map (·.1))[r]? = (partsL.map fun n => (DataW.lit (.int .i64 n) : DataW Unit))[r]?:=by rw [e3]
 rw [List.getElem?_map,List.getElem?_map,List.getElem?_eq_getElem (by omega : r < xs.length),List.getElem?_eq_getElem (by omega : r < partsL.length),e2] at e4
 have hz : z = partsL.getD r 0:=by
  simp only [Option.map_some,Option.some.injEq,DataW.lit.injEq,Lit.int.injEq,true_and] at e4
  rw [e4,List.getD,List.getElem?_eq_getElem (by omega : r < partsL.length)];rfl
 rw [World.var?_cell hg hv r,← hz]
 have : cs.toList[r]? = some (.int .i64 z):=by
  have h0 : ((cs.toList.drop r).take 1)[0]? = some (.int .i64 z):=by rw [e1];rfl
  simpa using h0
 simpa using this
end Go.Proofs.YtojjfdegkooknaaGreatDoor
