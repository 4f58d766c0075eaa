import Derived.Test.YtbalioicgpgehaaGreatDoorSFloA
import Derived.Test.YtbalioicgpgehaaGreatDoorSFloL
import Derived.Test.YtbalioicgpgehaaGreatDoorSTreeCw
import Derived.Test.YtbalioicgpgehaaGreatDoorRows
import Derived.Deep.Slices
import Derived.Test.YtbalioicgpgehaaGreatDoorSFloUn
import Derived.Test.YtbalioicgpgehaaGreatDoorSFloM
import Derived.Test.YtbalioicgpgehaaGreatDoorSFloAw
import Derived.Test.YtbalioicgpgehaaGreatDoorSTreeUs
set_option linter.unusedVariables false
set_option linter.unusedSimpArgs false
namespace Go.Proofs.YtbalioicgpgehaaGreatDoor
open Go.RowKit
theorem vSs_empty {v : List UInt8 → Bool} {nu ex : Int} (d : Nat) : vSs v nu ex d [] = true:=by cases d <;> rfl
theorem sub_or {v : List UInt8 → Bool} {nu ex : Int} {d : Nat} {q : Bool} {b : List St} (h : (if q = true then vSs v nu ex d b else b.isEmpty) = true) : vSs v nu ex d b = true:=by
 cases q with
 | true => simpa using h
 | false =>
   obtain rfl : b = []:=by simpa using h
   exact vSs_empty d
theorem calls_of {ex : Int} {d : Nat} {x : St} {v : List UInt8 → Bool} {nu : Int} (h : vSt v nu ex (vSs v nu ex d) x = true) : ((clOf x).length ≤ 2 ∧ ((kOf x = 1 ∨ kOf x = 2 ∨ kOf x = 4 ∨ kOf x = 6) → clOf x = [])) ∧ vSs v nu ex d x.body = true ∧ vSs v nu ex d x.els = true:=by
 obtain ⟨k,ln,co,nm,fd,fr,e,c,cl,iv,b,o⟩:=x
 unfold vSt at h
 dsimp only at h
 show (cl.length ≤ 2 ∧ ((k = 1 ∨ k = 2 ∨ k = 4 ∨ k = 6) → cl = [])) ∧ vSs v nu ex d b = true ∧ vSs v nu ex d o = true
 by_cases hk : 1 ≤ k ∧ k ≤ 12
 ·rw [if_pos hk] at h
  obtain ⟨h,ho⟩:=Bool.and_eq_true_iff.1 h
  obtain ⟨h,hb⟩:=Bool.and_eq_true_iff.1 h
  obtain ⟨h,_⟩:=Bool.and_eq_true_iff.1 h
  obtain ⟨_,h⟩:=Bool.and_eq_true_iff.1 h
  obtain ⟨h,_⟩:=Bool.and_eq_true_iff.1 h
  have h2:=of_decide_eq_true (Bool.and_eq_true_iff.1 h).2
  refine ⟨⟨?_,?_⟩,sub_or hb,sub_or ho⟩
  ·have a1 : ∀ p,mostB p 128 1 ≤ 1:=fun p => by unfold mostB;split <;> decide
   have a2 : ∀ p,mostB p 256 1 ≤ 1:=fun p => by unfold mostB;split <;> decide
   have b1:=a1 (partsL.getD k.toNat 0)
   have b2:=a2 (partsL.getD k.toNat 0)
   omega
  ·intro hk4
   have h3 : (cl.length : Int) ≤ 0:=by
    rcases hk4 with rfl | rfl | rfl | rfl
    all_goals exact Int.le_trans h2 (by decide)
   exact List.length_eq_zero_iff.1 (by omega)
 ·rw [if_neg hk] at h
  cases h
theorem calls_flat {v : List UInt8 → Bool} {nu ex : Int} {l f : List St} (h : FlL l f) : ∀ (d : Nat),vSs v nu ex d l = true → ∀ s ∈ f,(clOf s).length ≤ 2 ∧ ((kOf s = 1 ∨ kOf s = 2 ∨ kOf s = 4 ∨ kOf s = 6) → clOf s = []):=by
 induction h with
 | nil => intro d _ s hs;cases hs
 | cons s l fb fo fl h1 h2 h3 i1 i2 i3 =>
   intro d hd x hx
   match d,hd with
   | 0,hd => cases hd
   | d + 1,hd =>
     have hd' : (decide ((1 : Int) ≤ (s :: l).length) && decide (((s :: l).length : Int) ≤ 100) && (s :: l).all (vSt v nu ex (vSs v nu ex d))) = true:=hd
     obtain ⟨ha,hall⟩:=Bool.and_eq_true_iff.1 hd'
     have hlen:=of_decide_eq_true (Bool.and_eq_true_iff.1 ha).2
     obtain ⟨hs,hb,ho⟩:=calls_of (List.all_eq_true.1 hall s (List.mem_cons_self ..))
     rcases List.mem_cons.1 hx with rfl | hx
     ·exact hs
     ·rcases List.mem_append.1 hx with hx | hx
      ·rcases List.mem_append.1 hx with hx | hx
       ·exact i1 d hb x hx
       ·exact i2 d ho x hx
      ·refine i3 (d + 1) ?_ x hx
       cases l with
       | nil => rfl
       | cons y l =>
         refine Bool.or_eq_true_iff.2 (.inr (Bool.and_eq_true_iff.2 ⟨Bool.and_eq_true_iff.2 ⟨decide_eq_true ?_,decide_eq_true ?_⟩,List.all_eq_true.2 fun z hz => List.all_eq_true.1 hall z (List.mem_cons_of_mem _ hz)⟩))
         ·simp;omega
         ·simp at hlen ⊢;omega
end Go.Proofs.YtbalioicgpgehaaGreatDoor
namespace Go.Proofs.YtbalioicgpgehaaGreatDoor
set_option maxRecDepth 100000
set_option maxHeartbeats 1000000
open Go.RowKit Go.ChangeShapes Go.WideShapes Go.Deep
variable {H : Type} {enc : TypeId × Value → H} {w : World} {spare : Nat → Bool} {held : Bool}
theorem bulk_one {H : Type} (d : DataW H) : 1 ≤ Rows.uptoBulk d:=by
 cases d with
 | lit l => cases l <;> simp [Rows.uptoBulk]
 | nil => simp [Rows.uptoBulk]
 | ptr d => simp [Rows.uptoBulk]
 | slice elems spare => simp [Rows.uptoBulk]
 | agg parts => simp [Rows.uptoBulk]
 | iface t d => simp [Rows.uptoBulk]
 | map entries => simp [Rows.uptoBulk]
 | held h => simp [Rows.uptoBulk]
theorem bulk_app {H : Type} : ∀ l m : List (DataW H),Rows.uptoBulkAll (l ++ m) = Rows.uptoBulkAll l + Rows.uptoBulkAll m
 | [],m => by simp [Rows.uptoBulkAll]
 | x :: l,m => by rw [List.cons_append];simp only [Rows.uptoBulkAll];rw [bulk_app l m];omega
theorem bulk_at {H : Type} : ∀ {l : List (DataW H)} {i : Nat} {d : DataW H},l[i]? = some d → Rows.uptoBulk d + Rows.uptoBulkAll (l.drop (i + 1)) = Rows.uptoBulkAll (l.drop i)
 | [],i,d,h => by simp at h
 | x :: l,0,d,h => by
   obtain rfl : x = d:=by simpa using h
   simp only [List.drop_succ_cons,List.drop_zero,Rows.uptoBulkAll]
 | x :: l,i + 1,d,h => by
   simp only [List.drop_succ_cons]
   exact bulk_at (by simpa using h)
theorem bulk_drop {H : Type} (l : List (DataW H)) (i : Nat) : Rows.uptoBulkAll (l.drop i) ≤ Rows.uptoBulkAll l:=by
 have h:=bulk_app (l.take i) (l.drop i)
 rw [List.take_append_drop] at h
 omega
theorem bulk_part {H : Type} {d : DataW H} {l : List (DataW H)} (h : d ∈ l) : Rows.uptoBulk d ≤ Rows.uptoBulkAll l:=by
 induction l with
 | nil => cases h
 | cons x r ih =>
   simp only [Rows.uptoBulkAll]
   cases List.mem_cons.1 h with
   | inl e => subst e;omega
   | inr e => have := ih e;omega
theorem struct_bulk {fs : Array Field} {t : TypeId} {x : DataW H × List MemPlace} {fuel : Nat} {cs : List Value} (ht : Tryz.prog.underlying t = some (.struct fs)) (h : DataW.trod enc Tryz.prog w 0 spare held fuel t cs = some x) :
 ∃ (n : Nat) (ds : List (DataW H)),Rows.uptoBulkAll ds + 1 ≤ Rows.uptoBulk x.1 ∧ ∀ (i : Nat) (f : Field),fs[i]? = some f → ∃ y : DataW H × List MemPlace,DataW.trod enc Tryz.prog w 0 spare held n f.type ((cs.drop f.offset).take (Tryz.prog.cellsOf f.type)) = some y ∧ ds[i]? = some y.1:=by
 obtain ⟨ys,n,_,hx,_,hyl,hf⟩:=DataW.trod_struct ht h
 refine ⟨n,ys.map (·.1),?_,fun i f hi => ?_⟩
 ·rw [show x.1 = _ from congrArg Prod.fst hx]
  simp only [Rows.uptoBulk]
  omega
 ·have hlt : i < ys.length:=by rw [hyl];exact (Array.getElem?_eq_some_iff.1 hi).1
  have e:=hf i f hi
  rw [List.getElem?_eq_getElem hlt] at e
  exact ⟨ys[i],e,by rw [List.getElem?_map,List.getElem?_eq_getElem hlt];rfl⟩
theorem sum_le {α : Type} (G : α → Nat) {l : List α} {D : Nat → DataW H} (h : ∀ i y,l[i]? = some y → G y ≤ Rows.uptoBulk (D i)) : ∀ j,((l.take j).map G).sum ≤ Rows.uptoBulkAll ((List.range j).map D):=by
 intro j
 induction j with
 | zero => simp
 | succ j ih =>
   rw [List.range_succ,List.map_append,bulk_app,List.take_add_one,List.map_append,List.sum_append]
   cases hy : l[j]? with
   | none =>
     simp only [Option.toList,List.map_nil,List.sum_nil,List.map_cons,Rows.uptoBulkAll]
     omega
   | some y =>
     have h1:=h j y hy
     simp only [Option.toList,List.map_nil,List.sum_nil,List.map_cons,List.sum_cons,Rows.uptoBulkAll]
     omega
theorem range_le {D : Nat → DataW H} {n m : Nat} (h : n ≤ m) : Rows.uptoBulkAll ((List.range n).map D) ≤ Rows.uptoBulkAll ((List.range m).map D):=by
 induction h with
 | refl => exact Nat.le_refl _
 | step _ ih => rw [List.range_succ,List.map_append,bulk_app];omega
theorem row_bulk {α : Type} {V : World → Nat → Array Value → α → Prop} {k : Nat} {t e : TypeId} (G : α → Nat) (ht : Tryz.prog.underlying t = some (.slice e)) (hk : Tryz.prog.cellsOf e = k) {B : Nat} {l : List α} {A : Option Addr} {c : Nat} (hr : RowV V k w B l A)
 {fuel : Nat} {x : DataW H × List MemPlace} (h : DataW.trod enc Tryz.prog w 0 spare held fuel t [.slice A l.length c] = some x)
 (hel : ∀ y ∈ l,∀ (cs : Array Value) (z : DataW H × List MemPlace) (fu : Nat),V w B cs y → DataW.trod enc Tryz.prog w 0 spare held fu e cs.toList = some z → G y ≤ Rows.uptoBulk z.1) :
 (l.map G).sum ≤ Rows.uptoBulk x.1:=by
 rcases open_slice ht h with ⟨e0,_⟩ | ⟨a,len,cap,m,n',D,Pl,e0,hb,hlen,hm,hmm,hxx,hi⟩
 ·injection e0 with e0 _
  injection e0 with _ e1 _
  obtain rfl : l = []:=List.length_eq_zero_iff.1 e1
  simp
 ·injection e0 with e0 _
  injection e0 with eA e1 _
  have hlm : len ≤ m:=by rw [hmm];split <;> omega
  rw [show x.1 = _ from congrArg Prod.fst hxx]
  simp only [Rows.uptoBulk]
  have h1:=sum_le (H:=H) (l:=l) (D:=D) G (fun i y hy => by
   have hi' : i < l.length:=(List.getElem?_eq_some_iff.1 hy).1
   obtain ⟨a',cs,ha,_,hz,hc,hv⟩:=hr i _ hy
   obtain ⟨cs',g1,g2⟩:=hi i (by omega)
   obtain rfl : a = a':=Option.some.inj (eA.symm.trans ha)
   rw [hk] at g1
   have hl' : cs'.length = k:=(World.cells?_some g1).2.1
   have hcs : cs' = cs.toList:=by
    apply List.ext_getElem?
    intro j
    by_cases hj : j < k
    ·rw [← cells4_at g1 hj,hc j cs[j] (Array.getElem?_eq_getElem (by omega)),Array.getElem?_toList,Array.getElem?_eq_getElem (by omega)]
    ·rw [List.getElem?_eq_none (by omega),List.getElem?_eq_none (by rw [Array.length_toList];omega)]
   subst hcs
   exact hel _ (List.mem_of_getElem? hy) cs (D i,Pl i) n' hv g2) len
  rw [List.take_of_length_le (by omega)] at h1
  have h2:=range_le (D:=D) hlm
  omega
theorem exsVars_len : ∀ l : List Ex,(exsVars l).length = (l.map fun e => (exVars e).length).sum
 | [] => by rw [exsVars];rfl
 | x :: l => by rw [exsVars,List.length_append,exsVars_len l];simp
theorem cnsVars_len : ∀ l : List Cn,(cnsVars l).length = (l.map fun e => (cnVars e).length).sum
 | [] => by rw [cnsVars];rfl
 | x :: l => by rw [cnsVars,List.length_append,cnsVars_len l];simp
theorem callsN_len : ∀ l : List Cal,(callsN l).length = (l.map fun e => (exsVars e.l).length).sum
 | [] => by rw [callsN];rfl
 | x :: l => by rw [callsN,List.length_append,callsN_len l];simp
theorem ex_bulk : ∀ (M : Nat) (e : Ex),SizeOf.sizeOf e < M → ∀ {B : Nat} (cs : Array Value) (x : DataW H × List MemPlace) (fu : Nat),VEx w B cs e → DataW.trod enc Tryz.prog w 0 spare held fu 29 cs.toList = some x → (exVars e).length ≤ Rows.uptoBulk x.1:=by
 intro M
 induction M with
 | zero => intro e h;omega
 | succ M ih =>
   intro e hM B cs x fu hv h
   obtain ⟨k,n,s,l,A,c,rfl,rfl,_,_,hr⟩:=hv
   obtain ⟨n',ds,hb,hf⟩:=struct_bulk (fs:=_) Tryz.underlying29 h
   obtain ⟨y3,h3,g3⟩:=hf 3 _ rfl
   have q:=row_bulk (fun e => (exVars e).length) Tryz.underlying27 lw_Expr.1 hr.rowV (by simpa [lw_Expr.2.2] using h3) (fun y hy cs z fu hv ht => ih y (by have := List.sizeOf_lt_of_mem hy;simp at hM;omega) cs z fu hv ht)
   have q3:=bulk_part (List.mem_of_getElem? g3)
   rw [exVars,List.length_append,exsVars_len]
   have : (if k = 2 then [s] else [] : List (List UInt8)).length ≤ 1:=by split <;> simp
   omega
theorem exs_bulk {B : Nat} {l : List Ex} {A : Option Addr} {c fu : Nat} {x : DataW H × List MemPlace} (hr : ExRow w B l A) (h : DataW.trod enc Tryz.prog w 0 spare held fu 27 [.slice A l.length c] = some x) : (exsVars l).length ≤ Rows.uptoBulk x.1:=by
 rw [exsVars_len]
 exact row_bulk (fun e => (exVars e).length) Tryz.underlying27 lw_Expr.1 hr.rowV h (fun y _ cs z fu hv ht => ex_bulk _ y (Nat.lt_succ_self _) cs z fu hv ht)
theorem cn_bulk : ∀ (M : Nat) (e : Cn),SizeOf.sizeOf e < M → ∀ {B : Nat} (cs : Array Value) (x : DataW H × List MemPlace) (fu : Nat),VCn w B cs e → DataW.trod enc Tryz.prog w 0 spare held fu 32 cs.toList = some x → (cnVars e).length ≤ Rows.uptoBulk x.1:=by
 intro M
 induction M with
 | zero => intro e h;omega
 | succ M ih =>
   intro e hM B cs x fu hv h
   obtain ⟨k,ak,an,sa,al,bk,bn,sb,bl,l,Aa,ca,Ab,cb,Al,cl,rfl,rfl,⟨b1,b2,b3,b4,b5⟩,ra,rb,rl⟩:=hv
   obtain ⟨n',ds,hb,hf⟩:=struct_bulk (fs:=_) Tryz.underlying32 h
   obtain ⟨y1,h1,g1⟩:=hf 1 _ rfl
   obtain ⟨y2,h2,g2⟩:=hf 2 _ rfl
   obtain ⟨y3,h3,g3⟩:=hf 3 _ rfl
   have ea:=ex_bulk _ (.mk ak an sa al) (Nat.lt_succ_self _) #[.int .i64 ak,.int .i64 an,.string ⟨sa.toArray⟩,.slice Aa al.length ca] y1 n' ⟨ak,an,sa,al,Aa,ca,rfl,rfl,b1,b2,ra⟩ (by simpa [lw_Expr.1] using h1)
   have eb:=ex_bulk _ (.mk bk bn sb bl) (Nat.lt_succ_self _) #[.int .i64 bk,.int .i64 bn,.string ⟨sb.toArray⟩,.slice Ab bl.length cb] y2 n' ⟨bk,bn,sb,bl,Ab,cb,rfl,rfl,b3,b4,rb⟩ (by simpa [lw_Expr.1] using h2)
   have q:=row_bulk (fun e => (cnVars e).length) Tryz.underlying30 lw_Cond.1 rl.rowV (by simpa [lw_Cond.2.2] using h3) (fun y hy cs z fu hv ht => ih y (by have := List.sizeOf_lt_of_mem hy;simp at hM;omega) cs z fu hv ht)
   have q1 : Rows.uptoBulk y1.1 + Rows.uptoBulkAll (ds.drop 2) = Rows.uptoBulkAll (ds.drop 1):=bulk_at g1
   have q2 : Rows.uptoBulk y2.1 + Rows.uptoBulkAll (ds.drop 3) = Rows.uptoBulkAll (ds.drop 2):=bulk_at g2
   have q3 : Rows.uptoBulk y3.1 + Rows.uptoBulkAll (ds.drop 4) = Rows.uptoBulkAll (ds.drop 3):=bulk_at g3
   have q4:=bulk_drop ds 1
   rw [cnVars,List.length_append,List.length_append,cnsVars_len]
   omega
theorem cal_bulk {B : Nat} (e : Cal) (cs : Array Value) (x : DataW H × List MemPlace) (fu : Nat) (hv : VCal w B cs e) (h : DataW.trod enc Tryz.prog w 0 spare held fu 89 cs.toList = some x) : (exsVars e.l).length ≤ Rows.uptoBulk x.1:=by
 obtain ⟨A,c,rfl,_,_,_,hr⟩:=hv
 obtain ⟨n',ds,hb,hf⟩:=struct_bulk (fs:=_) Tryz.underlying89 h
 obtain ⟨y2,h2,g2⟩:=hf 2 _ rfl
 have q:=exs_bulk hr (by simpa [lw_Expr.2.2] using h2)
 have q3:=bulk_part (List.mem_of_getElem? g2)
 omega
inductive BS : List St → Prop
 | mk (l : List St) (h1 : ∀ y ∈ l,(readN y).length ≤ 1048576) (h2 : ∀ y ∈ l,BS y.body) (h3 : ∀ y ∈ l,BS y.els) : BS l
theorem row_smallF {α : Type} {V : World → Nat → Array Value → α → Prop} {k : Nat} {t e : TypeId} {Wt : α → Prop} (ht : Tryz.prog.underlying t = some (.slice e)) (hk : Tryz.prog.cellsOf e = k) {B : Nat} {l : List α} {A : Option Addr} {c : Nat} (hr : RowV V k w B l A)
 {fuel : Nat} {x : DataW H × List MemPlace} (h : DataW.trod enc Tryz.prog w 0 spare held fuel t [.slice A l.length c] = some x) (hl : Rows.uptoBulk x.1 ≤ 1048576)
 (hel : ∀ y ∈ l,∀ (cs : Array Value) (z : DataW H × List MemPlace) (fu : Nat),V w B cs y → DataW.trod enc Tryz.prog w 0 spare held fu e cs.toList = some z → Rows.uptoBulk z.1 ≤ 1048576 → Wt y) :
 ∀ y ∈ l,Wt y:=by
 classical
 intro y hy
 refine Classical.byContradiction fun hn => ?_
 have q:=row_bulk (w:=w) (enc:=enc) (spare:=spare) (held:=held) (fun z => if Wt z then 0 else 1048577) ht hk hr h (fun y hy cs z fu hv ht' => by
  by_cases hw : Wt y
  ·simp [hw]
  ·rw [if_neg hw]
   refine Classical.byContradiction fun hz => hw (hel y hy cs z fu hv ht' (by omega)))
 have : (if Wt y then 0 else 1048577) ≤ (l.map fun z => if Wt z then 0 else 1048577).sum:=by
  clear q hl h hr hel
  induction l with
  | nil => cases hy
  | cons a l ih =>
    rw [List.map_cons,List.sum_cons]
    rcases List.mem_cons.1 hy with rfl | hy
    ·omega
    ·have := ih hy;omega
 simp only [if_neg hn] at this
 omega
theorem st_bulk : ∀ (M : Nat) (s : St),SizeOf.sizeOf s < M → ∀ {B : Nat} (cs : Array Value) (x : DataW H × List MemPlace) (fu : Nat),VSt w B cs s → DataW.trod enc Tryz.prog w 0 spare held fu 36 cs.toList = some x → Rows.uptoBulk x.1 ≤ 1048576 → (readN s).length ≤ 1048576 ∧ BS s.body ∧ BS s.els:=by
 intro M
 induction M with
 | zero => intro e h;omega
 | succ M ih =>
   intro s hM B cs x fu hv h hl
   obtain ⟨d,rfl,hown,r1,r2⟩:=hv
   obtain ⟨k0,ln,co,nm,fd,fr,⟨ek,en,es,el⟩,⟨ck,⟨ak,an,sa,al⟩,⟨bk,bn,sb,bl⟩,l⟩,cl,iv,bd,ot⟩:=s
   obtain ⟨⟨m0,m1,m2,m3,m4,m5,m6,m7,m8,m9,m10,m11,m12,m13⟩,re,ra,rb,rl,rc,ri⟩:=hown
   simp only [St.body,St.els] at r1 r2
   simp at hM
   obtain ⟨n',ds,hb,hf⟩:=struct_bulk (fs:=_) Tryz.underlying36 h
   obtain ⟨y5,h5,g5⟩:=hf 5 _ rfl
   obtain ⟨y6,h6,g6⟩:=hf 6 _ rfl
   obtain ⟨y7,h7,g7⟩:=hf 7 _ rfl
   obtain ⟨y9,h9,g9⟩:=hf 9 _ rfl
   obtain ⟨y10,h10,g10⟩:=hf 10 _ rfl
   have we:=ex_bulk _ (.mk ek en es el) (Nat.lt_succ_self _) #[.int .i64 ek,.int .i64 en,.string ⟨es.toArray⟩,.slice d.e el.length d.ne] y5 n' ⟨ek,en,es,el,d.e,d.ne,rfl,rfl,m3,m4,re⟩ (by simpa [lw_Expr.1,stCs] using h5)
   have wc:=cn_bulk _ (.mk ck (.mk ak an sa al) (.mk bk bn sb bl) l) (Nat.lt_succ_self _) #[.int .i64 ck,.int .i64 ak,.int .i64 an,.string ⟨sa.toArray⟩,.slice d.a al.length d.na,.int .i64 bk,.int .i64 bn,.string ⟨sb.toArray⟩,.slice d.b bl.length d.nb,.slice d.l l.length d.nl] y6 n'
    ⟨ck,ak,an,sa,al,bk,bn,sb,bl,l,d.a,d.na,d.b,d.nb,d.l,d.nl,rfl,rfl,⟨m5,m6,m7,m8,m9⟩,ra,rb,rl⟩ (by simpa [lw_Cond.1,stCs] using h6)
   have q7:=row_bulk (fun e => (exsVars e.l).length) Tryz.underlying33 lw_Call.1 (cal_rowV rc) (by simpa [lw_Call.2.2,stCs] using h7) (fun y _ cs z fu hv ht => cal_bulk y cs z fu hv ht)
   have p9:=bulk_part (List.mem_of_getElem? g9)
   have p10:=bulk_part (List.mem_of_getElem? g10)
   have q9:=row_smallF (Wt:=fun s => (readN s).length ≤ 1048576 ∧ BS s.body ∧ BS s.els) Tryz.underlying22 lw_Stmt.1 r1.rowV (by simpa [lw_Stmt.2.2,stCs] using h9) (by omega) (fun y hy cs z fu hv ht hz => ih y (by have := List.sizeOf_lt_of_mem hy;omega) cs z fu hv ht hz)
   have q10:=row_smallF (Wt:=fun s => (readN s).length ≤ 1048576 ∧ BS s.body ∧ BS s.els) Tryz.underlying22 lw_Stmt.1 r2.rowV (by simpa [lw_Stmt.2.2,stCs] using h10) (by omega) (fun y hy cs z fu hv ht hz => ih y (by have := List.sizeOf_lt_of_mem hy;omega) cs z fu hv ht hz)
   have q1 : Rows.uptoBulk y5.1 + Rows.uptoBulkAll (ds.drop 6) = Rows.uptoBulkAll (ds.drop 5):=bulk_at g5
   have q2 : Rows.uptoBulk y6.1 + Rows.uptoBulkAll (ds.drop 7) = Rows.uptoBulkAll (ds.drop 6):=bulk_at g6
   have q3 : Rows.uptoBulk y7.1 + Rows.uptoBulkAll (ds.drop 8) = Rows.uptoBulkAll (ds.drop 7):=bulk_at g7
   have q4:=bulk_drop ds 5
   refine ⟨?_,.mk bd (fun y hy => (q9 y hy).1) (fun y hy => (q9 y hy).2.1) (fun y hy => (q9 y hy).2.2),.mk ot (fun y hy => (q10 y hy).1) (fun y hy => (q10 y hy).2.1) (fun y hy => (q10 y hy).2.2)⟩
   have : (rdK k0 nm fr).length ≤ 1:=by unfold rdK;split <;> (try split) <;> simp
   rw [readN,List.length_append,List.length_append,List.length_append,callsN_len]
   omega
theorem sts_bulk {l : List St} {A : Option Addr} {c : Nat} {d : DataW H} {p : List MemPlace} (hr : StRow w w.heap.size l A) (h : DataW.Trod enc Tryz.prog w 0 spare held 22 (.slice A l.length c) d p) (hl : Rows.uptoBulk d ≤ 1048576) : BS l:=by
 obtain ⟨fuel,hf⟩:=h
 have hf : DataW.trod enc Tryz.prog w 0 spare held fuel 22 [.slice A l.length c] = some (d,p):=by simpa [Value.cells] using hf
 have q:=row_smallF (Wt:=fun s => (readN s).length ≤ 1048576 ∧ BS s.body ∧ BS s.els) Tryz.underlying22 lw_Stmt.1 hr.rowV hf hl (fun y _ cs z fu hv ht hz => st_bulk _ y (Nat.lt_succ_self _) cs z fu hv ht hz)
 exact .mk l (fun y hy => (q y hy).1) (fun y hy => (q y hy).2.1) (fun y hy => (q y hy).2.2)
theorem bulk_first {H : Type} {d : DataW H} {l : List (DataW H)} (hk : Rows.uptoSmall H (d :: l) = true) : Rows.uptoBulk d ≤ 1048576:=by
 have h:=of_decide_eq_true hk
 have := bulk_part (d:=d) (l:=d :: l) (List.mem_cons_self ..)
 omega
theorem bs_fl {l f : List St} (h : FlL l f) : BS l → ∀ x ∈ f,(readN x).length ≤ 1048576:=by
 induction h with
 | nil => intro _ x hx;cases hx
 | cons s l fb fo fl h1 h2 h3 i1 i2 i3 =>
   intro hb x hx
   obtain ⟨_,b1,b2,b3⟩:=hb
   have hl : BS l:=.mk l (fun y hy => b1 y (List.mem_cons_of_mem _ hy)) (fun y hy => b2 y (List.mem_cons_of_mem _ hy)) (fun y hy => b3 y (List.mem_cons_of_mem _ hy))
   have q0:=b1 s (List.mem_cons_self ..)
   have q1:=i1 (b2 s (List.mem_cons_self ..))
   have q2:=i2 (b3 s (List.mem_cons_self ..))
   have q3:=i3 hl
   simp only [List.mem_cons,List.mem_append] at hx
   rcases hx with rfl | (hx | hx) | hx
   ·exact q0
   ·exact q1 x hx
   ·exact q2 x hx
   ·exact q3 x hx
end Go.Proofs.YtbalioicgpgehaaGreatDoor
namespace Go.Proofs.YtbalioicgpgehaaGreatDoor
open Go.RowKit
theorem nodup_lenF : ∀ {m ns : List (List UInt8)},m.Nodup → (∀ x ∈ m,x ∈ ns) → m.length ≤ ns.length
 | [],_,_,_ => Nat.zero_le _
 | a :: m,ns,h,hs => by
   have ha:=hs a (List.mem_cons_self ..)
   obtain ⟨h1,h2⟩:=List.nodup_cons.1 h
   have h3:=nodup_lenF (m:=m) (ns:=ns.erase a) h2 (fun x hx => (List.mem_erase_of_ne (fun e => by rw [e] at hx;exact h1 hx)).2 (hs x (List.mem_cons_of_mem _ hx)))
   rw [List.length_erase_of_mem ha] at h3
   have h4:=List.length_pos_of_mem ha
   rw [List.length_cons]
   omega
def ResRow (ns : List (List UInt8)) (B : Nat) (W : World) (A : Option Addr) (n c : Nat) : Prop :=
 ∃ m : List (List UInt8),n = m.length ∧ Asc m ∧ (∀ x,x ∈ m ↔ x ∈ ns) ∧ NmRow m B W A n c ∧ W.ownsRow B 9 1 (.slice A n c) n (m.map encF) ∧ m.length ≤ ns.length
theorem ResRow.on {ns : List (List UInt8)} {B : Nat} {W W' : World} {A : Option Addr} {n c : Nat} (h : ResRow ns B W A n c) (hb : Below W.heap.size W W') : ResRow ns B W' A n c:=by
 obtain ⟨m,h1,h2,h3,h4,h5,h6⟩:=h
 exact ⟨m,h1,h2,h3,h4.on hb,own_below h5 hb (fun g hg => (own_lt h5 g hg).2),h6⟩
def ResPost (ns : List (List UInt8)) (w : World) (e : Ending) (w' : World) : Prop:=∃ (A : Option Addr) (n c : Nat),e = .returned (.slice A n c) ∧ ResRow ns w.heap.size w' A n c ∧ Below w.heap.size w w'
theorem NmsPost.res {ns : List (List UInt8)} {w w' : World} {e : Ending} (h : NmsPost ns w e w') : ResPost ns w e w':=by
 obtain ⟨A,c,m,h1,h2,h3,h4,h5,h6⟩:=h
 exact ⟨A,m.length,c,h1,⟨m,rfl,h3,h4,⟨m,rfl,h2,fun x => Iff.rfl,h5,Nat.le_refl _⟩,h2,nodup_lenF h3.1 fun x hx => (h4 x).1 hx⟩,h6⟩
theorem union_res {ns1 ns2 : List (List UInt8)} {B1 B2 : Nat} {W : World} {A1 A2 : Option Addr} {n1 c1 n2 c2 : Nat} (h1 : ResRow ns1 B1 W A1 n1 c1) (h2 : ResRow ns2 B2 W A2 n2 c2) (hn : (ns1 ++ ns2).length ≤ 1000000000) :
 Calls Tryz.prog 26 #[.slice A1 n1 c1,.slice A2 n2 c2] W fun e w' => ∃ A n c,e = .returned (.slice A n c) ∧ UniRow (ns1 ++ ns2) w' A n ∧ Below W.heap.size W w':=by
 obtain ⟨m1,_,_,x1,r1,_,l1⟩:=h1
 obtain ⟨m2,_,_,x2,r2,_,l2⟩:=h2
 rw [List.length_append] at hn
 refine (union_any r1 r2 (by omega)).mono ?_
 rintro e w' ⟨A,n,c,rfl,⟨m,q1,q2,q3,q4,q5⟩,hb⟩
 refine ⟨A,n,c,rfl,⟨m,q1,q2,q3,fun x => (q4 x).trans ?_,?_⟩,hb⟩
 ·rw [List.mem_append,List.mem_append,x1,x2]
 ·rw [List.length_append] at q5 ⊢
  omega
theorem res_equal {ns : List (List UInt8)} {B0 : Nat} {W : World} {A B : Option Addr} {n k c d : Nat} (h1 : ResRow ns B0 W A n c) (h2 : UniRow ns W B k) (hn : ns.length ≤ 1000000000) :
 Calls Tryz.prog 22 #[.slice A n c,.slice B k d] W fun e w' => e = .returned (.bool true) ∧ Below W.heap.size W w':=by
 obtain ⟨m,hm,ha,hx,_,hr,_⟩:=h1
 obtain ⟨m2,hm2,hr2,ha2,hx2,hlen⟩:=h2
 obtain rfl : m = m2:=asc_eq ha ha2 fun x => (hx x).trans (hx2 x).symm
 obtain rfl : n = k:=hm.trans hm2.symm
 exact equalStr_same A B c d n m hm (by unfold maxLen;omega) _ _ W (Reads.of_own hr) hr2
theorem flat_lenJ {G : St → List (List UInt8)} {f : List St} {K : Nat} (h : ∀ x ∈ f,(G x).length ≤ K) : (f.flatMap G).length ≤ f.length * K:=by
 induction f with
 | nil => simp
 | cons x l ih =>
   have h1:=h x (List.mem_cons_self ..)
   have h2:=ih fun y hy => h y (List.mem_cons_of_mem _ hy)
   rw [List.flatMap_cons,List.length_append,List.length_cons,Nat.succ_mul]
   omega
structure FlC (l f : List St) (A : Option Addr) (n c : Nat) (w : World) : Prop where
 paths : ∀ k : Nat,k ≤ 100 → ∀ W,Below w.heap.size w W → Calls Tryz.prog 24 #[.slice A n c,.int .i64 k] W fun e w' => e = .returned (.int .i64 (limN (paL k l) : Nat)) ∧ Below W.heap.size W w'
 mod : ∀ W,Below w.heap.size w W → Calls Tryz.prog 23 #[.slice A n c] W (ResPost (f.flatMap asgN) W)
 used : ∀ W,Below w.heap.size w W → Calls Tryz.prog 27 #[.slice A n c] W (ResPost (f.flatMap readN) W)
 lock : ∀ W,Below w.heap.size w W → Calls Tryz.prog 28 #[.slice A n c] W (ResPost (f.flatMap lckN) W)
 loops : ∀ W,Below w.heap.size w W → Calls Tryz.prog 21 #[.slice A n c] W fun e w' => e = .returned (.int .i64 (lpsN f)) ∧ Below W.heap.size W w'
theorem flc_any {l f : List St} (hf : FlL l f) (h60 : f.length ≤ 60) (hw : WS l) (hrd : ∀ x ∈ f,(readN x).length ≤ 1048576) (A : Option Addr) (n c : Nat) (hn : n = l.length) (w : World) (hp : PartsAt w) (hr : StRow w w.heap.size l A) (hl : l.length ≤ maxLen) (hv : vSs varB 1125899906842624 100 30 l = true) : FlC l f A n c w:=by
 have hcl:=calls_flat hf 30 hv
 subst hn
 refine ⟨fun k hk W hb => ?_,fun W hb => ?_,fun W hb => ?_,fun W hb => ?_,fun W hb => ?_⟩
 ·have h:=Paths_any l A c k W (hp.on hb) (hr.on hb) hl
  rw [if_pos ⟨by omega,by omega,hv⟩] at h
  exact h
 ·exact (Modified_any hw hf (by omega) (fun x hx => Nat.le_trans (hcl x hx).1 (by omega)) A c W (hp.on hb) (hr.on hb) hl hv).mono fun e w' h => h.res
 ·exact (Used_any hw hf (by omega) (fun x hx => Nat.le_trans (hrd x hx) (by omega)) A c W (hp.on hb) (hr.on hb) hl hv).mono fun e w' h => h.res
 ·exact (Locks_any hw hf (by omega) A c W (hp.on hb) (hr.on hb) hl hv).mono fun e w' h => h.res
 ·exact Loops_any hw hf (by omega) A c W (hp.on hb) (hr.on hb) hl hv
end Go.Proofs.YtbalioicgpgehaaGreatDoor
