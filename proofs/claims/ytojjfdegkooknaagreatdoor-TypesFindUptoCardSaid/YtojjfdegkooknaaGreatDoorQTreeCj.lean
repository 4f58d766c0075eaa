import Derived.Test.YtojjfdegkooknaaGreatDoorQTreeCh
set_option linter.unusedVariables false
set_option linter.unusedSimpArgs false
namespace Go.Proofs.YtojjfdegkooknaaGreatDoor
set_option maxRecDepth 100000
set_option maxHeartbeats 8000000
open Go.RowKit
theorem setPart_get {cs v : Array Value} {o i : Nat} (hi : o + v.size ≤ i) (h : o + v.size ≤ cs.size) : (setPart cs o v)[i]? = cs[i]?:=by
 unfold setPart
 rw [List.getElem?_toArray,List.getElem?_append_right (by simp only [List.length_append,List.length_take,Array.length_toList];omega),List.getElem?_drop]
 simp only [List.length_append,List.length_take,Array.length_toList]
 rw [show o + v.size + (i - (min o cs.size + v.size)) = i from by omega]
 simp
theorem setPart_all {cs v : Array Value} {o : Nat} (h1 : cs.all (·.oneCell') = true) (h2 : v.all (·.oneCell') = true) : (setPart cs o v).all (·.oneCell') = true:=by
 rw [Array.all_eq_true_iff_forall_mem] at h1 h2 ⊢
 intro u hu
 unfold setPart at hu
 rw [List.mem_toArray,List.mem_append,List.mem_append] at hu
 rcases hu with (hu | hu) | hu
 ·exact h1 u (by simpa using List.mem_of_mem_take hu)
 ·exact h2 u (by simpa using hu)
 ·exact h1 u (by simpa using List.mem_of_mem_drop hu)
def CopyRowB (B0 : Nat) (l : List St) (w : World) (e : Ending) (w' : World) : Prop :=
 ∃ (A : Option Addr) (c : Nat),e = .returned (.slice A l.length c) ∧ RowInC VSt 24 (fun b => b < B0 ∨ w.heap.size ≤ b) w' l A ∧ Below w.heap.size w w'
def WOwn (x : St) : Prop :=
 match x with
 | .mk _ _ _ _ _ _ e c cl iv _ _ => WE e ∧ WC c ∧ cl.length * 56 ≤ 140737488355328 ∧ (∀ y ∈ cl,y.l.length * 56 ≤ 140737488355328 ∧ ∀ z ∈ y.l,WE z) ∧ iv.length * 72 ≤ 140737488355328 ∧ ∀ y ∈ iv,WF y
theorem StRow.ofV {w : World} {B : Nat} {l : List St} {A : Option Addr} (h : RowV VSt 24 w B l A) : StRow w B l A:=by
 cases l with
 | nil => exact .nil A
 | cons x0 l0 =>
   obtain ⟨a,cs0,rfl,hab,_⟩:=h 0 x0 rfl
   have h1 : ∀ i : Nat,∃ d : SAd,∀ x,(x0 :: l0)[i]? = some x → ((∀ j v,(stCs d x)[j]? = some v → w.cell? ((a.add (i * 24)).add j) = some v) ∧ StOwn w B d x) ∧ StRow w B x.body d.s ∧ StRow w B x.els d.t:=by
    intro i
    cases e : (x0 :: l0)[i]? with
    | none => exact ⟨sAd0,fun x hx => by cases hx⟩
    | some x =>
      obtain ⟨a',cs,ha,_,_,hc,d,rfl,r1,r2,r3⟩:=h i x e
      obtain rfl:=Option.some.inj ha
      exact ⟨d,fun y hy => by obtain rfl:=Option.some.inj hy;exact ⟨⟨hc,r1⟩,r2,r3⟩⟩
   obtain ⟨f,hf⟩:=Classical.axiomOfChoice h1
   exact .row a _ f hab (fun i x hi => (hf i x hi).1) (fun i x hi => (hf i x hi).2.1) (fun i x hi => (hf i x hi).2.2)
theorem cstmt_any (B0 : Nat) (x : St) (hw : WOwn x) (lv : Int) (cs : Array Value) (d : SAd) (w : World) (hB0 : B0 ≤ w.heap.size) (hcs : cs = stCs d x) (hown : StOwn w B0 d x)
 (hSb : ∀ W,Below w.heap.size w W → Calls Tryz.prog 90 #[.slice d.s x.body.length d.ns,.int .i64 lv] W (CopyRowB B0 x.body W)) (hSt : ∀ W,Below w.heap.size w W → Calls Tryz.prog 90 #[.slice d.t x.els.length d.nt,.int .i64 lv] W (CopyRowB B0 x.els W)) :
 Calls Tryz.prog 124 #[.agg cs,.int .i64 lv] w fun e w' => ∃ cs' : Array Value,e = .returned (.agg cs') ∧ cs'.size = 24 ∧ cs'.all (·.oneCell') = true ∧ VInC VSt (fun b => b < B0 ∨ w.heap.size ≤ b) w' cs' x ∧ Below w.heap.size w w':=by
 have h24 : cs.size = 24:=by rw [hcs];exact stCs_size d x
 have HONE : Hid (cs.all (·.oneCell') = true):=Lib.hid (by rw [hcs,Array.all_eq_true_iff_forall_mem];exact fun u hu => stCs_oneM d x u (by simpa using hu))
 obtain ⟨k0,ln,co,nm,fd,fr,⟨ek,en,es,el⟩,⟨ck,⟨ak,an,sa,al⟩,⟨bk,bn,sb,bl⟩,l⟩,cl,iv,bd,ot⟩:=x
 obtain ⟨m,re,ra,rb,rl,rc,ri⟩:=hown
 obtain ⟨m0,m1,m2,m3,m4,m5,m6,m7,m8,m9,m10,m11,m12,m13⟩:=m
 obtain ⟨we,wc,wl1,wl2,wf1,wf2⟩:=hw
 simp only [St.body,St.els] at hSb hSt
 obtain ⟨T,N,zc,hT,hN,hzc,hag,hsz,hzv⟩:=stmt_hidden2
 obtain ⟨TE,NE,zE,hTE,hNE,hzE,hagE,hszE,hzvE⟩:=hid_ExprC
 obtain ⟨TC,NC,zC,hTC,hNC,hzC,hagC,hszC,hzvC⟩:=hid_CondC
 have e1 : ∀ y : Operand,Op.load 90 y = Op.load T y:=fun y => by rw [hT]
 have e2 : ∀ y z : Operand,Op.store 90 y z = Op.store T y z:=fun y z => by rw [hT]
 have e3 : Op.alloc 90 = Op.alloc T:=by rw [hT]
 have e4 : ∀ y : Operand,Op.box 90 y = Op.box T y:=fun y => by rw [hT]
 have f1 : ∀ y : Operand,Op.load 84 y = Op.load TE y:=fun y => by rw [hTE]
 have f2 : ∀ y z : Operand,Op.store 84 y z = Op.store TE y z:=fun y z => by rw [hTE]
 have g1 : ∀ y : Operand,Op.load 87 y = Op.load TC y:=fun y => by rw [hTC]
 have g2 : ∀ y z : Operand,Op.store 87 y z = Op.store TC y z:=fun y z => by rw [hTC]
 obtain ⟨nc,hnc⟩ : ∃ n,n = cl.length:=⟨_,rfl⟩
 obtain ⟨ni,hni⟩ : ∃ n,n = iv.length:=⟨_,rfl⟩
 obtain ⟨nb,hnb⟩ : ∃ n,n = bd.length:=⟨_,rfl⟩
 obtain ⟨nt,hnt⟩ : ∃ n,n = ot.length:=⟨_,rfl⟩
 obtain ⟨ve,hve⟩ : ∃ v : Array Value,v = #[.int .i64 ek,.int .i64 en,.string ⟨es.toArray⟩,.slice d.e el.length d.ne]:=⟨_,rfl⟩
 obtain ⟨vc,hvc⟩ : ∃ v : Array Value,v = #[.int .i64 ck,.int .i64 ak,.int .i64 an,.string ⟨sa.toArray⟩,.slice d.a al.length d.na,.int .i64 bk,.int .i64 bn,.string ⟨sb.toArray⟩,.slice d.b bl.length d.nb,.slice d.l l.length d.nl]:=⟨_,rfl⟩
 have hvE : ∀ j v,ve[j]? = some v → cs[6 + j]? = some v:=fun j v h => by
  rw [hve] at h;rw [hcs]
  match j,h with
  | 0,h => exact h
  | 1,h => exact h
  | 2,h => exact h
  | 3,h => exact h
  | j + 4,h => simp at h
 have HVC : Hid (∀ j v,vc[j]? = some v → cs[10 + j]? = some v):=Lib.hid (fun j v h => by
  rw [hvc] at h;rw [hcs]
  match j,h with
  | 0,h => exact h
  | 1,h => exact h
  | 2,h => exact h
  | 3,h => exact h
  | 4,h => exact h
  | 5,h => exact h
  | 6,h => exact h
  | 7,h => exact h
  | 8,h => exact h
  | 9,h => exact h
  | j + 10,h => simp at h)
 have K20 : Hid (cs[20]? = some (.slice d.c nc d.nc)):=Lib.hid (by rw [hcs,hnc];rfl)
 have K21 : Hid (cs[21]? = some (.slice d.i ni d.ni)):=Lib.hid (by rw [hcs,hni];rfl)
 have K22 : Hid (cs[22]? = some (.slice d.s nb d.ns)):=Lib.hid (by rw [hcs,hnb];rfl)
 have K23 : Hid (cs[23]? = some (.slice d.t nt d.nt)):=Lib.hid (by rw [hcs,hnt];rfl)
 have on : ∀ {W : World},Below w.heap.size w W → ∀ q : Addr,q.block < B0 → W.cell? q = w.cell? q:=fun hb q hq => hb.cell (Nat.lt_of_lt_of_le hq hB0)
 have HE : Hid (∀ W,Below w.heap.size w W → Calls Tryz.prog 120 #[.agg ve] W (CopyV VEx 4 (.mk ek en es el) W)):=Lib.hid (fun W hb => cexpr_any _ _ (Nat.lt_succ_self _) we ve W ⟨ek,en,es,el,d.e,d.ne,rfl,hve,m3,m4,re.keep (on hb) (Nat.le_trans hB0 hb.size)⟩)
 have HC : Hid (∀ W,Below w.heap.size w W → Calls Tryz.prog 149 #[.agg vc] W (CopyV VCn 10 (.mk ck (.mk ak an sa al) (.mk bk bn sb bl) l) W)):=Lib.hid (fun W hb => ccond_any _ _ (Nat.lt_succ_self _) wc vc W ⟨ck,ak,an,sa,al,bk,bn,sb,bl,l,d.a,d.na,d.b,d.nb,d.l,d.nl,rfl,hvc,⟨m5,m6,m7,m8,m9⟩,ra.keep (on hb) (Nat.le_trans hB0 hb.size),rb.keep (on hb) (Nat.le_trans hB0 hb.size),rl.keep (on hb) (Nat.le_trans hB0 hb.size)⟩)
 have HL : Hid (∀ W,Below w.heap.size w W → Calls Tryz.prog 150 #[.slice d.c nc d.nc,.func (.func 151) #[] #[]] W (CopyRow VCal 3 cl W)):=Lib.hid (fun W hb => by
  rw [hnc]
  exact clist_Call cl d.c d.nc W (cal_rowV (rc.keep cal_keeps (on hb) (Nat.le_trans hB0 hb.size))) wl1 (fun y hy cs' W' _ hv' => ccall_any y (wl2 y hy).1 (wl2 y hy).2 cs' W' hv'))
 have HF : Hid (∀ W,Below w.heap.size w W → Calls Tryz.prog 65 #[.slice d.i ni d.ni,.func (.func 66) #[] #[]] W (CopyRow VFm 3 iv W)):=Lib.hid (fun W hb => by
  rw [hni]
  exact clist_Formula iv d.i d.ni W (fm_rowV (ri.keep fm_keeps (on hb) (Nat.le_trans hB0 hb.size))) wf1 (fun y hy cs' W' _ hv' => cformula_any y (wf2 y hy) cs' W' hv'))
 have HSb : Hid (∀ W,Below w.heap.size w W → Calls Tryz.prog 90 #[.slice d.s nb d.ns,.int .i64 lv] W (CopyRowB B0 bd W)):=Lib.hid (fun W hb => by rw [hnb];exact hSb W hb)
 have HSt : Hid (∀ W,Below w.heap.size w W → Calls Tryz.prog 90 #[.slice d.t nt d.nt,.int .i64 lv] W (CopyRowB B0 ot W)):=Lib.hid (fun W hb => by rw [hnt];exact hSt W hb)
 have hszc : cs.size = N:=h24.trans hN.symm
 have HB0 : Hid (Below w.heap.size w ((w.alloc (.cells cs T)).alloc (.cells zc T))):=Lib.hid ((below_alloc w _).chain (below_alloc _ _))
 have hldE : (loadCellsFrom ⟨w.heap.size,6,none⟩ 0 NE #[]).run Tryz.prog ((w.alloc (.cells cs T)).alloc (.cells zc T)) = .ok ve ((w.alloc (.cells cs T)).alloc (.cells zc T)):=load_list (fun j v h => by rw [← add_block0 w.heap.size 6,add_of_add,add_block0];exact cell_of_block (heap_keep (o:=.cells zc T) (heap_of_alloc w (.cells cs T))) _ (hvE j v h)) (by rw [hve,hNE];rfl)
 have HZC : Hid (vc.size = NC):=Lib.hid (by rw [hvc,hNC];rfl)
 have hze : ve.size = NE:=by rw [hve,hNE];rfl
 have hzcc : vc.size = NC:=HZC.out
 have HH:=Lib.hid (And.intro h24 (And.intro hN (And.intro hNE (And.intro hNC (And.intro hnc (And.intro hni (And.intro hnb (And.intro hnt hzc))))))))
 have HM:=Lib.hid (And.intro hcs (And.intro hB0 (And.intro m0 (And.intro m1 (And.intro m2 (And.intro m10 (And.intro m11 (And.intro m12 m13))))))))
 clear hcs hB0 m0 m1 m2 m3 m4 m5 m6 m7 m8 m9 m10 m11 m12 m13 re ra rb rl rc ri we wc wl1 wl2 wf1 wf2 hSb hSt hnc hni hnb hnt hve hvc hvE on hN hzc h24 hNE hNC hzE hzC
 go_enter Tryz.func124,Tryz.ntmps124
 simp only [e1,e2,e3,e4,f1,f2,g1,g2]
 clear e1 e2 e3 e4 f1 f2 g1 g2 hT hTE hTC
 go_wp2_with (first
  | (go_at_call 120;refine (HE.out _ HB0.out).mono ?_;rintro e w3 ⟨ce,rfl,q4,q5,row,hb⟩;have hbox:=kept_box hb (heap_keep (o:=.cells zc T) (heap_of_alloc w (.cells cs T)));have hres:=kept_box hb (heap_alloc2_new w (.cells cs T) (.cells zc T));obtain ⟨cs3,hcs3⟩ : ∃ c,c = setPart cs 6 ce:=⟨_,rfl⟩;have h24a : cs3.size = 24:=(by rw [hcs3,setPart_size (by rw [HH.out.1,q4];decide)];exact HH.out.1);have hst3 : (storeCells ⟨w.heap.size,6,none⟩ ce.toList).run Tryz.prog w3 = .ok () (w3.setRow w.heap.size cs3):=(by rw [hcs3];exact store_part hbox (by rw [HH.out.1,q4];decide) q5);have z3 : ce.size = NE:=q4.trans HH.out.2.2.1.symm;have hbox1:=setRow_heap _ _ cs cs3 _ _ hbox;have hres1:=(setRow_other w3 w.heap.size (w.heap.size + 1) cs3 (by omega)).trans hres;have hld3 : (loadCellsFrom ⟨w.heap.size,10,none⟩ 0 NC #[]).run Tryz.prog (w3.setRow w.heap.size cs3) = .ok vc (w3.setRow w.heap.size cs3):=load_list (fun j v h => (by rw [← add_block0 w.heap.size 10,add_of_add,add_block0];exact cell_of_block hbox1 _ ((congrArg (fun c => c[10 + j]?) hcs3).trans ((setPart_get (by rw [q4];omega) (by rw [HH.out.1,q4];decide)).trans (HVC.out j v h))))) HZC.out;have HB1 : Hid (Below w.heap.size w (w3.setRow w.heap.size cs3)):=Lib.hid (below_setRow (HB0.out.chain hb) (Nat.le_refl _) cs3);have HR1:=Lib.hid (And.intro hbox1 (And.intro hres1 (And.intro row (And.intro hb (And.intro hcs3 (And.intro q4 (And.intro q5 h24a)))))));clear hbox hres hbox1 hres1 row hb hcs3 q4 q5 h24a hldE)
  | (go_at_call 149;refine (HC.out _ HB1.out).mono ?_;rintro e w4 ⟨cc,rfl,q4,q5,row,hb⟩;have hbox:=kept_box hb HR1.out.1;have hres:=kept_box hb HR1.out.2.1;obtain ⟨cs4,hcs4⟩ : ∃ c,c = setPart cs3 10 cc:=⟨_,rfl⟩;have h24a:=HR1.out.2.2.2.2.2.2.2;have h24b : cs4.size = 24:=(by rw [hcs4,setPart_size (by rw [h24a,q4];decide)];exact h24a);have hst4 : (storeCells ⟨w.heap.size,10,none⟩ cc.toList).run Tryz.prog w4 = .ok () (w4.setRow w.heap.size cs4):=(by rw [hcs4];exact store_part hbox (by rw [h24a,q4];decide) q5);have z4 : cc.size = NC:=q4.trans HH.out.2.2.2.1.symm;have hbox1:=setRow_heap _ _ cs3 cs4 _ _ hbox;have hres1:=(setRow_other w4 w.heap.size (w.heap.size + 1) cs4 (by omega)).trans hres;have k4 : ∀ i,20 ≤ i → cs4[i]? = cs[i]?:=(fun i hi => by rw [hcs4,setPart_get (by rw [q4];omega) (by rw [h24a,q4];decide),HR1.out.2.2.2.2.1,setPart_get (by rw [HR1.out.2.2.2.2.2.1];omega) (by rw [HH.out.1,HR1.out.2.2.2.2.2.1];decide)]);have y4:=cell_of_block hbox1 20 ((k4 20 (by omega)).trans K20.out);have HB2 : Hid (Below w.heap.size w (w4.setRow w.heap.size cs4)):=Lib.hid (below_setRow (HB1.out.chain hb) (Nat.le_refl _) cs4);have HR2:=Lib.hid (And.intro hbox1 (And.intro hres1 (And.intro row (And.intro hb (And.intro hcs4 (And.intro q4 (And.intro q5 (And.intro h24b k4))))))));clear hbox hres hbox1 hres1 row hb hcs4 q4 q5 h24a h24b k4 hst3 hld3 z3)
  | (go_at_call 150;refine (HL.out _ HB2.out).mono ?_;rintro e w5 ⟨A3,c3,rfl,row,hb⟩;rw [← HH.out.2.2.2.2.1];have hbox:=kept_box hb HR2.out.1;have hres:=kept_box hb HR2.out.2.1;obtain ⟨x20,f20⟩:=cell_free hbox 20 _ ((HR2.out.2.2.2.2.2.2.2.2 20 (by omega)).trans K20.out);obtain ⟨cs5,hcs5⟩ : ∃ c,c = cs4.setIfInBounds 20 (.slice A3 nc c3):=⟨_,rfl⟩;have h24b : cs5.size = 24:=(by rw [hcs5,Array.size_setIfInBounds];exact HR2.out.2.2.2.2.2.2.2.1);have hbox1:=heap_setCell_at hbox 20 (.slice A3 nc c3);rw [← hcs5] at hbox1;have hres1:=heap_setCell_off hres (Nat.succ_ne_self _) 20 (.slice A3 nc c3);have k4 : ∀ i,21 ≤ i → cs5[i]? = cs[i]?:=(fun i hi => by rw [hcs5,Array.getElem?_setIfInBounds_ne (by omega)];exact HR2.out.2.2.2.2.2.2.2.2 i (by omega));have y21:=cell_of_block hbox1 21 ((k4 21 (by omega)).trans K21.out);have HB3 : Hid (Below w.heap.size w (w5.setCell ⟨w.heap.size,20,none⟩ (.slice A3 nc c3))):=Lib.hid ((HB2.out.chain hb).setCell (p:=⟨w.heap.size,20,none⟩) (Nat.le_refl _) _);have HR3:=Lib.hid (And.intro hbox1 (And.intro hres1 (And.intro row (And.intro hb (And.intro hcs5 (And.intro h24b k4))))));clear hbox hres hbox1 hres1 row hb hcs5 h24b k4 hst4 z4 y4)
  | (go_at_call 65;refine (HF.out _ HB3.out).mono ?_;rintro e w6 ⟨A4,c4,rfl,row,hb⟩;rw [← HH.out.2.2.2.2.2.1];have hbox:=kept_box hb HR3.out.1;have hres:=kept_box hb HR3.out.2.1;obtain ⟨x21,f21⟩:=cell_free hbox 21 _ ((HR3.out.2.2.2.2.2.2 21 (by omega)).trans K21.out);obtain ⟨cs6,hcs6⟩ : ∃ c,c = cs5.setIfInBounds 21 (.slice A4 ni c4):=⟨_,rfl⟩;have h24b : cs6.size = 24:=(by rw [hcs6,Array.size_setIfInBounds];exact HR3.out.2.2.2.2.2.1);have hbox1:=heap_setCell_at hbox 21 (.slice A4 ni c4);rw [← hcs6] at hbox1;have hres1:=heap_setCell_off hres (Nat.succ_ne_self _) 21 (.slice A4 ni c4);have k4 : ∀ i,22 ≤ i → cs6[i]? = cs[i]?:=(fun i hi => by rw [hcs6,Array.getElem?_setIfInBounds_ne (by omega)];exact HR3.out.2.2.2.2.2.2 i (by omega));have y22:=cell_of_block hbox1 22 ((k4 22 (by omega)).trans K22.out);have HB4 : Hid (Below w.heap.size w (w6.setCell ⟨w.heap.size,21,none⟩ (.slice A4 ni c4))):=Lib.hid ((HB3.out.chain hb).setCell (p:=⟨w.heap.size,21,none⟩) (Nat.le_refl _) _);have HR4:=Lib.hid (And.intro hbox1 (And.intro hres1 (And.intro row (And.intro hb (And.intro hcs6 (And.intro h24b k4))))));clear hbox hres hbox1 hres1 row hb hcs6 h24b k4 y21)
  | (go_at_call 90;(with_reducible refine (HSb.out _ HB4.out).mono ?_);rintro e w7 ⟨A5,c5,rfl,row,hb⟩;rw [← HH.out.2.2.2.2.2.2.1];have hbox:=kept_box hb HR4.out.1;have hres:=kept_box hb HR4.out.2.1;obtain ⟨x22,f22⟩:=cell_free hbox 22 _ ((HR4.out.2.2.2.2.2.2 22 (by omega)).trans K22.out);obtain ⟨cs7,hcs7⟩ : ∃ c,c = cs6.setIfInBounds 22 (.slice A5 nb c5):=⟨_,rfl⟩;have h24b : cs7.size = 24:=(by rw [hcs7,Array.size_setIfInBounds];exact HR4.out.2.2.2.2.2.1);have hbox1:=heap_setCell_at hbox 22 (.slice A5 nb c5);rw [← hcs7] at hbox1;have hres1:=heap_setCell_off hres (Nat.succ_ne_self _) 22 (.slice A5 nb c5);have k4 : ∀ i,23 ≤ i → cs7[i]? = cs[i]?:=(fun i hi => by rw [hcs7,Array.getElem?_setIfInBounds_ne (by omega)];exact HR4.out.2.2.2.2.2.2 i (by omega));have y23:=cell_of_block hbox1 23 ((k4 23 (by omega)).trans K23.out);have HB5 : Hid (Below w.heap.size w (w7.setCell ⟨w.heap.size,22,none⟩ (.slice A5 nb c5))):=Lib.hid ((HB4.out.chain hb).setCell (p:=⟨w.heap.size,22,none⟩) (Nat.le_refl _) _);have HR5:=Lib.hid (And.intro hbox1 (And.intro hres1 (And.intro row (And.intro hb (And.intro hcs7 (And.intro h24b k4))))));clear hbox hres hbox1 hres1 row hb hcs7 h24b k4 y22)
  | (go_at_call 90;(with_reducible refine (HSt.out _ HB5.out).mono ?_);rintro e w8 ⟨A6,c6,rfl,row,hb⟩;rw [← HH.out.2.2.2.2.2.2.2.1];have hbox:=kept_box hb HR5.out.1;have hres:=kept_box hb HR5.out.2.1;obtain ⟨x23,f23⟩:=cell_free hbox 23 _ ((HR5.out.2.2.2.2.2.2 23 (by omega)).trans K23.out);obtain ⟨cs8,hcs8⟩ : ∃ c,c = cs7.setIfInBounds 23 (.slice A6 nt c6):=⟨_,rfl⟩;have h24b : cs8.size = 24:=(by rw [hcs8,Array.size_setIfInBounds];exact HR5.out.2.2.2.2.2.1);have hbox1:=heap_setCell_at hbox 23 (.slice A6 nt c6);rw [← hcs8] at hbox1;have hres1:=heap_setCell_off hres (Nat.succ_ne_self _) 23 (.slice A6 nt c6);have hsz2 : cs8.size = N:=h24b.trans HH.out.2.1.symm;have hone2 : cs8.all (·.oneCell') = true:=(by rw [hcs8,HR5.out.2.2.2.2.1,HR4.out.2.2.2.2.1,HR3.out.2.2.2.2.1,HR2.out.2.2.2.2.1,HR1.out.2.2.2.2.1];exact all_setI (all_setI (all_setI (all_setI (setPart_all (setPart_all HONE.out HR1.out.2.2.2.2.2.2.1) HR2.out.2.2.2.2.2.2.1) 20 rfl) 21 rfl) 22 rfl) 23 rfl);have hld8:=load_list (W:=w8.setCell ⟨w.heap.size,23,none⟩ (.slice A6 nt c6)) (a:=⟨w.heap.size,0,none⟩) (N:=N) (cs:=cs8) (fun j v hv => by rw [add_block0];exact cell_of_block hbox1 j hv) hsz2;have hst8:=store_cells (cs:=cs8) hres1 (HH.out.2.2.2.2.2.2.2.2.trans hsz2.symm) hone2;have HR6:=Lib.hid (And.intro hres1 (And.intro row (And.intro hb (And.intro hcs8 hone2))));clear hbox hres hbox1 hres1 row hb hcs8 hone2 h24b y23))
 refine bodyPost_ret (results_cell_row rfl _ _ (w.heap.size + 1) T cs8 (0,0) _ rfl (setRow_heap _ _ zc _ _ _ HR6.out.1) Tryz.underlying90 rfl (by rw [hsz2,HH.out.2.1];kernel_rfl)) rfl ?_
 obtain ⟨h24,hN,hNE,hNC,hnc,hni,hnb,hnt,hzc⟩:=HH.out
 obtain ⟨hcs,hB0,m0,m1,m2,m10,m11,m12,m13⟩:=HM.out
 obtain ⟨_,_,row1,hb1,hcs3,_⟩:=HR1.out
 obtain ⟨_,_,row2,hb2,hcs4,_⟩:=HR2.out
 obtain ⟨_,_,row3,hb3,hcs5,_⟩:=HR3.out
 obtain ⟨_,_,row4,hb4,hcs6,_⟩:=HR4.out
 obtain ⟨_,_,row5,hb5,hcs7,_⟩:=HR5.out
 obtain ⟨_,row6,hb6,hcs8,hone2⟩:=HR6.out
 have s0 : ((w.alloc (.cells cs T)).alloc (.cells zc T)).heap.size = w.heap.size + 2:=by rw [size_of_alloc,size_of_alloc]
 have s3 : (w3.setRow w.heap.size cs3).heap.size = w3.heap.size:=by simp
 have s4 : (w4.setRow w.heap.size cs4).heap.size = w4.heap.size:=by simp
 have s5 : (w5.setCell ⟨w.heap.size,20,none⟩ (.slice A3 nc c3)).heap.size = w5.heap.size:=by simp [World.setCell]
 have s6 : (w6.setCell ⟨w.heap.size,21,none⟩ (.slice A4 ni c4)).heap.size = w6.heap.size:=by simp [World.setCell]
 have s7 : (w7.setCell ⟨w.heap.size,22,none⟩ (.slice A5 nb c5)).heap.size = w7.heap.size:=by simp [World.setCell]
 have n3:=hb1.size
 have n4:=hb2.size
 have n5:=hb3.size
 have n6:=hb4.size
 have n7:=hb5.size
 have n8:=hb6.size
 rw [s0] at n3
 rw [s3] at n4
 rw [s4] at n5
 rw [s5] at n6
 rw [s6] at n7
 rw [s7] at n8
 have q8 : ∀ q : Addr,(q.block < B0 ∨ w.heap.size + 2 ≤ q.block) → ((w8.setCell ⟨w.heap.size,23,none⟩ (.slice A6 nt c6)).setRow (w.heap.size + 1) cs8).cell? q = w8.cell? q:=fun q hq =>
  World.cell?_of_block ((setRow_other _ (w.heap.size + 1) q.block cs8 (by omega)).trans (Below.heap_setCell w8 ⟨w.heap.size,23,none⟩ _ q.block (show q.block ≠ w.heap.size by omega)))
 have q7 : ∀ q : Addr,(q.block < B0 ∨ w.heap.size + 2 ≤ q.block) → q.block < w7.heap.size → ((w8.setCell ⟨w.heap.size,23,none⟩ (.slice A6 nt c6)).setRow (w.heap.size + 1) cs8).cell? q = w7.cell? q:=fun q hq hlt => (q8 q hq).trans ((hb6.cell (by rw [s7];exact hlt)).trans (set_otherM _ _ _ (show q.block ≠ w.heap.size by omega)))
 have q6 : ∀ q : Addr,(q.block < B0 ∨ w.heap.size + 2 ≤ q.block) → q.block < w6.heap.size → ((w8.setCell ⟨w.heap.size,23,none⟩ (.slice A6 nt c6)).setRow (w.heap.size + 1) cs8).cell? q = w6.cell? q:=fun q hq hlt => (q7 q hq (by omega)).trans ((hb5.cell (by rw [s6];exact hlt)).trans (set_otherM _ _ _ (show q.block ≠ w.heap.size by omega)))
 have q5 : ∀ q : Addr,(q.block < B0 ∨ w.heap.size + 2 ≤ q.block) → q.block < w5.heap.size → ((w8.setCell ⟨w.heap.size,23,none⟩ (.slice A6 nt c6)).setRow (w.heap.size + 1) cs8).cell? q = w5.cell? q:=fun q hq hlt => (q6 q hq (by omega)).trans ((hb4.cell (by rw [s5];exact hlt)).trans (set_otherM _ _ _ (show q.block ≠ w.heap.size by omega)))
 have q4 : ∀ q : Addr,(q.block < B0 ∨ w.heap.size + 2 ≤ q.block) → q.block < w4.heap.size → ((w8.setCell ⟨w.heap.size,23,none⟩ (.slice A6 nt c6)).setRow (w.heap.size + 1) cs8).cell? q = w4.cell? q:=fun q hq hlt => (q5 q hq (by omega)).trans ((hb3.cell (by rw [s4];exact hlt)).trans (World.cell?_of_block (setRow_other _ _ _ _ (by omega))))
 have q3 : ∀ q : Addr,(q.block < B0 ∨ w.heap.size + 2 ≤ q.block) → q.block < w3.heap.size → ((w8.setCell ⟨w.heap.size,23,none⟩ (.slice A6 nt c6)).setRow (w.heap.size + 1) cs8).cell? q = w3.cell? q:=fun q hq hlt => (q4 q hq (by omega)).trans ((hb2.cell (by rw [s3];exact hlt)).trans (World.cell?_of_block (setRow_other _ _ _ _ (by omega))))
 obtain ⟨wF,hwF⟩ : ∃ wF,wF = (w8.setCell ⟨w.heap.size,23,none⟩ (.slice A6 nt c6)).setRow (w.heap.size + 1) cs8:=⟨_,rfl⟩
 have hbF : Below w.heap.size w wF:=by rw [hwF];exact below_setRow ((HB5.out.chain hb6).setCell (p:=⟨w.heap.size,23,none⟩) (Nat.le_refl _) _) (Nat.le_succ _) cs8
 rw [← hwF] at q3 q4 q5 q6 q7 q8 ⊢
 have hsub : ∀ {wx wi : World},(∀ (q : Addr) (v : Value),wx.cell? q = some v → wi.cell? q = some v ∧ (q.block < B0 ∨ w.heap.size + 2 ≤ q.block)) → (∀ q : Addr,(q.block < B0 ∨ w.heap.size + 2 ≤ q.block) → q.block < wi.heap.size → wF.cell? q = wi.cell? q) → Sub wx (World.mask wF (fun b => b < B0 ∨ w.heap.size + 2 ≤ b)):=fun {wx wi} h1 h2 q v hq => by
  obtain ⟨j1,j2⟩:=h1 q v hq
  rw [mask_at _ _ q j2,h2 q j2 (lt_of_cell j1)]
  exact j1
 obtain ⟨x1,i1,k1,n1,t1,l1,D1,d1,p1,p2,p3,p4,p5⟩:=row1
 injection p1 with p6 p7 p8 p9
 subst p6 p7 p8 p9
 obtain ⟨x2,i2,k2,ak2,an2,sa2,al2,bk2,bn2,sb2,bl2,l2,Da,da,Db,db,Dl,dl,r1,r2,⟨b1,b2,b3,b4,b5⟩,ra,rb,rl⟩:=row2
 injection r1 with g1 g2 g3 g4
 injection g2 with g5 g6 g7 g8
 injection g3 with g9 g10 g11 g12
 subst g1 g4 g5 g6 g7 g8 g9 g10 g11 g12
 obtain ⟨x3,i3,r3⟩:=row3
 obtain ⟨x4,i4,r4⟩:=row4
 obtain ⟨x5,i5,r5⟩:=row5
 obtain ⟨x6,i6,r6⟩:=row6
 have u1:=hsub (wx:=x1) (wi:=w3) (fun q v hq => ⟨(i1 q v hq).1,.inr (by have h : ((w.alloc (.cells cs T)).alloc (.cells zc T)).heap.size ≤ q.block:=(i1 q v hq).2;omega)⟩) q3
 have u2:=hsub (wx:=x2) (wi:=w4) (fun q v hq => ⟨(i2 q v hq).1,.inr (by have h : (w3.setRow w.heap.size cs3).heap.size ≤ q.block:=(i2 q v hq).2;omega)⟩) q4
 have u3:=hsub (wx:=x3) (wi:=w5) (fun q v hq => ⟨(i3 q v hq).1,.inr (by have h : (w4.setRow w.heap.size cs4).heap.size ≤ q.block:=(i3 q v hq).2;omega)⟩) q5
 have u4:=hsub (wx:=x4) (wi:=w6) (fun q v hq => ⟨(i4 q v hq).1,.inr (by have h : (w5.setCell ⟨w.heap.size,20,none⟩ (.slice A3 nc c3)).heap.size ≤ q.block:=(i4 q v hq).2;omega)⟩) q6
 have u5:=hsub (wx:=x5) (wi:=w7) (fun q v hq => ⟨(i5 q v hq).1,by have h : q.block < B0 ∨ (w6.setCell ⟨w.heap.size,21,none⟩ (.slice A4 ni c4)).heap.size ≤ q.block:=(i5 q v hq).2;omega⟩) q7
 have u6:=hsub (wx:=x6) (wi:=w8) (fun q v hq => ⟨(i6 q v hq).1,by have h : q.block < B0 ∨ (w7.setCell ⟨w.heap.size,22,none⟩ (.slice A5 nb c5)).heap.size ≤ q.block:=(i6 q v hq).2;omega⟩) (fun q hq _ => q8 q hq)
 refine ⟨cs8,rfl,hsz2.trans hN,hone2,⟨World.mask wF (fun b => b < B0 ∨ w.heap.size + 2 ≤ b),?_,⟨D1,Da,Db,Dl,A3,A4,A5,A6,d1,da,db,dl,c3,c4,c5,c6⟩,?_,⟨⟨m0,m1,m2,p3,p4,b1,b2,b3,b4,b5,m10,m11,m12,m13⟩,p5.sub u1,ra.sub u2,rb.sub u2,rl.sub u2,(cal_ofV r3).sub cal_subs u3,(fm_ofV r4).sub fm_subs u4⟩,(StRow.ofV r5).sub u5,(StRow.ofV r6).sub u6⟩,hbF⟩
 ·intro q v hq
  obtain ⟨j1,j2⟩:=mask_in _ _ q v hq
  have j3 : q.block < B0 ∨ w.heap.size + 2 ≤ q.block:=j2
  exact ⟨j1,by omega⟩
 ·rw [hcs8,hcs7,hcs6,hcs5,hcs4,hcs3,hcs,p2,r2,hnc,hni,hnb,hnt]
  rfl
end Go.Proofs.YtojjfdegkooknaaGreatDoor
namespace Go.Proofs.YtojjfdegkooknaaGreatDoor
set_option maxRecDepth 100000
set_option maxHeartbeats 1000000
open Go.RowKit
inductive WS : List St → Prop
 | mk (l : List St) (own : ∀ x ∈ l,WOwn x) (len : l.length * 368 ≤ 140737488355328) (sub1 : ∀ x ∈ l,WS x.body) (sub2 : ∀ x ∈ l,WS x.els) : WS l
theorem vst_subs : SubsV VSt:=by
 rintro w0 w B cs x hs ⟨d,h1,h2,h3,h4⟩
 obtain ⟨k0,ln,co,nm,fd,fr,⟨ek,en,es,el⟩,⟨ck,⟨ak,an,sa,al⟩,⟨bk,bn,sb,bl⟩,l⟩,cl,iv,bd,ot⟩:=x
 obtain ⟨m,re,ra,rb,rl,rc,ri⟩:=h2
 exact ⟨d,h1,⟨m,re.sub hs,ra.sub hs,rb.sub hs,rl.sub hs,rc.sub cal_subs hs,ri.sub fm_subs hs⟩,h3.sub hs,h4.sub hs⟩
theorem vin_staysB {α : Type} (V : World → Nat → Array Value → α → Prop) (B0 : Nat) (x : α) : StaysB B0 (fun B cs W => VInC V (fun b => b < B0 ∨ B ≤ b) W cs x) :=
 ⟨fun B cs W W' h hp => by
   obtain ⟨w0,h1,h2⟩:=h
   refine ⟨w0,fun q v hq => ?_,h2⟩
   obtain ⟨j1,j2⟩:=h1 q v hq
   have j3 : q.block < B0 ∨ B ≤ q.block:=j2
   exact ⟨(hp.cell (lt_of_cell j1) (by omega)).trans j1,j2⟩,
  fun B B' cs W h hB => by
   obtain ⟨w0,h1,h2⟩:=h
   refine ⟨w0,fun q v hq => ?_,h2⟩
   obtain ⟨j1,j2⟩:=h1 q v hq
   have j3 : q.block < B0 ∨ B ≤ q.block:=j2
   exact ⟨j1,by omega⟩⟩
theorem CpRow.rowInB {α : Type} {V : World → Nat → Array Value → α → Prop} (hV : SubsV V) {S : Nat → Prop} {R : Nat → Nat → Array Value → World → Prop} {g m : Nat} {outs : List (Array Value)} {w W : World} (h : CpRow R g m m outs w W) (hg : ∀ b,g ≤ b → S b) {l : List α} (hl : l.length = m)
 (hR : ∀ i x cs,l[i]? = some x → R i (g + 1) cs W → VInC V S W cs x) : RowInC V 24 S W l (some ⟨g,0,none⟩):=by
 obtain ⟨cur,hc,hs,ht⟩:=h.row
 refine ⟨World.mask W S,mask_in W _,fun i x hi => ?_⟩
 have hlt:=(List.getElem?_eq_some_iff.1 hi).1
 have hlen:=h.len
 obtain ⟨c,hci⟩ : ∃ c,outs[i]? = some c:=⟨_,List.getElem?_eq_getElem (by omega)⟩
 have hcz:=h.sz c (List.mem_of_getElem? hci)
 refine ⟨⟨g,0,none⟩,c,rfl,?_,hcz,fun j v hv => ?_,(hR i x c hi (h.rel i c hci)).maskV hV (fun b hb => hb)⟩
 ·have := (Array.getElem?_eq_some_iff.1 hc).1
  unfold World.mask
  simpa using this
 ·have hj : j < 24:=by rw [← hcz];exact (Array.getElem?_eq_some_iff.1 hv).1
  rw [add_add_plain,add_block0,mask_at W _ ⟨g,_,none⟩ (hg g (Nat.le_refl g))]
  refine cell_of_block hc _ ?_
  have h1:=flatC_get h.sz i j c hci hj
  rw [← ht,hv,List.getElem?_take] at h1
  split at h1
  ·simpa using h1
  ·cases h1
theorem list_none (c p : Nat) (w : World) : Calls Tryz.prog 122 #[.slice none 0 c,.func (.func 123) #[] #[.pointer (some ⟨p,0,none⟩)]] w fun e w' => e = .returned (.slice none 0 0) ∧ Below w.heap.size w w':=by
 have hq:=Lib.run_eql_slice_nil (P:=Tryz.prog) w 44 90 none 0 c 0 0 Tryz.underlying44
 go_enter Tryz.func122,Tryz.ntmps122
 go_wp2
 go_ret
 exact ⟨rfl,Below.refl _ _⟩
theorem within_zero (A : Option Addr) (n c : Nat) (w : World) : Calls Tryz.prog 90 #[.slice A n c,.int .i64 0] w fun e w' => e = .returned (.slice A n c) ∧ Below w.heap.size w w':=by
 have hb:=below_alloc w (.cells #[.int .i64 0] 3)
 have HB:=Lib.hid hb
 clear hb
 go_enter Tryz.func90,Tryz.ntmps90
 go_wp2
 go_ret
 exact ⟨rfl,HB.out⟩
theorem within_none (c : Nat) (lv : Int) (w : World) (h : 1 ≤ lv) : Calls Tryz.prog 90 #[.slice none 0 c,.int .i64 lv] w fun e w' => e = .returned (.slice none 0 0) ∧ Below w.heap.size w w':=by
 have hz:=size_of_alloc w (.cells #[.int .i64 lv] 3)
 have HB:=Lib.hid (below_alloc w (.cells #[.int .i64 lv] 3))
 have HL:=Lib.hid (list_none c w.heap.size (w.alloc (.cells #[.int .i64 lv] 3)))
 have h0 : ¬ lv = 0:=by omega
 go_enter Tryz.func90,Tryz.ntmps90
 go_wp2_with (go_at_call 122;refine HL.out.mono ?_;rintro e w3 ⟨rfl,hb⟩;have HC:=Lib.hid hb;clear hb)
 go_ret
 exact ⟨rfl,HB.out.chain HC.out⟩
theorem cstmts_any {l : List St} (hw : WS l) : ∀ (B0 : Nat) (lv : Int) (A : Option Addr) (c : Nat) (w : World),B0 ≤ w.heap.size → 0 ≤ lv → lv ≤ 9223372036854775807 → StRow w B0 l A →
 Calls Tryz.prog 90 #[.slice A l.length c,.int .i64 lv] w (CopyRowB B0 l w):=by
 induction hw with
 | mk l own len _ _ ih1 ih2 =>
   intro B0 lv A c w hB0 hlv0 hlv hr
   by_cases h0 : lv = 0
   ·subst h0
    refine (within_zero A l.length c w).mono ?_
    rintro e w' ⟨rfl,hb⟩
    have hr' : StRow w' B0 l A:=hr.keep (fun q hq => hb.cell (Nat.lt_of_lt_of_le hq hB0)) (Nat.le_refl _)
    refine ⟨A,c,rfl,⟨World.mask w' (fun b => b < B0 ∨ w.heap.size ≤ b),mask_in _ _,(hr'.keep (fun q hq => mask_at _ _ q (.inl hq)) ?_).rowV⟩,hb⟩
    have := hb.size
    unfold World.mask
    simp
    omega
   ·cases A with
    | none =>
      have hl : l = []:=by
       cases hr with
       | nil => rfl
      subst hl
      refine (within_none c lv w (by omega)).mono ?_
      rintro e w' ⟨rfl,hb⟩
      exact ⟨none,0,rfl,rowIn_nil _ _ _ _ _,hb⟩
    | some a =>
      obtain ⟨ins,hlen,hin⟩:=row_ins hr.rowV
      have hst : ∀ i : Nat,StaysB B0 (fun B cs W => ∃ x,l[i]? = some x ∧ VInC VSt (fun b => b < B0 ∨ B ≤ b) W cs x):=fun i =>
       ⟨fun B v W W' h hp => by obtain ⟨x,h1,h2⟩:=h;exact ⟨x,h1,(vin_staysB VSt B0 x).part B v W W' h2 hp⟩,fun B B' v W h hB => by obtain ⟨x,h1,h2⟩:=h;exact ⟨x,h1,(vin_staysB VSt B0 x).mono B B' v W h2 hB⟩⟩
      refine (copyStmts_anyB (B0:=B0) (fun (i : Nat) B cs W => ∃ x,l[i]? = some x ∧ VInC VSt (fun b => b < B0 ∨ B ≤ b) W cs x) hst ins
       (fun cs hcs => by obtain ⟨i,hi,rfl⟩:=List.getElem_of_mem hcs;obtain ⟨x,_,h2,_⟩:=hin i _ (List.getElem?_eq_getElem hi);exact h2)
       (fun i cs hi => by
         obtain ⟨x,_,_,_,d,rfl,_⟩:=hin i cs hi
         rw [Array.all_eq_true_iff_forall_mem]
         exact fun u hu => stCs_oneM d x u (by simpa using hu)) a l.length c lv w len hlen hB0 (fun h1 => by
         obtain ⟨a',cs,ha,h2,_⟩:=hr.rowV 0 l[0] (List.getElem?_eq_getElem h1)
         obtain rfl:=Option.some.inj ha
         exact Nat.lt_of_lt_of_le h2 hB0) (by omega) hlv (fun i cs hi j v hj => by obtain ⟨x,_,_,h3,_⟩:=hin i cs hi;exact h3 j v hj) (fun i cs W hi hW => by
         obtain ⟨x,h1,h2,h3,d,hcs,h4,h5,h6⟩:=hin i cs hi
         have hx:=List.mem_of_getElem? h1
         have on : ∀ {W' : World},Below w.heap.size w W' → ∀ q : Addr,q.block < B0 → W'.cell? q = w.cell? q:=fun hb q hq => hb.cell (Nat.lt_of_lt_of_le hq hB0)
         have hBW : B0 ≤ W.heap.size:=Nat.le_trans hB0 hW.size
         refine (cstmt_any B0 x (own x hx) (lv - 1) cs d W hBW hcs (h4.keep (on hW) (Nat.le_refl _))
          (fun W' hb => ih1 x hx B0 (lv - 1) d.s d.ns W' (Nat.le_trans hBW hb.size) (by omega) (by omega) (h5.keep (on (hW.trans (hb.mono hW.size))) (Nat.le_refl _)))
          (fun W' hb => ih2 x hx B0 (lv - 1) d.t d.nt W' (Nat.le_trans hBW hb.size) (by omega) (by omega) (h6.keep (on (hW.trans (hb.mono hW.size))) (Nat.le_refl _)))).mono ?_
         rintro e w' ⟨cs',e1,e2,e3,e4,e5⟩
         exact ⟨cs',e1,e2,e3,⟨x,h1,e4⟩,e5⟩)).mono ?_
      rintro e w' ⟨g,outs,rfl,hg,hcp⟩
      refine ⟨_,_,rfl,hcp.rowInB vst_subs (fun b hb => .inr (Nat.le_trans hg hb)) rfl (fun i x cs hi hR => ?_),hcp.below⟩
      obtain ⟨y,h1,x0,h2,h3⟩:=hR
      obtain rfl:=Option.some.inj (hi.symm.trans h1)
      refine ⟨x0,fun q v hq => ?_,h3⟩
      obtain ⟨j1,j2⟩:=h2 q v hq
      have j3 : q.block < B0 ∨ g + 1 ≤ q.block:=j2
      exact ⟨j1,by omega⟩
theorem cstmts_top {l : List St} (hw : WS l) (B0 : Nat) (A : Option Addr) (c : Nat) (w : World) (hB0 : B0 ≤ w.heap.size) (hr : StRow w B0 l A) :
 Calls Tryz.prog 67 #[.slice A l.length c] w (CopyRowB B0 l w):=by
 have H:=Lib.hid (cstmts_any hw B0 9223372036854775807 A c w hB0 (by omega) (by omega) hr)
 obtain ⟨n,hn⟩ : ∃ n,n = l.length:=⟨_,rfl⟩
 rw [← hn] at H ⊢
 have HN:=Lib.hid hn
 clear hw hB0 hr hn
 go_enter Tryz.func67,Tryz.ntmps67
 go_wp2_with (go_at_call 90;refine H.out.mono ?_;rintro e w3 ⟨A',c',rfl,hq⟩;have HP:=Lib.hid hq;clear hq)
 go_ret
 exact ⟨A',c',rfl,HP.out⟩
end Go.Proofs.YtojjfdegkooknaaGreatDoor
