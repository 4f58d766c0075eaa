import Derived.Test.YtojjfdegkooknaaGreatDoorQTypTg
import Derived.Test.YtojjfdegkooknaaGreatDoorQTypH
import Derived.Test.YtojjfdegkooknaaGreatDoorQTypLw
set_option linter.unusedVariables false
set_option linter.unusedSimpArgs false
namespace Go.Proofs.YtojjfdegkooknaaGreatDoor
set_option maxRecDepth 100000
set_option maxHeartbeats 16000000
open Go.RowKit Go.Lib
def StsPost (r : PCk) (cb : Nat) (d : GAd) (p : Pg) (w : World) (e : Ending) (w' : World) : Prop:=CkEnd r.1 e ∧ Near cb w w' ∧ w'.heap[cb]? = some (chkO d p r.2)
def GoodIn (P : St → Prop) : Prop:=∀ s,P s → (∀ t ∈ s.body,P t) ∧ ∀ t ∈ s.els,P t
abbrev zStmt : Array Value:=#[.int .i64 0,.int .i64 0,.int .i64 0,.string ⟨#[]⟩,.string ⟨#[]⟩,.string ⟨#[]⟩,.int .i64 0,.int .i64 0,.string ⟨#[]⟩,.slice none 0 0,.int .i64 0,.int .i64 0,.int .i64 0,.string ⟨#[]⟩,.slice none 0 0,.int .i64 0,.int .i64 0,.string ⟨#[]⟩,.slice none 0 0,.slice none 0 0,.slice none 0 0,.slice none 0 0,.slice none 0 0,.slice none 0 0]
theorem hid_StmtZ : ∃ (T N : Nat) (zc : Array Value),90 = T ∧ N = 24 ∧ zc.size = N ∧ (∀ w : World,(isAgg T).run Tryz.prog w = .ok true w) ∧ (∀ w : World,(sizeOf T).run Tryz.prog w = .ok N w) ∧ (∀ w : World,(zeroValue T).run Tryz.prog w = .ok (.agg zc) w) :=
 ⟨_,24,zStmt,rfl,rfl,rfl,fun w => by kernel_rfl,fun w => by kernel_rfl,fun w => by kernel_rfl⟩
theorem size_body (s : St) : SizeOf.sizeOf s.body < SizeOf.sizeOf s ∧ SizeOf.sizeOf s.els < SizeOf.sizeOf s:=by
 obtain ⟨k,l,c,nm,fd,fr,e,cn,cl,iv,b,o⟩:=s
 constructor
 ·show SizeOf.sizeOf b < _
  simp;omega
 ·show SizeOf.sizeOf o < _
  simp;omega
theorem near_set {cb : Nat} (w : World) (j : Nat) (v : Value) : Near cb w (w.setCell ⟨cb,j,none⟩ v) :=
 ⟨rfl,rfl,rfl,by simp [World.setCell],fun b _ hne => RowKit.Below.heap_setCell _ _ _ _ hne⟩
theorem stmts_at (p : Pg) (d : GAd) (B0 B1 cb : Nat) (sc br asn : List Pm) (b : BAd) (P : St → Prop) (hP : GoodIn P) (hst : ∀ s,P s → StAt p d B0 B1 cb sc br asn b s) :
 ∀ (M : Nat) (l : List St),SizeOf.sizeOf l < M → (∀ s ∈ l,P s) → ∀ (L : Option Addr) (ln lc : Nat) (w : World) (q : Int × Int),ln = l.length → StRow w B0 l L → l.length ≤ maxLen → ChkW w B0 cb d p q → BdAt w B1 cb sc br asn b →
 Calls Tryz.prog 104 #[bV cb b,.slice L ln lc] w (StsPost (stsP p sc br asn q l) cb d p w):=by
 intro M
 induction M with
 | zero => intro l h;omega
 | succ M ih =>
   intro l hM hgood L ln lc w q hln hrow hlm hC hB
   obtain ⟨A,n,c1,D,m,d1,E,k,ec⟩:=b
   obtain ⟨T,N,zc,hT,hN,hzc,hag,hsz,hzv⟩:=hid_StmtZ
   have e1 : ∀ y : Operand,Op.load 90 y = Op.load T y:=fun y => by rw [hT]
   have e2 : ∀ y z : Operand,Op.store 90 y z = Op.store T y z:=fun y z => by rw [hT]
   have e3 : Op.alloc 90 = Op.alloc T:=by rw [hT]
   show Calls Tryz.prog _ #[bodyV cb A n c1 D m d1 E k ec,.slice L ln lc] w _
   obtain ⟨W1,hW1⟩ : ∃ W1,W1 = w.alloc (bodyC cb A n c1 D m d1 E k ec):=⟨_,rfl⟩
   have hb1 : Below w.heap.size w W1:=by rw [hW1];exact below_alloc w _
   have hp1 : W1.heap[w.heap.size]? = some (bodyC cb A n c1 D m d1 E k ec):=by rw [hW1];exact heap_of_alloc w _
   have hcb : w.heap.size ≠ cb:=by have := hC.lt;omega
   have ih2 : ∀ (l2 : List St),SizeOf.sizeOf l2 < M → (∀ s ∈ l2,P s) → ∀ (L : Option Addr) (ln lc : Nat) (w : World) (q : Int × Int),ln = l2.length → StRow w B0 l2 L → l2.length ≤ maxLen → ChkW w B0 cb d p q → BodyAt w B1 cb sc br asn A n D m E k →
    Calls Tryz.prog 104 #[bodyV cb A n c1 D m d1 E k ec,.slice L ln lc] w (StsPost (stsP p sc br asn q l2) cb d p w):=ih
   have hst2 : ∀ s,P s → ∀ (cs : Array Value) (w : World) (q : Int × Int),StVal w B0 s cs → ChkW w B0 cb d p q → BodyAt w B1 cb sc br asn A n D m E k → Calls Tryz.prog 136 #[bodyV cb A n c1 D m d1 E k ec,.agg cs] w (CkPost (stC p sc br asn s) w):=hst
   have HR:=Lib.hid (And.intro (hrow.keep (fun z hz => hb1.cell (Nat.lt_of_lt_of_le hz (Nat.le_trans hC.le (Nat.le_of_lt hC.lt)))) (Nat.le_refl _) : StRow W1 B0 l L) (And.intro hln (And.intro (hC.on hb1) (And.intro (hB.on hb1) hgood))))
   have HI2:=Lib.hid (And.intro (show SizeOf.sizeOf l < M + 1 from hM) (And.intro ih2 hst2))
   have HB1:=Lib.hid (And.intro hb1 (And.intro hp1 hcb))
   have HN:=Lib.hid (And.intro hN hzc)
   have hlm' : ln ≤ maxLen:=by rw [hln];exact hlm
   have HF : Hid (∀ r,StsPost r cb d p W1 = StsPost r cb d p W1):=Lib.hid (fun _ => rfl)
   clear hrow hln hC hB hgood hM ih ih2 hst hst2 hb1 hp1 hN hzc hlm hcb
   unfold maxLen at hlm'
   go_enter Tryz.func104,Tryz.ntmps104
   simp only [e1,e2,e3]
   clear e1 e2 e3 hT
   go_wp2
   rw [← hW1]
   clear hW1
   go_loopg [8] ln (fun mm j wr => ∃ (i : Nat) (q1 : Int × Int),mm = ln - i ∧ i ≤ ln ∧ j = .int .i64 i ∧ Hid (Near cb W1 wr ∧ wr.heap[cb]? = some (chkO d p q1) ∧ stsP p sc br asn q (l.take i) = (none,q1)))
   case atStart => exact ⟨0,q,rfl,Nat.zero_le _,rfl,Lib.hid ⟨near_of (Below.refl _ _),HR.out.2.2.1.box,by rw [List.take_zero,stsP]⟩⟩
   case round =>
    obtain ⟨i,q1,rfl,hi,rfl,HI⟩:=hrel
    have hi0 : (0 : Int) ≤ i:=by omega
    by_cases hlt : i < ln
    ·have hii : (i : Int) < ln:=by omega
     obtain ⟨s,hg⟩ : ∃ x,l[i]? = some x:=⟨l[i]'(by rw [← HR.out.2.1];exact hlt),List.getElem?_eq_getElem _⟩
     have hCr:=HR.out.2.2.1.near HI.out.1 HI.out.2.1
     have hB0 : B0 ≤ W1.heap.size:=Nat.le_trans HR.out.2.2.1.le (Nat.le_of_lt HR.out.2.2.1.lt)
     have hkeepr : ∀ z : Addr,z.block < B0 → wr.cell? z = W1.cell? z:=fun z hz => near_cell HI.out.1 (Nat.lt_of_lt_of_le hz hB0) (Nat.ne_of_lt (Nat.lt_of_lt_of_le hz hCr.le))
     obtain ⟨a,sd,rfl,hab,hcells,hown,hr1,hr2⟩:=(HR.out.1.keep hkeepr (Nat.le_refl B0)).at_ hg
     obtain ⟨cs,hcs⟩ : ∃ cs,cs = stCs sd s:=⟨_,rfl⟩
     have h24 : cs.size = 24:=by rw [hcs];exact stCs_size _ _
     have hone : cs.all (·.oneCell') = true:=by rw [hcs];exact stCs_one _ _
     rw [← hcs] at hcells
     have hszc : cs.size = N:=h24.trans HN.out.1.symm
     have hl1 : (loadCellsFrom (a.add (i * 24)) 0 N #[]).run Tryz.prog wr = .ok cs wr:=load_list (fun j v hv => hcells j v hv) hszc
     have hst:=st_new (w:=wr) (t:=T) (HN.out.2.trans hszc.symm) hone
     -- the box of the statement
     obtain ⟨W5,hW5⟩ : ∃ W5,W5 = wr.alloc (.cells cs T):=⟨_,rfl⟩
     have hb5 : Below wr.heap.size wr W5:=by rw [hW5];exact below_alloc wr _
     have hp5 : W5.heap[wr.heap.size]? = some (.cells cs T):=by rw [hW5];exact heap_of_alloc wr _
     have hpb5 : W5.heap[w.heap.size]? = some (bodyC cb A n c1 D m d1 E k ec):=(hb5.block _ (Nat.lt_of_lt_of_le (Array.getElem?_eq_some_iff.1 HB1.out.2.1).1 HI.out.1.size)).trans ((HI.out.1.block _ (Array.getElem?_eq_some_iff.1 HB1.out.2.1).1 HB1.out.2.2).trans HB1.out.2.1)
     have hbox5 : W5.heap[cb]? = some (chkO d p q1):=kept_box hb5 HI.out.2.1
     obtain ⟨ln0,hln0⟩ : ∃ x,x = stLn s:=⟨_,rfl⟩
     obtain ⟨co0,hco0⟩ : ∃ x,x = stCo s:=⟨_,rfl⟩
     obtain ⟨nb,hnb⟩ : ∃ x,x = s.body.length:=⟨_,rfl⟩
     obtain ⟨no,hno⟩ : ∃ x,x = s.els.length:=⟨_,rfl⟩
     have k12 : cs[1]? = some (.int .i64 ln0) ∧ cs[2]? = some (.int .i64 co0) ∧ cs[22]? = some (.slice sd.s nb sd.ns) ∧ cs[23]? = some (.slice sd.t no sd.nt):=by
      rw [hcs,hln0,hco0,hnb,hno]
      obtain ⟨k,l,c,nm,fd,fr,⟨ek,en,es,exl⟩,⟨ck,⟨ak,an,sa,al⟩,⟨bk,bn,sb,bl⟩,cls⟩,cl,iv,b,o⟩:=s
      exact ⟨rfl,rfl,rfl,rfl⟩
     obtain ⟨W7,hW7⟩ : ∃ W7,W7 = (W5.setCell ⟨cb,6,none⟩ (.int .i64 ln0)).setCell ⟨cb,7,none⟩ (.int .i64 co0):=⟨_,rfl⟩
     have hn57 : Near cb W5 W7:=by rw [hW7];exact (near_set W5 6 _).trans (near_set _ 7 _)
     have hbox7 : W7.heap[cb]? = some (chkO d p (ln0,co0)):=by rw [hW7];exact heap_setCell_at (heap_setCell_at hbox5 6 (.int .i64 ln0)) 7 (.int .i64 co0)
     have hs15 : W1.heap.size ≤ wr.heap.size:=HI.out.1.size
     have hcb5 : wr.heap.size ≠ cb:=by have := HR.out.2.2.1.lt;omega
     have hp7 : W7.heap[wr.heap.size]? = some (.cells cs T):=(hn57.block _ (Array.getElem?_eq_some_iff.1 hp5).1 hcb5).trans hp5
     have hpb7 : W7.heap[w.heap.size]? = some (bodyC cb A n c1 D m d1 E k ec):=(hn57.block _ (Array.getElem?_eq_some_iff.1 hpb5).1 HB1.out.2.2).trans hpb5
     have hn17 : Near cb W1 W7:=(HI.out.1.trans (near_of hb5)).trans hn57
     have hC7 : ChkW W7 B0 cb d p (ln0,co0):=HR.out.2.2.1.near hn17 hbox7
     have hB7:=HR.out.2.2.2.1.near hn17
     have hkeep7 : ∀ z : Addr,z.block < B0 → W7.cell? z = wr.cell? z:=fun z hz => (near_cell hn17 (Nat.lt_of_lt_of_le hz hB0) (Nat.ne_of_lt (Nat.lt_of_lt_of_le hz hCr.le))).trans (hkeepr z hz).symm
     have HS:=Lib.hid (HI2.out.2.2 s (HR.out.2.2.2.2 s (List.mem_of_getElem? hg)) cs W7 (ln0,co0) ⟨sd,hcs,hown.keep hkeep7 (Nat.le_refl _),hr1.keep hkeep7 (Nat.le_refl _),hr2.keep hkeep7 (Nat.le_refl _)⟩ hC7 hB7)
     have HK7:=Lib.hid (And.intro hn17 (And.intro hp7 (And.intro hpb7 (And.intro hC7 (And.intro hB7 (And.intro (hr1.keep hkeep7 (Nat.le_refl _)) (hr2.keep hkeep7 (Nat.le_refl _))))))))
     have hlens : s.body.length ≤ maxLen ∧ s.els.length ≤ maxLen:=by
      obtain ⟨k,l,c,nm,fd,fr,⟨ek,en,es,exl⟩,⟨ck,⟨ak,an,sa,al⟩,⟨bk,bn,sb,bl⟩,cls⟩,cl,iv,b,o⟩:=s
      exact ⟨hown.1.2.2.2.2.2.2.2.2.2.2.2.2.1,hown.1.2.2.2.2.2.2.2.2.2.2.2.2.2⟩
     have HG:=Lib.hid (And.intro hg (And.intro hnb (And.intro hno (And.intro hlens (And.intro hszc (stP_eq p sc br asn s ln0 co0 hln0.symm hco0.symm))))))
     have HK:=Lib.hid k12
     have z0:=cell_of_block hpb5 0 (v:=.pointer (some ⟨cb,0,none⟩)) rfl
     have z1:=cell_of_block hp5 1 k12.1
     have z2:=cell_of_block hp5 2 k12.2.1
     have y6:=cell_of_block hbox5 6 (v:=.int .i64 q1.1) rfl
     have y7:=cell_of_block hbox5 7 (v:=.int .i64 q1.2) rfl
     have f6:=frozen_at hbox5 6
     have f7:=frozen_at hbox5 7
     have x0:=cell_of_block hpb7 0 (v:=.pointer (some ⟨cb,0,none⟩)) rfl
     have x1:=cell_of_block hpb7 1 (v:=.slice A n c1) rfl
     have x2:=cell_of_block hpb7 2 (v:=.slice D m d1) rfl
     have x3:=cell_of_block hpb7 3 (v:=.slice E k ec) rfl
     have hl7:=ld_new hp7 hszc
     rw [hW7] at x0 x1 x2 x3 hl7
     rw [hW5] at z0 z1 z2 y6 y7 f6 f7 x0 x1 x2 x3 hl7
     clear hg hCr hB0 hkeepr hab hcells hown hr1 hr2 hcs h24 hone hb5 hp5 hpb5 hbox5 hln0 hco0 hnb hno k12 hn57 hbox7 hs15 hcb5 hp7 hpb7 hn17 hC7 hB7 hkeep7 hlens
     go_wp2_with fail
     rw [← hW5,← hW7]
     clear z0 z1 z2 y6 y7 f6 f7 x0 x1 x2 x3 hl7 hW5 hW7 hl1 hst
     (with_reducible refine HS.out.mono ?_)
     rintro ee w8 ⟨he,hb8⟩
     have HK8:=Lib.hid (And.intro (HK7.out.1.trans (near_of hb8)) (And.intro (kept_box hb8 HK7.out.2.1) (And.intro (kept_box hb8 HK7.out.2.2.1) (And.intro (HK7.out.2.2.2.1.on hb8) (HK7.out.2.2.2.2.1.on hb8)))))
     have hB0 : B0 ≤ W7.heap.size:=Nat.le_trans HK7.out.2.2.2.1.le (Nat.le_of_lt HK7.out.2.2.2.1.lt)
     have HRW:=Lib.hid (And.intro (HK7.out.2.2.2.2.2.1.keep (fun z hz => hb8.cell (Nat.lt_of_lt_of_le hz hB0)) (Nat.le_refl _)) (HK7.out.2.2.2.2.2.2.keep (fun z hz => hb8.cell (Nat.lt_of_lt_of_le hz hB0)) (Nat.le_refl _)))
     clear hb8 hB0
     have hsl : SizeOf.sizeOf s.body < M ∧ SizeOf.sizeOf s.els < M:=by
      have q3:=List.sizeOf_lt_of_mem (List.mem_of_getElem? HG.out.1)
      have q4:=size_body s
      have q5:=HI2.out.1
      omega
     have hgs:=hP s (HR.out.2.2.2.2 s (List.mem_of_getElem? HG.out.1))
     have HNW : Hid (Near cb w W1):=Lib.hid (near_of HB1.out.1)
     cases hck : stC p sc br asn s with
     | some t =>
       rw [hck] at he
       obtain rfl : ee = _:=he
       have hstp : stP p sc br asn s = (some t,(ln0,co0)):=by rw [HG.out.2.2.2.2.2,hck,seqP_some]
       have hall:=stsP_stop p sc br asn q q1 l i s t (ln0,co0) HG.out.1 HI.out.2.2 hstp
       refine ⟨rfl,?_⟩
       rw [hall]
       exact ⟨rfl,HNW.out.trans HK8.out.1,HK8.out.2.2.2.1.box⟩
     | none =>
       rw [hck] at he
       obtain rfl : ee = _:=he
       obtain ⟨r1,hr1⟩ : ∃ r,r = stsP p sc br asn (ln0,co0) s.body:=⟨_,rfl⟩
       have HS1:=Lib.hid (HI2.out.2.1 s.body hsl.1 hgs.1 sd.s nb sd.ns w8 (ln0,co0) HG.out.2.1 HRW.out.1 HG.out.2.2.2.1.1 HK8.out.2.2.2.1 HK8.out.2.2.2.2)
       rw [← hr1] at HS1
       have HQ1 : Hid (stP p sc br asn s = seqP r1 fun q => stsP p sc br asn q s.els):=Lib.hid (by rw [HG.out.2.2.2.2.2,hck,seqP_none,hr1])
       have x0:=cell_of_block HK8.out.2.2.1 0 (v:=.pointer (some ⟨cb,0,none⟩)) rfl
       have x1:=cell_of_block HK8.out.2.2.1 1 (v:=.slice A n c1) rfl
       have x2:=cell_of_block HK8.out.2.2.1 2 (v:=.slice D m d1) rfl
       have x3:=cell_of_block HK8.out.2.2.1 3 (v:=.slice E k ec) rfl
       have x4:=cell_of_block HK8.out.2.1 22 HK.out.2.2.1
       have HSL:=Lib.hid (And.intro hsl hgs)
       clear hr1 hck hsl hgs
       go_wp2_with fail
       clear x0 x1 x2 x3 x4
       (with_reducible refine HS1.out.mono ?_)
       rintro ee w9 ⟨he,hn9,hbx9⟩
       have hB0 : B0 ≤ w8.heap.size:=Nat.le_trans HK8.out.2.2.2.1.le (Nat.le_of_lt HK8.out.2.2.2.1.lt)
       have hst9 : wr.heap.size ≠ cb:=by have := HR.out.2.2.1.lt;have := HI.out.1.size;omega
       have hp9 : w9.heap[wr.heap.size]? = some (.cells cs T):=(hn9.block _ (Array.getElem?_eq_some_iff.1 HK8.out.2.1).1 hst9).trans HK8.out.2.1
       have hpb9 : w9.heap[w.heap.size]? = some (bodyC cb A n c1 D m d1 E k ec):=(hn9.block _ (Array.getElem?_eq_some_iff.1 HK8.out.2.2.1).1 HB1.out.2.2).trans HK8.out.2.2.1
       have HRW9:=Lib.hid (HRW.out.2.keep (fun z hz => near_cell hn9 (Nat.lt_of_lt_of_le hz hB0) (Nat.ne_of_lt (Nat.lt_of_lt_of_le hz HK8.out.2.2.2.1.le))) (Nat.le_refl _))
       obtain ⟨ck,q2⟩:=r1
       have HK9:=Lib.hid (And.intro (HK8.out.1.trans hn9) (And.intro hp9 (And.intro hpb9 (And.intro (HK8.out.2.2.2.1.near hn9 hbx9) (HK8.out.2.2.2.2.near hn9)))))
       clear hn9 hbx9 hB0 hst9 hp9 hpb9
       cases ck with
       | some t =>
         obtain rfl : ee = _:=he
         have hall:=stsP_stop p sc br asn q q1 l i s t q2 HG.out.1 HI.out.2.2 (by rw [HQ1.out,seqP_some])
         refine ⟨rfl,?_⟩
         rw [hall]
         exact ⟨rfl,HNW.out.trans HK9.out.1,HK9.out.2.2.2.1.box⟩
       | none =>
         obtain rfl : ee = _:=he
         obtain ⟨r2,hr2⟩ : ∃ r,r = stsP p sc br asn q2 s.els:=⟨_,rfl⟩
         have HS2:=Lib.hid (HI2.out.2.1 s.els HSL.out.1.2 HSL.out.2.2 sd.t no sd.nt w9 q2 HG.out.2.2.1 HRW9.out HG.out.2.2.2.1.2 HK9.out.2.2.2.1 HK9.out.2.2.2.2)
         rw [← hr2] at HS2
         have HQ2 : Hid (stP p sc br asn s = r2):=Lib.hid (by rw [HQ1.out,seqP_none,hr2])
         have x0:=cell_of_block HK9.out.2.2.1 0 (v:=.pointer (some ⟨cb,0,none⟩)) rfl
         have x1:=cell_of_block HK9.out.2.2.1 1 (v:=.slice A n c1) rfl
         have x2:=cell_of_block HK9.out.2.2.1 2 (v:=.slice D m d1) rfl
         have x3:=cell_of_block HK9.out.2.2.1 3 (v:=.slice E k ec) rfl
         have x4:=cell_of_block HK9.out.2.1 23 HK.out.2.2.2
         clear hr2
         go_wp2_with fail
         clear x0 x1 x2 x3 x4
         (with_reducible refine HS2.out.mono ?_)
         rintro ee w10 ⟨he,hn10,hbx10⟩
         obtain ⟨ck2,q3⟩:=r2
         have HK10:=Lib.hid (And.intro (HK9.out.1.trans hn10) hbx10)
         clear hn10 hbx10
         cases ck2 with
         | some t =>
           obtain rfl : ee = _:=he
           have hall:=stsP_stop p sc br asn q q1 l i s t q3 HG.out.1 HI.out.2.2 HQ2.out
           refine ⟨rfl,?_⟩
           rw [hall]
           exact ⟨rfl,HNW.out.trans HK10.out.1,HK10.out.2⟩
         | none =>
           obtain rfl : ee = _:=he
           have HT : Hid (stsP p sc br asn q (l.take (i + 1)) = (none,q3)):=Lib.hid ((stsP_take p sc br asn q q1 l i s HG.out.1 HI.out.2.2).trans HQ2.out)
           skip
           go_wp2
           go_roundg (ln - (i + 1))
           case measure => omega
           case rel => exact ⟨i + 1,q3,rfl,by omega,by go_num,Lib.hid ⟨HK10.out.1,HK10.out.2,HT.out⟩⟩
    ·have hlt' : ¬ (i : Int) < ln:=by omega
     obtain rfl : i = ln:=by omega
     have hall:=HI.out.2.2
     rw [List.take_of_length_le (by rw [HR.out.2.1];exact Nat.le_refl _)] at hall
     have HE:=Lib.hid hall
     clear hall
     go_wp2
     refine bodyPost_end (results_none rfl _ _ _) rfl ?_
     rw [HE.out]
     exact ⟨rfl,(near_of HB1.out.1).trans HI.out.1,HI.out.2.1⟩
end Go.Proofs.YtojjfdegkooknaaGreatDoor
namespace Go.Proofs.YtojjfdegkooknaaGreatDoor
set_option maxRecDepth 100000
set_option maxHeartbeats 8000000
open Go.RowKit Go.Lib
theorem concat2 (A1 A2 : Option Addr) (n1 c1 n2 c2 S : Nat) (L1 L2 : List Pm) (hn : n1 + n2 ≤ 4400000000000) (w : World) (r1 : Reads w w.heap.size 2 A1 n1 (pcL L1)) (r2 : Reads w w.heap.size 2 A2 n2 (pcL L2)) (k1 : w.cell? ⟨S,0,none⟩ = some (.slice A1 n1 c1)) (k2 : w.cell? ⟨S,1,none⟩ = some (.slice A2 n2 c2)) (hS : S < w.heap.size) :
 Calls Tryz.prog 61 #[.slice (some ⟨S,0,none⟩) 2 2] w fun e w' => ∃ v,e = .returned v ∧ w'.ownsRow w.heap.size 42 2 v (n1 + n2) (pcL L1 ++ pcL L2) ∧ Below w.heap.size w w':=by
 have HR1:=Lib.hid r1
 have HR2:=Lib.hid r2
 have HK:=Lib.hid (And.intro k1 k2)
 obtain ⟨i0,hi,hiz,his,hib⟩:=info_parts infoPmV
 have HI0:=Lib.hid (And.intro hi (And.intro hiz (And.intro his hib)))
 obtain ⟨t2,ht2⟩ : ∃ t,t = n1 + n2:=⟨_,rfl⟩
 have hw1 : IntKind.i64.wrap (0 + (n1 : Int)) = (n1 : Int):=by rw [IntKind.wrap_i64];omega
 have hw1' : IntKind.i64.wrap (n1 : Int) = (n1 : Int):=by rw [IntKind.wrap_i64];omega
 have hb1 : ¬ (n1 : Int) < 0:=by omega
 have hw2 : IntKind.i64.wrap ((n1 : Int) + n2) = (t2 : Int):=by rw [IntKind.wrap_i64];omega
 have hb2 : ¬ (t2 : Int) < 0:=by omega
 have hN : t2 ≤ 4400000000000:=by omega
 rw [show n1 + n2 = t2 by omega]
 have HT2:=Lib.hid ht2
 have HN:=Lib.hid hn
 clear r1 r2 hi hiz his hib ht2 hn
 go_enter Tryz.func61,Tryz.ntmps61
 go_wp2
 refine wp_loop_rounds 3 ?_
 rw [rounds_succ]
 go_wp2
 rw [rounds_succ]
 go_wp2
 rw [rounds_succ]
 go_wp2_with (go_at_call 85;refine (growp_nilW t2 _ rfl hN _).mono ?_;rintro e w2 ⟨v0,rfl,q1,q2⟩;have H0 : Hid (Below w.heap.size w w2 ∧ w2.ownsRow w.heap.size 42 2 v0 0 []):=Lib.hid ⟨q2,q1⟩;have d1:=(q2.cell (p:=⟨S,0,none⟩) hS).trans HK.out.1;have d2:=(q2.cell (p:=⟨S,1,none⟩) hS).trans HK.out.2;clear q1 q2 k1 k2)
 refine wp_loop_rounds 3 ?_
 rw [rounds_succ]
 go_wp2_with (at_builtin;refine wpList_append_anyW (o:=⟨some 33,_,_,_,_,_⟩) _ rfl _ _ 23 rfl w.heap.size 42 i0 _ 2 32 Tryz.underlying23 HI0.out.1 HI0.out.2.1 HI0.out.2.2.1 HI0.out.2.2.2 rfl (by decide) _ 0 [] rfl H0.out.2 w.heap.size A1 n1 _ (pcL L1) rfl (HR1.out.below H0.out.1) (pcL_one _) (by unfold maxLen;have := HN.out;have := HT2.out;omega) (by have := HN.out;have := HT2.out;omega) H0.out.1.size ?_;intro v1 w3 o1 g1;have H1 : Hid (Below w.heap.size w w3 ∧ w3.ownsRow w.heap.size 42 2 v1 n1 (pcL L1)):=Lib.hid ⟨H0.out.1.trans (below_grown H0.out.2 g1 H0.out.1.size),by simpa using o1⟩;clear o1 g1;clear d1 d2;have d2:=(H1.out.1.cell (p:=⟨S,1,none⟩) hS).trans HK.out.2)
 rw [rounds_succ]
 go_wp2_with (at_builtin;refine wpList_append_anyW (o:=⟨some 33,_,_,_,_,_⟩) _ rfl _ _ 23 rfl w.heap.size 42 i0 _ 2 32 Tryz.underlying23 HI0.out.1 HI0.out.2.1 HI0.out.2.2.1 HI0.out.2.2.2 rfl (by decide) _ n1 (pcL L1) rfl H1.out.2 w.heap.size A2 n2 _ (pcL L2) rfl (HR2.out.below H1.out.1) (pcL_one _) (by unfold maxLen;have := HN.out;have := HT2.out;omega) (by have := HN.out;have := HT2.out;omega) H1.out.1.size ?_;intro v2 w4 o1 g1;have H2 : Hid (Below w.heap.size w w4 ∧ w4.ownsRow w.heap.size 42 2 v2 t2 (pcL L1 ++ pcL L2)):=Lib.hid ⟨H1.out.1.trans (below_grown H1.out.2 g1 H1.out.1.size),by rw [HT2.out];exact o1⟩;clear o1 g1;clear d2)
 rw [rounds_succ]
 go_wp2
 go_ret
 exact ⟨_,rfl,H2.out.2,H2.out.1⟩
end Go.Proofs.YtojjfdegkooknaaGreatDoor
namespace Go.Proofs.YtojjfdegkooknaaGreatDoor
set_option maxRecDepth 100000
set_option maxHeartbeats 8000000
open Go.RowKit Go.Lib
theorem concat3 (A1 A2 A3 : Option Addr) (n1 c1 n2 c2 n3 c3 S : Nat) (L1 L2 L3 : List Pm) (hn : n1 + n2 + n3 ≤ 4000000000000) (w : World) (r1 : Reads w w.heap.size 2 A1 n1 (pcL L1)) (r2 : Reads w w.heap.size 2 A2 n2 (pcL L2)) (r3 : Reads w w.heap.size 2 A3 n3 (pcL L3)) (k1 : w.cell? ⟨S,0,none⟩ = some (.slice A1 n1 c1)) (k2 : w.cell? ⟨S,1,none⟩ = some (.slice A2 n2 c2)) (k3 : w.cell? ⟨S,2,none⟩ = some (.slice A3 n3 c3)) (hS : S < w.heap.size) :
 Calls Tryz.prog 61 #[.slice (some ⟨S,0,none⟩) 3 3] w fun e w' => ∃ v,e = .returned v ∧ w'.ownsRow w.heap.size 42 2 v (n1 + n2 + n3) (pcL L1 ++ pcL L2 ++ pcL L3) ∧ Below w.heap.size w w':=by
 have HR1:=Lib.hid r1
 have HR2:=Lib.hid r2
 have HR3:=Lib.hid r3
 have HK:=Lib.hid (And.intro k1 (And.intro k2 k3))
 obtain ⟨i0,hi,hiz,his,hib⟩:=info_parts infoPmV
 have HI0:=Lib.hid (And.intro hi (And.intro hiz (And.intro his hib)))
 obtain ⟨t2,ht2⟩ : ∃ t,t = n1 + n2:=⟨_,rfl⟩
 obtain ⟨t3,ht3⟩ : ∃ t,t = t2 + n3:=⟨_,rfl⟩
 have hw1 : IntKind.i64.wrap (0 + (n1 : Int)) = (n1 : Int):=by rw [IntKind.wrap_i64];omega
 have hw1' : IntKind.i64.wrap (n1 : Int) = (n1 : Int):=by rw [IntKind.wrap_i64];omega
 have hb1 : ¬ (n1 : Int) < 0:=by omega
 have hw2 : IntKind.i64.wrap ((n1 : Int) + n2) = (t2 : Int):=by rw [IntKind.wrap_i64];omega
 have hb2 : ¬ (t2 : Int) < 0:=by omega
 have hw3 : IntKind.i64.wrap ((t2 : Int) + n3) = (t3 : Int):=by rw [IntKind.wrap_i64];omega
 have hb3 : ¬ (t3 : Int) < 0:=by omega
 have hN : t3 ≤ 4000000000000:=by omega
 rw [show n1 + n2 + n3 = t3 by omega]
 have HT2:=Lib.hid ht2
 have HT3:=Lib.hid ht3
 have HN:=Lib.hid hn
 clear r1 r2 r3 hi hiz his hib ht2 ht3 hn
 go_enter Tryz.func61,Tryz.ntmps61
 go_wp2
 refine wp_loop_rounds 4 ?_
 rw [rounds_succ]
 go_wp2
 rw [rounds_succ]
 go_wp2
 rw [rounds_succ]
 go_wp2
 rw [rounds_succ]
 go_wp2_with (go_at_call 85;refine (growp_nil t3 _ rfl hN _).mono ?_;rintro e w2 ⟨v0,rfl,q1,q2⟩;have H0 : Hid (Below w.heap.size w w2 ∧ w2.ownsRow w.heap.size 42 2 v0 0 []):=Lib.hid ⟨q2,q1⟩;have d1:=(q2.cell (p:=⟨S,0,none⟩) hS).trans HK.out.1;have d2:=(q2.cell (p:=⟨S,1,none⟩) hS).trans HK.out.2.1;have d3:=(q2.cell (p:=⟨S,2,none⟩) hS).trans HK.out.2.2;clear q1 q2 k1 k2 k3)
 refine wp_loop_rounds 4 ?_
 rw [rounds_succ]
 go_wp2_with (at_builtin;refine wpList_append_any (o:=⟨some 33,_,_,_,_,_⟩) _ rfl _ _ 23 rfl w.heap.size 42 i0 _ 2 32 Tryz.underlying23 HI0.out.1 HI0.out.2.1 HI0.out.2.2.1 HI0.out.2.2.2 rfl (by decide) _ 0 [] rfl H0.out.2 w.heap.size A1 n1 _ (pcL L1) rfl (HR1.out.below H0.out.1) (pcL_one _) (by unfold maxLen;have := HN.out;have := HT2.out;have := HT3.out;omega) (by have := HN.out;have := HT2.out;have := HT3.out;omega) H0.out.1.size ?_;intro v1 w3 o1 g1 _;have H1 : Hid (Below w.heap.size w w3 ∧ w3.ownsRow w.heap.size 42 2 v1 n1 (pcL L1)):=Lib.hid ⟨H0.out.1.trans (below_grown H0.out.2 g1 H0.out.1.size),by simpa using o1⟩;clear o1 g1;clear d1 d2 d3;have d2:=(H1.out.1.cell (p:=⟨S,1,none⟩) hS).trans HK.out.2.1;have d3:=(H1.out.1.cell (p:=⟨S,2,none⟩) hS).trans HK.out.2.2)
 rw [rounds_succ]
 go_wp2_with (at_builtin;refine wpList_append_any (o:=⟨some 33,_,_,_,_,_⟩) _ rfl _ _ 23 rfl w.heap.size 42 i0 _ 2 32 Tryz.underlying23 HI0.out.1 HI0.out.2.1 HI0.out.2.2.1 HI0.out.2.2.2 rfl (by decide) _ n1 (pcL L1) rfl H1.out.2 w.heap.size A2 n2 _ (pcL L2) rfl (HR2.out.below H1.out.1) (pcL_one _) (by unfold maxLen;have := HN.out;have := HT2.out;have := HT3.out;omega) (by have := HN.out;have := HT2.out;have := HT3.out;omega) H1.out.1.size ?_;intro v2 w4 o1 g1 _;have H2 : Hid (Below w.heap.size w w4 ∧ w4.ownsRow w.heap.size 42 2 v2 t2 (pcL L1 ++ pcL L2)):=Lib.hid ⟨H1.out.1.trans (below_grown H1.out.2 g1 H1.out.1.size),by rw [HT2.out];exact o1⟩;clear o1 g1;clear d2 d3;have d3:=(H2.out.1.cell (p:=⟨S,2,none⟩) hS).trans HK.out.2.2)
 rw [rounds_succ]
 go_wp2_with (at_builtin;refine wpList_append_any (o:=⟨some 33,_,_,_,_,_⟩) _ rfl _ _ 23 rfl w.heap.size 42 i0 _ 2 32 Tryz.underlying23 HI0.out.1 HI0.out.2.1 HI0.out.2.2.1 HI0.out.2.2.2 rfl (by decide) _ t2 (pcL L1 ++ pcL L2) rfl H2.out.2 w.heap.size A3 n3 _ (pcL L3) rfl (HR3.out.below H2.out.1) (pcL_one _) (by unfold maxLen;have := HN.out;have := HT2.out;have := HT3.out;omega) (by have := HN.out;have := HT2.out;have := HT3.out;omega) H2.out.1.size ?_;intro v3 w5 o1 g1 _;have H3 : Hid (Below w.heap.size w w5 ∧ w5.ownsRow w.heap.size 42 2 v3 t3 (pcL L1 ++ pcL L2 ++ pcL L3)):=Lib.hid ⟨H2.out.1.trans (below_grown H2.out.2 g1 H2.out.1.size),by rw [HT3.out];exact o1⟩;clear o1 g1;clear d3)
 rw [rounds_succ]
 go_wp2
 go_ret
 exact ⟨_,rfl,H3.out.2,H3.out.1⟩
end Go.Proofs.YtojjfdegkooknaaGreatDoor
