import Derived.Test.YtojjfdegkooknaaGreatDoorQTypFs
import Derived.Test.YtojjfdegkooknaaGreatDoorQTypSu
set_option linter.unusedVariables false
set_option linter.unusedSimpArgs false
namespace Go.Proofs.YtojjfdegkooknaaGreatDoor
set_option maxRecDepth 100000
set_option maxHeartbeats 16000000
open Go.RowKit Go.Lib
theorem rowMore {w : World} {B B' : Nat} (hB : B ≤ B') {l : List Pm} {A : Option Addr} (h : RowV VPm 2 w B l A) : RowV VPm 2 w B' l A:=by
 intro i x hi
 obtain ⟨a,cs,h1,h2,h3,h4,h5⟩:=h i x hi
 exact ⟨a,cs,h1,Nat.lt_of_lt_of_le h2 hB,h3,h4,h5⟩
theorem pm_ne {w : World} {B cb : Nat} {l : List Pm} {A : Option Addr} (h : PmRow w B l A) (hB : B ≤ cb) : ∀ a,A = some a → l ≠ [] → a.block ≠ cb:=by
 intro a ha hl
 cases h with
 | nil => exact absurd rfl hl
 | row b es hb cells =>
   obtain rfl:=Option.some.inj ha
   exact Nat.ne_of_lt (Nat.lt_of_lt_of_le hb hB)
theorem row_lt {w : World} {B : Nat} {l : List Pm} {A : Option Addr} (h : RowV VPm 2 w B l A) : ∀ a,A = some a → l ≠ [] → a.block ≠ B:=by
 intro a ha hl
 obtain ⟨x,hx⟩ : ∃ x,l[0]? = some x:=by
  cases l with
  | nil => exact absurd rfl hl
  | cons x l => exact ⟨x,rfl⟩
 obtain ⟨b,cs,h1,h2,_⟩:=h 0 x hx
 obtain rfl:=Option.some.inj (ha.symm.trans h1)
 exact Nat.ne_of_lt h2
abbrev zBody : Array Value:=#[.pointer none,.slice none 0 0,.slice none 0 0,.slice none 0 0]
theorem own_pm {w : World} {base n : Nat} {v : Value} {l : List Pm} (h : w.ownsRow base 42 2 v n (pcL l)) (hn : n = l.length) (hl : ∀ x ∈ l,x.t.length ≤ maxLen ∧ x.nm.length ≤ maxLen) :
 ∃ A c,v = .slice A n c ∧ RowV VPm 2 w w.heap.size l A ∧ ∀ a,A = some a → base ≤ a.block:=by
 obtain ⟨A,c,rfl⟩:=own_sliceM h
 exact ⟨A,c,rfl,pc_row hn (Reads.of_own h) hl,own_addr h⟩
theorem lens_app {l m : List Pm} (h1 : ∀ x ∈ l,x.t.length ≤ maxLen ∧ x.nm.length ≤ maxLen) (h2 : ∀ x ∈ m,x.t.length ≤ maxLen ∧ x.nm.length ≤ maxLen) : ∀ x ∈ l ++ m,x.t.length ≤ maxLen ∧ x.nm.length ≤ maxLen:=by
 intro x hx
 rcases List.mem_append.1 hx with h | h
 ·exact h1 x h
 ·exact h2 x h
theorem hid_ProcT2 : ∃ (T N : Nat),46 = T ∧ N = 12 ∧ (∀ w : World,(isAgg T).run Tryz.prog w = .ok true w) ∧ (∀ w : World,(sizeOf T).run Tryz.prog w = .ok N w) :=
 ⟨_,12,rfl,rfl,fun w => by kernel_rfl,fun w => by kernel_rfl⟩
theorem tproc_any (p : Pg) (d : GAd) (B0 cb : Nat) (x : Pr) (hrq : ∀ f ∈ x.rq,FmOk p d B0 cb f) (hes : ∀ f ∈ x.es,FmOk p d B0 cb f) (P : St → Prop) (hP : GoodIn P) (hgood : ∀ s ∈ x.bd,P s)
 (hst : ∀ (B1 : Nat) (b : BAd) (s : St),P s → StAt p d B0 B1 cb (scopeL p.gs x) x.lg (bodyAs x) b s) (hsz : p.gs.length + x.ps.length + x.lg.length + x.lo.length ≤ 3999998000000) (cs : Array Value) (w : World) (q : Int × Int) (hv : VPr w B0 cs x) (hC : ChkW w B0 cb d p q) :
 Calls Tryz.prog 77 #[.pointer (some ⟨cb,0,none⟩),.agg cs] w (StsPost (prC p x) cb d p w):=by
 obtain ⟨dp,hcs,hown⟩:=hv
 obtain ⟨T,N,hT,hN,hag,hsz2⟩:=hid_ProcT2
 have e1 : ∀ y : Operand,Op.load 46 y = Op.load T y:=fun y => by rw [hT]
 have e4 : ∀ y : Operand,Op.box 46 y = Op.box T y:=fun y => by rw [hT]
 have hszc : cs.size = N:=by rw [hN,hcs];rfl
 obtain ⟨nps,hnps⟩ : ∃ n,n = x.ps.length:=⟨_,rfl⟩
 obtain ⟨nlg,hnlg⟩ : ∃ n,n = x.lg.length:=⟨_,rfl⟩
 obtain ⟨nrq,hnrq⟩ : ∃ n,n = x.rq.length:=⟨_,rfl⟩
 obtain ⟨nes,hnes⟩ : ∃ n,n = x.es.length:=⟨_,rfl⟩
 obtain ⟨nlo,hnlo⟩ : ∃ n,n = x.lo.length:=⟨_,rfl⟩
 obtain ⟨nbd,hnbd⟩ : ∃ n,n = x.bd.length:=⟨_,rfl⟩
 obtain ⟨ng,hng⟩ : ∃ n,n = p.gs.length:=⟨_,rfl⟩
 obtain ⟨ln,hln⟩ : ∃ n,n = x.ln:=⟨_,rfl⟩
 obtain ⟨co,hco⟩ : ∃ n,n = x.co:=⟨_,rfl⟩
 have k1 : cs[1]? = some (.int .i64 ln):=by rw [hcs,hln];rfl
 have k2 : cs[2]? = some (.int .i64 co):=by rw [hcs,hco];rfl
 have kk : cs[3]? = some (.slice dp.p nps dp.np) ∧ cs[4]? = some (.slice dp.g nlg dp.ng) ∧ cs[8]? = some (.slice dp.r nrq dp.nr) ∧ cs[9]? = some (.slice dp.e nes dp.ne) ∧ cs[10]? = some (.slice dp.l nlo dp.nl) ∧ cs[11]? = some (.slice dp.b nbd dp.nb):=by
  rw [hcs,hnps,hnlg,hnrq,hnes,hnlo,hnbd]
  exact ⟨rfl,rfl,rfl,rfl,rfl,rfl⟩
 obtain ⟨W1,hW1⟩ : ∃ W1,W1 = w.alloc (.cells cs T):=⟨_,rfl⟩
 have hb1 : Below w.heap.size w W1:=by rw [hW1];exact below_alloc w _
 have hp1 : W1.heap[w.heap.size]? = some (.cells cs T):=by rw [hW1];exact heap_of_alloc w _
 have hcb : w.heap.size ≠ cb:=by have := hC.lt;omega
 obtain ⟨W2,hW2⟩ : ∃ W2,W2 = (W1.setCell ⟨cb,6,none⟩ (.int .i64 ln)).setCell ⟨cb,7,none⟩ (.int .i64 co):=⟨_,rfl⟩
 have hn12 : Near cb W1 W2:=by rw [hW2];exact (near_set W1 6 _).trans (near_set _ 7 _)
 have hbox1:=(hC.on hb1).box
 have hbox2 : W2.heap[cb]? = some (chkO d p (ln,co)):=by rw [hW2];exact heap_setCell_at (heap_setCell_at hbox1 6 (.int .i64 ln)) 7 (.int .i64 co)
 have hn2 : Near cb w W2:=(near_of hb1).trans hn12
 have hp2 : W2.heap[w.heap.size]? = some (.cells cs T):=(hn12.block _ (Array.getElem?_eq_some_iff.1 hp1).1 hcb).trans hp1
 have hC2 : ChkW W2 B0 cb d p (ln,co):=hC.near hn2 hbox2
 have hB0w : B0 ≤ w.heap.size:=Nat.le_trans hC.le (Nat.le_of_lt hC.lt)
 have hown2 : PrOwn W2 B0 dp x:=hown.keep (fun z hz => near_cell hn2 (Nat.lt_of_lt_of_le hz hB0w) (Nat.ne_of_lt (Nat.lt_of_lt_of_le hz hC.le))) (Nat.le_refl _)
 have hB02 : B0 ≤ W2.heap.size:=Nat.le_trans hB0w hn2.size
 have hOwn : Hid (∀ W,Below W2.heap.size W2 W → PrOwn W B0 dp x ∧ ChkW W B0 cb d p (ln,co)):=Lib.hid (fun W hb => ⟨hown2.keep (fun z hz => hb.cell (Nat.lt_of_lt_of_le hz hB02)) (Nat.le_refl _),hC2.on hb⟩)
 obtain ⟨S,hS⟩ : ∃ S : World → Prop,S = fun W => Below W2.heap.size W2 W:=⟨_,rfl⟩
 have HS2 : Hid (∀ W,Below W2.heap.size W2 W → S W):=Lib.hid (fun W hb => by rw [hS];exact hb)
 have HLD : Hid (∀ W,S W → W.cell? ⟨cb,1,none⟩ = some (.slice d.g ng d.ng) ∧ (loadCellsFrom ⟨w.heap.size,0,none⟩ 0 N #[]).run Tryz.prog W = .ok cs W ∧ W.cell? ⟨w.heap.size,3,none⟩ = some (.slice dp.p nps dp.np) ∧ W.cell? ⟨w.heap.size,4,none⟩ = some (.slice dp.g nlg dp.ng) ∧ W.cell? ⟨w.heap.size,8,none⟩ = some (.slice dp.r nrq dp.nr) ∧ W.cell? ⟨w.heap.size,9,none⟩ = some (.slice dp.e nes dp.ne) ∧ W.cell? ⟨w.heap.size,10,none⟩ = some (.slice dp.l nlo dp.nl) ∧ W.cell? ⟨w.heap.size,11,none⟩ = some (.slice dp.b nbd dp.nb)):=Lib.hid (fun W hs => by
  rw [hS] at hs
  have hq:=kept_box hs hp2
  exact ⟨by rw [hng];exact (hOwn.out W hs).2.at_.c1,ld_new hq hszc,cell_of_block hq 3 kk.1,cell_of_block hq 4 kk.2.1,cell_of_block hq 8 kk.2.2.1,cell_of_block hq 9 kk.2.2.2.1,cell_of_block hq 10 kk.2.2.2.2.1,cell_of_block hq 11 kk.2.2.2.2.2⟩)
 have HN2:=Lib.hid (And.intro hn2 (And.intro hB02 hC2.lt))
 have HSz : Hid (ng + nps + nlg + nlo ≤ 3999998000000):=Lib.hid (by rw [hng,hnps,hnlg,hnlo];exact hsz)
 have HNM:=Lib.hid (And.intro hng (And.intro hnps (And.intro hnlg (And.intro hnrq (And.intro hnes (And.intro hnlo hnbd))))))
 have HLen : Hid (x.rt.length ≤ maxLen ∧ x.rn.length ≤ maxLen):=Lib.hid ⟨hown.1.2.2.2.1,hown.1.2.2.2.2.1⟩
 have HCS:=Lib.hid hcs
 have HOK:=Lib.hid (And.intro hrq (And.intro hes (And.intro hP (And.intro hgood hst))))
 -- what is thrown
 obtain ⟨R,hR⟩ : ∃ R,R = prC p x:=⟨_,rfl⟩
 obtain ⟨r1,hr1⟩ : ∃ r,r = paramsC p.rs (scopeL p.gs x):=⟨_,rfl⟩
 obtain ⟨r2,hr2⟩ : ∃ r,r = fmsC p (p.gs ++ x.ps ++ x.lg) x.rq:=⟨_,rfl⟩
 obtain ⟨r3,hr3⟩ : ∃ r,r = fmsC p (p.gs ++ x.ps ++ x.lg ++ resL x) x.es:=⟨_,rfl⟩
 have HR : Hid (R = seqP (seqC r1 (seqC r2 r3),(ln,co)) fun q => stsP p (scopeL p.gs x) x.lg (bodyAs x) q x.bd):=Lib.hid (by rw [hR,hr1,hr2,hr3,hln,hco];rfl)
 have HRR:=Lib.hid (And.intro hr1 (And.intro hr2 hr3))
 rw [← hR]
 have hmx : Tryz.prog.follows .mixedOrders = true:=by kernel_rfl
 have z1:=cell_of_block hp1 1 k1
 have z2:=cell_of_block hp1 2 k2
 have y6:=cell_of_block hbox1 6 (v:=.int .i64 q.1) rfl
 have y7:=cell_of_block hbox1 7 (v:=.int .i64 q.2) rfl
 have f6:=frozen_at hbox1 6
 have f7:=frozen_at hbox1 7
 have K0:=Lib.hid (Below.refl W2.heap.size W2)
 have HStop : Hid (∀ (t : Thr) (W : World),Below W2.heap.size W2 W → R = (some t,(ln,co)) → StsPost R cb d p w (.panicked [{ v:=thrV t,recovered:=false }]) W):=Lib.hid (fun t W hb hr => by
  rw [hr]
  exact ⟨rfl,hn2.trans (near_of hb),((hOwn.out W hb).2).box⟩)
 clear hrq hes hP hgood hst hsz hC hown hcs hN hnps hnlg hnrq hnes hnlo hnbd hng hln hco k1 k2 kk hb1 hp1 hcb hn12 hbox1 hbox2 hn2 hp2 hC2 hB0w hown2 hB02 hS hR hr1 hr2 hr3 hszc
 rw [hW1] at z1 z2 y6 y7 f6 f7
 go_enter Tryz.func77,Tryz.ntmps77
 simp only [e1,e4]
 clear e1 e4 hT
 go_upto_region 2 with fail
 rw [← hW1,← hW2]
 clear z1 z2 y6 y7 f6 f7 hW1 hW2
 have K1:=Lib.hid (K0.out.chain (Below.refl W2.heap.size W2).drew)
 obtain ⟨x1,hx1⟩ : ∃ X,X = W2.drew:=⟨_,rfl⟩
 go_wp2
 refine wp_region_held (S:=S) hmx ?_
 change wpAnyH _ _ _ _ _ 8 #[false,false,false,false,false,false,false,false] _ W2.drew
 rw [← hx1] at K1 ⊢
 clear hx1
 have g1:=HS2.out _ K1.out
 refine tk 0 12 (.pointer (some ⟨cb,0,none⟩)) g1 ?v ?_
 case v => intro Wx hSx;go_simp
 refine tk 1 13 (.pointer (some ⟨cb,0,none⟩)) g1 ?v ?_
 case v => intro Wx hSx;go_simp
 refine tk 2 14 (.pointer (some ⟨cb,0,none⟩)) g1 ?v ?_
 case v => intro Wx hSx;go_simp
 refine tk 3 15 (.pointer (some ⟨cb,1,none⟩)) g1 ?v ?_
 case v => intro Wx hSx;go_simp
 try simp only [Act.put,List.setIfInBounds_toArray,List.set_cons_zero,List.set_cons_succ]
 refine tk 4 16 (.slice d.g ng d.ng) g1 ?v ?_
 case v => intro Wx hSx;obtain ⟨z0,z1,z2,z3,z4,z5,z6,z7⟩:=HLD.out Wx hSx;go_simp
 refine tk 5 17 (.agg cs) g1 ?v ?_
 case v => intro Wx hSx;obtain ⟨z0,z1,z2,z3,z4,z5,z6,z7⟩:=HLD.out Wx hSx;go_simp
 try simp only [Act.put,List.setIfInBounds_toArray,List.set_cons_zero,List.set_cons_succ]
 -- scopeOf
 refine o1 6 (fun K hK => ?_)
 go_simp
 have hs0:=hOwn.out _ K1.out
 have HSc:=Lib.hid (scope_any p.gs x dp d.g ng d.ng B0 HNM.out.1 x1 (Nat.le_trans HN2.out.2.1 K1.out.size) (pm_rowV hs0.2.own.2.2.1) hs0.1 (by have := HSz.out;have := HNM.out;omega))
 rw [← HCS.out] at HSc
 clear hs0
 (with_reducible refine HSc.out.mono ?_)
 rintro e x2 ⟨⟨A,m,k,rfl,hm,hrow,hadr⟩,hb⟩
 have K2:=Lib.hid (K1.out.chain hb)
 have M2:=Lib.hid (Below.refl x2.heap.size x2)
 have HA:=Lib.hid (And.intro hm (And.intro hrow (fun a ha => Nat.le_trans K1.out.size (hadr a ha) : ∀ a,A = some a → W2.heap.size ≤ a.block)))
 clear hb hm hrow hadr HSc
 have g2:=HS2.out _ K2.out
 refine hK _ _ g2 ?_
 clear hK K
 try simp only [Act.put,List.setIfInBounds_toArray,List.set_cons_zero,List.set_cons_succ]
 refine tk 7 4 (.slice A m k) g2 ?v ?_
 case v => intro Wx hSx;go_simp
 try simp only [Act.put,List.setIfInBounds_toArray,List.set_cons_zero,List.set_cons_succ]
 refine wpAnyH_done (by kernel_rfl) ?_ _
 -- params
 have HM : Hid (m ≤ 3999998000001):=Lib.hid (by
  rw [HA.out.1]
  unfold scopeL
  simp only [List.length_append]
  have := resL_le x
  have := HSz.out
  have := HNM.out
  omega)
 have hs2:=(hOwn.out _ K2.out).2.at_
 have HPm:=Lib.hid (tparams_any p d B0 cb (scopeL p.gs x) A k m HA.out.1 (by have := HM.out;unfold maxLen;omega) x2.heap.size x2 (Nat.le_refl _) HA.out.2.1 hs2)
 rw [← HRR.out.1] at HPm
 clear hs2
 go_wp2_with fail
 (with_reducible refine HPm.out.mono ?_)
 rintro e x3 ⟨he,hb⟩
 have K3:=Lib.hid (K2.out.chain hb)
 have M3:=Lib.hid (M2.out.chain hb)
 clear hb HPm
 cases r1 with
 | some t =>
   obtain rfl : e = _:=he
   exact ⟨rfl,HStop.out t x3 K3.out HR.out⟩
 | none =>
 obtain rfl : e = _:=he
 -- before
 have K4:=Lib.hid (K3.out.chain (Below.refl x3.heap.size x3).drew)
 have M4:=Lib.hid (M3.out.chain (Below.refl x3.heap.size x3).drew)
 obtain ⟨x4,hx4⟩ : ∃ X,X = x3.drew:=⟨_,rfl⟩
 go_wp2
 refine wp_region_held (S:=S) hmx ?_
 change wpAnyH _ _ _ _ _ 12 #[false,false,false,false,false,false,false,false,false,false,false,false] _ x3.drew
 rw [← hx4] at K4 M4 ⊢
 clear hx4
 have g4:=HS2.out _ K4.out
 refine tk 0 22 (.pointer (some ⟨cb,0,none⟩)) g4 ?v ?_
 case v => intro Wx hSx;go_simp
 refine tk 1 23 (.pointer (some ⟨cb,0,none⟩)) g4 ?v ?_
 case v => intro Wx hSx;go_simp
 refine tk 2 24 (.pointer (some ⟨cb,0,none⟩)) g4 ?v ?_
 case v => intro Wx hSx;go_simp
 refine tk 3 25 (.pointer (some ⟨cb,1,none⟩)) g4 ?v ?_
 case v => intro Wx hSx;go_simp
 try simp only [Act.put,List.setIfInBounds_toArray,List.set_cons_zero,List.set_cons_succ]
 refine tk 4 26 (.slice d.g ng d.ng) g4 ?v ?_
 case v => intro Wx hSx;obtain ⟨z0,z1,z2,z3,z4,z5,z6,z7⟩:=HLD.out Wx hSx;go_simp
 refine tk 5 27 (.pointer (some ⟨w.heap.size,3,none⟩)) g4 ?v ?_
 case v => intro Wx hSx;go_simp
 refine tk 6 28 (.slice dp.p nps dp.np) g4 ?v ?_
 case v => intro Wx hSx;obtain ⟨z0,z1,z2,z3,z4,z5,z6,z7⟩:=HLD.out Wx hSx;go_simp
 refine tk 7 29 (.pointer (some ⟨w.heap.size,4,none⟩)) g4 ?v ?_
 case v => intro Wx hSx;go_simp
 try simp only [Act.put,List.setIfInBounds_toArray,List.set_cons_zero,List.set_cons_succ]
 refine tk 8 30 (.slice dp.g nlg dp.ng) g4 ?v ?_
 case v => intro Wx hSx;obtain ⟨z0,z1,z2,z3,z4,z5,z6,z7⟩:=HLD.out Wx hSx;go_simp
 try simp only [Act.put,List.setIfInBounds_toArray,List.set_cons_zero,List.set_cons_succ]
 refine o1 9 (fun K hK => ?_)
 obtain ⟨x5,hx5⟩ : ∃ X,X = x4.alloc (.cells #[.slice d.g ng d.ng,.slice dp.p nps dp.np,.slice dp.g nlg dp.ng] 23):=⟨_,rfl⟩
 have hb45 : Below x4.heap.size x4 x5:=by rw [hx5];exact below_alloc x4 _
 have hp5 : x5.heap[x4.heap.size]? = some (.cells #[.slice d.g ng d.ng,.slice dp.p nps dp.np,.slice dp.g nlg dp.ng] 23):=by rw [hx5];exact heap_of_alloc x4 _
 have K5:=Lib.hid (K4.out.chain hb45)
 have M5:=Lib.hid (M4.out.chain hb45)
 go_simp
 rw [← hx5]
 refine hK _ _ (HS2.out _ K5.out) ?_
 clear hK K
 try simp only [Act.put,List.setIfInBounds_toArray,List.set_cons_zero,List.set_cons_succ]
 obtain ⟨ho5,hc5⟩:=hOwn.out _ K5.out
 have h5 : B0 ≤ x5.heap.size:=Nat.le_trans HN2.out.2.1 K5.out.size
 have HC3 : Hid (Calls Tryz.prog 61 #[.slice (some ⟨x4.heap.size,0,none⟩) 3 3] x5 fun e w' => ∃ v,e = .returned v ∧ w'.ownsRow x5.heap.size 42 2 v (ng + nps + nlg) (pcL p.gs ++ pcL x.ps ++ pcL x.lg) ∧ Below x5.heap.size x5 w'):=Lib.hid (concat3 d.g dp.p dp.g ng d.ng nps dp.np nlg dp.ng x4.heap.size p.gs x.ps x.lg (by have := HSz.out;omega) x5 (by rw [HNM.out.1];exact (pc_reads (pm_rowV hc5.own.2.2.1)).more h5) (by rw [HNM.out.2.1];exact (pc_reads (pm_rowV ho5.2.1)).more h5) (by rw [HNM.out.2.2.1];exact (pc_reads (pm_rowV ho5.2.2.1)).more h5) (cell_of_block hp5 0 rfl) (cell_of_block hp5 1 rfl) (cell_of_block hp5 2 rfl) (Array.getElem?_eq_some_iff.1 hp5).1)
 have HL3 : Hid (∀ z ∈ p.gs ++ x.ps ++ x.lg,z.t.length ≤ maxLen ∧ z.nm.length ≤ maxLen):=Lib.hid (lens_app (lens_app (pm_lens' (pm_rowV hc5.own.2.2.1)) (pm_lens' (pm_rowV ho5.2.1))) (pm_lens' (pm_rowV ho5.2.2.1)))
 clear hx5 hb45 hp5 ho5 hc5 h5
 refine o1 10 (fun K hK => ?_)
 go_simp
 (with_reducible refine HC3.out.mono ?_)
 rintro e x6 ⟨v,rfl,hv,hb⟩
 obtain ⟨F1,f1,rfl,hrow,-⟩:=own_pm (l:=p.gs ++ x.ps ++ x.lg) (by rw [pcL_append,pcL_append];exact hv) (by simp only [List.length_append];have := HNM.out;omega) HL3.out
 have K6:=Lib.hid (K5.out.chain hb)
 have M6:=Lib.hid (M5.out.chain hb)
 have N6:=Lib.hid (Below.refl x6.heap.size x6)
 obtain ⟨nb,hnb⟩ : ∃ n,n = ng + nps + nlg:=⟨_,rfl⟩
 have HB:=Lib.hid (And.intro hnb hrow)
 rw [← hnb]
 clear hv hb hrow hnb HC3
 have g6:=HS2.out _ K6.out
 refine hK _ _ g6 ?_
 clear hK K
 try simp only [Act.put,List.setIfInBounds_toArray,List.set_cons_zero,List.set_cons_succ]
 refine tk 11 5 (.slice F1 nb f1) g6 ?v ?_
 case v => intro Wx hSx;go_simp
 try simp only [Act.put,List.setIfInBounds_toArray,List.set_cons_zero,List.set_cons_succ]
 refine wpAnyH_done (by kernel_rfl) ?_ _
 -- the formulas before it
 have HNB : Hid (nb = (p.gs ++ x.ps ++ x.lg).length ∧ nb ≤ 3999998000000):=Lib.hid (by
  simp only [List.length_append]
  have := HNM.out
  have := HB.out.1
  have := HSz.out
  omega)
 obtain ⟨ho6,hc6⟩:=hOwn.out _ K6.out
 have HF1:=Lib.hid (formulas_any p d B0 cb x.rq HOK.out.1 (p.gs ++ x.ps ++ x.lg) F1 nb f1 x6.heap.size dp.r nrq dp.nr HNM.out.2.2.2.1 (by rw [HNM.out.2.2.2.1];exact ho6.1.2.2.2.2.2.1) x6 HNB.out.1 (Nat.le_trans HNB.out.2 (by omega)) (Nat.le_refl _) HB.out.2 hc6.at_ ho6.2.2.2.1)
 rw [← HRR.out.2.1] at HF1
 obtain ⟨-,-,-,-,z8,-,-,-⟩:=HLD.out _ g6
 clear ho6 hc6
 go_wp2_with fail
 clear z8
 (with_reducible refine HF1.out.mono ?_)
 rintro e x7 ⟨he,hb⟩
 have K7:=Lib.hid (K6.out.chain hb)
 have M7:=Lib.hid (M6.out.chain hb)
 have N7:=Lib.hid (N6.out.chain hb)
 clear hb HF1
 cases r2 with
 | some t =>
   obtain rfl : e = _:=he
   exact ⟨rfl,HStop.out t x7 K7.out HR.out⟩
 | none =>
 obtain rfl : e = _:=he
 have K8:=Lib.hid (K7.out.chain (Below.refl x7.heap.size x7).drew)
 have M8:=Lib.hid (M7.out.chain (Below.refl x7.heap.size x7).drew)
 have N8:=Lib.hid (N7.out.chain (Below.refl x7.heap.size x7).drew)
 obtain ⟨x8,hx8⟩ : ∃ X,X = x7.drew:=⟨_,rfl⟩
 go_wp2
 refine wp_region_held (S:=S) hmx ?_
 change wpAnyH _ _ _ _ _ 9 #[false,false,false,false,false,false,false,false,false] _ x7.drew
 rw [← hx8] at K8 M8 N8 ⊢
 clear hx8
 have g8:=HS2.out _ K8.out
 refine tk 0 38 (.pointer (some ⟨cb,0,none⟩)) g8 ?v ?_
 case v => intro Wx hSx;go_simp
 refine tk 1 39 (.slice F1 nb f1) g8 ?v ?_
 case v => intro Wx hSx;go_simp
 refine tk 2 40 (.agg cs) g8 ?v ?_
 case v => intro Wx hSx;obtain ⟨z0,z1,z2,z3,z4,z5,z6,z7⟩:=HLD.out Wx hSx;go_simp
 refine tk 6 44 (.pointer (some ⟨w.heap.size,9,none⟩)) g8 ?v ?_
 case v => intro Wx hSx;go_simp
 try simp only [Act.put,List.setIfInBounds_toArray,List.set_cons_zero,List.set_cons_succ]
 refine tk 7 45 (.slice dp.e nes dp.ne) g8 ?v ?_
 case v => intro Wx hSx;obtain ⟨z0,z1,z2,z3,z4,z5,z6,z7⟩:=HLD.out Wx hSx;go_simp
 try simp only [Act.put,List.setIfInBounds_toArray,List.set_cons_zero,List.set_cons_succ]
 have HRs : Hid (∀ W,Calls Tryz.prog 62 #[.agg cs] W fun e w' => (∃ (R : Option Addr) (n c : Nat),e = .returned (.slice R n c) ∧ n = (resL x).length ∧ RowV VPm 2 w' w'.heap.size (resL x) R) ∧ Below W.heap.size W w'):=Lib.hid (fun W => by rw [HCS.out];exact result_any x dp W HLen.out.1 HLen.out.2)
 refine o1 3 (fun K hK => ?_)
 go_simp
 (with_reducible refine (HRs.out _).mono ?_)
 rintro e x9 ⟨⟨R2,rn,rc,rfl,hrn,hrow⟩,hb⟩
 have K9:=Lib.hid (K8.out.chain hb)
 have M9:=Lib.hid (M8.out.chain hb)
 have N9:=Lib.hid (N8.out.chain hb)
 have HR9:=Lib.hid (And.intro hrn hrow)
 clear hb hrn hrow
 refine hK _ _ (HS2.out _ K9.out) ?_
 clear hK K
 try simp only [Act.put,List.setIfInBounds_toArray,List.set_cons_zero,List.set_cons_succ]
 refine o1 4 (fun K hK => ?_)
 obtain ⟨x10,hx10⟩ : ∃ X,X = x9.alloc (.cells #[.slice F1 nb f1,.slice R2 rn rc] 23):=⟨_,rfl⟩
 have hb910 : Below x9.heap.size x9 x10:=by rw [hx10];exact below_alloc x9 _
 have hp10 : x10.heap[x9.heap.size]? = some (.cells #[.slice F1 nb f1,.slice R2 rn rc] 23):=by rw [hx10];exact heap_of_alloc x9 _
 have K10:=Lib.hid (K9.out.chain hb910)
 have M10:=Lib.hid (M9.out.chain hb910)
 have N10:=Lib.hid (N9.out.chain hb910)
 go_simp
 rw [← hx10]
 refine hK _ _ (HS2.out _ K10.out) ?_
 clear hK K
 try simp only [Act.put,List.setIfInBounds_toArray,List.set_cons_zero,List.set_cons_succ]
 have rb10 : RowV VPm 2 x10 x6.heap.size (p.gs ++ x.ps ++ x.lg) F1:=rowB vpm_keeps (Nat.le_refl _) N10.out HB.out.2
 have rr10 : RowV VPm 2 x10 x9.heap.size (resL x) R2:=rowB vpm_keeps (Nat.le_refl _) hb910 HR9.out.2
 have hrl:=resL_le x
 have HC2 : Hid (Calls Tryz.prog 61 #[.slice (some ⟨x9.heap.size,0,none⟩) 2 2] x10 fun e w' => ∃ v,e = .returned v ∧ w'.ownsRow x10.heap.size 42 2 v (nb + rn) (pcL (p.gs ++ x.ps ++ x.lg) ++ pcL (resL x)) ∧ Below x10.heap.size x10 w'):=Lib.hid (concat2 F1 R2 nb f1 rn rc x9.heap.size (p.gs ++ x.ps ++ x.lg) (resL x) (by have := HNB.out.2;have := HR9.out.1;omega) x10 (by rw [HNB.out.1];exact (pc_reads rb10).more N10.out.size) (by rw [HR9.out.1];exact (pc_reads rr10).more hb910.size) (cell_of_block hp10 0 rfl) (cell_of_block hp10 1 rfl) (Array.getElem?_eq_some_iff.1 hp10).1)
 have HL2 : Hid (∀ z ∈ p.gs ++ x.ps ++ x.lg ++ resL x,z.t.length ≤ maxLen ∧ z.nm.length ≤ maxLen):=Lib.hid (lens_app HL3.out (pm_lens' rr10))
 have HRL:=Lib.hid hrl
 clear hx10 hb910 hp10 rb10 rr10 hrl
 refine o1 5 (fun K hK => ?_)
 go_simp
 (with_reducible refine HC2.out.mono ?_)
 rintro e x11 ⟨v,rfl,hv,hb⟩
 obtain ⟨F2,f2,rfl,hrow,-⟩:=own_pm (l:=p.gs ++ x.ps ++ x.lg ++ resL x) (by rw [pcL_append];exact hv) (by rw [List.length_append];have := HNB.out.1;have := HR9.out.1;omega) HL2.out
 have K11:=Lib.hid (K10.out.chain hb)
 have M11:=Lib.hid (M10.out.chain hb)
 have N11:=Lib.hid (N10.out.chain hb)
 obtain ⟨nb2,hnb2⟩ : ∃ n,n = nb + rn:=⟨_,rfl⟩
 have HB2:=Lib.hid (And.intro hnb2 hrow)
 rw [← hnb2]
 clear hv hb hrow hnb2 HC2
 have g11:=HS2.out _ K11.out
 refine hK _ _ g11 ?_
 clear hK K
 try simp only [Act.put,List.setIfInBounds_toArray,List.set_cons_zero,List.set_cons_succ]
 have HNB2 : Hid (nb2 = (p.gs ++ x.ps ++ x.lg ++ resL x).length ∧ nb2 ≤ 3999998000001):=Lib.hid (by
  rw [List.length_append]
  have := HNB.out
  have := HR9.out.1
  have := HRL.out
  have := HB2.out.1
  omega)
 obtain ⟨ho11,hc11⟩:=hOwn.out _ K11.out
 have HF2:=Lib.hid (formulas_any p d B0 cb x.es HOK.out.2.1 (p.gs ++ x.ps ++ x.lg ++ resL x) F2 nb2 f2 x11.heap.size dp.e nes dp.ne HNM.out.2.2.2.2.1 (by rw [HNM.out.2.2.2.2.1];exact ho11.1.2.2.2.2.2.2.1) x11 HNB2.out.1 (Nat.le_trans HNB2.out.2 (by omega)) (Nat.le_refl _) HB2.out.2 hc11.at_ ho11.2.2.2.2.1)
 rw [← HRR.out.2.2] at HF2
 clear ho11 hc11
 refine o1 8 (fun K hK => ?_)
 go_simp
 (with_reducible refine HF2.out.mono ?_)
 rintro e x12 ⟨he,hb⟩
 have K12:=Lib.hid (K11.out.chain hb)
 have M12:=Lib.hid (M11.out.chain hb)
 have N12:=Lib.hid (N11.out.chain hb)
 clear hb HF2
 cases r3 with
 | some t =>
   obtain rfl : e = _:=he
   exact ⟨rfl,HStop.out t x12 K12.out HR.out⟩
 | none =>
 obtain rfl : e = _:=he
 refine hK _ _ (HS2.out _ K12.out) ?_
 clear hK K
 refine wpAnyH_done (by kernel_rfl) ?_ _
 -- the body's checker
 have HRB : Hid (R = stsP p (scopeL p.gs x) x.lg (bodyAs x) (ln,co) x.bd):=Lib.hid HR.out
 go_upto_region 7 with fail
 go_cut [6] from 47 to 58 (fun v6 wx => ∃ (g : Nat) (W : World) (E : Option Addr) (ke ec : Nat),W = wx ∧ v6 = .pointer (some ⟨g,0,none⟩) ∧ Hid (W.heap[g]? = some (bodyC cb A m k dp.g nlg dp.ng E ke ec) ∧ Below x12.heap.size x12 W ∧ ke = (bodyAs x).length ∧ RowV VPm 2 W W.heap.size (bodyAs x) E ∧ ∀ a,E = some a → W2.heap.size ≤ a.block))
 case first =>
  have J12:=Lib.hid (Below.refl x12.heap.size x12)
  have J13:=Lib.hid (J12.out.chain (Below.refl x12.heap.size x12).drew)
  have K13:=Lib.hid (K12.out.chain (Below.refl x12.heap.size x12).drew)
  obtain ⟨x13,hx13⟩ : ∃ X,X = x12.drew:=⟨_,rfl⟩
  refine wp_region_held (S:=S) hmx ?_
  change wpAnyH _ _ _ _ _ 14 #[false,false,false,false,false,false,false,false,false,false,false,false,false,false] _ x12.drew
  rw [← hx13] at K13 J13 ⊢
  clear hx13
  have g13:=HS2.out _ K13.out
  refine tk 0 47 (.pointer (some ⟨cb,0,none⟩)) g13 ?v ?_
  case v => intro Wx hSx;go_simp
  refine tk 1 48 (.slice A m k) g13 ?v ?_
  case v => intro Wx hSx;go_simp
  refine tk 2 49 (.pointer (some ⟨w.heap.size,4,none⟩)) g13 ?v ?_
  case v => intro Wx hSx;go_simp
  refine tk 3 50 (.slice dp.g nlg dp.ng) g13 ?v ?_
  case v => intro Wx hSx;obtain ⟨z0,z1,z2,z3,z4,z5,z6,z7⟩:=HLD.out Wx hSx;go_simp
  try simp only [Act.put,List.setIfInBounds_toArray,List.set_cons_zero,List.set_cons_succ]
  refine tk 4 51 (.agg #[.slice A m k,.slice dp.g nlg dp.ng]) g13 ?v ?_
  case v => intro Wx hSx;go_simp
  refine tk 5 52 (.agg cs) g13 ?v ?_
  case v => intro Wx hSx;obtain ⟨z0,z1,z2,z3,z4,z5,z6,z7⟩:=HLD.out Wx hSx;go_simp
  refine tk 7 54 (.pointer (some ⟨w.heap.size,10,none⟩)) g13 ?v ?_
  case v => intro Wx hSx;go_simp
  refine tk 8 55 (.slice dp.l nlo dp.nl) g13 ?v ?_
  case v => intro Wx hSx;obtain ⟨z0,z1,z2,z3,z4,z5,z6,z7⟩:=HLD.out Wx hSx;go_simp
  try simp only [Act.put,List.setIfInBounds_toArray,List.set_cons_zero,List.set_cons_succ]
  try simp only [Act.put,List.setIfInBounds_toArray,List.set_cons_zero,List.set_cons_succ]
  refine anyH_two 6 12 (by kernel_rfl) rfl rfl (by kernel_rfl) (by kernel_rfl) (fun K hK => ?_) (fun K hK => ?_)
  ·go_simp
   (with_reducible refine (HRs.out _).mono ?_)
   rintro e x14 ⟨⟨R3,rn3,rc3,rfl,hrn,hrow⟩,hb⟩
   have K14:=Lib.hid (K13.out.chain hb)
   have J14:=Lib.hid (J13.out.chain hb)
   have HRR3_14 : Hid (rn3 = (resL x).length ∧ RowV VPm 2 x14 x14.heap.size (resL x) R3):=Lib.hid ⟨hrn,hrow⟩
   clear hb hrn hrow
   refine hK _ _ (HS2.out _ K14.out) ?_
   clear hK K
   try simp only [Act.put,List.setIfInBounds_toArray,List.set_cons_zero,List.set_cons_succ]
   refine anyH_two 9 12 (by kernel_rfl) rfl rfl (by kernel_rfl) (by kernel_rfl) (fun K hK => ?_) (fun K hK => ?_)
   ·obtain ⟨x15,hx15⟩ : ∃ X,X = x14.alloc (.cells #[.slice R3 rn3 rc3,.slice dp.l nlo dp.nl] 23):=⟨_,rfl⟩
    have hb : Below x14.heap.size x14 x15:=by rw [hx15];exact below_alloc x14 _
    have hpx : x15.heap[x14.heap.size]? = some (.cells #[.slice R3 rn3 rc3,.slice dp.l nlo dp.nl] 23):=by rw [hx15];exact heap_of_alloc x14 _
    have K15:=Lib.hid (K14.out.chain hb)
    have J15:=Lib.hid (J14.out.chain hb)
    have HPX15:=Lib.hid hpx
    have HRR3_15 : Hid (rn3 = (resL x).length ∧ RowV VPm 2 x15 x15.heap.size (resL x) R3):=Lib.hid ⟨HRR3_14.out.1,rowMore hb.size (rowB vpm_keeps (Nat.le_refl _) hb HRR3_14.out.2)⟩
    go_simp
    rw [← hx15]
    clear hb hpx hx15
    obtain ⟨gp,hgp⟩ : ∃ g,g = x14.heap.size:=⟨_,rfl⟩
    rw [← hgp] at HPX15 ⊢
    clear hgp
    refine hK _ _ (HS2.out _ K15.out) ?_
    clear hK K
    try simp only [Act.put,List.setIfInBounds_toArray,List.set_cons_zero,List.set_cons_succ]
    refine anyH_two 10 12 (by kernel_rfl) rfl rfl (by kernel_rfl) (by kernel_rfl) (fun K hK => ?_) (fun K hK => ?_)
    ·obtain ⟨hok,hck⟩:=hOwn.out _ K15.out
     have HC4 : Hid (Calls Tryz.prog 61 #[.slice (some ⟨gp,0,none⟩) 2 2] x15 fun e w' => ∃ v,e = .returned v ∧ w'.ownsRow x15.heap.size 42 2 v (rn3 + nlo) (pcL (resL x) ++ pcL x.lo) ∧ Below x15.heap.size x15 w'):=Lib.hid (concat2 R3 dp.l rn3 rc3 nlo dp.nl gp (resL x) x.lo (by have := HSz.out;have := HRR3_15.out.1;have := HRL.out;omega) x15 (by rw [HRR3_15.out.1];exact pc_reads HRR3_15.out.2) (by rw [HNM.out.2.2.2.2.2.1];exact (pc_reads (pm_rowV hok.2.2.2.2.2.1)).more (Nat.le_trans HN2.out.2.1 K15.out.size)) (cell_of_block HPX15.out 0 rfl) (cell_of_block HPX15.out 1 rfl) (Array.getElem?_eq_some_iff.1 HPX15.out).1)
     have HL4 : Hid (∀ z ∈ bodyAs x,z.t.length ≤ maxLen ∧ z.nm.length ≤ maxLen):=Lib.hid (lens_app (pm_lens' HRR3_15.out.2) (pm_lens' (pm_rowV hok.2.2.2.2.2.1)))
     have HRN3:=Lib.hid HRR3_15.out.1
     clear hok hck
     go_simp
     (with_reducible refine HC4.out.mono ?_)
     rintro e x16 ⟨v,rfl,hv,hb⟩
     obtain ⟨E,ec,rfl,hrow,hadr⟩:=own_pm (l:=bodyAs x) (by unfold bodyAs;rw [pcL_append];exact hv) (by unfold bodyAs;rw [List.length_append];have := HNM.out;have := HRN3.out;omega) HL4.out
     obtain ⟨ne,hne⟩ : ∃ n,n = rn3 + nlo:=⟨_,rfl⟩
     rw [← hne]
     have hne2 : ne = (bodyAs x).length:=by unfold bodyAs;rw [List.length_append,hne];have := HNM.out;have := HRN3.out;omega
     have HEA : Hid (∀ a,E = some a → W2.heap.size ≤ a.block):=Lib.hid (fun a ha => Nat.le_trans K15.out.size (hadr a ha))
     have K16:=Lib.hid (K15.out.chain hb)
     have J16:=Lib.hid (J15.out.chain hb)
     have HE16 : Hid (ne = (bodyAs x).length ∧ RowV VPm 2 x16 x16.heap.size (bodyAs x) E):=Lib.hid ⟨hne2,hrow⟩
     clear hv hb hrow hadr hne hne2 HC4
     refine hK _ _ (HS2.out _ K16.out) ?_
     clear hK K
     try simp only [Act.put,List.setIfInBounds_toArray,List.set_cons_zero,List.set_cons_succ]
     refine tk 11 58 (.agg #[.pointer (some ⟨cb,0,none⟩),.slice A m k,.slice dp.g nlg dp.ng,.slice E ne ec]) (HS2.out _ K16.out) ?v ?_
     case v => intro Wx hSx;go_simp
     try simp only [Act.put,List.setIfInBounds_toArray,List.set_cons_zero,List.set_cons_succ]
     refine o1 12 (fun K hK => ?_)
     obtain ⟨x17,hx17⟩ : ∃ X,X = x16.alloc (.cells zBody 171):=⟨_,rfl⟩
     have hb : Below x16.heap.size x16 x17:=by rw [hx17];exact below_alloc x16 _
     have HBX17 : Hid (x17.heap[x16.heap.size]? = some (.cells zBody 171)):=Lib.hid (by rw [hx17];exact heap_of_alloc x16 _)
     have K17:=Lib.hid (K16.out.chain hb)
     have HAL : Hid (x12.heap.size ≤ x16.heap.size):=Lib.hid J16.out.size
     have J17:=Lib.hid (J16.out.chain hb)
     have HNE : Hid (∀ a,E = some a → bodyAs x ≠ [] → a.block ≠ x16.heap.size):=Lib.hid (row_lt HE16.out.2)
     have HE17 : Hid (ne = (bodyAs x).length ∧ RowV VPm 2 x17 x17.heap.size (bodyAs x) E):=Lib.hid ⟨HE16.out.1,rowMore hb.size (rowB vpm_keeps (Nat.le_refl _) hb HE16.out.2)⟩
     go_simp
     rw [← hx17]
     clear hb hx17
     refine hK _ _ (HS2.out _ K17.out) ?_
     clear hK K
     try simp only [Act.put,List.setIfInBounds_toArray,List.set_cons_zero,List.set_cons_succ]
     have z0':=cell_of_block HBX17.out 0 (v:=.pointer none) rfl
     have z1':=cell_of_block HBX17.out 1 (v:=.slice none 0 0) rfl
     have z2':=cell_of_block HBX17.out 2 (v:=.slice none 0 0) rfl
     have z3':=cell_of_block HBX17.out 3 (v:=.slice none 0 0) rfl
     have f0':=frozen_at HBX17.out 0
     have f1':=frozen_at HBX17.out 1
     have f2':=frozen_at HBX17.out 2
     have f3':=frozen_at HBX17.out 3
     obtain ⟨x18,hx18⟩ : ∃ X,X = ((((x17.setCell ⟨x16.heap.size,0,none⟩ (.pointer (some ⟨cb,0,none⟩))).setCell ⟨x16.heap.size,1,none⟩ (.slice A m k)).setCell ⟨x16.heap.size,2,none⟩ (.slice dp.g nlg dp.ng)).setCell ⟨x16.heap.size,3,none⟩ (.slice E ne ec)):=⟨_,rfl⟩
     have hbz : x18.heap[x16.heap.size]? = some (bodyC cb A m k dp.g nlg dp.ng E ne ec):=by rw [hx18];exact (heap_setCell_at (heap_setCell_at (heap_setCell_at (heap_setCell_at HBX17.out 0 (.pointer (some ⟨cb,0,none⟩))) 1 (.slice A m k)) 2 (.slice dp.g nlg dp.ng)) 3 (.slice E ne ec))
     have hnear : Near (x16.heap.size) x17 x18:=by rw [hx18];exact (((near_set _ 0 _).trans (near_set _ 1 _)).trans (near_set _ 2 _)).trans (near_set _ 3 _)
     have hbe : Below x12.heap.size x17 x18:=by rw [hx18];exact (((((Below.refl x12.heap.size x17).setCell (p:=⟨x16.heap.size,0,none⟩) HAL.out _).setCell (p:=⟨x16.heap.size,1,none⟩) HAL.out _).setCell (p:=⟨x16.heap.size,2,none⟩) HAL.out _).setCell (p:=⟨x16.heap.size,3,none⟩) HAL.out _)
     have HEND:=Lib.hid (And.intro hbz (And.intro (J17.out.trans hbe) (And.intro HE17.out.1 (And.intro (rowMore hnear.size (rowV_near hnear (Nat.le_refl _) HE17.out.2 HNE.out)) HEA.out))))
     have gz:=HS2.out _ (K12.out.chain HEND.out.2.1)
     clear hbz hbe hnear
     refine o1 13 (fun K hK => ?_)
     go_simp
     rw [← hx18]
     refine hK _ _ gz ?_
     clear hK K
     refine wpAnyH_done (by kernel_rfl) ?_ _
     go_wp2
     go_meet
     exact ⟨_,_,E,ne,ec,rfl,rfl,HEND⟩
    ·obtain ⟨x16,hx16⟩ : ∃ X,X = x15.alloc (.cells zBody 171):=⟨_,rfl⟩
     have hb : Below x15.heap.size x15 x16:=by rw [hx16];exact below_alloc x15 _
     have HBX16 : Hid (x16.heap[x15.heap.size]? = some (.cells zBody 171)):=Lib.hid (by rw [hx16];exact heap_of_alloc x15 _)
     have K16:=Lib.hid (K15.out.chain hb)
     have HAL : Hid (x12.heap.size ≤ x15.heap.size):=Lib.hid J15.out.size
     have J16:=Lib.hid (J15.out.chain hb)
     have HRR3_16 : Hid (rn3 = (resL x).length ∧ RowV VPm 2 x16 x16.heap.size (resL x) R3):=Lib.hid ⟨HRR3_15.out.1,rowMore hb.size (rowB vpm_keeps (Nat.le_refl _) hb HRR3_15.out.2)⟩
     have HPX16:=Lib.hid (kept_box hb HPX15.out)
     go_simp
     rw [← hx16]
     clear hb hx16
     refine hK _ _ (HS2.out _ K16.out) ?_
     clear hK K
     try simp only [Act.put,List.setIfInBounds_toArray,List.set_cons_zero,List.set_cons_succ]
     refine o1 10 (fun K hK => ?_)
     obtain ⟨hok,hck⟩:=hOwn.out _ K16.out
     have HC4 : Hid (Calls Tryz.prog 61 #[.slice (some ⟨gp,0,none⟩) 2 2] x16 fun e w' => ∃ v,e = .returned v ∧ w'.ownsRow x16.heap.size 42 2 v (rn3 + nlo) (pcL (resL x) ++ pcL x.lo) ∧ Below x16.heap.size x16 w'):=Lib.hid (concat2 R3 dp.l rn3 rc3 nlo dp.nl gp (resL x) x.lo (by have := HSz.out;have := HRR3_16.out.1;have := HRL.out;omega) x16 (by rw [HRR3_16.out.1];exact pc_reads HRR3_16.out.2) (by rw [HNM.out.2.2.2.2.2.1];exact (pc_reads (pm_rowV hok.2.2.2.2.2.1)).more (Nat.le_trans HN2.out.2.1 K16.out.size)) (cell_of_block HPX16.out 0 rfl) (cell_of_block HPX16.out 1 rfl) (Array.getElem?_eq_some_iff.1 HPX16.out).1)
     have HL4 : Hid (∀ z ∈ bodyAs x,z.t.length ≤ maxLen ∧ z.nm.length ≤ maxLen):=Lib.hid (lens_app (pm_lens' HRR3_16.out.2) (pm_lens' (pm_rowV hok.2.2.2.2.2.1)))
     have HRN3:=Lib.hid HRR3_16.out.1
     clear hok hck
     go_simp
     (with_reducible refine HC4.out.mono ?_)
     rintro e x17 ⟨v,rfl,hv,hb⟩
     obtain ⟨E,ec,rfl,hrow,hadr⟩:=own_pm (l:=bodyAs x) (by unfold bodyAs;rw [pcL_append];exact hv) (by unfold bodyAs;rw [List.length_append];have := HNM.out;have := HRN3.out;omega) HL4.out
     obtain ⟨ne,hne⟩ : ∃ n,n = rn3 + nlo:=⟨_,rfl⟩
     rw [← hne]
     have hne2 : ne = (bodyAs x).length:=by unfold bodyAs;rw [List.length_append,hne];have := HNM.out;have := HRN3.out;omega
     have HEA : Hid (∀ a,E = some a → W2.heap.size ≤ a.block):=Lib.hid (fun a ha => Nat.le_trans K16.out.size (hadr a ha))
     have HNE : Hid (∀ a,E = some a → bodyAs x ≠ [] → a.block ≠ x15.heap.size):=Lib.hid (fun a ha _ => by have h1:=hadr a ha;have h2:=(Array.getElem?_eq_some_iff.1 HBX16.out).1;omega)
     have K17:=Lib.hid (K16.out.chain hb)
     have J17:=Lib.hid (J16.out.chain hb)
     have HBX17:=Lib.hid (kept_box hb HBX16.out)
     have HE17 : Hid (ne = (bodyAs x).length ∧ RowV VPm 2 x17 x17.heap.size (bodyAs x) E):=Lib.hid ⟨hne2,hrow⟩
     clear hv hb hrow hadr hne hne2 HC4
     refine hK _ _ (HS2.out _ K17.out) ?_
     clear hK K
     try simp only [Act.put,List.setIfInBounds_toArray,List.set_cons_zero,List.set_cons_succ]
     refine tk 11 58 (.agg #[.pointer (some ⟨cb,0,none⟩),.slice A m k,.slice dp.g nlg dp.ng,.slice E ne ec]) (HS2.out _ K17.out) ?v ?_
     case v => intro Wx hSx;go_simp
     try simp only [Act.put,List.setIfInBounds_toArray,List.set_cons_zero,List.set_cons_succ]
     have z0':=cell_of_block HBX17.out 0 (v:=.pointer none) rfl
     have z1':=cell_of_block HBX17.out 1 (v:=.slice none 0 0) rfl
     have z2':=cell_of_block HBX17.out 2 (v:=.slice none 0 0) rfl
     have z3':=cell_of_block HBX17.out 3 (v:=.slice none 0 0) rfl
     have f0':=frozen_at HBX17.out 0
     have f1':=frozen_at HBX17.out 1
     have f2':=frozen_at HBX17.out 2
     have f3':=frozen_at HBX17.out 3
     obtain ⟨x18,hx18⟩ : ∃ X,X = ((((x17.setCell ⟨x15.heap.size,0,none⟩ (.pointer (some ⟨cb,0,none⟩))).setCell ⟨x15.heap.size,1,none⟩ (.slice A m k)).setCell ⟨x15.heap.size,2,none⟩ (.slice dp.g nlg dp.ng)).setCell ⟨x15.heap.size,3,none⟩ (.slice E ne ec)):=⟨_,rfl⟩
     have hbz : x18.heap[x15.heap.size]? = some (bodyC cb A m k dp.g nlg dp.ng E ne ec):=by rw [hx18];exact (heap_setCell_at (heap_setCell_at (heap_setCell_at (heap_setCell_at HBX17.out 0 (.pointer (some ⟨cb,0,none⟩))) 1 (.slice A m k)) 2 (.slice dp.g nlg dp.ng)) 3 (.slice E ne ec))
     have hnear : Near (x15.heap.size) x17 x18:=by rw [hx18];exact (((near_set _ 0 _).trans (near_set _ 1 _)).trans (near_set _ 2 _)).trans (near_set _ 3 _)
     have hbe : Below x12.heap.size x17 x18:=by rw [hx18];exact (((((Below.refl x12.heap.size x17).setCell (p:=⟨x15.heap.size,0,none⟩) HAL.out _).setCell (p:=⟨x15.heap.size,1,none⟩) HAL.out _).setCell (p:=⟨x15.heap.size,2,none⟩) HAL.out _).setCell (p:=⟨x15.heap.size,3,none⟩) HAL.out _)
     have HEND:=Lib.hid (And.intro hbz (And.intro (J17.out.trans hbe) (And.intro HE17.out.1 (And.intro (rowMore hnear.size (rowV_near hnear (Nat.le_refl _) HE17.out.2 HNE.out)) HEA.out))))
     have gz:=HS2.out _ (K12.out.chain HEND.out.2.1)
     clear hbz hbe hnear
     refine o1 13 (fun K hK => ?_)
     go_simp
     rw [← hx18]
     refine hK _ _ gz ?_
     clear hK K
     refine wpAnyH_done (by kernel_rfl) ?_ _
     go_wp2
     go_meet
     exact ⟨_,_,E,ne,ec,rfl,rfl,HEND⟩
   ·obtain ⟨x15,hx15⟩ : ∃ X,X = x14.alloc (.cells zBody 171):=⟨_,rfl⟩
    have hb : Below x14.heap.size x14 x15:=by rw [hx15];exact below_alloc x14 _
    have HBX15 : Hid (x15.heap[x14.heap.size]? = some (.cells zBody 171)):=Lib.hid (by rw [hx15];exact heap_of_alloc x14 _)
    have K15:=Lib.hid (K14.out.chain hb)
    have HAL : Hid (x12.heap.size ≤ x14.heap.size):=Lib.hid J14.out.size
    have J15:=Lib.hid (J14.out.chain hb)
    have HRR3_15 : Hid (rn3 = (resL x).length ∧ RowV VPm 2 x15 x15.heap.size (resL x) R3):=Lib.hid ⟨HRR3_14.out.1,rowMore hb.size (rowB vpm_keeps (Nat.le_refl _) hb HRR3_14.out.2)⟩
    go_simp
    rw [← hx15]
    clear hb hx15
    refine hK _ _ (HS2.out _ K15.out) ?_
    clear hK K
    try simp only [Act.put,List.setIfInBounds_toArray,List.set_cons_zero,List.set_cons_succ]
    refine o1 9 (fun K hK => ?_)
    obtain ⟨x16,hx16⟩ : ∃ X,X = x15.alloc (.cells #[.slice R3 rn3 rc3,.slice dp.l nlo dp.nl] 23):=⟨_,rfl⟩
    have hb : Below x15.heap.size x15 x16:=by rw [hx16];exact below_alloc x15 _
    have hpx : x16.heap[x15.heap.size]? = some (.cells #[.slice R3 rn3 rc3,.slice dp.l nlo dp.nl] 23):=by rw [hx16];exact heap_of_alloc x15 _
    have K16:=Lib.hid (K15.out.chain hb)
    have J16:=Lib.hid (J15.out.chain hb)
    have HBX16:=Lib.hid (kept_box hb HBX15.out)
    have HPX16:=Lib.hid hpx
    have HRR3_16 : Hid (rn3 = (resL x).length ∧ RowV VPm 2 x16 x16.heap.size (resL x) R3):=Lib.hid ⟨HRR3_15.out.1,rowMore hb.size (rowB vpm_keeps (Nat.le_refl _) hb HRR3_15.out.2)⟩
    go_simp
    rw [← hx16]
    clear hb hpx hx16
    obtain ⟨gp,hgp⟩ : ∃ g,g = x15.heap.size:=⟨_,rfl⟩
    rw [← hgp] at HPX16 ⊢
    clear hgp
    refine hK _ _ (HS2.out _ K16.out) ?_
    clear hK K
    try simp only [Act.put,List.setIfInBounds_toArray,List.set_cons_zero,List.set_cons_succ]
    refine o1 10 (fun K hK => ?_)
    obtain ⟨hok,hck⟩:=hOwn.out _ K16.out
    have HC4 : Hid (Calls Tryz.prog 61 #[.slice (some ⟨gp,0,none⟩) 2 2] x16 fun e w' => ∃ v,e = .returned v ∧ w'.ownsRow x16.heap.size 42 2 v (rn3 + nlo) (pcL (resL x) ++ pcL x.lo) ∧ Below x16.heap.size x16 w'):=Lib.hid (concat2 R3 dp.l rn3 rc3 nlo dp.nl gp (resL x) x.lo (by have := HSz.out;have := HRR3_16.out.1;have := HRL.out;omega) x16 (by rw [HRR3_16.out.1];exact pc_reads HRR3_16.out.2) (by rw [HNM.out.2.2.2.2.2.1];exact (pc_reads (pm_rowV hok.2.2.2.2.2.1)).more (Nat.le_trans HN2.out.2.1 K16.out.size)) (cell_of_block HPX16.out 0 rfl) (cell_of_block HPX16.out 1 rfl) (Array.getElem?_eq_some_iff.1 HPX16.out).1)
    have HL4 : Hid (∀ z ∈ bodyAs x,z.t.length ≤ maxLen ∧ z.nm.length ≤ maxLen):=Lib.hid (lens_app (pm_lens' HRR3_16.out.2) (pm_lens' (pm_rowV hok.2.2.2.2.2.1)))
    have HRN3:=Lib.hid HRR3_16.out.1
    clear hok hck
    go_simp
    (with_reducible refine HC4.out.mono ?_)
    rintro e x17 ⟨v,rfl,hv,hb⟩
    obtain ⟨E,ec,rfl,hrow,hadr⟩:=own_pm (l:=bodyAs x) (by unfold bodyAs;rw [pcL_append];exact hv) (by unfold bodyAs;rw [List.length_append];have := HNM.out;have := HRN3.out;omega) HL4.out
    obtain ⟨ne,hne⟩ : ∃ n,n = rn3 + nlo:=⟨_,rfl⟩
    rw [← hne]
    have hne2 : ne = (bodyAs x).length:=by unfold bodyAs;rw [List.length_append,hne];have := HNM.out;have := HRN3.out;omega
    have HEA : Hid (∀ a,E = some a → W2.heap.size ≤ a.block):=Lib.hid (fun a ha => Nat.le_trans K16.out.size (hadr a ha))
    have HNE : Hid (∀ a,E = some a → bodyAs x ≠ [] → a.block ≠ x14.heap.size):=Lib.hid (fun a ha _ => by have h1:=hadr a ha;have h2:=(Array.getElem?_eq_some_iff.1 HBX16.out).1;omega)
    have K17:=Lib.hid (K16.out.chain hb)
    have J17:=Lib.hid (J16.out.chain hb)
    have HBX17:=Lib.hid (kept_box hb HBX16.out)
    have HE17 : Hid (ne = (bodyAs x).length ∧ RowV VPm 2 x17 x17.heap.size (bodyAs x) E):=Lib.hid ⟨hne2,hrow⟩
    clear hv hb hrow hadr hne hne2 HC4
    refine hK _ _ (HS2.out _ K17.out) ?_
    clear hK K
    try simp only [Act.put,List.setIfInBounds_toArray,List.set_cons_zero,List.set_cons_succ]
    refine tk 11 58 (.agg #[.pointer (some ⟨cb,0,none⟩),.slice A m k,.slice dp.g nlg dp.ng,.slice E ne ec]) (HS2.out _ K17.out) ?v ?_
    case v => intro Wx hSx;go_simp
    try simp only [Act.put,List.setIfInBounds_toArray,List.set_cons_zero,List.set_cons_succ]
    have z0':=cell_of_block HBX17.out 0 (v:=.pointer none) rfl
    have z1':=cell_of_block HBX17.out 1 (v:=.slice none 0 0) rfl
    have z2':=cell_of_block HBX17.out 2 (v:=.slice none 0 0) rfl
    have z3':=cell_of_block HBX17.out 3 (v:=.slice none 0 0) rfl
    have f0':=frozen_at HBX17.out 0
    have f1':=frozen_at HBX17.out 1
    have f2':=frozen_at HBX17.out 2
    have f3':=frozen_at HBX17.out 3
    obtain ⟨x18,hx18⟩ : ∃ X,X = ((((x17.setCell ⟨x14.heap.size,0,none⟩ (.pointer (some ⟨cb,0,none⟩))).setCell ⟨x14.heap.size,1,none⟩ (.slice A m k)).setCell ⟨x14.heap.size,2,none⟩ (.slice dp.g nlg dp.ng)).setCell ⟨x14.heap.size,3,none⟩ (.slice E ne ec)):=⟨_,rfl⟩
    have hbz : x18.heap[x14.heap.size]? = some (bodyC cb A m k dp.g nlg dp.ng E ne ec):=by rw [hx18];exact (heap_setCell_at (heap_setCell_at (heap_setCell_at (heap_setCell_at HBX17.out 0 (.pointer (some ⟨cb,0,none⟩))) 1 (.slice A m k)) 2 (.slice dp.g nlg dp.ng)) 3 (.slice E ne ec))
    have hnear : Near (x14.heap.size) x17 x18:=by rw [hx18];exact (((near_set _ 0 _).trans (near_set _ 1 _)).trans (near_set _ 2 _)).trans (near_set _ 3 _)
    have hbe : Below x12.heap.size x17 x18:=by rw [hx18];exact (((((Below.refl x12.heap.size x17).setCell (p:=⟨x14.heap.size,0,none⟩) HAL.out _).setCell (p:=⟨x14.heap.size,1,none⟩) HAL.out _).setCell (p:=⟨x14.heap.size,2,none⟩) HAL.out _).setCell (p:=⟨x14.heap.size,3,none⟩) HAL.out _)
    have HEND:=Lib.hid (And.intro hbz (And.intro (J17.out.trans hbe) (And.intro HE17.out.1 (And.intro (rowMore hnear.size (rowV_near hnear (Nat.le_refl _) HE17.out.2 HNE.out)) HEA.out))))
    have gz:=HS2.out _ (K12.out.chain HEND.out.2.1)
    clear hbz hbe hnear
    refine o1 13 (fun K hK => ?_)
    go_simp
    rw [← hx18]
    refine hK _ _ gz ?_
    clear hK K
    refine wpAnyH_done (by kernel_rfl) ?_ _
    go_wp2
    go_meet
    exact ⟨_,_,E,ne,ec,rfl,rfl,HEND⟩
  ·obtain ⟨x14,hx14⟩ : ∃ X,X = x13.alloc (.cells zBody 171):=⟨_,rfl⟩
   have hb : Below x13.heap.size x13 x14:=by rw [hx14];exact below_alloc x13 _
   have HBX14 : Hid (x14.heap[x13.heap.size]? = some (.cells zBody 171)):=Lib.hid (by rw [hx14];exact heap_of_alloc x13 _)
   have K14:=Lib.hid (K13.out.chain hb)
   have HAL : Hid (x12.heap.size ≤ x13.heap.size):=Lib.hid J13.out.size
   have J14:=Lib.hid (J13.out.chain hb)
   go_simp
   rw [← hx14]
   clear hb hx14
   refine hK _ _ (HS2.out _ K14.out) ?_
   clear hK K
   try simp only [Act.put,List.setIfInBounds_toArray,List.set_cons_zero,List.set_cons_succ]
   refine o1 6 (fun K hK => ?_)
   go_simp
   (with_reducible refine (HRs.out _).mono ?_)
   rintro e x15 ⟨⟨R3,rn3,rc3,rfl,hrn,hrow⟩,hb⟩
   have K15:=Lib.hid (K14.out.chain hb)
   have J15:=Lib.hid (J14.out.chain hb)
   have HBX15:=Lib.hid (kept_box hb HBX14.out)
   have HRR3_15 : Hid (rn3 = (resL x).length ∧ RowV VPm 2 x15 x15.heap.size (resL x) R3):=Lib.hid ⟨hrn,hrow⟩
   clear hb hrn hrow
   refine hK _ _ (HS2.out _ K15.out) ?_
   clear hK K
   try simp only [Act.put,List.setIfInBounds_toArray,List.set_cons_zero,List.set_cons_succ]
   refine o1 9 (fun K hK => ?_)
   obtain ⟨x16,hx16⟩ : ∃ X,X = x15.alloc (.cells #[.slice R3 rn3 rc3,.slice dp.l nlo dp.nl] 23):=⟨_,rfl⟩
   have hb : Below x15.heap.size x15 x16:=by rw [hx16];exact below_alloc x15 _
   have hpx : x16.heap[x15.heap.size]? = some (.cells #[.slice R3 rn3 rc3,.slice dp.l nlo dp.nl] 23):=by rw [hx16];exact heap_of_alloc x15 _
   have K16:=Lib.hid (K15.out.chain hb)
   have J16:=Lib.hid (J15.out.chain hb)
   have HBX16:=Lib.hid (kept_box hb HBX15.out)
   have HPX16:=Lib.hid hpx
   have HRR3_16 : Hid (rn3 = (resL x).length ∧ RowV VPm 2 x16 x16.heap.size (resL x) R3):=Lib.hid ⟨HRR3_15.out.1,rowMore hb.size (rowB vpm_keeps (Nat.le_refl _) hb HRR3_15.out.2)⟩
   go_simp
   rw [← hx16]
   clear hb hpx hx16
   obtain ⟨gp,hgp⟩ : ∃ g,g = x15.heap.size:=⟨_,rfl⟩
   rw [← hgp] at HPX16 ⊢
   clear hgp
   refine hK _ _ (HS2.out _ K16.out) ?_
   clear hK K
   try simp only [Act.put,List.setIfInBounds_toArray,List.set_cons_zero,List.set_cons_succ]
   refine o1 10 (fun K hK => ?_)
   obtain ⟨hok,hck⟩:=hOwn.out _ K16.out
   have HC4 : Hid (Calls Tryz.prog 61 #[.slice (some ⟨gp,0,none⟩) 2 2] x16 fun e w' => ∃ v,e = .returned v ∧ w'.ownsRow x16.heap.size 42 2 v (rn3 + nlo) (pcL (resL x) ++ pcL x.lo) ∧ Below x16.heap.size x16 w'):=Lib.hid (concat2 R3 dp.l rn3 rc3 nlo dp.nl gp (resL x) x.lo (by have := HSz.out;have := HRR3_16.out.1;have := HRL.out;omega) x16 (by rw [HRR3_16.out.1];exact pc_reads HRR3_16.out.2) (by rw [HNM.out.2.2.2.2.2.1];exact (pc_reads (pm_rowV hok.2.2.2.2.2.1)).more (Nat.le_trans HN2.out.2.1 K16.out.size)) (cell_of_block HPX16.out 0 rfl) (cell_of_block HPX16.out 1 rfl) (Array.getElem?_eq_some_iff.1 HPX16.out).1)
   have HL4 : Hid (∀ z ∈ bodyAs x,z.t.length ≤ maxLen ∧ z.nm.length ≤ maxLen):=Lib.hid (lens_app (pm_lens' HRR3_16.out.2) (pm_lens' (pm_rowV hok.2.2.2.2.2.1)))
   have HRN3:=Lib.hid HRR3_16.out.1
   clear hok hck
   go_simp
   (with_reducible refine HC4.out.mono ?_)
   rintro e x17 ⟨v,rfl,hv,hb⟩
   obtain ⟨E,ec,rfl,hrow,hadr⟩:=own_pm (l:=bodyAs x) (by unfold bodyAs;rw [pcL_append];exact hv) (by unfold bodyAs;rw [List.length_append];have := HNM.out;have := HRN3.out;omega) HL4.out
   obtain ⟨ne,hne⟩ : ∃ n,n = rn3 + nlo:=⟨_,rfl⟩
   rw [← hne]
   have hne2 : ne = (bodyAs x).length:=by unfold bodyAs;rw [List.length_append,hne];have := HNM.out;have := HRN3.out;omega
   have HEA : Hid (∀ a,E = some a → W2.heap.size ≤ a.block):=Lib.hid (fun a ha => Nat.le_trans K16.out.size (hadr a ha))
   have HNE : Hid (∀ a,E = some a → bodyAs x ≠ [] → a.block ≠ x13.heap.size):=Lib.hid (fun a ha _ => by have h1:=hadr a ha;have h2:=(Array.getElem?_eq_some_iff.1 HBX16.out).1;omega)
   have K17:=Lib.hid (K16.out.chain hb)
   have J17:=Lib.hid (J16.out.chain hb)
   have HBX17:=Lib.hid (kept_box hb HBX16.out)
   have HE17 : Hid (ne = (bodyAs x).length ∧ RowV VPm 2 x17 x17.heap.size (bodyAs x) E):=Lib.hid ⟨hne2,hrow⟩
   clear hv hb hrow hadr hne hne2 HC4
   refine hK _ _ (HS2.out _ K17.out) ?_
   clear hK K
   try simp only [Act.put,List.setIfInBounds_toArray,List.set_cons_zero,List.set_cons_succ]
   refine tk 11 58 (.agg #[.pointer (some ⟨cb,0,none⟩),.slice A m k,.slice dp.g nlg dp.ng,.slice E ne ec]) (HS2.out _ K17.out) ?v ?_
   case v => intro Wx hSx;go_simp
   try simp only [Act.put,List.setIfInBounds_toArray,List.set_cons_zero,List.set_cons_succ]
   have z0':=cell_of_block HBX17.out 0 (v:=.pointer none) rfl
   have z1':=cell_of_block HBX17.out 1 (v:=.slice none 0 0) rfl
   have z2':=cell_of_block HBX17.out 2 (v:=.slice none 0 0) rfl
   have z3':=cell_of_block HBX17.out 3 (v:=.slice none 0 0) rfl
   have f0':=frozen_at HBX17.out 0
   have f1':=frozen_at HBX17.out 1
   have f2':=frozen_at HBX17.out 2
   have f3':=frozen_at HBX17.out 3
   obtain ⟨x18,hx18⟩ : ∃ X,X = ((((x17.setCell ⟨x13.heap.size,0,none⟩ (.pointer (some ⟨cb,0,none⟩))).setCell ⟨x13.heap.size,1,none⟩ (.slice A m k)).setCell ⟨x13.heap.size,2,none⟩ (.slice dp.g nlg dp.ng)).setCell ⟨x13.heap.size,3,none⟩ (.slice E ne ec)):=⟨_,rfl⟩
   have hbz : x18.heap[x13.heap.size]? = some (bodyC cb A m k dp.g nlg dp.ng E ne ec):=by rw [hx18];exact (heap_setCell_at (heap_setCell_at (heap_setCell_at (heap_setCell_at HBX17.out 0 (.pointer (some ⟨cb,0,none⟩))) 1 (.slice A m k)) 2 (.slice dp.g nlg dp.ng)) 3 (.slice E ne ec))
   have hnear : Near (x13.heap.size) x17 x18:=by rw [hx18];exact (((near_set _ 0 _).trans (near_set _ 1 _)).trans (near_set _ 2 _)).trans (near_set _ 3 _)
   have hbe : Below x12.heap.size x17 x18:=by rw [hx18];exact (((((Below.refl x12.heap.size x17).setCell (p:=⟨x13.heap.size,0,none⟩) HAL.out _).setCell (p:=⟨x13.heap.size,1,none⟩) HAL.out _).setCell (p:=⟨x13.heap.size,2,none⟩) HAL.out _).setCell (p:=⟨x13.heap.size,3,none⟩) HAL.out _)
   have HEND:=Lib.hid (And.intro hbz (And.intro (J17.out.trans hbe) (And.intro HE17.out.1 (And.intro (rowMore hnear.size (rowV_near hnear (Nat.le_refl _) HE17.out.2 HNE.out)) HEA.out))))
   have gz:=HS2.out _ (K12.out.chain HEND.out.2.1)
   clear hbz hbe hnear
   refine o1 13 (fun K hK => ?_)
   go_simp
   rw [← hx18]
   refine hK _ _ gz ?_
   clear hK K
   refine wpAnyH_done (by kernel_rfl) ?_ _
   go_wp2
   go_meet
   exact ⟨_,_,E,ne,ec,rfl,rfl,HEND⟩
 case rest =>
  obtain ⟨g,W,E,ke,ec,rfl,rfl,H⟩:=hcut
  have HW:=Lib.hid (K12.out.chain H.out.2.1)
  have gW:=HS2.out _ HW.out
  obtain ⟨-,-,-,-,-,-,-,z11⟩:=HLD.out _ gW
  have x0:=cell_of_block H.out.1 0 (v:=.pointer (some ⟨cb,0,none⟩)) rfl
  have x1':=cell_of_block H.out.1 1 (v:=.slice A m k) rfl
  have x2':=cell_of_block H.out.1 2 (v:=.slice dp.g nlg dp.ng) rfl
  have x3':=cell_of_block H.out.1 3 (v:=.slice E ke ec) rfl
  obtain ⟨hoW,hcW⟩:=hOwn.out _ HW.out
  have hk : ke ≤ maxLen:=by
   rw [H.out.2.2.1]
   unfold bodyAs maxLen
   rw [List.length_append]
   have := resL_le x
   have := HSz.out
   have := HNM.out
   omega
  have hrA : RowV VPm 2 W W.heap.size (scopeL p.gs x) A:=rowMore (Nat.le_trans M12.out.size H.out.2.1.size) (rowB vpm_keeps (Nat.le_refl _) (M12.out.chain H.out.2.1) HA.out.2.1)
  have hrD : RowV VPm 2 W W.heap.size x.lg dp.g:=rowMore (Nat.le_trans HN2.out.2.1 HW.out.size) (pm_rowV hoW.2.2.1)
  have hle : B0 ≤ cb:=hcW.le
  have hBd : BodyAt W W.heap.size cb (scopeL p.gs x) x.lg (bodyAs x) A m dp.g nlg E ke :=
   ⟨⟨HA.out.1,by have := HM.out;unfold maxLen;omega,HNM.out.2.2.1,by rw [HNM.out.2.2.1];exact hoW.1.2.2.1,Nat.le_refl _,hrA,hrD⟩,H.out.2.2.2.1,H.out.2.2.1,hk,fun a ha _ => by have := HA.out.2.2 a ha;have := HN2.out.2.2;omega,pm_ne hoW.2.2.1 hle,fun a ha _ => by have := H.out.2.2.2.2 a ha;have := HN2.out.2.2;omega⟩
  have HSts:=Lib.hid (stmts_at p d B0 W.heap.size cb (scopeL p.gs x) x.lg (bodyAs x) ⟨A,m,k,dp.g,nlg,dp.ng,E,ke,ec⟩ P HOK.out.2.2.1 (HOK.out.2.2.2.2 W.heap.size ⟨A,m,k,dp.g,nlg,dp.ng,E,ke,ec⟩) _ x.bd (Nat.lt_succ_self _) HOK.out.2.2.2.1 dp.b nbd dp.nb W (ln,co) HNM.out.2.2.2.2.2.2 hoW.2.2.2.2.2.2 hoW.1.2.2.2.2.2.2.2.2 hcW hBd)
  rw [← HRB.out] at HSts
  clear hoW hcW hk hrA hrD hle hBd
  go_wp2_with fail
  clear z11 x0 x1' x2' x3'
  (with_reducible refine HSts.out.mono ?_)
  rintro e w9 ⟨he,hn9,hbx9⟩
  have HE:=Lib.hid (And.intro (HN2.out.1.trans ((near_of HW.out).trans hn9)) hbx9)
  clear hn9 hbx9
  rcases ck_then (c2:=none) he with ⟨h1,rfl⟩ | ⟨t,h1,rfl⟩
  ·go_wp2
   exact bodyPost_end (results_none rfl _ _ _) rfl ⟨he,HE.out.1,HE.out.2⟩
  ·exact ⟨rfl,he,HE.out.1,HE.out.2⟩
end Go.Proofs.YtojjfdegkooknaaGreatDoor
