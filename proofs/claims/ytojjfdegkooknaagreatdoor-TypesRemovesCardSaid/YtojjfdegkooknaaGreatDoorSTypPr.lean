import Derived.Test.YtojjfdegkooknaaGreatDoorSTypFq
import Derived.Test.YtojjfdegkooknaaGreatDoorSTypSu
set_option linter.unusedVariables false
set_option linter.unusedSimpArgs false
namespace Go.Proofs.YtojjfdegkooknaaGreatDoor
set_option maxRecDepth 100000
set_option maxHeartbeats 16000000
open Go.RowKit Go.Lib
theorem xN {w : World} {B B' : Nat} (hB : B <= B') {l : List Pm} {A : Option Addr} (h : qD zp 2 w B l A) : qD zp 2 w B' l A:=by
 intro i x hi
 obtain ⟨a,cs,h1,h2,h3,h4,h5⟩:=h i x hi
 exact ⟨a,cs,h1,Nat.lt_of_lt_of_le h2 hB,h3,h4,h5⟩
theorem qu8 {w : World} {B cb : Nat} {l : List Pm} {A : Option Addr} (h : yT w B l A) (hB : B <= cb) : ∀ a,A = some a -> l ≠ [] -> a.block ≠ cb:=by
 intro a ha hl
 cases h with
 | nil => exact absurd rfl hl
 | row b es hb cells =>
   obtain rfl:=Option.some.inj ha
   exact Nat.ne_of_lt (Nat.lt_of_lt_of_le hb hB)
theorem qtj {w : World} {B : Nat} {l : List Pm} {A : Option Addr} (h : qD zp 2 w B l A) : ∀ a,A = some a -> l ≠ [] -> a.block ≠ B:=by
 intro a ha hl
 obtain ⟨x,hx⟩ : ∃ x,l[0]? = some x:=by
  cases l with
  | nil => exact absurd rfl hl
  | cons x l => exact ⟨x,rfl⟩
 obtain ⟨b,cs,h1,h2,_⟩:=h 0 x hx
 obtain rfl:=Option.some.inj (ha.symm.trans h1)
 exact Nat.ne_of_lt h2
abbrev qdR : Array Value:=#[.pointer none,.slice none 0 0,.slice none 0 0,.slice none 0 0]
theorem qew {w : World} {base n : Nat} {v : Value} {l : List Pm} (h : w.ownsRow base 42 2 v n (qY l)) (hn : n = l.length) (hl : ∀ x ∈ l,x.t.length <= maxLen /\ x.nm.length <= maxLen) :
 ∃ A c,v = .slice A n c /\ qD zp 2 w w.heap.size l A /\ ∀ a,A = some a -> base <= a.block:=by
 obtain ⟨A,c,rfl⟩:=yq h
 exact ⟨A,c,rfl,qhH hn (qI.of_own h) hl,qg7 h⟩
theorem qbi {l m : List Pm} (h1 : ∀ x ∈ l,x.t.length <= maxLen /\ x.nm.length <= maxLen) (h2 : ∀ x ∈ m,x.t.length <= maxLen /\ x.nm.length <= maxLen) : ∀ x ∈ l ++ m,x.t.length <= maxLen /\ x.nm.length <= maxLen:=by
 intro x hx
 rcases List.mem_append.1 hx with h | h
 ·exact h1 x h
 ·exact h2 x h
theorem qne : ∃ (T N : Nat),46 = T /\ N = 12 /\ (∀ w : World,(isAgg T).run Tryz.prog w = .ok true w) /\ (∀ w : World,(sizeOf T).run Tryz.prog w = .ok N w) :=
 ⟨_,12,rfl,rfl,fun w => by kernel_rfl,fun w => by kernel_rfl⟩
theorem qiT (p : Pg) (d : GAd) (B0 cb : Nat) (x : Pr) (hrq : ∀ f ∈ x.rq,qc0 p d B0 cb f) (hes : ∀ f ∈ x.es,qc0 p d B0 cb f) (P : St -> Prop) (hP : qk9 P) (hgood : ∀ s ∈ x.bd,P s)
 (zv : ∀ (B1 : Nat) (b : BAd) (s : St),P s -> qa3 p d B0 B1 cb (yE p.gs x) x.lg (zk x) b s) (qK : p.gs.length + x.ps.length + x.lg.length + x.lo.length <= 3999998000000) (cs : Array Value) (w : World) (q : Int × Int) (hv : xP w B0 cs x) (hC : ChkW w B0 cb d p q) :
 Calls Tryz.prog 77 #[.pointer (some ⟨cb,0,none⟩),.agg cs] w (qaW (prC p x) cb d p w):=by
 obtain ⟨dp,qn,qA⟩:=hv
 obtain ⟨T,N,hT,hN,hag,qhc⟩:=qne
 have e1 : ∀ y : Operand,Op.load 46 y = Op.load T y:=fun y => by rw [hT]
 have e4 : ∀ y : Operand,Op.box 46 y = Op.box T y:=fun y => by rw [hT]
 have qu : cs.size = N:=by rw [hN,qn];rfl
 obtain ⟨nps,qm9⟩ : ∃ n,n = x.ps.length:=⟨_,rfl⟩
 obtain ⟨nlg,qnb⟩ : ∃ n,n = x.lg.length:=⟨_,rfl⟩
 obtain ⟨nrq,qqp⟩ : ∃ n,n = x.rq.length:=⟨_,rfl⟩
 obtain ⟨nes,qqq⟩ : ∃ n,n = x.es.length:=⟨_,rfl⟩
 obtain ⟨nlo,qna⟩ : ∃ n,n = x.lo.length:=⟨_,rfl⟩
 obtain ⟨nbd,qfY⟩ : ∃ n,n = x.bd.length:=⟨_,rfl⟩
 obtain ⟨ng,hng⟩ : ∃ n,n = p.gs.length:=⟨_,rfl⟩
 obtain ⟨ln,jC⟩ : ∃ n,n = x.ln:=⟨_,rfl⟩
 obtain ⟨co,hco⟩ : ∃ n,n = x.co:=⟨_,rfl⟩
 have k1 : cs[1]? = some (.int .i64 ln):=by rw [qn,jC];rfl
 have k2 : cs[2]? = some (.int .i64 co):=by rw [qn,hco];rfl
 have kk : cs[3]? = some (.slice dp.p nps dp.np) /\ cs[4]? = some (.slice dp.g nlg dp.ng) /\ cs[8]? = some (.slice dp.r nrq dp.nr) /\ cs[9]? = some (.slice dp.e nes dp.ne) /\ cs[10]? = some (.slice dp.l nlo dp.nl) /\ cs[11]? = some (.slice dp.b nbd dp.nb):=by
  rw [qn,qm9,qnb,qqp,qqq,qna,qfY]
  exact ⟨rfl,rfl,rfl,rfl,rfl,rfl⟩
 obtain ⟨W1,qh⟩ : ∃ W1,W1 = w.alloc (.cells cs T):=⟨_,rfl⟩
 have qk : Below w.heap.size w W1:=by rw [qh];exact qd w _
 have yc : W1.heap[w.heap.size]? = some (.cells cs T):=by rw [qh];exact qe w _
 have jt : w.heap.size ≠ cb:=by have := hC.lt;omega
 obtain ⟨W2,xB⟩ : ∃ W2,W2 = (W1.setCell ⟨cb,6,none⟩ (.int .i64 ln)).setCell ⟨cb,7,none⟩ (.int .i64 co):=⟨_,rfl⟩
 have qfZ : Near cb W1 W2:=by rw [xB];exact (yi W1 6 _).trans (yi _ 7 _)
 have qgx:=(hC.on qk).box
 have qrz : W2.heap[cb]? = some (qbQ d p (ln,co)):=by rw [xB];exact qC (qC qgx 6 (.int .i64 ln)) 7 (.int .i64 co)
 have hn2 : Near cb w W2:=(yH qk).trans qfZ
 have hp2 : W2.heap[w.heap.size]? = some (.cells cs T):=(qfZ.block _ (Array.getElem?_eq_some_iff.1 yc).1 jt).trans yc
 have hC2 : ChkW W2 B0 cb d p (ln,co):=hC.near hn2 qrz
 have qaK : B0 <= w.heap.size:=Nat.le_trans hC.le (Nat.le_of_lt hC.lt)
 have jY : xJ W2 B0 dp x:=qA.keep (fun z hz => xt hn2 (Nat.lt_of_lt_of_le hz qaK) (Nat.ne_of_lt (Nat.lt_of_lt_of_le hz hC.le))) (Nat.le_refl _)
 have qqC : B0 <= W2.heap.size:=Nat.le_trans qaK hn2.size
 have qcY : Hid (∀ W,Below W2.heap.size W2 W -> xJ W B0 dp x /\ ChkW W B0 cb d p (ln,co)):=hZ (fun W hb => ⟨jY.keep (fun z hz => hb.cell (Nat.lt_of_lt_of_le hz qqC)) (Nat.le_refl _),hC2.on hb⟩)
 obtain ⟨S,hS⟩ : ∃ S : World -> Prop,S = fun W => Below W2.heap.size W2 W:=⟨_,rfl⟩
 have qo : Hid (∀ W,Below W2.heap.size W2 W -> S W):=hZ (fun W hb => by rw [hS];exact hb)
 have qX : Hid (∀ W,S W -> W.cell? ⟨cb,1,none⟩ = some (.slice d.g ng d.ng) /\ (loadCellsFrom ⟨w.heap.size,0,none⟩ 0 N #[]).run Tryz.prog W = .ok cs W /\ W.cell? ⟨w.heap.size,3,none⟩ = some (.slice dp.p nps dp.np) /\ W.cell? ⟨w.heap.size,4,none⟩ = some (.slice dp.g nlg dp.ng) /\ W.cell? ⟨w.heap.size,8,none⟩ = some (.slice dp.r nrq dp.nr) /\ W.cell? ⟨w.heap.size,9,none⟩ = some (.slice dp.e nes dp.ne) /\ W.cell? ⟨w.heap.size,10,none⟩ = some (.slice dp.l nlo dp.nl) /\ W.cell? ⟨w.heap.size,11,none⟩ = some (.slice dp.b nbd dp.nb)):=hZ (fun W hs => by
  rw [hS] at hs
  have hq:=qg hs hp2
  exact ⟨by rw [hng];exact (qcY.out W hs).2.at_.c1,zI hq qu,qc hq 3 kk.1,qc hq 4 kk.2.1,qc hq 8 kk.2.2.1,qc hq 9 kk.2.2.2.1,qc hq 10 kk.2.2.2.2.1,qc hq 11 kk.2.2.2.2.2⟩)
 have HN2:=hZ (aZ hn2 (aZ qqC hC2.lt))
 have HSz : Hid (ng + nps + nlg + nlo <= 3999998000000):=hZ (by rw [hng,qm9,qnb,qna];exact qK)
 have vB:=hZ (aZ hng (aZ qm9 (aZ qnb (aZ qqp (aZ qqq (aZ qna qfY))))))
 have HLen : Hid (x.rt.length <= maxLen /\ x.rn.length <= maxLen):=hZ ⟨qA.1.2.2.2.1,qA.1.2.2.2.2.1⟩
 have HCS:=hZ qn
 have HOK:=hZ (aZ hrq (aZ hes (aZ hP (aZ hgood zv))))
 -- what is thrown
 obtain ⟨R,hR⟩ : ∃ R,R = prC p x:=⟨_,rfl⟩
 obtain ⟨r1,yO⟩ : ∃ r,r = yU p.rs (yE p.gs x):=⟨_,rfl⟩
 obtain ⟨r2,zW⟩ : ∃ r,r = xH p (p.gs ++ x.ps ++ x.lg) x.rq:=⟨_,rfl⟩
 obtain ⟨r3,hr3⟩ : ∃ r,r = xH p (p.gs ++ x.ps ++ x.lg ++ yb x) x.es:=⟨_,rfl⟩
 have HR : Hid (R = vm (zw r1 (zw r2 r3),(ln,co)) fun q => yg p (yE p.gs x) x.lg (zk x) q x.bd):=hZ (by rw [hR,yO,zW,hr3,jC,hco];rfl)
 have HRR:=hZ (aZ yO (aZ zW hr3))
 rw [<- hR]
 have zE : Tryz.prog.follows .mixedOrders = true:=by kernel_rfl
 have z1:=qc yc 1 k1
 have z2:=qc yc 2 k2
 have y6:=qc qgx 6 (v:=.int .i64 q.1) rfl
 have y7:=qc qgx 7 (v:=.int .i64 q.2) rfl
 have f6:=zh qgx 6
 have f7:=zh qgx 7
 have K0:=hZ (Below.refl W2.heap.size W2)
 have qbW : Hid (∀ (t : jl) (W : World),Below W2.heap.size W2 W -> R = (some t,(ln,co)) -> qaW R cb d p w (.panicked [{ v:=qfI t,recovered:=false }]) W):=hZ (fun t W hb hr => by
  rw [hr]
  exact ⟨rfl,hn2.trans (yH hb),((qcY.out W hb).2).box⟩)
 clear hrq hes hP hgood zv qK hC qA qn hN qm9 qnb qqp qqq qna qfY hng jC hco k1 k2 kk qk yc jt qfZ qgx qrz hn2 hp2 hC2 qaK jY qqC hS hR yO zW hr3 qu
 rw [qh] at z1 z2 y6 y7 f6 f7
 go_enter Tryz.func77,Tryz.ntmps77
 simp only [e1,e4]
 clear e1 e4 hT
 go_upto_region 2 with fail
 rw [<- qh,<- xB]
 clear z1 z2 y6 y7 f6 f7 qh xB
 have K1:=hZ (K0.out.chain (Below.refl W2.heap.size W2).drew)
 obtain ⟨x1,jL⟩ : ∃ X,X = W2.drew:=⟨_,rfl⟩
 go_wp2
 refine wp_region_held (S:=S) zE ?_
 change wpAnyH _ _ _ _ _ 8 #[false,false,false,false,false,false,false,false] _ W2.drew
 rw [<- jL] at K1 ⊢
 clear jL
 have g1:=qo.out _ K1.out
 refine tk 0 12 (.pointer (some ⟨cb,0,none⟩)) g1 ?v ?_
 case v => intro Wx hSx;go_simp
 refine tk 1 13 (.pointer (some ⟨cb,0,none⟩)) g1 ?v ?_
 case v => intro Wx hSx;go_simp
 refine tk 2 14 (.pointer (some ⟨cb,0,none⟩)) g1 ?v ?_
 case v => intro Wx hSx;go_simp
 refine tk 3 15 (.pointer (some ⟨cb,1,none⟩)) g1 ?v ?_
 case v => intro Wx hSx;go_simp
 try simp only [qf]
 refine tk 4 16 (.slice d.g ng d.ng) g1 ?v ?_
 case v => intro Wx hSx;obtain ⟨z0,z1,z2,z3,z4,z5,z6,z7⟩:=qX.out Wx hSx;go_simp
 refine tk 5 17 (.agg cs) g1 ?v ?_
 case v => intro Wx hSx;obtain ⟨z0,z1,z2,z3,z4,z5,z6,z7⟩:=qX.out Wx hSx;go_simp
 try simp only [qf]
 -- scopeOf
 refine o1 6 (fun K hK => ?_)
 go_simp
 have hs0:=qcY.out _ K1.out
 have HSc:=hZ (qnY p.gs x dp d.g ng d.ng B0 vB.out.1 x1 (Nat.le_trans HN2.out.2.1 K1.out.size) (zm hs0.2.own.2.2.1) hs0.1 (by have := HSz.out;have := vB.out;omega))
 rw [<- HCS.out] at HSc
 clear hs0
 (with_reducible refine HSc.out.mono ?_)
 rintro e x2 ⟨⟨A,m,k,rfl,hm,qL,qaI⟩,hb⟩
 have K2:=hZ (K1.out.chain hb)
 have M2:=hZ (Below.refl x2.heap.size x2)
 have HA:=hZ (aZ hm (aZ qL (fun a ha => Nat.le_trans K1.out.size (qaI a ha) : ∀ a,A = some a -> W2.heap.size <= a.block)))
 clear hb hm qL qaI HSc
 have g2:=qo.out _ K2.out
 refine hK _ _ g2 ?_
 clear hK K
 try simp only [qf]
 refine tk 7 4 (.slice A m k) g2 ?v ?_
 case v => intro Wx hSx;go_simp
 try simp only [qf]
 refine wpAnyH_done (by kernel_rfl) ?_ _
 -- params
 have HM : Hid (m <= 3999998000001):=hZ (by
  rw [HA.out.1]
  unfold yE
  simp only [List.length_append]
  have := qgo x
  have := HSz.out
  have := vB.out
  omega)
 have hs2:=(qcY.out _ K2.out).2.at_
 have HPm:=hZ (qcr p d B0 cb (yE p.gs x) A k m HA.out.1 (by have := HM.out;unfold maxLen;omega) x2.heap.size x2 (Nat.le_refl _) HA.out.2.1 hs2)
 rw [<- HRR.out.1] at HPm
 clear hs2
 go_wp2_with fail
 (with_reducible refine HPm.out.mono ?_)
 rintro e x3 ⟨he,hb⟩
 have K3:=hZ (K2.out.chain hb)
 have M3:=hZ (M2.out.chain hb)
 clear hb HPm
 cases r1 with
 | some t =>
   obtain rfl : e = _:=he
   exact ⟨rfl,qbW.out t x3 K3.out HR.out⟩
 | none =>
 obtain rfl : e = _:=he
 -- before
 have K4:=hZ (K3.out.chain (Below.refl x3.heap.size x3).drew)
 have M4:=hZ (M3.out.chain (Below.refl x3.heap.size x3).drew)
 obtain ⟨x4,hx4⟩ : ∃ X,X = x3.drew:=⟨_,rfl⟩
 go_wp2
 refine wp_region_held (S:=S) zE ?_
 change wpAnyH _ _ _ _ _ 12 #[false,false,false,false,false,false,false,false,false,false,false,false] _ x3.drew
 rw [<- hx4] at K4 M4 ⊢
 clear hx4
 have g4:=qo.out _ K4.out
 refine tk 0 22 (.pointer (some ⟨cb,0,none⟩)) g4 ?v ?_
 case v => intro Wx hSx;go_simp
 refine tk 1 23 (.pointer (some ⟨cb,0,none⟩)) g4 ?v ?_
 case v => intro Wx hSx;go_simp
 refine tk 2 24 (.pointer (some ⟨cb,0,none⟩)) g4 ?v ?_
 case v => intro Wx hSx;go_simp
 refine tk 3 25 (.pointer (some ⟨cb,1,none⟩)) g4 ?v ?_
 case v => intro Wx hSx;go_simp
 try simp only [qf]
 refine tk 4 26 (.slice d.g ng d.ng) g4 ?v ?_
 case v => intro Wx hSx;obtain ⟨z0,z1,z2,z3,z4,z5,z6,z7⟩:=qX.out Wx hSx;go_simp
 refine tk 5 27 (.pointer (some ⟨w.heap.size,3,none⟩)) g4 ?v ?_
 case v => intro Wx hSx;go_simp
 refine tk 6 28 (.slice dp.p nps dp.np) g4 ?v ?_
 case v => intro Wx hSx;obtain ⟨z0,z1,z2,z3,z4,z5,z6,z7⟩:=qX.out Wx hSx;go_simp
 refine tk 7 29 (.pointer (some ⟨w.heap.size,4,none⟩)) g4 ?v ?_
 case v => intro Wx hSx;go_simp
 try simp only [qf]
 refine tk 8 30 (.slice dp.g nlg dp.ng) g4 ?v ?_
 case v => intro Wx hSx;obtain ⟨z0,z1,z2,z3,z4,z5,z6,z7⟩:=qX.out Wx hSx;go_simp
 try simp only [qf]
 refine o1 9 (fun K hK => ?_)
 obtain ⟨x5,hx5⟩ : ∃ X,X = x4.alloc (.cells #[.slice d.g ng d.ng,.slice dp.p nps dp.np,.slice dp.g nlg dp.ng] 23):=⟨_,rfl⟩
 have qem : Below x4.heap.size x4 x5:=by rw [hx5];exact qd x4 _
 have hp5 : x5.heap[x4.heap.size]? = some (.cells #[.slice d.g ng d.ng,.slice dp.p nps dp.np,.slice dp.g nlg dp.ng] 23):=by rw [hx5];exact qe x4 _
 have K5:=hZ (K4.out.chain qem)
 have M5:=hZ (M4.out.chain qem)
 go_simp
 rw [<- hx5]
 refine hK _ _ (qo.out _ K5.out) ?_
 clear hK K
 try simp only [qf]
 obtain ⟨ho5,hc5⟩:=qcY.out _ K5.out
 have h5 : B0 <= x5.heap.size:=Nat.le_trans HN2.out.2.1 K5.out.size
 have vD : Hid (Calls Tryz.prog 61 #[.slice (some ⟨x4.heap.size,0,none⟩) 3 3] x5 fun e w' => ∃ v,e = .returned v /\ w'.ownsRow x5.heap.size 42 2 v (ng + nps + nlg) (qY p.gs ++ qY x.ps ++ qY x.lg) /\ Below x5.heap.size x5 w'):=hZ (qs3 d.g dp.p dp.g ng d.ng nps dp.np nlg dp.ng x4.heap.size p.gs x.ps x.lg (by have := HSz.out;omega) x5 (by rw [vB.out.1];exact (yh (zm hc5.own.2.2.1)).more h5) (by rw [vB.out.2.1];exact (yh (zm ho5.2.1)).more h5) (by rw [vB.out.2.2.1];exact (yh (zm ho5.2.2.1)).more h5) (qc hp5 0 rfl) (qc hp5 1 rfl) (qc hp5 2 rfl) (Array.getElem?_eq_some_iff.1 hp5).1)
 have HL3 : Hid (∀ z ∈ p.gs ++ x.ps ++ x.lg,z.t.length <= maxLen /\ z.nm.length <= maxLen):=hZ (qbi (qbi (yv (zm hc5.own.2.2.1)) (yv (zm ho5.2.1))) (yv (zm ho5.2.2.1)))
 clear hx5 qem hp5 ho5 hc5 h5
 refine o1 10 (fun K hK => ?_)
 go_simp
 (with_reducible refine vD.out.mono ?_)
 rintro e x6 ⟨v,rfl,hv,hb⟩
 obtain ⟨F1,f1,rfl,qL,-⟩:=qew (l:=p.gs ++ x.ps ++ x.lg) (by rw [xG,xG];exact hv) (by simp only [List.length_append];have := vB.out;omega) HL3.out
 have K6:=hZ (K5.out.chain hb)
 have M6:=hZ (M5.out.chain hb)
 have N6:=hZ (Below.refl x6.heap.size x6)
 obtain ⟨nb,xv⟩ : ∃ n,n = ng + nps + nlg:=⟨_,rfl⟩
 have HB:=hZ (aZ xv qL)
 rw [<- xv]
 clear hv hb qL xv vD
 have g6:=qo.out _ K6.out
 refine hK _ _ g6 ?_
 clear hK K
 try simp only [qf]
 refine tk 11 5 (.slice F1 nb f1) g6 ?v ?_
 case v => intro Wx hSx;go_simp
 try simp only [qf]
 refine wpAnyH_done (by kernel_rfl) ?_ _
 -- the formulas before it
 have HNB : Hid (nb = (p.gs ++ x.ps ++ x.lg).length /\ nb <= 3999998000000):=hZ (by
  simp only [List.length_append]
  have := vB.out
  have := HB.out.1
  have := HSz.out
  omega)
 obtain ⟨ho6,hc6⟩:=qcY.out _ K6.out
 have HF1:=hZ (qaL p d B0 cb x.rq HOK.out.1 (p.gs ++ x.ps ++ x.lg) F1 nb f1 x6.heap.size dp.r nrq dp.nr vB.out.2.2.2.1 (by rw [vB.out.2.2.2.1];exact ho6.1.2.2.2.2.2.1) x6 HNB.out.1 (Nat.le_trans HNB.out.2 (by omega)) (Nat.le_refl _) HB.out.2 hc6.at_ ho6.2.2.2.1)
 rw [<- HRR.out.2.1] at HF1
 obtain ⟨-,-,-,-,z8,-,-,-⟩:=qX.out _ g6
 clear ho6 hc6
 go_wp2_with fail
 clear z8
 (with_reducible refine HF1.out.mono ?_)
 rintro e x7 ⟨he,hb⟩
 have K7:=hZ (K6.out.chain hb)
 have M7:=hZ (M6.out.chain hb)
 have N7:=hZ (N6.out.chain hb)
 clear hb HF1
 cases r2 with
 | some t =>
   obtain rfl : e = _:=he
   exact ⟨rfl,qbW.out t x7 K7.out HR.out⟩
 | none =>
 obtain rfl : e = _:=he
 have K8:=hZ (K7.out.chain (Below.refl x7.heap.size x7).drew)
 have M8:=hZ (M7.out.chain (Below.refl x7.heap.size x7).drew)
 have N8:=hZ (N7.out.chain (Below.refl x7.heap.size x7).drew)
 obtain ⟨x8,hx8⟩ : ∃ X,X = x7.drew:=⟨_,rfl⟩
 go_wp2
 refine wp_region_held (S:=S) zE ?_
 change wpAnyH _ _ _ _ _ 9 #[false,false,false,false,false,false,false,false,false] _ x7.drew
 rw [<- hx8] at K8 M8 N8 ⊢
 clear hx8
 have g8:=qo.out _ K8.out
 refine tk 0 38 (.pointer (some ⟨cb,0,none⟩)) g8 ?v ?_
 case v => intro Wx hSx;go_simp
 refine tk 1 39 (.slice F1 nb f1) g8 ?v ?_
 case v => intro Wx hSx;go_simp
 refine tk 2 40 (.agg cs) g8 ?v ?_
 case v => intro Wx hSx;obtain ⟨z0,z1,z2,z3,z4,z5,z6,z7⟩:=qX.out Wx hSx;go_simp
 refine tk 6 44 (.pointer (some ⟨w.heap.size,9,none⟩)) g8 ?v ?_
 case v => intro Wx hSx;go_simp
 try simp only [qf]
 refine tk 7 45 (.slice dp.e nes dp.ne) g8 ?v ?_
 case v => intro Wx hSx;obtain ⟨z0,z1,z2,z3,z4,z5,z6,z7⟩:=qX.out Wx hSx;go_simp
 try simp only [qf]
 have HRs : Hid (∀ W,Calls Tryz.prog 62 #[.agg cs] W fun e w' => (∃ (R : Option Addr) (n c : Nat),e = .returned (.slice R n c) /\ n = (yb x).length /\ qD zp 2 w' w'.heap.size (yb x) R) /\ Below W.heap.size W w'):=hZ (fun W => by rw [HCS.out];exact qhF x dp W HLen.out.1 HLen.out.2)
 refine o1 3 (fun K hK => ?_)
 go_simp
 (with_reducible refine (HRs.out _).mono ?_)
 rintro e x9 ⟨⟨R2,rn,rc,rfl,hrn,qL⟩,hb⟩
 have K9:=hZ (K8.out.chain hb)
 have M9:=hZ (M8.out.chain hb)
 have N9:=hZ (N8.out.chain hb)
 have HR9:=hZ (aZ hrn qL)
 clear hb hrn qL
 refine hK _ _ (qo.out _ K9.out) ?_
 clear hK K
 try simp only [qf]
 refine o1 4 (fun K hK => ?_)
 obtain ⟨x10,qm5⟩ : ∃ X,X = x9.alloc (.cells #[.slice F1 nb f1,.slice R2 rn rc] 23):=⟨_,rfl⟩
 have qgy : Below x9.heap.size x9 x10:=by rw [qm5];exact qd x9 _
 have qm8 : x10.heap[x9.heap.size]? = some (.cells #[.slice F1 nb f1,.slice R2 rn rc] 23):=by rw [qm5];exact qe x9 _
 have K10:=hZ (K9.out.chain qgy)
 have M10:=hZ (M9.out.chain qgy)
 have N10:=hZ (N9.out.chain qgy)
 go_simp
 rw [<- qm5]
 refine hK _ _ (qo.out _ K10.out) ?_
 clear hK K
 try simp only [qf]
 have rb10 : qD zp 2 x10 x6.heap.size (p.gs ++ x.ps ++ x.lg) F1:=yB qT (Nat.le_refl _) N10.out HB.out.2
 have rr10 : qD zp 2 x10 x9.heap.size (yb x) R2:=yB qT (Nat.le_refl _) qgy HR9.out.2
 have hrl:=qgo x
 have yp : Hid (Calls Tryz.prog 61 #[.slice (some ⟨x9.heap.size,0,none⟩) 2 2] x10 fun e w' => ∃ v,e = .returned v /\ w'.ownsRow x10.heap.size 42 2 v (nb + rn) (qY (p.gs ++ x.ps ++ x.lg) ++ qY (yb x)) /\ Below x10.heap.size x10 w'):=hZ (qcm F1 R2 nb f1 rn rc x9.heap.size (p.gs ++ x.ps ++ x.lg) (yb x) (by have := HNB.out.2;have := HR9.out.1;omega) x10 (by rw [HNB.out.1];exact (yh rb10).more N10.out.size) (by rw [HR9.out.1];exact (yh rr10).more qgy.size) (qc qm8 0 rfl) (qc qm8 1 rfl) (Array.getElem?_eq_some_iff.1 qm8).1)
 have HL2 : Hid (∀ z ∈ p.gs ++ x.ps ++ x.lg ++ yb x,z.t.length <= maxLen /\ z.nm.length <= maxLen):=hZ (qbi HL3.out (yv rr10))
 have HRL:=hZ hrl
 clear qm5 qgy qm8 rb10 rr10 hrl
 refine o1 5 (fun K hK => ?_)
 go_simp
 (with_reducible refine yp.out.mono ?_)
 rintro e x11 ⟨v,rfl,hv,hb⟩
 obtain ⟨F2,f2,rfl,qL,-⟩:=qew (l:=p.gs ++ x.ps ++ x.lg ++ yb x) (by rw [xG];exact hv) (by rw [List.length_append];have := HNB.out.1;have := HR9.out.1;omega) HL2.out
 have K11:=hZ (K10.out.chain hb)
 have M11:=hZ (M10.out.chain hb)
 have N11:=hZ (N10.out.chain hb)
 obtain ⟨nb2,qhe⟩ : ∃ n,n = nb + rn:=⟨_,rfl⟩
 have zq:=hZ (aZ qhe qL)
 rw [<- qhe]
 clear hv hb qL qhe yp
 have g11:=qo.out _ K11.out
 refine hK _ _ g11 ?_
 clear hK K
 try simp only [qf]
 have HNB2 : Hid (nb2 = (p.gs ++ x.ps ++ x.lg ++ yb x).length /\ nb2 <= 3999998000001):=hZ (by
  rw [List.length_append]
  have := HNB.out
  have := HR9.out.1
  have := HRL.out
  have := zq.out.1
  omega)
 obtain ⟨ho11,hc11⟩:=qcY.out _ K11.out
 have HF2:=hZ (qaL p d B0 cb x.es HOK.out.2.1 (p.gs ++ x.ps ++ x.lg ++ yb x) F2 nb2 f2 x11.heap.size dp.e nes dp.ne vB.out.2.2.2.2.1 (by rw [vB.out.2.2.2.2.1];exact ho11.1.2.2.2.2.2.2.1) x11 HNB2.out.1 (Nat.le_trans HNB2.out.2 (by omega)) (Nat.le_refl _) zq.out.2 hc11.at_ ho11.2.2.2.2.1)
 rw [<- HRR.out.2.2] at HF2
 clear ho11 hc11
 refine o1 8 (fun K hK => ?_)
 go_simp
 (with_reducible refine HF2.out.mono ?_)
 rintro e x12 ⟨he,hb⟩
 have K12:=hZ (K11.out.chain hb)
 have M12:=hZ (M11.out.chain hb)
 have N12:=hZ (N11.out.chain hb)
 clear hb HF2
 cases r3 with
 | some t =>
   obtain rfl : e = _:=he
   exact ⟨rfl,qbW.out t x12 K12.out HR.out⟩
 | none =>
 obtain rfl : e = _:=he
 refine hK _ _ (qo.out _ K12.out) ?_
 clear hK K
 refine wpAnyH_done (by kernel_rfl) ?_ _
 -- the body's checker
 have HRB : Hid (R = yg p (yE p.gs x) x.lg (zk x) (ln,co) x.bd):=hZ HR.out
 go_upto_region 7 with fail
 go_cut [6] from 47 to 58 (fun v6 wx => ∃ (g : Nat) (W : World) (E : Option Addr) (ke ec : Nat),W = wx /\ v6 = .pointer (some ⟨g,0,none⟩) /\ Hid (W.heap[g]? = some (qS cb A m k dp.g nlg dp.ng E ke ec) /\ Below x12.heap.size x12 W /\ ke = (zk x).length /\ qD zp 2 W W.heap.size (zk x) E /\ ∀ a,E = some a -> W2.heap.size <= a.block))
 case first =>
  have J12:=hZ (Below.refl x12.heap.size x12)
  have J13:=hZ (J12.out.chain (Below.refl x12.heap.size x12).drew)
  have K13:=hZ (K12.out.chain (Below.refl x12.heap.size x12).drew)
  obtain ⟨x13,hx13⟩ : ∃ X,X = x12.drew:=⟨_,rfl⟩
  refine wp_region_held (S:=S) zE ?_
  change wpAnyH _ _ _ _ _ 14 #[false,false,false,false,false,false,false,false,false,false,false,false,false,false] _ x12.drew
  rw [<- hx13] at K13 J13 ⊢
  clear hx13
  have g13:=qo.out _ K13.out
  refine tk 0 47 (.pointer (some ⟨cb,0,none⟩)) g13 ?v ?_
  case v => intro Wx hSx;go_simp
  refine tk 1 48 (.slice A m k) g13 ?v ?_
  case v => intro Wx hSx;go_simp
  refine tk 2 49 (.pointer (some ⟨w.heap.size,4,none⟩)) g13 ?v ?_
  case v => intro Wx hSx;go_simp
  refine tk 3 50 (.slice dp.g nlg dp.ng) g13 ?v ?_
  case v => intro Wx hSx;obtain ⟨z0,z1,z2,z3,z4,z5,z6,z7⟩:=qX.out Wx hSx;go_simp
  try simp only [qf]
  refine tk 4 51 (.agg #[.slice A m k,.slice dp.g nlg dp.ng]) g13 ?v ?_
  case v => intro Wx hSx;go_simp
  refine tk 5 52 (.agg cs) g13 ?v ?_
  case v => intro Wx hSx;obtain ⟨z0,z1,z2,z3,z4,z5,z6,z7⟩:=qX.out Wx hSx;go_simp
  refine tk 7 54 (.pointer (some ⟨w.heap.size,10,none⟩)) g13 ?v ?_
  case v => intro Wx hSx;go_simp
  refine tk 8 55 (.slice dp.l nlo dp.nl) g13 ?v ?_
  case v => intro Wx hSx;obtain ⟨z0,z1,z2,z3,z4,z5,z6,z7⟩:=qX.out Wx hSx;go_simp
  try simp only [qf]
  try simp only [qf]
  refine zM 6 12 (by kernel_rfl) rfl rfl (by kernel_rfl) (by kernel_rfl) (fun K hK => ?_) (fun K hK => ?_)
  ·go_simp
   (with_reducible refine (HRs.out _).mono ?_)
   rintro e x14 ⟨⟨R3,rn3,rc3,rfl,hrn,qL⟩,hb⟩
   have K14:=hZ (K13.out.chain hb)
   have J14:=hZ (J13.out.chain hb)
   have HRR3_14 : Hid (rn3 = (yb x).length /\ qD zp 2 x14 x14.heap.size (yb x) R3):=hZ ⟨hrn,qL⟩
   clear hb hrn qL
   refine hK _ _ (qo.out _ K14.out) ?_
   clear hK K
   try simp only [qf]
   refine zM 9 12 (by kernel_rfl) rfl rfl (by kernel_rfl) (by kernel_rfl) (fun K hK => ?_) (fun K hK => ?_)
   ·obtain ⟨x15,qe4⟩ : ∃ X,X = x14.alloc (.cells #[.slice R3 rn3 rc3,.slice dp.l nlo dp.nl] 23):=⟨_,rfl⟩
    have hb : Below x14.heap.size x14 x15:=by rw [qe4];exact qd x14 _
    have hpx : x15.heap[x14.heap.size]? = some (.cells #[.slice R3 rn3 rc3,.slice dp.l nlo dp.nl] 23):=by rw [qe4];exact qe x14 _
    have K15:=hZ (K14.out.chain hb)
    have J15:=hZ (J14.out.chain hb)
    have qil:=hZ hpx
    have HRR3_15 : Hid (rn3 = (yb x).length /\ qD zp 2 x15 x15.heap.size (yb x) R3):=hZ ⟨HRR3_14.out.1,xN hb.size (yB qT (Nat.le_refl _) hb HRR3_14.out.2)⟩
    go_simp
    rw [<- qe4]
    clear hb hpx qe4
    obtain ⟨gp,hgp⟩ : ∃ g,g = x14.heap.size:=⟨_,rfl⟩
    rw [<- hgp] at qil ⊢
    clear hgp
    refine hK _ _ (qo.out _ K15.out) ?_
    clear hK K
    try simp only [qf]
    refine zM 10 12 (by kernel_rfl) rfl rfl (by kernel_rfl) (by kernel_rfl) (fun K hK => ?_) (fun K hK => ?_)
    ·obtain ⟨hok,vf⟩:=qcY.out _ K15.out
     have HC4 : Hid (Calls Tryz.prog 61 #[.slice (some ⟨gp,0,none⟩) 2 2] x15 fun e w' => ∃ v,e = .returned v /\ w'.ownsRow x15.heap.size 42 2 v (rn3 + nlo) (qY (yb x) ++ qY x.lo) /\ Below x15.heap.size x15 w'):=hZ (qcm R3 dp.l rn3 rc3 nlo dp.nl gp (yb x) x.lo (by have := HSz.out;have := HRR3_15.out.1;have := HRL.out;omega) x15 (by rw [HRR3_15.out.1];exact yh HRR3_15.out.2) (by rw [vB.out.2.2.2.2.2.1];exact (yh (zm hok.2.2.2.2.2.1)).more (Nat.le_trans HN2.out.2.1 K15.out.size)) (qc qil.out 0 rfl) (qc qil.out 1 rfl) (Array.getElem?_eq_some_iff.1 qil.out).1)
     have HL4 : Hid (∀ z ∈ zk x,z.t.length <= maxLen /\ z.nm.length <= maxLen):=hZ (qbi (yv HRR3_15.out.2) (yv (zm hok.2.2.2.2.2.1)))
     have qdL:=hZ HRR3_15.out.1
     clear hok vf
     go_simp
     (with_reducible refine HC4.out.mono ?_)
     rintro e x16 ⟨v,rfl,hv,hb⟩
     obtain ⟨E,ec,rfl,qL,qaI⟩:=qew (l:=zk x) (by unfold zk;rw [xG];exact hv) (by unfold zk;rw [List.length_append];have := vB.out;have := qdL.out;omega) HL4.out
     obtain ⟨ne,zN⟩ : ∃ n,n = rn3 + nlo:=⟨_,rfl⟩
     rw [<- zN]
     have qcX : ne = (zk x).length:=by unfold zk;rw [List.length_append,zN];have := vB.out;have := qdL.out;omega
     have HEA : Hid (∀ a,E = some a -> W2.heap.size <= a.block):=hZ (fun a ha => Nat.le_trans K15.out.size (qaI a ha))
     have K16:=hZ (K15.out.chain hb)
     have J16:=hZ (J15.out.chain hb)
     have qre : Hid (ne = (zk x).length /\ qD zp 2 x16 x16.heap.size (zk x) E):=hZ ⟨qcX,qL⟩
     clear hv hb qL qaI zN qcX HC4
     refine hK _ _ (qo.out _ K16.out) ?_
     clear hK K
     try simp only [qf]
     refine tk 11 58 (.agg #[.pointer (some ⟨cb,0,none⟩),.slice A m k,.slice dp.g nlg dp.ng,.slice E ne ec]) (qo.out _ K16.out) ?v ?_
     case v => intro Wx hSx;go_simp
     try simp only [qf]
     refine o1 12 (fun K hK => ?_)
     obtain ⟨x17,qm3⟩ : ∃ X,X = x16.alloc (.cells qdR 171):=⟨_,rfl⟩
     have hb : Below x16.heap.size x16 x17:=by rw [qm3];exact qd x16 _
     have ya : Hid (x17.heap[x16.heap.size]? = some (.cells qdR 171)):=hZ (by rw [qm3];exact qe x16 _)
     have K17:=hZ (K16.out.chain hb)
     have HAL : Hid (x12.heap.size <= x16.heap.size):=hZ J16.out.size
     have J17:=hZ (J16.out.chain hb)
     have HNE : Hid (∀ a,E = some a -> zk x ≠ [] -> a.block ≠ x16.heap.size):=hZ (qtj qre.out.2)
     have qdP : Hid (ne = (zk x).length /\ qD zp 2 x17 x17.heap.size (zk x) E):=hZ ⟨qre.out.1,xN hb.size (yB qT (Nat.le_refl _) hb qre.out.2)⟩
     go_simp
     rw [<- qm3]
     clear hb qm3
     refine hK _ _ (qo.out _ K17.out) ?_
     clear hK K
     try simp only [qf]
     have z0':=qc ya.out 0 (v:=.pointer none) rfl
     have z1':=qc ya.out 1 (v:=.slice none 0 0) rfl
     have z2':=qc ya.out 2 (v:=.slice none 0 0) rfl
     have z3':=qc ya.out 3 (v:=.slice none 0 0) rfl
     have f0':=zh ya.out 0
     have f1':=zh ya.out 1
     have f2':=zh ya.out 2
     have f3':=zh ya.out 3
     obtain ⟨x18,qab⟩ : ∃ X,X = ((((x17.setCell ⟨x16.heap.size,0,none⟩ (.pointer (some ⟨cb,0,none⟩))).setCell ⟨x16.heap.size,1,none⟩ (.slice A m k)).setCell ⟨x16.heap.size,2,none⟩ (.slice dp.g nlg dp.ng)).setCell ⟨x16.heap.size,3,none⟩ (.slice E ne ec)):=⟨_,rfl⟩
     have hbz : x18.heap[x16.heap.size]? = some (qS cb A m k dp.g nlg dp.ng E ne ec):=by rw [qab];exact (qC (qC (qC (qC ya.out 0 (.pointer (some ⟨cb,0,none⟩))) 1 (.slice A m k)) 2 (.slice dp.g nlg dp.ng)) 3 (.slice E ne ec))
     have qac : Near (x16.heap.size) x17 x18:=by rw [qab];exact (((yi _ 0 _).trans (yi _ 1 _)).trans (yi _ 2 _)).trans (yi _ 3 _)
     have vO : Below x12.heap.size x17 x18:=by rw [qab];exact (((((Below.refl x12.heap.size x17).setCell (p:=⟨x16.heap.size,0,none⟩) HAL.out _).setCell (p:=⟨x16.heap.size,1,none⟩) HAL.out _).setCell (p:=⟨x16.heap.size,2,none⟩) HAL.out _).setCell (p:=⟨x16.heap.size,3,none⟩) HAL.out _)
     have qdO:=hZ (aZ hbz (aZ (J17.out.trans vO) (aZ qdP.out.1 (aZ (xN qac.size (vU qac (Nat.le_refl _) qdP.out.2 HNE.out)) HEA.out))))
     have gz:=qo.out _ (K12.out.chain qdO.out.2.1)
     clear hbz vO qac
     refine o1 13 (fun K hK => ?_)
     go_simp
     rw [<- qab]
     refine hK _ _ gz ?_
     clear hK K
     refine wpAnyH_done (by kernel_rfl) ?_ _
     go_wp2
     go_meet
     exact ⟨_,_,E,ne,ec,rfl,rfl,qdO⟩
    ·obtain ⟨x16,qbK⟩ : ∃ X,X = x15.alloc (.cells qdR 171):=⟨_,rfl⟩
     have hb : Below x15.heap.size x15 x16:=by rw [qbK];exact qd x15 _
     have qef : Hid (x16.heap[x15.heap.size]? = some (.cells qdR 171)):=hZ (by rw [qbK];exact qe x15 _)
     have K16:=hZ (K15.out.chain hb)
     have HAL : Hid (x12.heap.size <= x15.heap.size):=hZ J15.out.size
     have J16:=hZ (J15.out.chain hb)
     have HRR3_16 : Hid (rn3 = (yb x).length /\ qD zp 2 x16 x16.heap.size (yb x) R3):=hZ ⟨HRR3_15.out.1,xN hb.size (yB qT (Nat.le_refl _) hb HRR3_15.out.2)⟩
     have qaX:=hZ (qg hb qil.out)
     go_simp
     rw [<- qbK]
     clear hb qbK
     refine hK _ _ (qo.out _ K16.out) ?_
     clear hK K
     try simp only [qf]
     refine o1 10 (fun K hK => ?_)
     obtain ⟨hok,vf⟩:=qcY.out _ K16.out
     have HC4 : Hid (Calls Tryz.prog 61 #[.slice (some ⟨gp,0,none⟩) 2 2] x16 fun e w' => ∃ v,e = .returned v /\ w'.ownsRow x16.heap.size 42 2 v (rn3 + nlo) (qY (yb x) ++ qY x.lo) /\ Below x16.heap.size x16 w'):=hZ (qcm R3 dp.l rn3 rc3 nlo dp.nl gp (yb x) x.lo (by have := HSz.out;have := HRR3_16.out.1;have := HRL.out;omega) x16 (by rw [HRR3_16.out.1];exact yh HRR3_16.out.2) (by rw [vB.out.2.2.2.2.2.1];exact (yh (zm hok.2.2.2.2.2.1)).more (Nat.le_trans HN2.out.2.1 K16.out.size)) (qc qaX.out 0 rfl) (qc qaX.out 1 rfl) (Array.getElem?_eq_some_iff.1 qaX.out).1)
     have HL4 : Hid (∀ z ∈ zk x,z.t.length <= maxLen /\ z.nm.length <= maxLen):=hZ (qbi (yv HRR3_16.out.2) (yv (zm hok.2.2.2.2.2.1)))
     have qdL:=hZ HRR3_16.out.1
     clear hok vf
     go_simp
     (with_reducible refine HC4.out.mono ?_)
     rintro e x17 ⟨v,rfl,hv,hb⟩
     obtain ⟨E,ec,rfl,qL,qaI⟩:=qew (l:=zk x) (by unfold zk;rw [xG];exact hv) (by unfold zk;rw [List.length_append];have := vB.out;have := qdL.out;omega) HL4.out
     obtain ⟨ne,zN⟩ : ∃ n,n = rn3 + nlo:=⟨_,rfl⟩
     rw [<- zN]
     have qcX : ne = (zk x).length:=by unfold zk;rw [List.length_append,zN];have := vB.out;have := qdL.out;omega
     have HEA : Hid (∀ a,E = some a -> W2.heap.size <= a.block):=hZ (fun a ha => Nat.le_trans K16.out.size (qaI a ha))
     have HNE : Hid (∀ a,E = some a -> zk x ≠ [] -> a.block ≠ x15.heap.size):=hZ (fun a ha _ => by have h1:=qaI a ha;have h2:=(Array.getElem?_eq_some_iff.1 qef.out).1;omega)
     have K17:=hZ (K16.out.chain hb)
     have J17:=hZ (J16.out.chain hb)
     have ya:=hZ (qg hb qef.out)
     have qdP : Hid (ne = (zk x).length /\ qD zp 2 x17 x17.heap.size (zk x) E):=hZ ⟨qcX,qL⟩
     clear hv hb qL qaI zN qcX HC4
     refine hK _ _ (qo.out _ K17.out) ?_
     clear hK K
     try simp only [qf]
     refine tk 11 58 (.agg #[.pointer (some ⟨cb,0,none⟩),.slice A m k,.slice dp.g nlg dp.ng,.slice E ne ec]) (qo.out _ K17.out) ?v ?_
     case v => intro Wx hSx;go_simp
     try simp only [qf]
     have z0':=qc ya.out 0 (v:=.pointer none) rfl
     have z1':=qc ya.out 1 (v:=.slice none 0 0) rfl
     have z2':=qc ya.out 2 (v:=.slice none 0 0) rfl
     have z3':=qc ya.out 3 (v:=.slice none 0 0) rfl
     have f0':=zh ya.out 0
     have f1':=zh ya.out 1
     have f2':=zh ya.out 2
     have f3':=zh ya.out 3
     obtain ⟨x18,qab⟩ : ∃ X,X = ((((x17.setCell ⟨x15.heap.size,0,none⟩ (.pointer (some ⟨cb,0,none⟩))).setCell ⟨x15.heap.size,1,none⟩ (.slice A m k)).setCell ⟨x15.heap.size,2,none⟩ (.slice dp.g nlg dp.ng)).setCell ⟨x15.heap.size,3,none⟩ (.slice E ne ec)):=⟨_,rfl⟩
     have hbz : x18.heap[x15.heap.size]? = some (qS cb A m k dp.g nlg dp.ng E ne ec):=by rw [qab];exact (qC (qC (qC (qC ya.out 0 (.pointer (some ⟨cb,0,none⟩))) 1 (.slice A m k)) 2 (.slice dp.g nlg dp.ng)) 3 (.slice E ne ec))
     have qac : Near (x15.heap.size) x17 x18:=by rw [qab];exact (((yi _ 0 _).trans (yi _ 1 _)).trans (yi _ 2 _)).trans (yi _ 3 _)
     have vO : Below x12.heap.size x17 x18:=by rw [qab];exact (((((Below.refl x12.heap.size x17).setCell (p:=⟨x15.heap.size,0,none⟩) HAL.out _).setCell (p:=⟨x15.heap.size,1,none⟩) HAL.out _).setCell (p:=⟨x15.heap.size,2,none⟩) HAL.out _).setCell (p:=⟨x15.heap.size,3,none⟩) HAL.out _)
     have qdO:=hZ (aZ hbz (aZ (J17.out.trans vO) (aZ qdP.out.1 (aZ (xN qac.size (vU qac (Nat.le_refl _) qdP.out.2 HNE.out)) HEA.out))))
     have gz:=qo.out _ (K12.out.chain qdO.out.2.1)
     clear hbz vO qac
     refine o1 13 (fun K hK => ?_)
     go_simp
     rw [<- qab]
     refine hK _ _ gz ?_
     clear hK K
     refine wpAnyH_done (by kernel_rfl) ?_ _
     go_wp2
     go_meet
     exact ⟨_,_,E,ne,ec,rfl,rfl,qdO⟩
   ·obtain ⟨x15,qe4⟩ : ∃ X,X = x14.alloc (.cells qdR 171):=⟨_,rfl⟩
    have hb : Below x14.heap.size x14 x15:=by rw [qe4];exact qd x14 _
    have qnD : Hid (x15.heap[x14.heap.size]? = some (.cells qdR 171)):=hZ (by rw [qe4];exact qe x14 _)
    have K15:=hZ (K14.out.chain hb)
    have HAL : Hid (x12.heap.size <= x14.heap.size):=hZ J14.out.size
    have J15:=hZ (J14.out.chain hb)
    have HRR3_15 : Hid (rn3 = (yb x).length /\ qD zp 2 x15 x15.heap.size (yb x) R3):=hZ ⟨HRR3_14.out.1,xN hb.size (yB qT (Nat.le_refl _) hb HRR3_14.out.2)⟩
    go_simp
    rw [<- qe4]
    clear hb qe4
    refine hK _ _ (qo.out _ K15.out) ?_
    clear hK K
    try simp only [qf]
    refine o1 9 (fun K hK => ?_)
    obtain ⟨x16,qbK⟩ : ∃ X,X = x15.alloc (.cells #[.slice R3 rn3 rc3,.slice dp.l nlo dp.nl] 23):=⟨_,rfl⟩
    have hb : Below x15.heap.size x15 x16:=by rw [qbK];exact qd x15 _
    have hpx : x16.heap[x15.heap.size]? = some (.cells #[.slice R3 rn3 rc3,.slice dp.l nlo dp.nl] 23):=by rw [qbK];exact qe x15 _
    have K16:=hZ (K15.out.chain hb)
    have J16:=hZ (J15.out.chain hb)
    have qef:=hZ (qg hb qnD.out)
    have qaX:=hZ hpx
    have HRR3_16 : Hid (rn3 = (yb x).length /\ qD zp 2 x16 x16.heap.size (yb x) R3):=hZ ⟨HRR3_15.out.1,xN hb.size (yB qT (Nat.le_refl _) hb HRR3_15.out.2)⟩
    go_simp
    rw [<- qbK]
    clear hb hpx qbK
    obtain ⟨gp,hgp⟩ : ∃ g,g = x15.heap.size:=⟨_,rfl⟩
    rw [<- hgp] at qaX ⊢
    clear hgp
    refine hK _ _ (qo.out _ K16.out) ?_
    clear hK K
    try simp only [qf]
    refine o1 10 (fun K hK => ?_)
    obtain ⟨hok,vf⟩:=qcY.out _ K16.out
    have HC4 : Hid (Calls Tryz.prog 61 #[.slice (some ⟨gp,0,none⟩) 2 2] x16 fun e w' => ∃ v,e = .returned v /\ w'.ownsRow x16.heap.size 42 2 v (rn3 + nlo) (qY (yb x) ++ qY x.lo) /\ Below x16.heap.size x16 w'):=hZ (qcm R3 dp.l rn3 rc3 nlo dp.nl gp (yb x) x.lo (by have := HSz.out;have := HRR3_16.out.1;have := HRL.out;omega) x16 (by rw [HRR3_16.out.1];exact yh HRR3_16.out.2) (by rw [vB.out.2.2.2.2.2.1];exact (yh (zm hok.2.2.2.2.2.1)).more (Nat.le_trans HN2.out.2.1 K16.out.size)) (qc qaX.out 0 rfl) (qc qaX.out 1 rfl) (Array.getElem?_eq_some_iff.1 qaX.out).1)
    have HL4 : Hid (∀ z ∈ zk x,z.t.length <= maxLen /\ z.nm.length <= maxLen):=hZ (qbi (yv HRR3_16.out.2) (yv (zm hok.2.2.2.2.2.1)))
    have qdL:=hZ HRR3_16.out.1
    clear hok vf
    go_simp
    (with_reducible refine HC4.out.mono ?_)
    rintro e x17 ⟨v,rfl,hv,hb⟩
    obtain ⟨E,ec,rfl,qL,qaI⟩:=qew (l:=zk x) (by unfold zk;rw [xG];exact hv) (by unfold zk;rw [List.length_append];have := vB.out;have := qdL.out;omega) HL4.out
    obtain ⟨ne,zN⟩ : ∃ n,n = rn3 + nlo:=⟨_,rfl⟩
    rw [<- zN]
    have qcX : ne = (zk x).length:=by unfold zk;rw [List.length_append,zN];have := vB.out;have := qdL.out;omega
    have HEA : Hid (∀ a,E = some a -> W2.heap.size <= a.block):=hZ (fun a ha => Nat.le_trans K16.out.size (qaI a ha))
    have HNE : Hid (∀ a,E = some a -> zk x ≠ [] -> a.block ≠ x14.heap.size):=hZ (fun a ha _ => by have h1:=qaI a ha;have h2:=(Array.getElem?_eq_some_iff.1 qef.out).1;omega)
    have K17:=hZ (K16.out.chain hb)
    have J17:=hZ (J16.out.chain hb)
    have ya:=hZ (qg hb qef.out)
    have qdP : Hid (ne = (zk x).length /\ qD zp 2 x17 x17.heap.size (zk x) E):=hZ ⟨qcX,qL⟩
    clear hv hb qL qaI zN qcX HC4
    refine hK _ _ (qo.out _ K17.out) ?_
    clear hK K
    try simp only [qf]
    refine tk 11 58 (.agg #[.pointer (some ⟨cb,0,none⟩),.slice A m k,.slice dp.g nlg dp.ng,.slice E ne ec]) (qo.out _ K17.out) ?v ?_
    case v => intro Wx hSx;go_simp
    try simp only [qf]
    have z0':=qc ya.out 0 (v:=.pointer none) rfl
    have z1':=qc ya.out 1 (v:=.slice none 0 0) rfl
    have z2':=qc ya.out 2 (v:=.slice none 0 0) rfl
    have z3':=qc ya.out 3 (v:=.slice none 0 0) rfl
    have f0':=zh ya.out 0
    have f1':=zh ya.out 1
    have f2':=zh ya.out 2
    have f3':=zh ya.out 3
    obtain ⟨x18,qab⟩ : ∃ X,X = ((((x17.setCell ⟨x14.heap.size,0,none⟩ (.pointer (some ⟨cb,0,none⟩))).setCell ⟨x14.heap.size,1,none⟩ (.slice A m k)).setCell ⟨x14.heap.size,2,none⟩ (.slice dp.g nlg dp.ng)).setCell ⟨x14.heap.size,3,none⟩ (.slice E ne ec)):=⟨_,rfl⟩
    have hbz : x18.heap[x14.heap.size]? = some (qS cb A m k dp.g nlg dp.ng E ne ec):=by rw [qab];exact (qC (qC (qC (qC ya.out 0 (.pointer (some ⟨cb,0,none⟩))) 1 (.slice A m k)) 2 (.slice dp.g nlg dp.ng)) 3 (.slice E ne ec))
    have qac : Near (x14.heap.size) x17 x18:=by rw [qab];exact (((yi _ 0 _).trans (yi _ 1 _)).trans (yi _ 2 _)).trans (yi _ 3 _)
    have vO : Below x12.heap.size x17 x18:=by rw [qab];exact (((((Below.refl x12.heap.size x17).setCell (p:=⟨x14.heap.size,0,none⟩) HAL.out _).setCell (p:=⟨x14.heap.size,1,none⟩) HAL.out _).setCell (p:=⟨x14.heap.size,2,none⟩) HAL.out _).setCell (p:=⟨x14.heap.size,3,none⟩) HAL.out _)
    have qdO:=hZ (aZ hbz (aZ (J17.out.trans vO) (aZ qdP.out.1 (aZ (xN qac.size (vU qac (Nat.le_refl _) qdP.out.2 HNE.out)) HEA.out))))
    have gz:=qo.out _ (K12.out.chain qdO.out.2.1)
    clear hbz vO qac
    refine o1 13 (fun K hK => ?_)
    go_simp
    rw [<- qab]
    refine hK _ _ gz ?_
    clear hK K
    refine wpAnyH_done (by kernel_rfl) ?_ _
    go_wp2
    go_meet
    exact ⟨_,_,E,ne,ec,rfl,rfl,qdO⟩
  ·obtain ⟨x14,qm4⟩ : ∃ X,X = x13.alloc (.cells qdR 171):=⟨_,rfl⟩
   have hb : Below x13.heap.size x13 x14:=by rw [qm4];exact qd x13 _
   have qvo : Hid (x14.heap[x13.heap.size]? = some (.cells qdR 171)):=hZ (by rw [qm4];exact qe x13 _)
   have K14:=hZ (K13.out.chain hb)
   have HAL : Hid (x12.heap.size <= x13.heap.size):=hZ J13.out.size
   have J14:=hZ (J13.out.chain hb)
   go_simp
   rw [<- qm4]
   clear hb qm4
   refine hK _ _ (qo.out _ K14.out) ?_
   clear hK K
   try simp only [qf]
   refine o1 6 (fun K hK => ?_)
   go_simp
   (with_reducible refine (HRs.out _).mono ?_)
   rintro e x15 ⟨⟨R3,rn3,rc3,rfl,hrn,qL⟩,hb⟩
   have K15:=hZ (K14.out.chain hb)
   have J15:=hZ (J14.out.chain hb)
   have qnD:=hZ (qg hb qvo.out)
   have HRR3_15 : Hid (rn3 = (yb x).length /\ qD zp 2 x15 x15.heap.size (yb x) R3):=hZ ⟨hrn,qL⟩
   clear hb hrn qL
   refine hK _ _ (qo.out _ K15.out) ?_
   clear hK K
   try simp only [qf]
   refine o1 9 (fun K hK => ?_)
   obtain ⟨x16,qbK⟩ : ∃ X,X = x15.alloc (.cells #[.slice R3 rn3 rc3,.slice dp.l nlo dp.nl] 23):=⟨_,rfl⟩
   have hb : Below x15.heap.size x15 x16:=by rw [qbK];exact qd x15 _
   have hpx : x16.heap[x15.heap.size]? = some (.cells #[.slice R3 rn3 rc3,.slice dp.l nlo dp.nl] 23):=by rw [qbK];exact qe x15 _
   have K16:=hZ (K15.out.chain hb)
   have J16:=hZ (J15.out.chain hb)
   have qef:=hZ (qg hb qnD.out)
   have qaX:=hZ hpx
   have HRR3_16 : Hid (rn3 = (yb x).length /\ qD zp 2 x16 x16.heap.size (yb x) R3):=hZ ⟨HRR3_15.out.1,xN hb.size (yB qT (Nat.le_refl _) hb HRR3_15.out.2)⟩
   go_simp
   rw [<- qbK]
   clear hb hpx qbK
   obtain ⟨gp,hgp⟩ : ∃ g,g = x15.heap.size:=⟨_,rfl⟩
   rw [<- hgp] at qaX ⊢
   clear hgp
   refine hK _ _ (qo.out _ K16.out) ?_
   clear hK K
   try simp only [qf]
   refine o1 10 (fun K hK => ?_)
   obtain ⟨hok,vf⟩:=qcY.out _ K16.out
   have HC4 : Hid (Calls Tryz.prog 61 #[.slice (some ⟨gp,0,none⟩) 2 2] x16 fun e w' => ∃ v,e = .returned v /\ w'.ownsRow x16.heap.size 42 2 v (rn3 + nlo) (qY (yb x) ++ qY x.lo) /\ Below x16.heap.size x16 w'):=hZ (qcm R3 dp.l rn3 rc3 nlo dp.nl gp (yb x) x.lo (by have := HSz.out;have := HRR3_16.out.1;have := HRL.out;omega) x16 (by rw [HRR3_16.out.1];exact yh HRR3_16.out.2) (by rw [vB.out.2.2.2.2.2.1];exact (yh (zm hok.2.2.2.2.2.1)).more (Nat.le_trans HN2.out.2.1 K16.out.size)) (qc qaX.out 0 rfl) (qc qaX.out 1 rfl) (Array.getElem?_eq_some_iff.1 qaX.out).1)
   have HL4 : Hid (∀ z ∈ zk x,z.t.length <= maxLen /\ z.nm.length <= maxLen):=hZ (qbi (yv HRR3_16.out.2) (yv (zm hok.2.2.2.2.2.1)))
   have qdL:=hZ HRR3_16.out.1
   clear hok vf
   go_simp
   (with_reducible refine HC4.out.mono ?_)
   rintro e x17 ⟨v,rfl,hv,hb⟩
   obtain ⟨E,ec,rfl,qL,qaI⟩:=qew (l:=zk x) (by unfold zk;rw [xG];exact hv) (by unfold zk;rw [List.length_append];have := vB.out;have := qdL.out;omega) HL4.out
   obtain ⟨ne,zN⟩ : ∃ n,n = rn3 + nlo:=⟨_,rfl⟩
   rw [<- zN]
   have qcX : ne = (zk x).length:=by unfold zk;rw [List.length_append,zN];have := vB.out;have := qdL.out;omega
   have HEA : Hid (∀ a,E = some a -> W2.heap.size <= a.block):=hZ (fun a ha => Nat.le_trans K16.out.size (qaI a ha))
   have HNE : Hid (∀ a,E = some a -> zk x ≠ [] -> a.block ≠ x13.heap.size):=hZ (fun a ha _ => by have h1:=qaI a ha;have h2:=(Array.getElem?_eq_some_iff.1 qef.out).1;omega)
   have K17:=hZ (K16.out.chain hb)
   have J17:=hZ (J16.out.chain hb)
   have ya:=hZ (qg hb qef.out)
   have qdP : Hid (ne = (zk x).length /\ qD zp 2 x17 x17.heap.size (zk x) E):=hZ ⟨qcX,qL⟩
   clear hv hb qL qaI zN qcX HC4
   refine hK _ _ (qo.out _ K17.out) ?_
   clear hK K
   try simp only [qf]
   refine tk 11 58 (.agg #[.pointer (some ⟨cb,0,none⟩),.slice A m k,.slice dp.g nlg dp.ng,.slice E ne ec]) (qo.out _ K17.out) ?v ?_
   case v => intro Wx hSx;go_simp
   try simp only [qf]
   have z0':=qc ya.out 0 (v:=.pointer none) rfl
   have z1':=qc ya.out 1 (v:=.slice none 0 0) rfl
   have z2':=qc ya.out 2 (v:=.slice none 0 0) rfl
   have z3':=qc ya.out 3 (v:=.slice none 0 0) rfl
   have f0':=zh ya.out 0
   have f1':=zh ya.out 1
   have f2':=zh ya.out 2
   have f3':=zh ya.out 3
   obtain ⟨x18,qab⟩ : ∃ X,X = ((((x17.setCell ⟨x13.heap.size,0,none⟩ (.pointer (some ⟨cb,0,none⟩))).setCell ⟨x13.heap.size,1,none⟩ (.slice A m k)).setCell ⟨x13.heap.size,2,none⟩ (.slice dp.g nlg dp.ng)).setCell ⟨x13.heap.size,3,none⟩ (.slice E ne ec)):=⟨_,rfl⟩
   have hbz : x18.heap[x13.heap.size]? = some (qS cb A m k dp.g nlg dp.ng E ne ec):=by rw [qab];exact (qC (qC (qC (qC ya.out 0 (.pointer (some ⟨cb,0,none⟩))) 1 (.slice A m k)) 2 (.slice dp.g nlg dp.ng)) 3 (.slice E ne ec))
   have qac : Near (x13.heap.size) x17 x18:=by rw [qab];exact (((yi _ 0 _).trans (yi _ 1 _)).trans (yi _ 2 _)).trans (yi _ 3 _)
   have vO : Below x12.heap.size x17 x18:=by rw [qab];exact (((((Below.refl x12.heap.size x17).setCell (p:=⟨x13.heap.size,0,none⟩) HAL.out _).setCell (p:=⟨x13.heap.size,1,none⟩) HAL.out _).setCell (p:=⟨x13.heap.size,2,none⟩) HAL.out _).setCell (p:=⟨x13.heap.size,3,none⟩) HAL.out _)
   have qdO:=hZ (aZ hbz (aZ (J17.out.trans vO) (aZ qdP.out.1 (aZ (xN qac.size (vU qac (Nat.le_refl _) qdP.out.2 HNE.out)) HEA.out))))
   have gz:=qo.out _ (K12.out.chain qdO.out.2.1)
   clear hbz vO qac
   refine o1 13 (fun K hK => ?_)
   go_simp
   rw [<- qab]
   refine hK _ _ gz ?_
   clear hK K
   refine wpAnyH_done (by kernel_rfl) ?_ _
   go_wp2
   go_meet
   exact ⟨_,_,E,ne,ec,rfl,rfl,qdO⟩
 case rest =>
  obtain ⟨g,W,E,ke,ec,rfl,rfl,H⟩:=hcut
  have HW:=hZ (K12.out.chain H.out.2.1)
  have gW:=qo.out _ HW.out
  obtain ⟨-,-,-,-,-,-,-,z11⟩:=qX.out _ gW
  have x0:=qc H.out.1 0 (v:=.pointer (some ⟨cb,0,none⟩)) rfl
  have x1':=qc H.out.1 1 (v:=.slice A m k) rfl
  have x2':=qc H.out.1 2 (v:=.slice dp.g nlg dp.ng) rfl
  have x3':=qc H.out.1 3 (v:=.slice E ke ec) rfl
  obtain ⟨hoW,hcW⟩:=qcY.out _ HW.out
  have hk : ke <= maxLen:=by
   rw [H.out.2.2.1]
   unfold zk maxLen
   rw [List.length_append]
   have := qgo x
   have := HSz.out
   have := vB.out
   omega
  have hrA : qD zp 2 W W.heap.size (yE p.gs x) A:=xN (Nat.le_trans M12.out.size H.out.2.1.size) (yB qT (Nat.le_refl _) (M12.out.chain H.out.2.1) HA.out.2.1)
  have hrD : qD zp 2 W W.heap.size x.lg dp.g:=xN (Nat.le_trans HN2.out.2.1 HW.out.size) (zm hoW.2.2.1)
  have zL : B0 <= cb:=hcW.le
  have hBd : BodyAt W W.heap.size cb (yE p.gs x) x.lg (zk x) A m dp.g nlg E ke :=
   ⟨⟨HA.out.1,by have := HM.out;unfold maxLen;omega,vB.out.2.2.1,by rw [vB.out.2.2.1];exact hoW.1.2.2.1,Nat.le_refl _,hrA,hrD⟩,H.out.2.2.2.1,H.out.2.2.1,hk,fun a ha _ => by have := HA.out.2.2 a ha;have := HN2.out.2.2;omega,qu8 hoW.2.2.1 zL,fun a ha _ => by have := H.out.2.2.2.2 a ha;have := HN2.out.2.2;omega⟩
  have HSts:=hZ (qpU p d B0 W.heap.size cb (yE p.gs x) x.lg (zk x) ⟨A,m,k,dp.g,nlg,dp.ng,E,ke,ec⟩ P HOK.out.2.2.1 (HOK.out.2.2.2.2 W.heap.size ⟨A,m,k,dp.g,nlg,dp.ng,E,ke,ec⟩) _ x.bd (Nat.lt_succ_self _) HOK.out.2.2.2.1 dp.b nbd dp.nb W (ln,co) vB.out.2.2.2.2.2.2 hoW.2.2.2.2.2.2 hoW.1.2.2.2.2.2.2.2.2 hcW hBd)
  rw [<- HRB.out] at HSts
  clear hoW hcW hk hrA hrD zL hBd
  go_wp2_with fail
  clear z11 x0 x1' x2' x3'
  (with_reducible refine HSts.out.mono ?_)
  rintro e w9 ⟨he,hn9,qdD⟩
  have HE:=hZ (aZ (HN2.out.1.trans ((yH HW.out).trans hn9)) qdD)
  clear hn9 qdD
  rcases qan (c2:=none) he with ⟨h1,rfl⟩ | ⟨t,h1,rfl⟩
  ·go_wp2
   exact bodyPost_end (results_none rfl _ _ _) rfl ⟨he,HE.out.1,HE.out.2⟩
  ·exact ⟨rfl,he,HE.out.1,HE.out.2⟩
end Go.Proofs.YtojjfdegkooknaaGreatDoor
