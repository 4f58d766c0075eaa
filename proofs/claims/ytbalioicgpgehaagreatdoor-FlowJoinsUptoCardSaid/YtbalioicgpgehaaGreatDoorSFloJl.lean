import Derived.Test.YtbalioicgpgehaaGreatDoorSFloJb
set_option linter.unusedVariables false
set_option linter.unusedSimpArgs false
namespace Go.Proofs.YtbalioicgpgehaaGreatDoor
set_option maxRecDepth 100000
set_option maxHeartbeats 8000000
open Go.RowKit
theorem tdiv_mostJ (b : Nat) : (1073741824 : Int).tdiv b = ((1073741824 / b : Nat) : Int):=by
 rw [Int.tdiv_eq_ediv_of_nonneg (by omega)]
 rfl
theorem wrap_addJ {a b : Nat} (ha : a ≤ 60) (hb : b ≤ 60) : wrap64 ((a : Int) + b) = ((a + b : Nat) : Int):=by unfold wrap64;omega
theorem i64_addJ {a b : Nat} (ha : a ≤ 60) (hb : b ≤ 60) : IntKind.i64.wrap ((a : Int) + b) = ((a + b : Nat) : Int):=by rw [← Int.natCast_add];exact IntWalk.i64_in _ (by omega)
theorem joins_law (a b : List St) (A B : Option Addr) (c d : Nat) (x : Int) (hx0 : 0 ≤ x) (hx1 : x ≤ 255) (w : World) (hp : PartsAt w) (hra : StRow w w.heap.size a A) (hrb : StRow w w.heap.size b B) (hla : a.length * 368 ≤ 70368744177664) (hlb : b.length * 368 ≤ 70368744177664) (hwa : WS a) (hwb : WS b) (hba : BS a) (hbb : BS b) :
 Calls Tryz.prog 7 #[.slice A a.length c,.slice B b.length d,.int .u8 x] w fun e w' => e = .returned (.bool true) ∧ Below w.heap.size w w':=by
 obtain ⟨xn,rfl⟩ : ∃ xn : Nat,x = xn:=⟨x.toNat,by omega⟩
 obtain ⟨fa,hfa⟩:=fl_any _ a (Nat.lt_succ_self _)
 obtain ⟨fb,hfb⟩:=fl_any _ b (Nat.lt_succ_self _)
 have hfl:=fl_append hfa hfb
 have hk3 : wrap64 ((xn : Nat) : Int) = (xn : Int):=by unfold wrap64;omega
 have hk5 : IntKind.i64.wrap ((xn : Nat) : Int) = (xn : Int):=IntWalk.i64_in _ (by omega)
 obtain ⟨kk,hkk⟩ : ∃ kk,kk = xn % 5:=⟨_,rfl⟩
 have hk4 : kk ≤ 4:=by omega
 have hk1 : ((xn : Nat) : Int).tmod 5 = (kk : Int):=by rw [Int.tmod_eq_emod_of_nonneg (by omega)];omega
 have hk2 : ((xn : Nat) : Int) % 5 = (kk : Int):=by omega
 obtain ⟨n,hn⟩ : ∃ n,n = a.length:=⟨_,rfl⟩
 obtain ⟨m,hm⟩ : ∃ m,m = b.length:=⟨_,rfl⟩
 obtain ⟨i0,hi0,hiz,his,hib⟩:=info_parts infoStmt
 have HI0:=Lib.hid (And.intro hi0 (And.intro hiz (And.intro his hib)))
 clear hi0 hiz his hib
 have HCl:=Lib.hid (cloneSt_any A c n a hn (by omega) w hra)
 have HAw : Hid (BC w 8 #[] true):=Lib.hid (fun W hb => aw_any W (hp.on hb))
 -- behind the join
 have HJ : Hid (∀ (A3 : Option Addr) (c3 : Nat) (W : World),Flatted w.heap.size w (a ++ b) (.slice A3 (n + m) c3) W →
  (∀ U,Below W.heap.size W U → Calls Tryz.prog 9 #[.slice A3 (n + m) c3] U fun e w' => ∃ r : Int,e = .returned (.int .i64 r) ∧ (r ≠ 0 → (fa ++ fb).length ≤ 60) ∧ Below U.heap.size U w') ∧
  (∀ U,Below W.heap.size W U → Calls Tryz.prog 11 #[.slice A3 (n + m) c3] U fun e w' => e = .returned (.bool (vSs varB 1125899906842624 100 30 (a ++ b))) ∧ Below U.heap.size U w') ∧
  (vSs varB 1125899906842624 100 30 (a ++ b) = true → (fa ++ fb).length ≤ 60 → FlC (a ++ b) (fa ++ fb) A3 (n + m) c3 W ∧ FlC a fa A n c W ∧ FlC b fb B m d W)):=Lib.hid (fun A3 c3 W hF => by
  have hnm : n + m = (a ++ b).length:=by rw [List.length_append,hn,hm]
  have hb : Below w.heap.size w W:=by obtain ⟨_,_,_,_,_,h⟩:=hF;exact h
  rw [hnm] at hF ⊢
  have hr:=flat_rowF hF
  have hl : (a ++ b).length ≤ maxLen:=by unfold maxLen;omega
  refine ⟨fun U hU => (few_any _ (a ++ b) (Nat.lt_succ_self _) A3 c3 U (hr.on hU) hl).mono fun e w' ⟨r,he,h0,_,h2,hb2⟩ => ⟨r,he,fun hne => by have := h2 (by omega) _ hfl;omega,hb2⟩,fun U hU => ?_,fun hv h60 => ?_⟩
  ·have h:=sstmts_any (a ++ b) A3 c3 U (hr.on hU) hl
   rw [← varB_varR] at h
   exact h
  ·obtain ⟨v1,v2,hl100⟩:=vSs_split hv
   have h61:=h60
   rw [List.length_append] at h61
   have ha:=bs_fl hfa hba
   have hb3:=bs_fl hfb hbb
   exact ⟨flc_any hfl h60 (ws_append hwa hwb (by omega)) (fun x hx => (List.mem_append.1 hx).elim (ha x) (hb3 x)) A3 _ c3 rfl W (hp.on hb) hr hl hv,
    flc_any hfa (by omega) hwa ha A n c hn W (hp.on hb) (hra.on hb) (by unfold maxLen;omega) v1,
    flc_any hfb (by omega) hwb hb3 B m d hm W (hp.on hb) (hrb.on hb) (by unfold maxLen;omega) v2⟩)
 have HBB : Hid (∃ (D : Nat → SAd) (xs : List Value),Reads w w.heap.size 24 B m xs ∧ CellsOf D b xs ∧ ∀ i s,b[i]? = some s → ElIn (fun q => q < w.heap.size) w (D i) s):=Lib.hid (by rw [hm];exact st_reads hrb (Nat.le_refl _))
 have hnm0 : (n + m) * 368 ≤ 140737488355328:=by omega
 -- the numbers of paths
 obtain ⟨P,hP⟩ : ∃ P,P = limN (paL kk a):=⟨_,rfl⟩
 obtain ⟨Q,hQ⟩ : ∃ Q,Q = limN (paL kk b):=⟨_,rfl⟩
 have hp1 : 1 ≤ P:=by rw [hP];exact limN_pos (paL_pos _ _)
 have hq1 : 1 ≤ Q:=by rw [hQ];exact limN_pos (paL_pos _ _)
 have hp2 : P ≤ 1073741824:=by rw [hP];exact limN_le _
 have hq2 : Q ≤ 1073741824:=by rw [hQ];exact limN_le _
 have HW : Hid (limN (paL kk (a ++ b)) = limN (P * Q)):=Lib.hid (by rw [paL_append,hP,hQ,limN_mul (paL_pos _ _) (paL_pos _ _)])
 have HT:=Lib.hid (times_lim (a:=P) hq1 hq2)
 have HLo : Hid (lpsN (fa ++ fb) = lpsN fa + lpsN fb):=Lib.hid (by unfold lpsN;rw [List.filter_append,List.length_append])
 have hlo1 : Hid ((fa ++ fb).length ≤ 60 → lpsN fa ≤ 60 ∧ lpsN fb ≤ 60):=Lib.hid (fun h => by rw [List.length_append] at h;exact ⟨Nat.le_trans (lpsN_le fa) (by omega),Nat.le_trans (lpsN_le fb) (by omega)⟩)
 have HN : Hid (vSs varB 1125899906842624 100 30 (a ++ b) = true → (fa ++ fb).length ≤ 60 → ((fa.flatMap asgN ++ fb.flatMap asgN).length ≤ 1000000000 ∧ (fa.flatMap readN ++ fb.flatMap readN).length ≤ 1000000000 ∧ (fa.flatMap lckN ++ fb.flatMap lckN).length ≤ 1000000000)):=Lib.hid (fun hv h60 => by
  have hcl:=calls_flat hfl 30 hv
  rw [← List.flatMap_append,← List.flatMap_append,← List.flatMap_append]
  have l1:=flat_lenJ (G:=asgN) (f:=fa ++ fb) (K:=1000) (fun x hx => asgN_len (Nat.le_trans (hcl x hx).1 (by omega)))
  have l2:=flat_lenJ (G:=readN) (f:=fa ++ fb) (K:=1048576) (fun x hx => (List.mem_append.1 hx).elim (bs_fl hfa hba x) (bs_fl hfb hbb x))
  have l3:=flat_lenJ (G:=lckN) (f:=fa ++ fb) (K:=1) (fun x _ => by unfold lckN;split <;> simp)
  exact ⟨by omega,by omega,by omega⟩)
 have HAP : Hid ((fa ++ fb).flatMap asgN = fa.flatMap asgN ++ fb.flatMap asgN ∧ (fa ++ fb).flatMap readN = fa.flatMap readN ++ fb.flatMap readN ∧ (fa ++ fb).flatMap lckN = fa.flatMap lckN ++ fb.flatMap lckN):=Lib.hid ⟨List.flatMap_append,List.flatMap_append,List.flatMap_append⟩
 have HPQ:=Lib.hid (And.intro hP hQ)
 have HNM:=Lib.hid (And.intro hn hm)
 rw [← hn,← hm]
 clear hp hra hrb hla hlb hwa hwb hba hbb hfa hfb hfl hkk hP hQ hn hm hx0 hx1
 generalize vSs varB 1125899906842624 100 30 (a ++ b) = v at *
 -- times
 have hm0 : P * Q ≤ 1073741824 * 1073741824:=Nat.mul_le_mul hp2 hq2
 have hm1 : ((P : Int) * Q) = ((P * Q : Nat) : Int):=by rw [Int.natCast_mul]
 obtain ⟨M,hM⟩ : ∃ M,M = P * Q:=⟨_,rfl⟩
 rw [← hM] at hm0 hm1 HW HT
 clear hM
 have hm2 : IntKind.i64.wrap ((P : Int) * Q) = M:=by rw [hm1];exact IntWalk.i64_in _ (by omega)
 have hm3 : wrap64 ((P : Int) * Q) = M:=by rw [hm1];unfold wrap64;omega
 have hq:=tdiv_mostJ Q
 obtain ⟨q,hqq⟩ : ∃ q,q = 1073741824 / Q:=⟨_,rfl⟩
 have hqz : q ≤ 1073741824:=by rw [hqq];exact Nat.div_le_self _ _
 rw [← hqq] at hq HT
 clear hqq
 have hb0 : (Q : Int) ≠ 0:=by omega
 have hb1 : ((Q : Int) == 0) = false:=by simpa using hb0
 have hq3 : IntKind.i64.wrap ((1073741824 : Int).tdiv Q) = q:=by rw [hq];exact IntWalk.i64_in _ (by omega)
 have hq4 : wrap64 ((1073741824 : Int).tdiv Q) = q:=by rw [hq];unfold wrap64;omega
 have g1 : ¬ (P : Int) < 1:=by omega
 have g2 : ¬ (Q : Int) < 1:=by omega
 have g3 : ¬ (1073741824 : Int) < (P : Int):=by omega
 have g4 : ¬ (1073741824 : Int) < (Q : Int):=by omega
 have g5 : decide ((1073741824 : Int) < (P : Int)) = false:=decide_eq_false g3
 have g6 : decide ((1073741824 : Int) < (Q : Int)) = false:=decide_eq_false g4
 have g9 : P ≠ 0:=by omega
 have g10 : Q ≠ 0:=by omega
 have g11 : ¬ 1073741824 < P:=by omega
 have g12 : ¬ 1073741824 < Q:=by omega
 have g7 : decide ((P : Int) < 1) = false:=decide_eq_false g1
 have g8 : decide ((Q : Int) < 1) = false:=decide_eq_false g2
 -- the walk (genflo8.py)
 obtain ⟨DB,xsB,hR,hC,hE⟩:=HBB.out
 have HRB:=Lib.hid (And.intro hR (And.intro hC hE))
 clear hR hC hE HBB
 obtain ⟨La,hLa⟩ : ∃ x,x = lpsN fa:=⟨_,rfl⟩
 obtain ⟨Lb,hLb⟩ : ∃ x,x = lpsN fb:=⟨_,rfl⟩
 rw [← hLa,← hLb] at HLo hlo1
 have HLL:=Lib.hid (And.intro hLa hLb)
 clear hLa hLb
 cases v with
 | false =>
   clear HN HW HT HLo hlo1 HPQ HAP
   go_enter Tryz.func7,Tryz.ntmps7
   go_wp2_with (first
    | (go_at_call 25;(with_reducible refine HCl.out.mono ?_);rintro e w2 ⟨A2,c2,rfl,D2,xs2,o2,cl2,el2,hb2⟩;rw [← HNM.out.1] at o2;have H2:=Lib.hid (And.intro o2 (And.intro cl2 (And.intro el2 hb2)));clear o2 cl2 el2 hb2)
    | (at_builtin;refine wpList_append_any (o:=⟨some 15,_,_,_,_,_⟩) _ rfl _ _ 22 rfl w.heap.size 36 i0 _ 24 368 Tryz.underlying22 HI0.out.1 HI0.out.2.1 HI0.out.2.2.1 HI0.out.2.2.2 rfl (by decide) _ n xs2 rfl H2.out.1 w.heap.size B m d xsB rfl (HRB.out.1.keep (fun q hq => H2.out.2.2.2.cell hq)) (cells_one HRB.out.2.1 (by rw [← HNM.out.2];exact HRB.out.1.1)) (by unfold maxLen;omega) (by omega) H2.out.2.2.2.size ?_
       intro v3 w3 o3 gr3 _
       obtain ⟨A3,c3,rfl⟩:=own_sliceM o3
       have hb3 : Below w.heap.size w w3:=H2.out.2.2.2.trans (below_grown H2.out.1 gr3 H2.out.2.2.2.size)
       obtain ⟨DD,hcc,hee⟩:=els_cat (w:=w3) (by rw [← HNM.out.1];exact H2.out.1.1) H2.out.2.1 HRB.out.2.1 (fun q hq => (hb3.cell hq).trans (H2.out.2.2.2.cell hq).symm) (fun q hq => hb3.cell hq) H2.out.2.2.1 HRB.out.2.2
       have hF : Flatted w.heap.size w (a ++ b) (.slice A3 (n + m) c3) w3:=⟨DD,xs2 ++ xsB,(by rw [List.length_append,← HNM.out.1,← HNM.out.2];exact o3),hcc,hee,hb3⟩
       have H3:=Lib.hid (And.intro hb3 (HJ.out A3 c3 w3 hF))
       clear o3 gr3 hb3 hcc hee hF)
    | (go_at_call 8;(with_reducible refine (HAw.out _ H3.out.1).mono ?_);rintro e w4 ⟨rfl,hb4⟩;have HB4 : Hid (Below w3.heap.size w3 w4):=Lib.hid hb4;clear hb4)
    | (go_at_call 9;(with_reducible refine (H3.out.2.1 _ HB4.out).mono ?_);rintro e w5 ⟨r,rfl,hr60,hb5⟩;have HB5:=Lib.hid (HB4.out.chain hb5);have HR60:=Lib.hid hr60;clear hb5 hr60)
    | (go_at_call 8;(with_reducible refine (HAw.out _ (H3.out.1.chain HB5.out)).mono ?_);rintro e w9 ⟨rfl,hb9⟩;have HZ:=Lib.hid ((H3.out.1.chain HB5.out).chain hb9);clear hb9)
    | (go_at_call 11;(with_reducible refine (H3.out.2.2.1 _ HB5.out).mono ?_);rintro e w6 ⟨rfl,hb6⟩;have HB6:=Lib.hid (HB5.out.chain hb6);clear hb6)
    | (go_at_call 8;(with_reducible refine (HAw.out _ (H3.out.1.chain HB6.out)).mono ?_);rintro e w9 ⟨rfl,hb9⟩;have HZ:=Lib.hid ((H3.out.1.chain HB6.out).chain hb9);clear hb9))
   all_goals go_ret
   all_goals exact ⟨rfl,HZ.out⟩
 | true =>
   by_cases hqP : q < P
   ·have hqi : ¬ (P : Int) ≤ q:=Int.not_le.2 (Int.ofNat_lt.2 hqP)
    have hqn : ¬ P ≤ q:=Nat.not_le.2 hqP
    have HLM : Hid (((limN M : Nat) : Int) = 1073741824):=Lib.hid (by have h:=HT.out;rw [if_pos hqP] at h;rw [← h];rfl)
    clear HT hqP hm0 hm1 hq hqz hp1 hp2 hq1 hq2
    go_enter Tryz.func7,Tryz.ntmps7
    go_upto_region 6 with (first
     | (go_at_call 25;(with_reducible refine HCl.out.mono ?_);rintro e w2 ⟨A2,c2,rfl,D2,xs2,o2,cl2,el2,hb2⟩;rw [← HNM.out.1] at o2;have H2:=Lib.hid (And.intro o2 (And.intro cl2 (And.intro el2 hb2)));clear o2 cl2 el2 hb2)
     | (at_builtin;refine wpList_append_any (o:=⟨some 15,_,_,_,_,_⟩) _ rfl _ _ 22 rfl w.heap.size 36 i0 _ 24 368 Tryz.underlying22 HI0.out.1 HI0.out.2.1 HI0.out.2.2.1 HI0.out.2.2.2 rfl (by decide) _ n xs2 rfl H2.out.1 w.heap.size B m d xsB rfl (HRB.out.1.keep (fun q hq => H2.out.2.2.2.cell hq)) (cells_one HRB.out.2.1 (by rw [← HNM.out.2];exact HRB.out.1.1)) (by unfold maxLen;omega) (by omega) H2.out.2.2.2.size ?_
        intro v3 w3 o3 gr3 _
        obtain ⟨A3,c3,rfl⟩:=own_sliceM o3
        have hb3 : Below w.heap.size w w3:=H2.out.2.2.2.trans (below_grown H2.out.1 gr3 H2.out.2.2.2.size)
        obtain ⟨DD,hcc,hee⟩:=els_cat (w:=w3) (by rw [← HNM.out.1];exact H2.out.1.1) H2.out.2.1 HRB.out.2.1 (fun q hq => (hb3.cell hq).trans (H2.out.2.2.2.cell hq).symm) (fun q hq => hb3.cell hq) H2.out.2.2.1 HRB.out.2.2
        have hF : Flatted w.heap.size w (a ++ b) (.slice A3 (n + m) c3) w3:=⟨DD,xs2 ++ xsB,(by rw [List.length_append,← HNM.out.1,← HNM.out.2];exact o3),hcc,hee,hb3⟩
        have H3:=Lib.hid (And.intro hb3 (HJ.out A3 c3 w3 hF))
        clear o3 gr3 hb3 hcc hee hF)
     | (go_at_call 8;(with_reducible refine (HAw.out _ H3.out.1).mono ?_);rintro e w4 ⟨rfl,hb4⟩;have HB4 : Hid (Below w3.heap.size w3 w4):=Lib.hid hb4;clear hb4)
     | (go_at_call 9;(with_reducible refine (H3.out.2.1 _ HB4.out).mono ?_);rintro e w5 ⟨r,rfl,hr60,hb5⟩;have HB5:=Lib.hid (HB4.out.chain hb5);have HR60:=Lib.hid hr60;clear hb5 hr60)
     | (go_at_call 8;(with_reducible refine (HAw.out _ (H3.out.1.chain HB5.out)).mono ?_);rintro e w9 ⟨rfl,hb9⟩;have HZ:=Lib.hid ((H3.out.1.chain HB5.out).chain hb9);clear hb9)
     | (go_at_call 11;(with_reducible refine (H3.out.2.2.1 _ HB5.out).mono ?_);rintro e w6 ⟨rfl,hb6⟩;have HB6:=Lib.hid (HB5.out.chain hb6);clear hb6
        have H60:=Lib.hid (HR60.out (by first | assumption | exact ne_of_beq_false (by assumption)))
        have HV:=Lib.hid (H3.out.2.2.2 (by simp) H60.out)
        have HPa : Hid (∀ W,Below w3.heap.size w3 W → Calls Tryz.prog 24 #[.slice A n c,.int .i64 kk] W fun e w' => e = .returned (.int .i64 P) ∧ Below W.heap.size W w'):=Lib.hid (fun W hb => by rw [HPQ.out.1];exact HV.out.2.1.paths kk (Nat.le_trans hk4 (by decide)) W hb)
        have HPb : Hid (∀ W,Below w3.heap.size w3 W → Calls Tryz.prog 24 #[.slice B m d,.int .i64 kk] W fun e w' => e = .returned (.int .i64 Q) ∧ Below W.heap.size W w'):=Lib.hid (fun W hb => by rw [HPQ.out.2];exact HV.out.2.2.paths kk (Nat.le_trans hk4 (by decide)) W hb)
        have HPl : Hid (∀ W,Below w3.heap.size w3 W → Calls Tryz.prog 24 #[.slice A3 (n + m) c3,.int .i64 kk] W fun e w' => e = .returned (.int .i64 1073741824) ∧ Below W.heap.size W w'):=Lib.hid (fun W hb => by have h:=HV.out.1.paths kk (Nat.le_trans hk4 (by decide)) W hb;rw [HW.out,HLM.out] at h;exact h)
        have hl2:=hlo1.out H60.out
        have u1 : wrap64 ((La : Int) + Lb) = ((La + Lb : Nat) : Int):=wrap_addJ hl2.1 hl2.2
        have u2 : IntKind.i64.wrap ((La : Int) + Lb) = ((La + Lb : Nat) : Int):=i64_addJ hl2.1 hl2.2
        have HLl : Hid (∀ W,Below w3.heap.size w3 W → Calls Tryz.prog 21 #[.slice A3 (n + m) c3] W fun e w' => e = .returned (.int .i64 ((La + Lb : Nat) : Int)) ∧ Below W.heap.size W w'):=Lib.hid (fun W hb => by have h:=HV.out.1.loops W hb;rw [HLo.out] at h;exact h)
        have HLa : Hid (∀ W,Below w3.heap.size w3 W → Calls Tryz.prog 21 #[.slice A n c] W fun e w' => e = .returned (.int .i64 (La : Int)) ∧ Below W.heap.size W w'):=Lib.hid (fun W hb => by rw [HLL.out.1];exact HV.out.2.1.loops W hb)
        have HLb : Hid (∀ W,Below w3.heap.size w3 W → Calls Tryz.prog 21 #[.slice B m d] W fun e w' => e = .returned (.int .i64 (Lb : Int)) ∧ Below W.heap.size W w'):=Lib.hid (fun W hb => by rw [HLL.out.2];exact HV.out.2.2.loops W hb)
        have HMl:=Lib.hid HV.out.1.mod
        have HUl:=Lib.hid HV.out.1.used
        have HKl:=Lib.hid HV.out.1.lock
        rw [HAP.out.1] at HMl
        rw [HAP.out.2.1] at HUl
        rw [HAP.out.2.2] at HKl)
     | (go_at_call 24;(with_reducible refine (HPa.out _ HB6.out).mono ?_);rintro e w16 ⟨rfl,hb16⟩;have HB16:=Lib.hid (HB6.out.chain hb16);clear hb16)
     | (go_at_call 24;(with_reducible refine (HPb.out _ HB16.out).mono ?_);rintro e w26 ⟨rfl,hb26⟩;have HB26:=Lib.hid (HB16.out.chain hb26);clear hb26))
    go_upto_region 11 with fail
    go_wp2_with (first
     | (go_at_call 24;(with_reducible refine (HPl.out _ HB26.out).mono ?_);rintro e w36 ⟨rfl,hb36⟩;have HB36:=Lib.hid (HB26.out.chain hb36);clear hb36)
     | (go_at_call 21;(with_reducible refine (HLl.out _ HB36.out).mono ?_);rintro e w46 ⟨rfl,hb46⟩;have HB46:=Lib.hid (HB36.out.chain hb46);clear hb46)
     | (go_at_call 21;(with_reducible refine (HLa.out _ HB46.out).mono ?_);rintro e w56 ⟨rfl,hb56⟩;have HB56:=Lib.hid (HB46.out.chain hb56);clear hb56)
     | (go_at_call 21;(with_reducible refine (HLb.out _ HB56.out).mono ?_);rintro e w66 ⟨rfl,hb66⟩;have HB66:=Lib.hid (HB56.out.chain hb66);clear hb66)
     | (go_at_call 23;(with_reducible refine (HMl.out _ HB66.out).mono ?_);rintro e w76 ⟨A76,n76,c76,rfl,r76,hb76⟩;have HB76:=Lib.hid (HB66.out.chain hb76);have R76:=Lib.hid r76;clear hb76 r76)
     | (go_at_call 23;(with_reducible refine (HV.out.2.1.mod _ HB76.out).mono ?_);rintro e w86 ⟨A86,n86,c86,rfl,r86,hb86⟩;have HB86:=Lib.hid (HB76.out.chain hb86);have R86:=Lib.hid r86;have R76':=Lib.hid (R76.out.on hb86);clear hb86 r86)
     | (go_at_call 23;(with_reducible refine (HV.out.2.2.mod _ HB86.out).mono ?_);rintro e w96 ⟨A96,n96,c96,rfl,r96,hb96⟩;have HB96:=Lib.hid (HB86.out.chain hb96);have R96:=Lib.hid r96;have R76'':=Lib.hid (R76'.out.on hb96);have R86':=Lib.hid (R86.out.on hb96);clear hb96 r96)
     | (go_at_call 26;(with_reducible refine (union_res R86'.out R96.out (HN.out (by simp) H60.out).1).mono ?_);rintro e w106 ⟨A106,n106,c106,rfl,r106,hb106⟩;have HB106:=Lib.hid (HB96.out.chain hb106);have HE106:=Lib.hid (res_equal (d:=c106) (R76''.out.on hb106) r106 (HN.out (by simp) H60.out).1);clear hb106 r106)
     | (go_at_call 22;(with_reducible refine HE106.out.mono ?_);rintro e w116 ⟨rfl,hb116⟩;have HB116:=Lib.hid (HB106.out.chain hb116);clear hb116)
     | (go_at_call 27;(with_reducible refine (HUl.out _ HB116.out).mono ?_);rintro e w126 ⟨A126,n126,c126,rfl,r126,hb126⟩;have HB126:=Lib.hid (HB116.out.chain hb126);have R126:=Lib.hid r126;clear hb126 r126)
     | (go_at_call 27;(with_reducible refine (HV.out.2.1.used _ HB126.out).mono ?_);rintro e w136 ⟨A136,n136,c136,rfl,r136,hb136⟩;have HB136:=Lib.hid (HB126.out.chain hb136);have R136:=Lib.hid r136;have R126':=Lib.hid (R126.out.on hb136);clear hb136 r136)
     | (go_at_call 27;(with_reducible refine (HV.out.2.2.used _ HB136.out).mono ?_);rintro e w146 ⟨A146,n146,c146,rfl,r146,hb146⟩;have HB146:=Lib.hid (HB136.out.chain hb146);have R146:=Lib.hid r146;have R126'':=Lib.hid (R126'.out.on hb146);have R136':=Lib.hid (R136.out.on hb146);clear hb146 r146)
     | (go_at_call 26;(with_reducible refine (union_res R136'.out R146.out (HN.out (by simp) H60.out).2.1).mono ?_);rintro e w156 ⟨A156,n156,c156,rfl,r156,hb156⟩;have HB156:=Lib.hid (HB146.out.chain hb156);have HE156:=Lib.hid (res_equal (d:=c156) (R126''.out.on hb156) r156 (HN.out (by simp) H60.out).2.1);clear hb156 r156)
     | (go_at_call 22;(with_reducible refine HE156.out.mono ?_);rintro e w166 ⟨rfl,hb166⟩;have HB166:=Lib.hid (HB156.out.chain hb166);clear hb166)
     | (go_at_call 28;(with_reducible refine (HKl.out _ HB166.out).mono ?_);rintro e w176 ⟨A176,n176,c176,rfl,r176,hb176⟩;have HB176:=Lib.hid (HB166.out.chain hb176);have R176:=Lib.hid r176;clear hb176 r176)
     | (go_at_call 28;(with_reducible refine (HV.out.2.1.lock _ HB176.out).mono ?_);rintro e w186 ⟨A186,n186,c186,rfl,r186,hb186⟩;have HB186:=Lib.hid (HB176.out.chain hb186);have R186:=Lib.hid r186;have R176':=Lib.hid (R176.out.on hb186);clear hb186 r186)
     | (go_at_call 28;(with_reducible refine (HV.out.2.2.lock _ HB186.out).mono ?_);rintro e w196 ⟨A196,n196,c196,rfl,r196,hb196⟩;have HB196:=Lib.hid (HB186.out.chain hb196);have R196:=Lib.hid r196;have R176'':=Lib.hid (R176'.out.on hb196);have R186':=Lib.hid (R186.out.on hb196);clear hb196 r196)
     | (go_at_call 26;(with_reducible refine (union_res R186'.out R196.out (HN.out (by simp) H60.out).2.2).mono ?_);rintro e w206 ⟨A206,n206,c206,rfl,r206,hb206⟩;have HB206:=Lib.hid (HB196.out.chain hb206);have HE206:=Lib.hid (res_equal (d:=c206) (R176''.out.on hb206) r206 (HN.out (by simp) H60.out).2.2);clear hb206 r206)
     | (go_at_call 22;(with_reducible refine HE206.out.mono ?_);rintro e w216 ⟨rfl,hb216⟩;have HZ:=Lib.hid (H3.out.1.chain (HB206.out.chain hb216));have HB216:=Lib.hid (HB206.out.chain hb216);clear hb216))
    all_goals go_ret
    all_goals first
     | exact ⟨rfl,HZ.out⟩
     | exact ⟨by simp,HZ.out⟩
     | (exfalso;omega)
   ·have hqi : (P : Int) ≤ q:=Int.ofNat_le.2 (Nat.le_of_not_lt hqP)
    have hqn : P ≤ q:=Nat.le_of_not_lt hqP
    have HLM : Hid (limN M = M):=Lib.hid (by have h:=HT.out;rw [if_neg hqP] at h;exact h.symm)
    clear HT hqP hm0 hm1 hq hqz hp1 hp2 hq1 hq2
    go_enter Tryz.func7,Tryz.ntmps7
    go_upto_region 6 with (first
     | (go_at_call 25;(with_reducible refine HCl.out.mono ?_);rintro e w2 ⟨A2,c2,rfl,D2,xs2,o2,cl2,el2,hb2⟩;rw [← HNM.out.1] at o2;have H2:=Lib.hid (And.intro o2 (And.intro cl2 (And.intro el2 hb2)));clear o2 cl2 el2 hb2)
     | (at_builtin;refine wpList_append_any (o:=⟨some 15,_,_,_,_,_⟩) _ rfl _ _ 22 rfl w.heap.size 36 i0 _ 24 368 Tryz.underlying22 HI0.out.1 HI0.out.2.1 HI0.out.2.2.1 HI0.out.2.2.2 rfl (by decide) _ n xs2 rfl H2.out.1 w.heap.size B m d xsB rfl (HRB.out.1.keep (fun q hq => H2.out.2.2.2.cell hq)) (cells_one HRB.out.2.1 (by rw [← HNM.out.2];exact HRB.out.1.1)) (by unfold maxLen;omega) (by omega) H2.out.2.2.2.size ?_
        intro v3 w3 o3 gr3 _
        obtain ⟨A3,c3,rfl⟩:=own_sliceM o3
        have hb3 : Below w.heap.size w w3:=H2.out.2.2.2.trans (below_grown H2.out.1 gr3 H2.out.2.2.2.size)
        obtain ⟨DD,hcc,hee⟩:=els_cat (w:=w3) (by rw [← HNM.out.1];exact H2.out.1.1) H2.out.2.1 HRB.out.2.1 (fun q hq => (hb3.cell hq).trans (H2.out.2.2.2.cell hq).symm) (fun q hq => hb3.cell hq) H2.out.2.2.1 HRB.out.2.2
        have hF : Flatted w.heap.size w (a ++ b) (.slice A3 (n + m) c3) w3:=⟨DD,xs2 ++ xsB,(by rw [List.length_append,← HNM.out.1,← HNM.out.2];exact o3),hcc,hee,hb3⟩
        have H3:=Lib.hid (And.intro hb3 (HJ.out A3 c3 w3 hF))
        clear o3 gr3 hb3 hcc hee hF)
     | (go_at_call 8;(with_reducible refine (HAw.out _ H3.out.1).mono ?_);rintro e w4 ⟨rfl,hb4⟩;have HB4 : Hid (Below w3.heap.size w3 w4):=Lib.hid hb4;clear hb4)
     | (go_at_call 9;(with_reducible refine (H3.out.2.1 _ HB4.out).mono ?_);rintro e w5 ⟨r,rfl,hr60,hb5⟩;have HB5:=Lib.hid (HB4.out.chain hb5);have HR60:=Lib.hid hr60;clear hb5 hr60)
     | (go_at_call 8;(with_reducible refine (HAw.out _ (H3.out.1.chain HB5.out)).mono ?_);rintro e w9 ⟨rfl,hb9⟩;have HZ:=Lib.hid ((H3.out.1.chain HB5.out).chain hb9);clear hb9)
     | (go_at_call 11;(with_reducible refine (H3.out.2.2.1 _ HB5.out).mono ?_);rintro e w6 ⟨rfl,hb6⟩;have HB6:=Lib.hid (HB5.out.chain hb6);clear hb6
        have H60:=Lib.hid (HR60.out (by first | assumption | exact ne_of_beq_false (by assumption)))
        have HV:=Lib.hid (H3.out.2.2.2 (by simp) H60.out)
        have HPa : Hid (∀ W,Below w3.heap.size w3 W → Calls Tryz.prog 24 #[.slice A n c,.int .i64 kk] W fun e w' => e = .returned (.int .i64 P) ∧ Below W.heap.size W w'):=Lib.hid (fun W hb => by rw [HPQ.out.1];exact HV.out.2.1.paths kk (Nat.le_trans hk4 (by decide)) W hb)
        have HPb : Hid (∀ W,Below w3.heap.size w3 W → Calls Tryz.prog 24 #[.slice B m d,.int .i64 kk] W fun e w' => e = .returned (.int .i64 Q) ∧ Below W.heap.size W w'):=Lib.hid (fun W hb => by rw [HPQ.out.2];exact HV.out.2.2.paths kk (Nat.le_trans hk4 (by decide)) W hb)
        have HPl : Hid (∀ W,Below w3.heap.size w3 W → Calls Tryz.prog 24 #[.slice A3 (n + m) c3,.int .i64 kk] W fun e w' => e = .returned (.int .i64 M) ∧ Below W.heap.size W w'):=Lib.hid (fun W hb => by have h:=HV.out.1.paths kk (Nat.le_trans hk4 (by decide)) W hb;rw [HW.out,HLM.out] at h;exact h)
        have hl2:=hlo1.out H60.out
        have u1 : wrap64 ((La : Int) + Lb) = ((La + Lb : Nat) : Int):=wrap_addJ hl2.1 hl2.2
        have u2 : IntKind.i64.wrap ((La : Int) + Lb) = ((La + Lb : Nat) : Int):=i64_addJ hl2.1 hl2.2
        have HLl : Hid (∀ W,Below w3.heap.size w3 W → Calls Tryz.prog 21 #[.slice A3 (n + m) c3] W fun e w' => e = .returned (.int .i64 ((La + Lb : Nat) : Int)) ∧ Below W.heap.size W w'):=Lib.hid (fun W hb => by have h:=HV.out.1.loops W hb;rw [HLo.out] at h;exact h)
        have HLa : Hid (∀ W,Below w3.heap.size w3 W → Calls Tryz.prog 21 #[.slice A n c] W fun e w' => e = .returned (.int .i64 (La : Int)) ∧ Below W.heap.size W w'):=Lib.hid (fun W hb => by rw [HLL.out.1];exact HV.out.2.1.loops W hb)
        have HLb : Hid (∀ W,Below w3.heap.size w3 W → Calls Tryz.prog 21 #[.slice B m d] W fun e w' => e = .returned (.int .i64 (Lb : Int)) ∧ Below W.heap.size W w'):=Lib.hid (fun W hb => by rw [HLL.out.2];exact HV.out.2.2.loops W hb)
        have HMl:=Lib.hid HV.out.1.mod
        have HUl:=Lib.hid HV.out.1.used
        have HKl:=Lib.hid HV.out.1.lock
        rw [HAP.out.1] at HMl
        rw [HAP.out.2.1] at HUl
        rw [HAP.out.2.2] at HKl)
     | (go_at_call 24;(with_reducible refine (HPa.out _ HB6.out).mono ?_);rintro e w16 ⟨rfl,hb16⟩;have HB16:=Lib.hid (HB6.out.chain hb16);clear hb16)
     | (go_at_call 24;(with_reducible refine (HPb.out _ HB16.out).mono ?_);rintro e w26 ⟨rfl,hb26⟩;have HB26:=Lib.hid (HB16.out.chain hb26);clear hb26))
    go_upto_region 11 with fail
    go_wp2_with (first
     | (go_at_call 24;(with_reducible refine (HPl.out _ HB26.out).mono ?_);rintro e w36 ⟨rfl,hb36⟩;have HB36:=Lib.hid (HB26.out.chain hb36);clear hb36)
     | (go_at_call 21;(with_reducible refine (HLl.out _ HB36.out).mono ?_);rintro e w46 ⟨rfl,hb46⟩;have HB46:=Lib.hid (HB36.out.chain hb46);clear hb46)
     | (go_at_call 21;(with_reducible refine (HLa.out _ HB46.out).mono ?_);rintro e w56 ⟨rfl,hb56⟩;have HB56:=Lib.hid (HB46.out.chain hb56);clear hb56)
     | (go_at_call 21;(with_reducible refine (HLb.out _ HB56.out).mono ?_);rintro e w66 ⟨rfl,hb66⟩;have HB66:=Lib.hid (HB56.out.chain hb66);clear hb66)
     | (go_at_call 23;(with_reducible refine (HMl.out _ HB66.out).mono ?_);rintro e w76 ⟨A76,n76,c76,rfl,r76,hb76⟩;have HB76:=Lib.hid (HB66.out.chain hb76);have R76:=Lib.hid r76;clear hb76 r76)
     | (go_at_call 23;(with_reducible refine (HV.out.2.1.mod _ HB76.out).mono ?_);rintro e w86 ⟨A86,n86,c86,rfl,r86,hb86⟩;have HB86:=Lib.hid (HB76.out.chain hb86);have R86:=Lib.hid r86;have R76':=Lib.hid (R76.out.on hb86);clear hb86 r86)
     | (go_at_call 23;(with_reducible refine (HV.out.2.2.mod _ HB86.out).mono ?_);rintro e w96 ⟨A96,n96,c96,rfl,r96,hb96⟩;have HB96:=Lib.hid (HB86.out.chain hb96);have R96:=Lib.hid r96;have R76'':=Lib.hid (R76'.out.on hb96);have R86':=Lib.hid (R86.out.on hb96);clear hb96 r96)
     | (go_at_call 26;(with_reducible refine (union_res R86'.out R96.out (HN.out (by simp) H60.out).1).mono ?_);rintro e w106 ⟨A106,n106,c106,rfl,r106,hb106⟩;have HB106:=Lib.hid (HB96.out.chain hb106);have HE106:=Lib.hid (res_equal (d:=c106) (R76''.out.on hb106) r106 (HN.out (by simp) H60.out).1);clear hb106 r106)
     | (go_at_call 22;(with_reducible refine HE106.out.mono ?_);rintro e w116 ⟨rfl,hb116⟩;have HB116:=Lib.hid (HB106.out.chain hb116);clear hb116)
     | (go_at_call 27;(with_reducible refine (HUl.out _ HB116.out).mono ?_);rintro e w126 ⟨A126,n126,c126,rfl,r126,hb126⟩;have HB126:=Lib.hid (HB116.out.chain hb126);have R126:=Lib.hid r126;clear hb126 r126)
     | (go_at_call 27;(with_reducible refine (HV.out.2.1.used _ HB126.out).mono ?_);rintro e w136 ⟨A136,n136,c136,rfl,r136,hb136⟩;have HB136:=Lib.hid (HB126.out.chain hb136);have R136:=Lib.hid r136;have R126':=Lib.hid (R126.out.on hb136);clear hb136 r136)
     | (go_at_call 27;(with_reducible refine (HV.out.2.2.used _ HB136.out).mono ?_);rintro e w146 ⟨A146,n146,c146,rfl,r146,hb146⟩;have HB146:=Lib.hid (HB136.out.chain hb146);have R146:=Lib.hid r146;have R126'':=Lib.hid (R126'.out.on hb146);have R136':=Lib.hid (R136.out.on hb146);clear hb146 r146)
     | (go_at_call 26;(with_reducible refine (union_res R136'.out R146.out (HN.out (by simp) H60.out).2.1).mono ?_);rintro e w156 ⟨A156,n156,c156,rfl,r156,hb156⟩;have HB156:=Lib.hid (HB146.out.chain hb156);have HE156:=Lib.hid (res_equal (d:=c156) (R126''.out.on hb156) r156 (HN.out (by simp) H60.out).2.1);clear hb156 r156)
     | (go_at_call 22;(with_reducible refine HE156.out.mono ?_);rintro e w166 ⟨rfl,hb166⟩;have HB166:=Lib.hid (HB156.out.chain hb166);clear hb166)
     | (go_at_call 28;(with_reducible refine (HKl.out _ HB166.out).mono ?_);rintro e w176 ⟨A176,n176,c176,rfl,r176,hb176⟩;have HB176:=Lib.hid (HB166.out.chain hb176);have R176:=Lib.hid r176;clear hb176 r176)
     | (go_at_call 28;(with_reducible refine (HV.out.2.1.lock _ HB176.out).mono ?_);rintro e w186 ⟨A186,n186,c186,rfl,r186,hb186⟩;have HB186:=Lib.hid (HB176.out.chain hb186);have R186:=Lib.hid r186;have R176':=Lib.hid (R176.out.on hb186);clear hb186 r186)
     | (go_at_call 28;(with_reducible refine (HV.out.2.2.lock _ HB186.out).mono ?_);rintro e w196 ⟨A196,n196,c196,rfl,r196,hb196⟩;have HB196:=Lib.hid (HB186.out.chain hb196);have R196:=Lib.hid r196;have R176'':=Lib.hid (R176'.out.on hb196);have R186':=Lib.hid (R186.out.on hb196);clear hb196 r196)
     | (go_at_call 26;(with_reducible refine (union_res R186'.out R196.out (HN.out (by simp) H60.out).2.2).mono ?_);rintro e w206 ⟨A206,n206,c206,rfl,r206,hb206⟩;have HB206:=Lib.hid (HB196.out.chain hb206);have HE206:=Lib.hid (res_equal (d:=c206) (R176''.out.on hb206) r206 (HN.out (by simp) H60.out).2.2);clear hb206 r206)
     | (go_at_call 22;(with_reducible refine HE206.out.mono ?_);rintro e w216 ⟨rfl,hb216⟩;have HZ:=Lib.hid (H3.out.1.chain (HB206.out.chain hb216));have HB216:=Lib.hid (HB206.out.chain hb216);clear hb216))
    all_goals go_ret
    all_goals first
     | exact ⟨rfl,HZ.out⟩
     | exact ⟨by simp,HZ.out⟩
     | (exfalso;omega)
end Go.Proofs.YtbalioicgpgehaaGreatDoor
namespace Go.Proofs.YtbalioicgpgehaaGreatDoor
set_option maxRecDepth 100000
open Go.RowKit Go.ChangeShapes Go.WideShapes Go.Deep
variable {H : Type} {enc : TypeId × Value → H} {w : World} {spare : Nat → Bool} {held : Bool}
theorem sum_one {α : Type} : ∀ l : List α,(l.map fun _ => 1).sum = l.length
 | [] => rfl
 | _ :: l => by rw [List.map_cons,List.sum_cons,sum_one l,List.length_cons];omega
theorem sts_len {l : List St} {A : Option Addr} {c : Nat} {d : DataW H} {p : List MemPlace} (hr : StRow w w.heap.size l A) (h : DataW.Trod enc Tryz.prog w 0 spare held 22 (.slice A l.length c) d p) (hl : Rows.uptoBulk d ≤ 1048576) : l.length * 368 ≤ 70368744177664:=by
 obtain ⟨fuel,hf⟩:=h
 have hf : DataW.trod enc Tryz.prog w 0 spare held fuel 22 [.slice A l.length c] = some (d,p):=by simpa [Value.cells] using hf
 have q:=row_bulk (fun _ : St => 1) Tryz.underlying22 lw_Stmt.1 hr.rowV hf (fun y _ cs z fu hv ht => bulk_one z.1)
 rw [sum_one] at q
 have q2 : l.length ≤ Rows.uptoBulk d:=q
 omega
theorem bulk_second {H : Type} {d d2 : DataW H} {l : List (DataW H)} (hk : Rows.uptoSmall H (d :: d2 :: l) = true) : Rows.uptoBulk d2 ≤ 1048576:=by
 have h:=of_decide_eq_true hk
 have := bulk_part (d:=d2) (l:=d :: d2 :: l) (by simp)
 omega
end Go.Proofs.YtbalioicgpgehaaGreatDoor
