import Derived.Test.YtbalioicgpgehaaGreatDoorSFloM
set_option linter.unusedVariables false
set_option linter.unusedSimpArgs false
namespace Go.Proofs.YtbalioicgpgehaaGreatDoor
set_option maxRecDepth 100000
set_option maxHeartbeats 8000000
open Go.RowKit
theorem limited_any (x : Int) (n : Nat) (hx : x = n) (w : World) : Calls Tryz.prog 72 #[.int .i64 x] w fun e w' => e = .returned (.int .i64 (limN n : Nat)) ∧ w = w':=by
 have hl : ((limN n : Nat) : Int) = min x 1073741824:=by unfold limN;omega
 rw [hl]
 clear hx hl
 go_enter Tryz.func72,Tryz.ntmps72
 go_wp2
 go_ret
 all_goals exact ⟨rfl,rfl⟩
theorem sumPow_any (B lp : Nat) (hB : 1 ≤ B) (hlp : lp ≤ 100) (w : World) : Calls Tryz.prog 111 #[.int .i64 (limN B : Nat),.int .i64 lp] w fun e w' => e = .returned (.int .i64 (limN (powS B lp) : Nat)) ∧ w = w':=by
 obtain ⟨b,hb⟩ : ∃ b,b = limN B:=⟨_,rfl⟩
 have hbm : b ≤ 1073741824:=by rw [hb];exact limN_le _
 have HH:=Lib.hid (And.intro hB hb)
 rw [← hb]
 clear hB hb
 go_enter Tryz.func111,Tryz.ntmps111
 go_wp2
 go_loopg [5,7] lp (fun mm v j wr => ∃ (k q : Nat),mm = lp - k ∧ k ≤ lp ∧ j = .int .i64 k ∧ v = .int .i64 q ∧ q ≤ 1073741824 ∧ Hid (w = wr ∧ q = limN (powS B k)))
 case atStart => exact ⟨0,1,rfl,Nat.zero_le _,rfl,rfl,by omega,Lib.hid ⟨rfl,rfl⟩⟩
 case round =>
  obtain ⟨k,q,rfl,hk,rfl,rfl,hq,HI⟩:=hrel
  by_cases hlt : k < lp
  ·have hki : (k : Int) < lp:=by omega
   have hm0 : b * q ≤ 1073741824 * 1073741824:=Nat.mul_le_mul hbm hq
   have hm1 : ((b : Int) * q) = ((b * q : Nat) : Int):=by rw [Int.natCast_mul]
   obtain ⟨m,hm⟩ : ∃ m,m = b * q:=⟨_,rfl⟩
   rw [← hm] at hm0 hm1
   have HM:=Lib.hid hm
   clear hm
   have hm2 : IntKind.i64.wrap ((b : Int) * q) = m:=by rw [hm1];exact IntWalk.i64_in _ (by omega)
   have hm3 : wrap64 ((b : Int) * q) = m:=by rw [hm1];unfold wrap64;omega
   have HC:=Lib.hid (limited_any (1 + (m : Int)) (1 + m) (by omega) wr)
   go_wp2_with (go_at_call 72;(with_reducible refine HC.out.mono ?_);rintro e w2 ⟨rfl,hw⟩;subst hw)
   go_roundg (lp - (k + 1))
   case measure => omega
   case rel => exact ⟨k + 1,limN (1 + m),rfl,by omega,by go_num,rfl,limN_le _,Lib.hid ⟨HI.out.1,by rw [HM.out,HI.out.2,HH.out.2];exact powS_lim HH.out.1 k⟩⟩
  ·obtain rfl : k = lp:=by omega
   go_wp2
   go_ret
   exact ⟨by rw [HI.out.2];rfl,HI.out.1⟩
theorem through_by (s : St) (d : SAd) (lp : Nat) (hlp : lp ≤ 100) (w : World) (nb nt : Nat) (hnb : nb = s.body.length) (hnt : nt = s.els.length)
 (H1 : ∀ W,Below w.heap.size w W → Calls Tryz.prog 46 #[.slice d.s nb d.ns,.int .i64 lp] W fun e w' => e = .returned (.int .i64 (limN (paL lp s.body) : Nat)) ∧ Below W.heap.size W w')
 (H2 : ∀ W,Below w.heap.size w W → Calls Tryz.prog 46 #[.slice d.t nt d.nt,.int .i64 lp] W fun e w' => e = .returned (.int .i64 (limN (paL lp s.els) : Nat)) ∧ Below W.heap.size W w') :
 Calls Tryz.prog 73 #[.agg (stCs d s),.int .i64 lp] w fun e w' => e = .returned (.int .i64 (limN (paS lp s) : Nat)) ∧ Below w.heap.size w w':=by
 obtain ⟨T,N,zc,hT,hN,hzc,hag,hsz,hzv⟩:=stmt_hidden2
 have e1 : ∀ y : Operand,Op.load 36 y = Op.load T y:=fun y => by rw [hT]
 have e2 : ∀ y z : Operand,Op.store 36 y z = Op.store T y z:=fun y z => by rw [hT]
 have e3 : Op.alloc 36 = Op.alloc T:=by rw [hT]
 have hmx : Tryz.prog.follows .mixedOrders = true:=by kernel_rfl
 have e4 : ∀ y : Operand,Op.box 36 y = Op.box T y:=fun y => by rw [hT]
 have hcz : (stCs d s).size = N:=(stCs_size d s).trans hN.symm
 have hone : (stCs d s).all (·.oneCell') = true:=stCs_one d s
 have hc22 : (stCs d s)[22]? = some (.slice d.s nb d.ns):=by rw [hnb];exact stCs_22F d s
 have hc23 : (stCs d s)[23]? = some (.slice d.t nt d.nt):=by rw [hnt];exact stCs_23F d s
 have hc0 : (stCs d s)[0]? = some (.int .i64 (kOf s)):=stCs_0F d s
 have hps : paS lp s = paK (kOf s) lp (paL lp s.body) (paL lp s.els):=by
  obtain ⟨k0,ln,co,nm,fd,fr,e,cn,cl,iv,b,o⟩:=s
  rw [paS]
  rfl
 obtain ⟨k0,hk0⟩ : ∃ k,k = kOf s:=⟨_,rfl⟩
 rw [← hk0] at hc0 hps
 obtain ⟨X,hX⟩ : ∃ X,X = paL lp s.body:=⟨_,rfl⟩
 obtain ⟨Y,hY⟩ : ∃ Y,Y = paL lp s.els:=⟨_,rfl⟩
 have hX1 : 1 ≤ X:=by rw [hX];exact paL_pos _ _
 rw [← hX] at H1 hps
 rw [← hY] at H2 hps
 obtain ⟨cs,hcs⟩ : ∃ cs,cs = stCs d s:=⟨_,rfl⟩
 rw [← hcs] at hcz hone hc22 hc23 hc0 ⊢
 rw [hps]
 clear hps hX hY hk0 hcs hnb hnt
 obtain ⟨W6,hW6⟩ : ∃ W6,W6 = w.alloc (.cells cs T):=⟨_,rfl⟩
 have hb6 : Below w.heap.size w W6:=by rw [hW6];exact below_alloc w _
 have hp6 : W6.heap[w.heap.size]? = some (.cells cs T (0,0)):=by rw [hW6];exact heap_of_alloc w _
 have hk6 : (w.alloc (.cells cs T)).cell? ⟨w.heap.size,0,none⟩ = some (.int .i64 k0):=by rw [← hW6];exact cell_of_block hp6 0 hc0
 have hs6 : (w.alloc (.cells cs T)).cell? ⟨w.heap.size,22,none⟩ = some (.slice d.s nb d.ns):=by rw [← hW6];exact cell_of_block hp6 22 hc22
 have H6:=Lib.hid hb6
 have HA:=Lib.hid (And.intro H1 H2)
 have HN:=Lib.hid (And.intro hN hzc)
 obtain ⟨S,hS⟩ : ∃ S : World → Prop,S = fun W => Below W6.heap.size W6 W:=⟨_,rfl⟩
 have HS2 : Hid (∀ W,Below W6.heap.size W6 W → S W):=Lib.hid (fun W hb => by rw [hS];exact hb)
 have HLD : Hid (∀ W,S W → W.cell? ⟨w.heap.size,22,none⟩ = some (.slice d.s nb d.ns) ∧ W.cell? ⟨w.heap.size,23,none⟩ = some (.slice d.t nt d.nt)):=Lib.hid (fun W hs => by
  rw [hS] at hs
  have q2:=kept_box hs hp6
  exact ⟨cell_of_block q2 22 hc22,cell_of_block q2 23 hc23⟩)
 have HX0:=Lib.hid (Below.refl W6.heap.size W6).drew
 have g0:=HS2.out _ HX0.out
 have HX1:=Lib.hid hX1
 obtain ⟨p,hp⟩ : ∃ p,p = limN X:=⟨_,rfl⟩
 obtain ⟨q,hq⟩ : ∃ q,q = limN Y:=⟨_,rfl⟩
 have hpm : p ≤ 1073741824:=by rw [hp];exact limN_le _
 have hqm : q ≤ 1073741824:=by rw [hq];exact limN_le _
 have HPQ:=Lib.hid (And.intro hp hq)
 clear H1 H2 hN hzc hb6 hS hc0 hc22 hc23 hp6 hX1 hp hq
 have hk4 : k0 = 8 ∨ k0 = 9 ∨ k0 = 11 ∨ (k0 ≠ 8 ∧ k0 ≠ 9 ∧ k0 ≠ 11):=by omega
 rcases hk4 with rfl | rfl | rfl | ⟨h8,h9,h11⟩
 ·rw [paK_8]
  go_enter Tryz.func73,Tryz.ntmps73
  simp only [e4]
  clear e1 e2 e3 e4 hT
  go_wp2
  rw [← hW6]
  clear hW6 hk6 hs6
  refine wp_region_held (S:=S) hmx ?_
  change wpAnyH _ _ _ _ _ 11 #[false,false,false,false,false,false,false,false,false,false,false] _ W6.drew
  refine tk 0 9 (.pointer (some ⟨w.heap.size,22,none⟩)) g0 ?v ?_
  case v => intro Wx hSx;go_simp
  refine tk 1 10 (.slice d.s nb d.ns) g0 ?v ?_
  case v => intro Wx hSx;obtain ⟨z1,z2⟩:=HLD.out Wx hSx;go_simp
  refine tk 2 11 (.int .i64 lp) g0 ?v ?_
  case v => intro Wx hSx;go_simp
  refine tk 4 13 (.pointer (some ⟨w.heap.size,23,none⟩)) g0 ?v ?_
  case v => intro Wx hSx;go_simp
  try simp only [Act.put,List.setIfInBounds_toArray,List.set_cons_zero,List.set_cons_succ]
  refine tk 5 14 (.slice d.t nt d.nt) g0 ?v ?_
  case v => intro Wx hSx;obtain ⟨z1,z2⟩:=HLD.out Wx hSx;go_simp
  refine tk 6 15 (.int .i64 lp) g0 ?v ?_
  case v => intro Wx hSx;go_simp
  try simp only [Act.put,List.setIfInBounds_toArray,List.set_cons_zero,List.set_cons_succ]
  refine o1 3 (fun K hK => ?_)
  go_simp
  (with_reducible refine (HA.out.1 _ (H6.out.chain HX0.out)).mono ?_)
  rintro e w3 ⟨rfl,hb3⟩
  have H3:=Lib.hid (HX0.out.chain hb3)
  have hs3:=HS2.out _ H3.out
  clear hb3
  rw [← HPQ.out.1]
  refine hK _ _ hs3 ?_
  clear hK K
  try simp only [Act.put,List.setIfInBounds_toArray,List.set_cons_zero,List.set_cons_succ]
  refine o1 7 (fun K hK => ?_)
  go_simp
  (with_reducible refine (HA.out.2 _ (H6.out.chain H3.out)).mono ?_)
  rintro e w4 ⟨rfl,hb4⟩
  have H4:=Lib.hid (H3.out.chain hb4)
  have hs4:=HS2.out _ H4.out
  clear hb4
  rw [← HPQ.out.2]
  refine hK _ _ hs4 ?_
  clear hK K
  try simp only [Act.put,List.setIfInBounds_toArray,List.set_cons_zero,List.set_cons_succ]
  refine tk 8 17 (.int .i64 ((p : Int) + q)) hs4 ?v ?_
  case v => intro Wx hSx;go_simp;try exact Go.IntWalk.i64_in _ (by omega)
  try simp only [Act.put,List.setIfInBounds_toArray,List.set_cons_zero,List.set_cons_succ]
  refine o1 9 (fun K hK => ?_)
  go_simp
  (with_reducible refine (limited_any ((p : Int) + q) (p + q) (by omega) w4).mono ?_)
  rintro e w5 ⟨rfl,hw⟩
  subst hw
  refine hK _ _ hs4 ?_
  clear hK K
  try simp only [Act.put,List.setIfInBounds_toArray,List.set_cons_zero,List.set_cons_succ]
  refine tk 10 4 (.int .i64 (limN (p + q) : Nat)) hs4 ?v ?_
  case v => intro Wx hSx;go_simp
  try simp only [Act.put,List.setIfInBounds_toArray,List.set_cons_zero,List.set_cons_succ]
  refine wpAnyH_done (by kernel_rfl) ?_ _
  go_wp2
  go_ret
  exact ⟨by rw [HPQ.out.1,HPQ.out.2,limN_add];rfl,H6.out.chain H4.out⟩
 ·rw [paK_9]
  go_enter Tryz.func73,Tryz.ntmps73
  simp only [e4]
  clear e1 e2 e3 e4 hT
  have HB:=Lib.hid (HA.out.1 W6 H6.out)
  rw [hW6] at HB
  rw [hW6] at H6
  go_wp2_with (first
   | (go_at_call 46;(with_reducible refine HB.out.mono ?_);rintro e w3 ⟨rfl,hb3⟩;have H3:=Lib.hid (H6.out.chain hb3);clear hb3)
   | (go_at_call 111;(with_reducible refine (sumPow_any X lp HX1.out hlp _).mono ?_);rintro e w4 ⟨rfl,hw⟩;subst hw))
  go_ret
  exact ⟨rfl,H3.out⟩
 ·rw [paK_11]
  go_enter Tryz.func73,Tryz.ntmps73
  simp only [e4]
  clear e1 e2 e3 e4 hT
  have HB:=Lib.hid (HA.out.1 W6 H6.out)
  rw [hW6] at HB
  rw [hW6] at H6
  go_wp2_with (first
   | (go_at_call 46;(with_reducible refine HB.out.mono ?_);rintro e w3 ⟨rfl,hb3⟩;have H3:=Lib.hid (H6.out.chain hb3);clear hb3))
  go_ret
  exact ⟨rfl,H3.out⟩
 ·rw [paK_no _ _ _ h8 h9 h11]
  have b8 : (k0 == 8) = false:=by simpa using h8
  have b9 : (k0 == 9) = false:=by simpa using h9
  have b11 : (k0 == 11) = false:=by simpa using h11
  go_enter Tryz.func73,Tryz.ntmps73
  simp only [e4]
  clear e1 e2 e3 e4 hT
  have HB:=Lib.hid (HA.out.1 W6 H6.out)
  rw [hW6] at HB
  rw [hW6] at H6
  go_wp2
  go_ret
  exact ⟨by rw [limN_one];rfl,H6.out⟩
theorem paths_any : ∀ (M : Nat) (ss : List St),SizeOf.sizeOf ss < M → ∀ (A : Option Addr) (c lp : Nat) (w : World),StRow w w.heap.size ss A → ss.length ≤ maxLen → lp ≤ 100 →
 Calls Tryz.prog 46 #[.slice A ss.length c,.int .i64 lp] w fun e w' => e = .returned (.int .i64 (limN (paL lp ss) : Nat)) ∧ Below w.heap.size w w':=by
 intro M
 induction M with
 | zero => intro ss h;omega
 | succ M ih =>
   intro ss hM A c lp w hr hn hlp
   obtain ⟨T,N,zc,hT,hN,hzc,hag,hsz,hzv⟩:=stmt_hidden2
   have e1 : ∀ y : Operand,Op.load 36 y = Op.load T y:=fun y => by rw [hT]
   have e2 : ∀ y z : Operand,Op.store 36 y z = Op.store T y z:=fun y z => by rw [hT]
   have e3 : Op.alloc 36 = Op.alloc T:=by rw [hT]
   have hmx : Tryz.prog.follows .mixedOrders = true:=by kernel_rfl
   obtain ⟨n,hnn⟩ : ∃ n,n = ss.length:=⟨_,rfl⟩
   have HH:=Lib.hid (And.intro hr (And.intro ih (And.intro hM hnn)))
   have HB0:=Lib.hid (Below.refl w.heap.size w)
   have HN:=Lib.hid (And.intro hN hzc)
   rw [← hnn] at hn ⊢
   clear hr ih hM hnn hN hzc
   unfold maxLen at hn
   go_enter Tryz.func46,Tryz.ntmps46
   simp only [e1,e2,e3]
   clear e1 e2 e3 hT
   go_wp2
   go_loopg [5,10] n (fun mm v j wr => ∃ (k q : Nat),mm = n - k ∧ k ≤ n ∧ j = .int .i64 k ∧ v = .int .i64 q ∧ q ≤ 1073741824 ∧ Hid (Below w.heap.size w wr ∧ q = limN (paL lp (ss.take k))))
   case atStart => exact ⟨0,1,rfl,Nat.zero_le _,rfl,rfl,by omega,Lib.hid ⟨HB0.out,by rw [List.take_zero,paL];rfl⟩⟩
   case round =>
    obtain ⟨k,q,rfl,hk,rfl,rfl,hq,HI⟩:=hrel
    by_cases hlt : k < n
    ·have hki : (k : Int) < n:=by omega
     obtain ⟨s,hi⟩ : ∃ x,ss[k]? = some x:=⟨ss[k]'(by rw [← HH.out.2.2.2];exact hlt),List.getElem?_eq_getElem _⟩
     obtain ⟨a,d,rfl,hab,hc,hown,hb1,hb2⟩:=HH.out.1.at_ hi
     have hsz2 : SizeOf.sizeOf s.body < M ∧ SizeOf.sizeOf s.els < M:=by
      have h1:=HH.out.2.2.1
      have h2:=List.sizeOf_lt_of_mem (List.mem_of_getElem? hi)
      obtain ⟨k0,ln,co,nm,fd,fr,e,cn,cl,iv,b,t⟩:=s
      have h3 : SizeOf.sizeOf b < SizeOf.sizeOf (St.mk k0 ln co nm fd fr e cn cl iv b t):=by simp;omega
      have h4 : SizeOf.sizeOf t < SizeOf.sizeOf (St.mk k0 ln co nm fd fr e cn cl iv b t):=by simp;omega
      simp only [St.body,St.els]
      omega
     have hln:=stOwn_lenF hown
     obtain ⟨nb,hnb⟩ : ∃ nb,nb = s.body.length:=⟨_,rfl⟩
     obtain ⟨nt,hnt⟩ : ∃ nt,nt = s.els.length:=⟨_,rfl⟩
     have hcz : (stCs d s).size = 24:=stCs_size d s
     have hone : (stCs d s).all (·.oneCell') = true:=stCs_one d s
     have hc22 : (stCs d s)[22]? = some (.slice d.s nb d.ns):=by rw [hnb];exact stCs_22F d s
     have hc23 : (stCs d s)[23]? = some (.slice d.t nt d.nt):=by rw [hnt];exact stCs_23F d s
     have hc0 : (stCs d s)[0]? = some (.int .i64 (kOf s)):=stCs_0F d s
     obtain ⟨cs,hcs⟩ : ∃ cs,cs = stCs d s:=⟨_,rfl⟩
     rw [← hcs] at hc hcz hone hc22 hc23 hc0
     have hszc : cs.size = N:=hcz.trans HN.out.1.symm
     have hbw : Below w.heap.size w wr:=HI.out.1
     have hl1 : (loadCellsFrom (a.add (k * 24)) 0 N #[]).run Tryz.prog wr = .ok cs wr:=load_list (fun j v hv => (hbw.cell (by rw [block_adds,block_adds];exact hab)).trans (hc j v hv)) hszc
     have hst:=store_fresh (w:=wr) (t:=T) (zc:=zc) (cs:=cs) (HN.out.2.trans hszc.symm) hone
     obtain ⟨W6,hW6⟩ : ∃ W6,W6 = wr.alloc (.cells cs T):=⟨_,rfl⟩
     have hb6 : Below wr.heap.size wr W6:=by rw [hW6];exact below_alloc wr _
     have hp6 : W6.heap[wr.heap.size]? = some (.cells cs T (0,0)):=by rw [hW6];exact heap_of_alloc wr _
     have hl2 : (loadCellsFrom ⟨wr.heap.size,0,none⟩ 0 N #[]).run Tryz.prog (wr.alloc (.cells cs T)) = .ok cs (wr.alloc (.cells cs T)):=by rw [← hW6];exact load_new hp6 hszc
     have HC1 : Hid (Calls Tryz.prog 73 #[.agg cs,.int .i64 lp] (wr.alloc (.cells cs T)) fun e w' => e = .returned (.int .i64 (limN (paS lp s) : Nat)) ∧ Below (wr.alloc (.cells cs T)).heap.size (wr.alloc (.cells cs T)) w'):=Lib.hid (by
      rw [← hW6,hcs]
      exact through_by s d lp hlp W6 nb nt hnb hnt (fun W hb => by rw [hnb];exact HH.out.2.1 s.body hsz2.1 d.s d.ns lp W (hb1.on ((hbw.chain hb6).chain hb)) hln.1 hlp) (fun W hb => by rw [hnt];exact HH.out.2.1 s.els hsz2.2 d.t d.nt lp W (hb2.on ((hbw.chain hb6).chain hb)) hln.2 hlp))
     have H6 : Hid (Below w.heap.size w (wr.alloc (.cells cs T))):=Lib.hid (by rw [← hW6];exact hbw.chain hb6)
     obtain ⟨p,hp⟩ : ∃ p,p = limN (paS lp s):=⟨_,rfl⟩
     have hpm : p ≤ 1073741824:=by rw [hp];exact limN_le _
     rw [← hp] at HC1
     have hm0 : q * p ≤ 1073741824 * 1073741824:=Nat.mul_le_mul hq hpm
     have hm1 : ((q : Int) * p) = ((q * p : Nat) : Int):=by rw [Int.natCast_mul]
     obtain ⟨m,hm⟩ : ∃ m,m = q * p:=⟨_,rfl⟩
     rw [← hm] at hm0 hm1
     have hm2 : IntKind.i64.wrap ((q : Int) * p) = m:=by rw [hm1];exact IntWalk.i64_in _ (by omega)
     have hm3 : wrap64 ((q : Int) * p) = m:=by rw [hm1];unfold wrap64;omega
     have HQ : Hid (limN m = limN (paL lp (ss.take (k + 1)))):=Lib.hid (by rw [hm,hp,HI.out.2];exact paL_step lp hi)
     have HF:=Lib.hid (And.intro trivial hlt)
     clear hi hab hc hown hb1 hb2 hsz2 hln hnb hnt hcs hc22 hc23 hc0 hbw hb6 hp6 hcz hone hW6 hm hm0 hm1 hp
     go_wp2_with (first
      | (go_at_call 73;(with_reducible refine HC1.out.mono ?_);rintro e w3 ⟨rfl,hb3⟩;have H3:=Lib.hid (H6.out.chain hb3);clear hb3)
      | (go_at_call 72;(with_reducible refine (limited_any (m : Int) m rfl _).mono ?_);rintro e w4 ⟨rfl,hw⟩;subst hw))
     go_roundg (n - (k + 1))
     case measure => have := HF.out.2;omega
     case rel => exact ⟨k + 1,limN m,rfl,(by have := HF.out.2;omega),by go_num,rfl,limN_le _,Lib.hid ⟨H3.out,HQ.out⟩⟩
    ·obtain rfl : k = n:=by omega
     go_wp2
     go_ret
     exact ⟨by rw [HI.out.2,List.take_of_length_le (by rw [← HH.out.2.2.2];exact Nat.le_refl _)];rfl,HI.out.1⟩
end Go.Proofs.YtbalioicgpgehaaGreatDoor
