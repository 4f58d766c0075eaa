/-
  The number of the paths of statements, without a limit, and what limiting does to sums and products.
  Small facts on a statement's cells.
  flow.Paths: the number of paths, limited (genflo.py).
  The reference's Paths (genflo.py).
  The law's few: 0, or it is known that a list's statements are not too many (genflo.py).
-/
import Derived.Test.YtnbdfpjcpapdcaaGreatDoorSTreeMa
import Derived.Test.YtnbdfpjcpapdcaaGreatDoorSTreeQ
import Derived.Test.YtnbdfpjcpapdcaaGreatDoorSTreeAx
set_option linter.unusedVariables false
set_option linter.unusedSimpArgs false
namespace Go.Proofs.YtnbdfpjcpapdcaaGreatDoor
open Go.RowKit
def powS (n : Nat) : Nat → Nat
 | 0 => 1
 | k + 1 => 1 + n * powS n k
mutual
def paS (lp : Nat) : St → Nat
 | .mk k _ _ _ _ _ _ _ _ _ b o => if k = 8 then paL lp b + paL lp o else if k = 9 then powS (paL lp b) lp else if k = 11 then paL lp b else 1
def paL (lp : Nat) : List St → Nat
 | [] => 1
 | s :: l => paS lp s * paL lp l
end
def limN (n : Nat) : Nat:=min n 1073741824
theorem limN_le (n : Nat) : limN n ≤ 1073741824:=Nat.min_le_right _ _
theorem limN_pos {n : Nat} (h : 1 ≤ n) : 1 ≤ limN n:=by unfold limN;omega
theorem limN_one : limN 1 = 1:=rfl
theorem limN_add (a b : Nat) : limN (limN a + limN b) = limN (a + b):=by unfold limN;omega
theorem limN_add1 (b : Nat) : limN (1 + limN b) = limN (1 + b):=by unfold limN;omega
theorem limN_mul {a b : Nat} (ha : 1 ≤ a) (hb : 1 ≤ b) : limN (limN a * limN b) = limN (a * b):=by
 unfold limN
 by_cases h1 : a ≤ 1073741824
 ·rw [Nat.min_eq_left h1]
  by_cases h2 : b ≤ 1073741824
  ·rw [Nat.min_eq_left h2]
  ·rw [Nat.min_eq_right (by omega : 1073741824 ≤ b)]
   have e1 : 1073741824 ≤ a * 1073741824:=Nat.le_mul_of_pos_left _ (by omega)
   have e2 : 1073741824 ≤ a * b:=Nat.le_trans (by omega : 1073741824 ≤ b) (Nat.le_mul_of_pos_left _ (by omega))
   rw [Nat.min_eq_right e1,Nat.min_eq_right e2]
 ·rw [Nat.min_eq_right (by omega : 1073741824 ≤ a)]
  have e2 : 1073741824 ≤ a * b:=Nat.le_trans (by omega : 1073741824 ≤ a) (Nat.le_mul_of_pos_right _ (by omega))
  have e1 : 1073741824 ≤ 1073741824 * min b 1073741824:=Nat.le_mul_of_pos_right _ (by omega)
  rw [Nat.min_eq_right e1,Nat.min_eq_right e2]
theorem powS_pos (n : Nat) : ∀ k,1 ≤ powS n k
 | 0 => Nat.le_refl _
 | k + 1 => by rw [powS];omega
theorem powS_next (n : Nat) : ∀ k,powS n (k + 1) = powS n k + n ^ (k + 1)
 | 0 => by simp [powS]
 | k + 1 => by
   have h:=powS_next n k
   have h2 : powS n (k + 1) = 1 + n * powS n k:=rfl
   have h3 : powS n (k + 1 + 1) = 1 + n * powS n (k + 1):=rfl
   rw [h3]
   have h4 : n * powS n (k + 1) = n * powS n k + n * n ^ (k + 1):=by rw [h,Nat.mul_add]
   rw [h4,h2,Nat.pow_succ n (k + 1),Nat.mul_comm (n ^ (k + 1)) n]
   omega
theorem powS_lim {n : Nat} (hn : 1 ≤ n) (k : Nat) : limN (1 + limN n * limN (powS n k)) = limN (powS n (k + 1)):=by
 rw [powS,← limN_add1,limN_mul hn (powS_pos n k),limN_add1]
mutual
theorem paS_pos (lp : Nat) : ∀ s : St,1 ≤ paS lp s
 | .mk k _ _ _ _ _ _ _ _ _ b o => by
   have h1:=paL_pos lp b
   have h2:=powS_pos (paL lp b) lp
   rw [paS]
   split
   ·omega
   ·split
    ·exact h2
    ·split
     ·exact h1
     ·exact Nat.le_refl _
theorem paL_pos (lp : Nat) : ∀ l : List St,1 ≤ paL lp l
 | [] => by rw [paL];exact Nat.le_refl _
 | s :: l => by rw [paL];exact Nat.mul_pos (paS_pos lp s) (paL_pos lp l)
end
theorem paL_append (lp : Nat) : ∀ l m : List St,paL lp (l ++ m) = paL lp l * paL lp m
 | [],m => by rw [paL,List.nil_append,Nat.one_mul]
 | s :: l,m => by rw [List.cons_append,paL,paL,paL_append lp l m,Nat.mul_assoc]
theorem paL_take (lp : Nat) {k : Nat} {l : List St} {s : St} (h : l[k]? = some s) : paL lp (l.take (k + 1)) = paL lp (l.take k) * paS lp s:=by
 rw [List.take_add_one,h,paL_append]
 show _ * paL lp [s] = _
 rw [paL,paL,Nat.mul_one]
theorem paL_step (lp : Nat) {k : Nat} {l : List St} {s : St} (h : l[k]? = some s) : limN (limN (paL lp (l.take k)) * limN (paS lp s)) = limN (paL lp (l.take (k + 1))):=by
 rw [limN_mul (paL_pos _ _) (paS_pos _ _),paL_take lp h]
theorem times_lim {a b : Nat} (hb : 1 ≤ b) (hbm : b ≤ 1073741824) : (if (1073741824 / b : Nat) < a then 1073741824 else a * b) = limN (a * b):=by
 unfold limN
 split
 ·rename_i h
  have h2 : 1073741824 < a * b:=(Nat.div_lt_iff_lt_mul (by omega)).1 h
  omega
 ·rename_i h
  have h2 : a * b ≤ 1073741824:=(Nat.le_div_iff_mul_le (by omega)).1 (by omega)
  omega
theorem fl_snocF : ∀ {k : Nat} {ss : List St} {s : St},ss[k]? = some s → ∀ {g : List St},FlL (ss.take (k + 1)) g → ∃ f fb fo,FlL (ss.take k) f ∧ FlL s.body fb ∧ FlL s.els fo ∧ g.length = f.length + 1 + fb.length + fo.length
 | 0,x :: l,s,hi,g,hg => by
   obtain rfl : x = s:=Option.some.inj hi
   rw [List.take_succ_cons,List.take_zero] at hg
   cases hg with
   | cons _ _ fb fo fl h1 h2 h3 =>
     cases h3
     exact ⟨[],fb,fo,.nil,h1,h2,by simp only [List.length_cons,List.length_append,List.length_nil];omega⟩
 | k + 1,x :: l,s,hi,g,hg => by
   rw [List.take_succ_cons] at hg
   cases hg with
   | cons _ _ fb fo fl h1 h2 h3 =>
     obtain ⟨f,f2,f3,g1,g2,g3,hl⟩:=fl_snocF (k:=k) (ss:=l) hi h3
     refine ⟨_,f2,f3,by rw [List.take_succ_cons];exact .cons _ _ _ _ _ h1 h2 g1,g2,g3,?_⟩
     simp only [List.length_cons,List.length_append]
     omega
 | k,[],s,hi,g,hg => by simp at hi
end Go.Proofs.YtnbdfpjcpapdcaaGreatDoor
namespace Go.Proofs.YtnbdfpjcpapdcaaGreatDoor
open Go.RowKit
def kOf : St → Int
 | .mk k _ _ _ _ _ _ _ _ _ _ _ => k
def paK (k : Int) (lp X Y : Nat) : Nat:=if k = 8 then X + Y else if k = 9 then powS X lp else if k = 11 then X else 1
theorem paK_8 (lp X Y : Nat) : paK 8 lp X Y = X + Y:=rfl
theorem paK_9 (lp X Y : Nat) : paK 9 lp X Y = powS X lp:=rfl
theorem paK_11 (lp X Y : Nat) : paK 11 lp X Y = X:=rfl
theorem paK_no {k : Int} (lp X Y : Nat) (h8 : k ≠ 8) (h9 : k ≠ 9) (h11 : k ≠ 11) : paK k lp X Y = 1:=by unfold paK;rw [if_neg h8,if_neg h9,if_neg h11]
theorem stOwn_lenF {w : World} {B : Nat} {d : SAd} {x : St} (h : StOwn w B d x) : x.body.length ≤ maxLen ∧ x.els.length ≤ maxLen:=by
 obtain ⟨k0,ln,co,nm,fd,fr,⟨ek,en,es,el⟩,⟨ck,⟨ak,an,sa,al⟩,⟨bk,bn,sb,bl⟩,l⟩,cl,iv,bd,ot⟩:=x
 obtain ⟨⟨m0,m1,m2,m3,m4,m5,m6,m7,m8,m9,m10,m11,m12,m13⟩,_⟩:=h
 exact ⟨m12,m13⟩
theorem stCs_22F (d : SAd) (x : St) : (stCs d x)[22]? = some (.slice d.s x.body.length d.ns):=by
 obtain ⟨k0,ln,co,nm,fd,fr,⟨ek,en,es,el⟩,⟨ck,⟨ak,an,sa,al⟩,⟨bk,bn,sb,bl⟩,l⟩,cl,iv,bd,ot⟩:=x
 rfl
theorem stCs_23F (d : SAd) (x : St) : (stCs d x)[23]? = some (.slice d.t x.els.length d.nt):=by
 obtain ⟨k0,ln,co,nm,fd,fr,⟨ek,en,es,el⟩,⟨ck,⟨ak,an,sa,al⟩,⟨bk,bn,sb,bl⟩,l⟩,cl,iv,bd,ot⟩:=x
 rfl
theorem stCs_0F (d : SAd) (x : St) : (stCs d x)[0]? = some (.int .i64 (kOf x)):=by
 obtain ⟨k0,ln,co,nm,fd,fr,⟨ek,en,es,el⟩,⟨ck,⟨ak,an,sa,al⟩,⟨bk,bn,sb,bl⟩,l⟩,cl,iv,bd,ot⟩:=x
 rfl
end Go.Proofs.YtnbdfpjcpapdcaaGreatDoor
namespace Go.Proofs.YtnbdfpjcpapdcaaGreatDoor
set_option maxRecDepth 100000
set_option maxHeartbeats 8000000
open Go.RowKit
theorem limited_any (x : Int) (n : Nat) (hx : x = n) (w : World) : Calls Tryz.prog 71 #[.int .i64 x] w fun e w' => e = .returned (.int .i64 (limN n : Nat)) ∧ w = w':=by
 have hl : ((limN n : Nat) : Int) = min x 1073741824:=by unfold limN;omega
 rw [hl]
 clear hx hl
 go_enter Tryz.func71,Tryz.ntmps71
 go_wp2
 go_ret
 all_goals exact ⟨rfl,rfl⟩
theorem sumPow_any (B lp : Nat) (hB : 1 ≤ B) (hlp : lp ≤ 100) (w : World) : Calls Tryz.prog 106 #[.int .i64 (limN B : Nat),.int .i64 lp] w fun e w' => e = .returned (.int .i64 (limN (powS B lp) : Nat)) ∧ w = w':=by
 obtain ⟨b,hb⟩ : ∃ b,b = limN B:=⟨_,rfl⟩
 have hbm : b ≤ 1073741824:=by rw [hb];exact limN_le _
 have HH:=Lib.hid (And.intro hB hb)
 rw [← hb]
 clear hB hb
 go_enter Tryz.func106,Tryz.ntmps106
 go_wp2
 go_loopg [5,7] lp (fun mm v j wr => ∃ (k q : Nat),mm = lp - k ∧ k ≤ lp ∧ j = .int .i64 k ∧ v = .int .i64 q ∧ q ≤ 1073741824 ∧ Hid (w = wr ∧ q = limN (powS B k)))
 case atStart => exact ⟨0,1,rfl,Nat.zero_le _,rfl,rfl,by omega,Lib.hid ⟨rfl,rfl⟩⟩
 case round =>
  obtain ⟨k,q,rfl,hk,rfl,rfl,hq,HI⟩:=hrel
  by_cases hlt : k < lp
  ·have hki : (k : Int) < lp:=by omega
   have hm0 : b * q ≤ 1073741824 * 1073741824:=Nat.mul_le_mul hbm hq
   have hm1 : ((b : Int) * q) = ((b * q : Nat) : Int):=by rw [Int.natCast_mul]
   obtain ⟨m,hm⟩ : ∃ m,m = b * q:=⟨_,rfl⟩
   rw [← hm] at hm0 hm1
   have HM:=Lib.hid hm
   clear hm
   have hm2 : IntKind.i64.wrap ((b : Int) * q) = m:=by rw [hm1];exact IntWalk.i64_in _ (by omega)
   have hm3 : wrap64 ((b : Int) * q) = m:=by rw [hm1];unfold wrap64;omega
   have HC:=Lib.hid (limited_any (1 + (m : Int)) (1 + m) (by omega) wr)
   go_wp2_with (go_at_call 71;(with_reducible refine HC.out.mono ?_);rintro e w2 ⟨rfl,hw⟩;subst hw)
   go_roundg (lp - (k + 1))
   case measure => omega
   case rel => exact ⟨k + 1,limN (1 + m),rfl,by omega,by go_num,rfl,limN_le _,Lib.hid ⟨HI.out.1,by rw [HM.out,HI.out.2,HH.out.2];exact powS_lim HH.out.1 k⟩⟩
  ·obtain rfl : k = lp:=by omega
   go_wp2
   go_ret
   exact ⟨by rw [HI.out.2];rfl,HI.out.1⟩
theorem through_by (s : St) (d : SAd) (lp : Nat) (hlp : lp ≤ 100) (w : World) (nb nt : Nat) (hnb : nb = s.body.length) (hnt : nt = s.els.length)
 (H1 : ∀ W,Below w.heap.size w W → Calls Tryz.prog 46 #[.slice d.s nb d.ns,.int .i64 lp] W fun e w' => e = .returned (.int .i64 (limN (paL lp s.body) : Nat)) ∧ Below W.heap.size W w')
 (H2 : ∀ W,Below w.heap.size w W → Calls Tryz.prog 46 #[.slice d.t nt d.nt,.int .i64 lp] W fun e w' => e = .returned (.int .i64 (limN (paL lp s.els) : Nat)) ∧ Below W.heap.size W w') :
 Calls Tryz.prog 72 #[.agg (stCs d s),.int .i64 lp] w fun e w' => e = .returned (.int .i64 (limN (paS lp s) : Nat)) ∧ Below w.heap.size w w':=by
 obtain ⟨T,N,zc,hT,hN,hzc,hag,hsz,hzv⟩:=stmt_hidden2
 have e1 : ∀ y : Operand,Op.load 42 y = Op.load T y:=fun y => by rw [hT]
 have e2 : ∀ y z : Operand,Op.store 42 y z = Op.store T y z:=fun y z => by rw [hT]
 have e3 : Op.alloc 42 = Op.alloc T:=by rw [hT]
 have hmx : Tryz.prog.follows .mixedOrders = true:=by kernel_rfl
 have e4 : ∀ y : Operand,Op.box 42 y = Op.box T y:=fun y => by rw [hT]
 have hcz : (stCs d s).size = N:=(stCs_size d s).trans hN.symm
 have hone : (stCs d s).all (·.oneCell') = true:=stCs_one d s
 have hc22 : (stCs d s)[22]? = some (.slice d.s nb d.ns):=by rw [hnb];exact stCs_22F d s
 have hc23 : (stCs d s)[23]? = some (.slice d.t nt d.nt):=by rw [hnt];exact stCs_23F d s
 have hc0 : (stCs d s)[0]? = some (.int .i64 (kOf s)):=stCs_0F d s
 have hps : paS lp s = paK (kOf s) lp (paL lp s.body) (paL lp s.els):=by
  obtain ⟨k0,ln,co,nm,fd,fr,e,cn,cl,iv,b,o⟩:=s
  rw [paS]
  rfl
 obtain ⟨k0,hk0⟩ : ∃ k,k = kOf s:=⟨_,rfl⟩
 rw [← hk0] at hc0 hps
 obtain ⟨X,hX⟩ : ∃ X,X = paL lp s.body:=⟨_,rfl⟩
 obtain ⟨Y,hY⟩ : ∃ Y,Y = paL lp s.els:=⟨_,rfl⟩
 have hX1 : 1 ≤ X:=by rw [hX];exact paL_pos _ _
 rw [← hX] at H1 hps
 rw [← hY] at H2 hps
 obtain ⟨cs,hcs⟩ : ∃ cs,cs = stCs d s:=⟨_,rfl⟩
 rw [← hcs] at hcz hone hc22 hc23 hc0 ⊢
 rw [hps]
 clear hps hX hY hk0 hcs hnb hnt
 obtain ⟨W6,hW6⟩ : ∃ W6,W6 = w.alloc (.cells cs T):=⟨_,rfl⟩
 have hb6 : Below w.heap.size w W6:=by rw [hW6];exact below_alloc w _
 have hp6 : W6.heap[w.heap.size]? = some (.cells cs T (0,0)):=by rw [hW6];exact heap_of_alloc w _
 have hk6 : (w.alloc (.cells cs T)).cell? ⟨w.heap.size,0,none⟩ = some (.int .i64 k0):=by rw [← hW6];exact cell_of_block hp6 0 hc0
 have hs6 : (w.alloc (.cells cs T)).cell? ⟨w.heap.size,22,none⟩ = some (.slice d.s nb d.ns):=by rw [← hW6];exact cell_of_block hp6 22 hc22
 have H6:=Lib.hid hb6
 have HA:=Lib.hid (And.intro H1 H2)
 have HN:=Lib.hid (And.intro hN hzc)
 obtain ⟨S,hS⟩ : ∃ S : World → Prop,S = fun W => Below W6.heap.size W6 W:=⟨_,rfl⟩
 have HS2 : Hid (∀ W,Below W6.heap.size W6 W → S W):=Lib.hid (fun W hb => by rw [hS];exact hb)
 have HLD : Hid (∀ W,S W → W.cell? ⟨w.heap.size,22,none⟩ = some (.slice d.s nb d.ns) ∧ W.cell? ⟨w.heap.size,23,none⟩ = some (.slice d.t nt d.nt)):=Lib.hid (fun W hs => by
  rw [hS] at hs
  have q2:=kept_box hs hp6
  exact ⟨cell_of_block q2 22 hc22,cell_of_block q2 23 hc23⟩)
 have HX0:=Lib.hid (Below.refl W6.heap.size W6).drew
 have g0:=HS2.out _ HX0.out
 have HX1:=Lib.hid hX1
 obtain ⟨p,hp⟩ : ∃ p,p = limN X:=⟨_,rfl⟩
 obtain ⟨q,hq⟩ : ∃ q,q = limN Y:=⟨_,rfl⟩
 have hpm : p ≤ 1073741824:=by rw [hp];exact limN_le _
 have hqm : q ≤ 1073741824:=by rw [hq];exact limN_le _
 have HPQ:=Lib.hid (And.intro hp hq)
 clear H1 H2 hN hzc hb6 hS hc0 hc22 hc23 hp6 hX1 hp hq
 have hk4 : k0 = 8 ∨ k0 = 9 ∨ k0 = 11 ∨ (k0 ≠ 8 ∧ k0 ≠ 9 ∧ k0 ≠ 11):=by omega
 rcases hk4 with rfl | rfl | rfl | ⟨h8,h9,h11⟩
 ·rw [paK_8]
  go_enter Tryz.func72,Tryz.ntmps72
  simp only [e4]
  clear e1 e2 e3 e4 hT
  go_wp2
  rw [← hW6]
  clear hW6 hk6 hs6
  refine wp_region_held (S:=S) hmx ?_
  change wpAnyH _ _ _ _ _ 11 #[false,false,false,false,false,false,false,false,false,false,false] _ W6.drew
  refine tk 0 9 (.pointer (some ⟨w.heap.size,22,none⟩)) g0 ?v ?_
  case v => intro Wx hSx;go_simp
  refine tk 1 10 (.slice d.s nb d.ns) g0 ?v ?_
  case v => intro Wx hSx;obtain ⟨z1,z2⟩:=HLD.out Wx hSx;go_simp
  refine tk 2 11 (.int .i64 lp) g0 ?v ?_
  case v => intro Wx hSx;go_simp
  refine tk 4 13 (.pointer (some ⟨w.heap.size,23,none⟩)) g0 ?v ?_
  case v => intro Wx hSx;go_simp
  try simp only [Act.put,List.setIfInBounds_toArray,List.set_cons_zero,List.set_cons_succ]
  refine tk 5 14 (.slice d.t nt d.nt) g0 ?v ?_
  case v => intro Wx hSx;obtain ⟨z1,z2⟩:=HLD.out Wx hSx;go_simp
  refine tk 6 15 (.int .i64 lp) g0 ?v ?_
  case v => intro Wx hSx;go_simp
  try simp only [Act.put,List.setIfInBounds_toArray,List.set_cons_zero,List.set_cons_succ]
  refine o1 3 (fun K hK => ?_)
  go_simp
  (with_reducible refine (HA.out.1 _ (H6.out.chain HX0.out)).mono ?_)
  rintro e w3 ⟨rfl,hb3⟩
  have H3:=Lib.hid (HX0.out.chain hb3)
  have hs3:=HS2.out _ H3.out
  clear hb3
  rw [← HPQ.out.1]
  refine hK _ _ hs3 ?_
  clear hK K
  try simp only [Act.put,List.setIfInBounds_toArray,List.set_cons_zero,List.set_cons_succ]
  refine o1 7 (fun K hK => ?_)
  go_simp
  (with_reducible refine (HA.out.2 _ (H6.out.chain H3.out)).mono ?_)
  rintro e w4 ⟨rfl,hb4⟩
  have H4:=Lib.hid (H3.out.chain hb4)
  have hs4:=HS2.out _ H4.out
  clear hb4
  rw [← HPQ.out.2]
  refine hK _ _ hs4 ?_
  clear hK K
  try simp only [Act.put,List.setIfInBounds_toArray,List.set_cons_zero,List.set_cons_succ]
  refine tk 8 17 (.int .i64 ((p : Int) + q)) hs4 ?v ?_
  case v => intro Wx hSx;go_simp;try exact Go.IntWalk.i64_in _ (by omega)
  try simp only [Act.put,List.setIfInBounds_toArray,List.set_cons_zero,List.set_cons_succ]
  refine o1 9 (fun K hK => ?_)
  go_simp
  (with_reducible refine (limited_any ((p : Int) + q) (p + q) (by omega) w4).mono ?_)
  rintro e w5 ⟨rfl,hw⟩
  subst hw
  refine hK _ _ hs4 ?_
  clear hK K
  try simp only [Act.put,List.setIfInBounds_toArray,List.set_cons_zero,List.set_cons_succ]
  refine tk 10 4 (.int .i64 (limN (p + q) : Nat)) hs4 ?v ?_
  case v => intro Wx hSx;go_simp
  try simp only [Act.put,List.setIfInBounds_toArray,List.set_cons_zero,List.set_cons_succ]
  refine wpAnyH_done (by kernel_rfl) ?_ _
  go_wp2
  go_ret
  exact ⟨by rw [HPQ.out.1,HPQ.out.2,limN_add];rfl,H6.out.chain H4.out⟩
 ·rw [paK_9]
  go_enter Tryz.func72,Tryz.ntmps72
  simp only [e4]
  clear e1 e2 e3 e4 hT
  have HB:=Lib.hid (HA.out.1 W6 H6.out)
  rw [hW6] at HB
  rw [hW6] at H6
  go_wp2_with (first
   | (go_at_call 46;(with_reducible refine HB.out.mono ?_);rintro e w3 ⟨rfl,hb3⟩;have H3:=Lib.hid (H6.out.chain hb3);clear hb3)
   | (go_at_call 106;(with_reducible refine (sumPow_any X lp HX1.out hlp _).mono ?_);rintro e w4 ⟨rfl,hw⟩;subst hw))
  go_ret
  exact ⟨rfl,H3.out⟩
 ·rw [paK_11]
  go_enter Tryz.func72,Tryz.ntmps72
  simp only [e4]
  clear e1 e2 e3 e4 hT
  have HB:=Lib.hid (HA.out.1 W6 H6.out)
  rw [hW6] at HB
  rw [hW6] at H6
  go_wp2_with (first
   | (go_at_call 46;(with_reducible refine HB.out.mono ?_);rintro e w3 ⟨rfl,hb3⟩;have H3:=Lib.hid (H6.out.chain hb3);clear hb3))
  go_ret
  exact ⟨rfl,H3.out⟩
 ·rw [paK_no _ _ _ h8 h9 h11]
  have b8 : (k0 == 8) = false:=by simpa using h8
  have b9 : (k0 == 9) = false:=by simpa using h9
  have b11 : (k0 == 11) = false:=by simpa using h11
  go_enter Tryz.func72,Tryz.ntmps72
  simp only [e4]
  clear e1 e2 e3 e4 hT
  have HB:=Lib.hid (HA.out.1 W6 H6.out)
  rw [hW6] at HB
  rw [hW6] at H6
  go_wp2
  go_ret
  exact ⟨by rw [limN_one];rfl,H6.out⟩
theorem paths_any : ∀ (M : Nat) (ss : List St),SizeOf.sizeOf ss < M → ∀ (A : Option Addr) (c lp : Nat) (w : World),StRow w w.heap.size ss A → ss.length ≤ maxLen → lp ≤ 100 →
 Calls Tryz.prog 46 #[.slice A ss.length c,.int .i64 lp] w fun e w' => e = .returned (.int .i64 (limN (paL lp ss) : Nat)) ∧ Below w.heap.size w w':=by
 intro M
 induction M with
 | zero => intro ss h;omega
 | succ M ih =>
   intro ss hM A c lp w hr hn hlp
   obtain ⟨T,N,zc,hT,hN,hzc,hag,hsz,hzv⟩:=stmt_hidden2
   have e1 : ∀ y : Operand,Op.load 42 y = Op.load T y:=fun y => by rw [hT]
   have e2 : ∀ y z : Operand,Op.store 42 y z = Op.store T y z:=fun y z => by rw [hT]
   have e3 : Op.alloc 42 = Op.alloc T:=by rw [hT]
   have hmx : Tryz.prog.follows .mixedOrders = true:=by kernel_rfl
   obtain ⟨n,hnn⟩ : ∃ n,n = ss.length:=⟨_,rfl⟩
   have HH:=Lib.hid (And.intro hr (And.intro ih (And.intro hM hnn)))
   have HB0:=Lib.hid (Below.refl w.heap.size w)
   have HN:=Lib.hid (And.intro hN hzc)
   rw [← hnn] at hn ⊢
   clear hr ih hM hnn hN hzc
   unfold maxLen at hn
   go_enter Tryz.func46,Tryz.ntmps46
   simp only [e1,e2,e3]
   clear e1 e2 e3 hT
   go_wp2
   go_loopg [5,10] n (fun mm v j wr => ∃ (k q : Nat),mm = n - k ∧ k ≤ n ∧ j = .int .i64 k ∧ v = .int .i64 q ∧ q ≤ 1073741824 ∧ Hid (Below w.heap.size w wr ∧ q = limN (paL lp (ss.take k))))
   case atStart => exact ⟨0,1,rfl,Nat.zero_le _,rfl,rfl,by omega,Lib.hid ⟨HB0.out,by rw [List.take_zero,paL];rfl⟩⟩
   case round =>
    obtain ⟨k,q,rfl,hk,rfl,rfl,hq,HI⟩:=hrel
    by_cases hlt : k < n
    ·have hki : (k : Int) < n:=by omega
     obtain ⟨s,hi⟩ : ∃ x,ss[k]? = some x:=⟨ss[k]'(by rw [← HH.out.2.2.2];exact hlt),List.getElem?_eq_getElem _⟩
     obtain ⟨a,d,rfl,hab,hc,hown,hb1,hb2⟩:=HH.out.1.at_ hi
     have hsz2 : SizeOf.sizeOf s.body < M ∧ SizeOf.sizeOf s.els < M:=by
      have h1:=HH.out.2.2.1
      have h2:=List.sizeOf_lt_of_mem (List.mem_of_getElem? hi)
      obtain ⟨k0,ln,co,nm,fd,fr,e,cn,cl,iv,b,t⟩:=s
      have h3 : SizeOf.sizeOf b < SizeOf.sizeOf (St.mk k0 ln co nm fd fr e cn cl iv b t):=by simp;omega
      have h4 : SizeOf.sizeOf t < SizeOf.sizeOf (St.mk k0 ln co nm fd fr e cn cl iv b t):=by simp;omega
      simp only [St.body,St.els]
      omega
     have hln:=stOwn_lenF hown
     obtain ⟨nb,hnb⟩ : ∃ nb,nb = s.body.length:=⟨_,rfl⟩
     obtain ⟨nt,hnt⟩ : ∃ nt,nt = s.els.length:=⟨_,rfl⟩
     have hcz : (stCs d s).size = 24:=stCs_size d s
     have hone : (stCs d s).all (·.oneCell') = true:=stCs_one d s
     have hc22 : (stCs d s)[22]? = some (.slice d.s nb d.ns):=by rw [hnb];exact stCs_22F d s
     have hc23 : (stCs d s)[23]? = some (.slice d.t nt d.nt):=by rw [hnt];exact stCs_23F d s
     have hc0 : (stCs d s)[0]? = some (.int .i64 (kOf s)):=stCs_0F d s
     obtain ⟨cs,hcs⟩ : ∃ cs,cs = stCs d s:=⟨_,rfl⟩
     rw [← hcs] at hc hcz hone hc22 hc23 hc0
     have hszc : cs.size = N:=hcz.trans HN.out.1.symm
     have hbw : Below w.heap.size w wr:=HI.out.1
     have hl1 : (loadCellsFrom (a.add (k * 24)) 0 N #[]).run Tryz.prog wr = .ok cs wr:=load_list (fun j v hv => (hbw.cell (by rw [block_adds,block_adds];exact hab)).trans (hc j v hv)) hszc
     have hst:=store_fresh (w:=wr) (t:=T) (zc:=zc) (cs:=cs) (HN.out.2.trans hszc.symm) hone
     obtain ⟨W6,hW6⟩ : ∃ W6,W6 = wr.alloc (.cells cs T):=⟨_,rfl⟩
     have hb6 : Below wr.heap.size wr W6:=by rw [hW6];exact below_alloc wr _
     have hp6 : W6.heap[wr.heap.size]? = some (.cells cs T (0,0)):=by rw [hW6];exact heap_of_alloc wr _
     have hl2 : (loadCellsFrom ⟨wr.heap.size,0,none⟩ 0 N #[]).run Tryz.prog (wr.alloc (.cells cs T)) = .ok cs (wr.alloc (.cells cs T)):=by rw [← hW6];exact load_new hp6 hszc
     have HC1 : Hid (Calls Tryz.prog 72 #[.agg cs,.int .i64 lp] (wr.alloc (.cells cs T)) fun e w' => e = .returned (.int .i64 (limN (paS lp s) : Nat)) ∧ Below (wr.alloc (.cells cs T)).heap.size (wr.alloc (.cells cs T)) w'):=Lib.hid (by
      rw [← hW6,hcs]
      exact through_by s d lp hlp W6 nb nt hnb hnt (fun W hb => by rw [hnb];exact HH.out.2.1 s.body hsz2.1 d.s d.ns lp W (hb1.on ((hbw.chain hb6).chain hb)) hln.1 hlp) (fun W hb => by rw [hnt];exact HH.out.2.1 s.els hsz2.2 d.t d.nt lp W (hb2.on ((hbw.chain hb6).chain hb)) hln.2 hlp))
     have H6 : Hid (Below w.heap.size w (wr.alloc (.cells cs T))):=Lib.hid (by rw [← hW6];exact hbw.chain hb6)
     obtain ⟨p,hp⟩ : ∃ p,p = limN (paS lp s):=⟨_,rfl⟩
     have hpm : p ≤ 1073741824:=by rw [hp];exact limN_le _
     rw [← hp] at HC1
     have hm0 : q * p ≤ 1073741824 * 1073741824:=Nat.mul_le_mul hq hpm
     have hm1 : ((q : Int) * p) = ((q * p : Nat) : Int):=by rw [Int.natCast_mul]
     obtain ⟨m,hm⟩ : ∃ m,m = q * p:=⟨_,rfl⟩
     rw [← hm] at hm0 hm1
     have hm2 : IntKind.i64.wrap ((q : Int) * p) = m:=by rw [hm1];exact IntWalk.i64_in _ (by omega)
     have hm3 : wrap64 ((q : Int) * p) = m:=by rw [hm1];unfold wrap64;omega
     have HQ : Hid (limN m = limN (paL lp (ss.take (k + 1)))):=Lib.hid (by rw [hm,hp,HI.out.2];exact paL_step lp hi)
     have HF:=Lib.hid (And.intro trivial hlt)
     clear hi hab hc hown hb1 hb2 hsz2 hln hnb hnt hcs hc22 hc23 hc0 hbw hb6 hp6 hcz hone hW6 hm hm0 hm1 hp
     go_wp2_with (first
      | (go_at_call 72;(with_reducible refine HC1.out.mono ?_);rintro e w3 ⟨rfl,hb3⟩;have H3:=Lib.hid (H6.out.chain hb3);clear hb3)
      | (go_at_call 71;(with_reducible refine (limited_any (m : Int) m rfl _).mono ?_);rintro e w4 ⟨rfl,hw⟩;subst hw))
     go_roundg (n - (k + 1))
     case measure => have := HF.out.2;omega
     case rel => exact ⟨k + 1,limN m,rfl,(by have := HF.out.2;omega),by go_num,rfl,limN_le _,Lib.hid ⟨H3.out,HQ.out⟩⟩
    ·obtain rfl : k = n:=by omega
     go_wp2
     go_ret
     exact ⟨by rw [HI.out.2,List.take_of_length_le (by rw [← HH.out.2.2.2];exact Nat.le_refl _)];rfl,HI.out.1⟩
end Go.Proofs.YtnbdfpjcpapdcaaGreatDoor
namespace Go.Proofs.YtnbdfpjcpapdcaaGreatDoor
set_option maxRecDepth 100000
set_option maxHeartbeats 8000000
open Go.RowKit
theorem tdiv_most (b : Nat) : (1073741824 : Int).tdiv b = ((1073741824 / b : Nat) : Int):=by
 rw [Int.tdiv_eq_ediv_of_nonneg (by omega)]
 rfl
theorem times_any (a b : Nat) (ha : a ≤ 1073741824) (hb : 1 ≤ b) (hbm : b ≤ 1073741824) (w : World) : Calls Tryz.prog 47 #[.int .i64 a,.int .i64 b] w fun e w' => e = .returned (.int .i64 (limN (a * b) : Nat)) ∧ w = w':=by
 rw [← times_lim hb hbm]
 have hm0 : a * b ≤ 1073741824 * 1073741824:=Nat.mul_le_mul ha hbm
 have hm1 : ((a : Int) * b) = ((a * b : Nat) : Int):=by rw [Int.natCast_mul]
 obtain ⟨m,hm⟩ : ∃ m,m = a * b:=⟨_,rfl⟩
 rw [← hm] at hm0 hm1 ⊢
 clear hm
 have hm2 : IntKind.i64.wrap ((a : Int) * b) = m:=by rw [hm1];exact IntWalk.i64_in _ (by omega)
 have hm3 : wrap64 ((a : Int) * b) = m:=by rw [hm1];unfold wrap64;omega
 have hq:=tdiv_most b
 obtain ⟨q,hqq⟩ : ∃ q,q = 1073741824 / b:=⟨_,rfl⟩
 have hq2 : q ≤ 1073741824:=by rw [hqq];exact Nat.div_le_self _ _
 rw [← hqq] at hq ⊢
 clear hqq
 have hb0 : (b : Int) ≠ 0:=by omega
 have hb1 : ((b : Int) == 0) = false:=by simpa using hb0
 have hq3 : IntKind.i64.wrap ((1073741824 : Int).tdiv b) = q:=by rw [hq];exact IntWalk.i64_in _ (by omega)
 have hq4 : wrap64 ((1073741824 : Int).tdiv b) = q:=by rw [hq];unfold wrap64;omega
 by_cases h : q < a
 ·have h2 : (q : Int) < a:=by omega
  rw [if_pos h]
  go_enter Tryz.func47,Tryz.ntmps47
  go_wp2
  go_ret
  all_goals exact ⟨rfl,rfl⟩
 ·have h2 : ¬ (q : Int) < a:=by omega
  rw [if_neg h]
  go_enter Tryz.func47,Tryz.ntmps47
  go_wp2
  go_ret
  all_goals exact ⟨rfl,rfl⟩
theorem rpaths_any : ∀ (M : Nat) (ss : List St),SizeOf.sizeOf ss < M → ∀ (A : Option Addr) (c lp : Nat) (w : World),StRow w w.heap.size ss A → ss.length ≤ maxLen → lp ≤ 100 →
 Calls Tryz.prog 23 #[.slice A ss.length c,.int .i64 lp] w fun e w' => e = .returned (.int .i64 (limN (paL lp ss) : Nat)) ∧ Below w.heap.size w w':=by
 intro M
 induction M with
 | zero => intro ss h;omega
 | succ M ih =>
   intro ss hM A c lp w hr hn hlp
   obtain ⟨T,N,zc,hT,hN,hzc,hag,hsz,hzv⟩:=stmt_hidden2
   have e1 : ∀ y : Operand,Op.load 42 y = Op.load T y:=fun y => by rw [hT]
   have e2 : ∀ y z : Operand,Op.store 42 y z = Op.store T y z:=fun y z => by rw [hT]
   have e3 : Op.alloc 42 = Op.alloc T:=by rw [hT]
   have hmx : Tryz.prog.follows .mixedOrders = true:=by kernel_rfl
   obtain ⟨n,hnn⟩ : ∃ n,n = ss.length:=⟨_,rfl⟩
   have HH:=Lib.hid (And.intro hr (And.intro ih (And.intro hM hnn)))
   have HB0:=Lib.hid (Below.refl w.heap.size w)
   have HN:=Lib.hid (And.intro hN hzc)
   rw [← hnn] at hn ⊢
   clear hr ih hM hnn hN hzc
   unfold maxLen at hn
   go_enter Tryz.func23,Tryz.ntmps23
   simp only [e1,e2,e3]
   clear e1 e2 e3 hT
   go_wp2
   go_loopg [5,6] n (fun mm v j wr => ∃ (k q : Nat),mm = n - k ∧ k ≤ n ∧ j = .int .i64 k ∧ v = .int .i64 q ∧ q ≤ 1073741824 ∧ Hid (Below w.heap.size w wr ∧ q = limN (paL lp (ss.take k))))
   case atStart => exact ⟨0,1,rfl,Nat.zero_le _,rfl,rfl,by omega,Lib.hid ⟨HB0.out,by rw [List.take_zero,paL];rfl⟩⟩
   case round =>
    obtain ⟨k,q,rfl,hk,rfl,rfl,hq,HI⟩:=hrel
    by_cases hlt : k < n
    ·have hki : (k : Int) < n:=by omega
     obtain ⟨s,hi⟩ : ∃ x,ss[k]? = some x:=⟨ss[k]'(by rw [← HH.out.2.2.2];exact hlt),List.getElem?_eq_getElem _⟩
     obtain ⟨a,d,rfl,hab,hc,hown,hb1,hb2⟩:=HH.out.1.at_ hi
     have hsz2 : SizeOf.sizeOf s.body < M ∧ SizeOf.sizeOf s.els < M:=by
      have h1:=HH.out.2.2.1
      have h2:=List.sizeOf_lt_of_mem (List.mem_of_getElem? hi)
      obtain ⟨k0,ln,co,nm,fd,fr,e,cn,cl,iv,b,t⟩:=s
      have h3 : SizeOf.sizeOf b < SizeOf.sizeOf (St.mk k0 ln co nm fd fr e cn cl iv b t):=by simp;omega
      have h4 : SizeOf.sizeOf t < SizeOf.sizeOf (St.mk k0 ln co nm fd fr e cn cl iv b t):=by simp;omega
      simp only [St.body,St.els]
      omega
     have hln:=stOwn_lenF hown
     obtain ⟨nb,hnb⟩ : ∃ nb,nb = s.body.length:=⟨_,rfl⟩
     obtain ⟨nt,hnt⟩ : ∃ nt,nt = s.els.length:=⟨_,rfl⟩
     have hcz : (stCs d s).size = 24:=stCs_size d s
     have hone : (stCs d s).all (·.oneCell') = true:=stCs_one d s
     have hc22 : (stCs d s)[22]? = some (.slice d.s nb d.ns):=by rw [hnb];exact stCs_22F d s
     have hc23 : (stCs d s)[23]? = some (.slice d.t nt d.nt):=by rw [hnt];exact stCs_23F d s
     have hc0 : (stCs d s)[0]? = some (.int .i64 (kOf s)):=stCs_0F d s
     obtain ⟨cs,hcs⟩ : ∃ cs,cs = stCs d s:=⟨_,rfl⟩
     rw [← hcs] at hc hcz hone hc22 hc23 hc0
     have hszc : cs.size = N:=hcz.trans HN.out.1.symm
     have hbw : Below w.heap.size w wr:=HI.out.1
     have hl1 : (loadCellsFrom (a.add (k * 24)) 0 N #[]).run Tryz.prog wr = .ok cs wr:=load_list (fun j v hv => (hbw.cell (by rw [block_adds,block_adds];exact hab)).trans (hc j v hv)) hszc
     have hst:=store_fresh (w:=wr) (t:=T) (zc:=zc) (cs:=cs) (HN.out.2.trans hszc.symm) hone
     obtain ⟨W6,hW6⟩ : ∃ W6,W6 = wr.alloc (.cells cs T):=⟨_,rfl⟩
     have hb6 : Below wr.heap.size wr W6:=by rw [hW6];exact below_alloc wr _
     have hp6 : W6.heap[wr.heap.size]? = some (.cells cs T (0,0)):=by rw [hW6];exact heap_of_alloc wr _
     have hps : paS lp s = paK (kOf s) lp (paL lp s.body) (paL lp s.els):=by
      obtain ⟨k0,ln,co,nm,fd,fr,e,cn,cl,iv,b,o⟩:=s
      rw [paS]
      rfl
     obtain ⟨k0,hk0⟩ : ∃ k,k = kOf s:=⟨_,rfl⟩
     rw [← hk0] at hc0 hps
     obtain ⟨X,hX⟩ : ∃ X,X = paL lp s.body:=⟨_,rfl⟩
     obtain ⟨Y,hY⟩ : ∃ Y,Y = paL lp s.els:=⟨_,rfl⟩
     have HX1 : Hid (1 ≤ X):=Lib.hid (by rw [hX];exact paL_pos _ _)
     rw [← hX,← hY] at hps
     obtain ⟨p,hp⟩ : ∃ p,p = limN X:=⟨_,rfl⟩
     obtain ⟨p2,hp2⟩ : ∃ p2,p2 = limN Y:=⟨_,rfl⟩
     have hpm : p ≤ 1073741824:=by rw [hp];exact limN_le _
     have hp1 : 1 ≤ p:=by rw [hp];exact limN_pos HX1.out
     have hqm : p2 ≤ 1073741824:=by rw [hp2];exact limN_le _
     have hb16:=hbw.chain hb6
     have HC1 : Hid (∀ W,Below W6.heap.size W6 W → Calls Tryz.prog 23 #[.slice d.s nb d.ns,.int .i64 lp] W fun e w' => e = .returned (.int .i64 p) ∧ Below W.heap.size W w'):=Lib.hid (fun W hb => by
      rw [hnb,hp,hX]
      exact HH.out.2.1 s.body hsz2.1 d.s d.ns lp W (hb1.on (hb16.chain hb)) hln.1 hlp)
     have HC2 : Hid (∀ W,Below W6.heap.size W6 W → Calls Tryz.prog 23 #[.slice d.t nt d.nt,.int .i64 lp] W fun e w' => e = .returned (.int .i64 p2) ∧ Below W.heap.size W w'):=Lib.hid (fun W hb => by
      rw [hnt,hp2,hY]
      exact HH.out.2.1 s.els hsz2.2 d.t d.nt lp W (hb2.on (hb16.chain hb)) hln.2 hlp)
     obtain ⟨S,hS⟩ : ∃ S : World → Prop,S = fun W => Below W6.heap.size W6 W:=⟨_,rfl⟩
     have HS2 : Hid (∀ W,Below W6.heap.size W6 W → S W):=Lib.hid (fun W hb => by rw [hS];exact hb)
     have HLD : Hid (∀ W,S W → W.cell? ⟨wr.heap.size,22,none⟩ = some (.slice d.s nb d.ns) ∧ W.cell? ⟨wr.heap.size,23,none⟩ = some (.slice d.t nt d.nt)):=Lib.hid (fun W hs => by
      rw [hS] at hs
      have q2:=kept_box hs hp6
      exact ⟨cell_of_block q2 22 hc22,cell_of_block q2 23 hc23⟩)
     have hk6 : (wr.alloc (.cells cs T)).cell? ⟨wr.heap.size,0,none⟩ = some (.int .i64 k0):=by rw [← hW6];exact cell_of_block hp6 0 hc0
     have hs6 : (wr.alloc (.cells cs T)).cell? ⟨wr.heap.size,22,none⟩ = some (.slice d.s nb d.ns):=by rw [← hW6];exact cell_of_block hp6 22 hc22
     have H6:=Lib.hid hb16
     have HX0:=Lib.hid (Below.refl W6.heap.size W6).drew
     have HX00:=Lib.hid (Below.refl W6.heap.size W6)
     have g0:=HS2.out _ HX0.out
     have HQ : Hid (∀ z,z = limN (paS lp s) → 1 ≤ z ∧ z ≤ 1073741824 ∧ limN (q * z) = limN (paL lp (ss.take (k + 1)))):=Lib.hid (fun z hz => by
      subst hz
      exact ⟨limN_pos (paS_pos _ _),limN_le _,by rw [HI.out.2];exact paL_step lp hi⟩)
     have HPQ:=Lib.hid (And.intro hp (And.intro hp2 hps))
     have HF:=Lib.hid hlt
     clear hi hab hc hown hb1 hb2 hsz2 hln hnb hnt hcs hc22 hc23 hc0 hbw hb6 hp6 hcz hone hb16 hS hk0 hX hY hp hp2 hps
     have hk4 : k0 = 8 ∨ k0 = 11 ∨ k0 = 9 ∨ (k0 ≠ 8 ∧ k0 ≠ 9 ∧ k0 ≠ 11):=by omega
     rcases hk4 with rfl | rfl | rfl | ⟨h8,h9,h11⟩
     ·go_wp2
      rw [← hW6]
      clear hW6 hl1 hst hk6 hs6
      refine wp_region_held (S:=S) hmx ?_
      change wpAnyH _ _ _ _ _ 11 #[false,false,false,false,false,false,false,false,false,false,false] _ W6.drew
      refine tk 0 26 (.pointer (some ⟨wr.heap.size,22,none⟩)) g0 ?v ?_
      case v => intro Wx hSx;go_simp
      refine tk 1 27 (.slice d.s nb d.ns) g0 ?v ?_
      case v => intro Wx hSx;obtain ⟨z1,z2⟩:=HLD.out Wx hSx;go_simp
      refine tk 2 28 (.int .i64 lp) g0 ?v ?_
      case v => intro Wx hSx;go_simp
      refine tk 4 30 (.pointer (some ⟨wr.heap.size,23,none⟩)) g0 ?v ?_
      case v => intro Wx hSx;go_simp
      try simp only [Act.put,List.setIfInBounds_toArray,List.set_cons_zero,List.set_cons_succ]
      refine tk 5 31 (.slice d.t nt d.nt) g0 ?v ?_
      case v => intro Wx hSx;obtain ⟨z1,z2⟩:=HLD.out Wx hSx;go_simp
      refine tk 6 32 (.int .i64 lp) g0 ?v ?_
      case v => intro Wx hSx;go_simp
      try simp only [Act.put,List.setIfInBounds_toArray,List.set_cons_zero,List.set_cons_succ]
      refine o1 3 (fun K hK => ?_)
      go_simp
      (with_reducible refine (HC1.out _ HX0.out).mono ?_)
      rintro e w3 ⟨rfl,hb3⟩
      have H3:=Lib.hid (HX0.out.chain hb3)
      have hs3:=HS2.out _ H3.out
      clear hb3
      refine hK _ _ hs3 ?_
      clear hK K
      try simp only [Act.put,List.setIfInBounds_toArray,List.set_cons_zero,List.set_cons_succ]
      refine o1 7 (fun K hK => ?_)
      go_simp
      (with_reducible refine (HC2.out _ H3.out).mono ?_)
      rintro e w4 ⟨rfl,hb3⟩
      have H4:=Lib.hid (H3.out.chain hb3)
      have hs4:=HS2.out _ H4.out
      clear hb3
      refine hK _ _ hs4 ?_
      clear hK K
      try simp only [Act.put,List.setIfInBounds_toArray,List.set_cons_zero,List.set_cons_succ]
      refine tk 8 34 (.int .i64 ((p : Int) + p2)) hs4 ?v ?_
      case v => intro Wx hSx;go_simp;try exact Go.IntWalk.i64_in _ (by omega)
      try simp only [Act.put,List.setIfInBounds_toArray,List.set_cons_zero,List.set_cons_succ]
      have hmn : min ((p : Int) + p2) 1073741824 = ((limN (p + p2) : Nat) : Int):=by unfold limN;omega
      refine tk 9 35 (.int .i64 (limN (p + p2) : Nat)) hs4 ?v ?_
      case v => intro Wx hSx;go_simp;try rw [hmn]
      try simp only [Act.put,List.setIfInBounds_toArray,List.set_cons_zero,List.set_cons_succ]
      refine tk 10 8 (.int .i64 (limN (p + p2) : Nat)) hs4 ?v ?_
      case v => intro Wx hSx;go_simp
      try simp only [Act.put,List.setIfInBounds_toArray,List.set_cons_zero,List.set_cons_succ]
      refine wpAnyH_done (by kernel_rfl) ?_ _
      have HZ:=Lib.hid (HQ.out (limN (p + p2)) (by rw [HPQ.out.2.2,paK_8,HPQ.out.1,HPQ.out.2.1,limN_add]))
      obtain ⟨z,hz⟩ : ∃ z,z = limN (p + p2):=⟨_,rfl⟩
      rw [← hz] at HZ ⊢
      clear hz hmn
      go_wp2_with (go_at_call 47;(with_reducible refine (times_any q z hq HZ.out.1 HZ.out.2.1 _).mono ?_);rintro e w9 ⟨rfl,hw⟩;subst hw)
      go_roundg (n - (k + 1))
      case measure => have := HF.out;omega
      case rel => exact ⟨k + 1,limN (q * z),rfl,(by have := HF.out;omega),by go_num,rfl,limN_le _,Lib.hid ⟨H6.out.chain H4.out,HZ.out.2.2⟩⟩
     ·have HB:=Lib.hid (HC1.out W6 HX00.out)
      rw [hW6] at HB
      have HZ:=Lib.hid (HQ.out p (by rw [HPQ.out.2.2,paK_11,HPQ.out.1]))
      go_wp2_with (first
       | (go_at_call 23;(with_reducible refine HB.out.mono ?_);rintro e w3 ⟨rfl,hb3⟩;rw [← hW6] at hb3;have H3:=Lib.hid (H6.out.chain hb3);clear hb3)
       | (go_at_call 47;(with_reducible refine (times_any q p hq HZ.out.1 HZ.out.2.1 _).mono ?_);rintro e w9 ⟨rfl,hw⟩;subst hw))
      go_roundg (n - (k + 1))
      case measure => have := HF.out;omega
      case rel => exact ⟨k + 1,limN (q * p),rfl,(by have := HF.out;omega),by go_num,rfl,limN_le _,Lib.hid ⟨H3.out,HZ.out.2.2⟩⟩
     ·have HB:=Lib.hid (HC1.out W6 HX00.out)
      rw [hW6] at HB
      go_wp2_with (first
       | (go_at_call 23;(with_reducible refine HB.out.mono ?_);rintro e w3 ⟨rfl,hb3⟩;rw [← hW6] at hb3;have H3:=Lib.hid (H6.out.chain hb3);clear hb3 hk6 hs6 hl1 hst))
      go_loopg [8,10,11] lp (fun mm u v j wr2 => ∃ (i y x : Nat),mm = lp - i ∧ i ≤ lp ∧ j = .int .i64 i ∧ v = .int .i64 x ∧ u = .int .i64 y ∧ x ≤ 1073741824 ∧ y ≤ 1073741824 ∧ Hid (w3 = wr2 ∧ x = limN (X ^ i) ∧ y = limN (powS X i)))
      case atStart => exact ⟨0,1,1,rfl,Nat.zero_le _,rfl,rfl,rfl,by omega,by omega,Lib.hid ⟨rfl,rfl,rfl⟩⟩
      case round =>
       obtain ⟨i,y,x,rfl,hi,rfl,rfl,rfl,hx,hy,HJ⟩:=hrel
       by_cases hit : i < lp
       ·have hii : (i : Int) < lp:=by omega
        have hx1 : x * p = x * p:=rfl
        have hmx2 : limN (x * p) ≤ 1073741824:=limN_le _
        obtain ⟨z,hz⟩ : ∃ z,z = limN (x * p):=⟨_,rfl⟩
        have HT:=Lib.hid (times_any x p hx hp1 hpm wr)
        rw [← hz] at HT hmx2
        have hmn : min ((y : Int) + z) 1073741824 = ((limN (y + z) : Nat) : Int):=by unfold limN;omega
        have HZ2 : Hid (z = limN (X ^ (i + 1)) ∧ limN (y + z) = limN (powS X (i + 1))):=Lib.hid (by
         have h1 : z = limN (X ^ (i + 1)):=by
          rw [hz,HJ.out.2.1,HPQ.out.1,limN_mul (Nat.pow_pos HX1.out) HX1.out,Nat.pow_succ]
         exact ⟨h1,by rw [h1,HJ.out.2.2,limN_add,powS_next]⟩)
        clear hz hx1
        go_wp2_with (go_at_call 47;(with_reducible refine HT.out.mono ?_);rintro e w9 ⟨rfl,hw⟩;subst hw)
        go_roundg (lp - (i + 1))
        case measure => omega
        case rel => exact ⟨i + 1,limN (y + z),z,rfl,by omega,by go_num,rfl,(by first | rfl | (rw [hmn])),hmx2,limN_le _,Lib.hid ⟨HJ.out.1,HZ2.out.1,HZ2.out.2⟩⟩
       ·obtain rfl : i = lp:=by omega
        have HZ:=Lib.hid (HQ.out y (by rw [HPQ.out.2.2,paK_9];exact HJ.out.2.2))
        go_wp2_with (go_at_call 47;(with_reducible refine (times_any q y hq HZ.out.1 HZ.out.2.1 _).mono ?_);rintro e w9 ⟨rfl,hw⟩;subst hw)
        go_roundg (n - (k + 1))
        case measure => have := HF.out;omega
        case rel => exact ⟨k + 1,limN (q * y),rfl,(by have := HF.out;omega),by go_num,rfl,limN_le _,Lib.hid ⟨by rw [← HJ.out.1];exact H3.out,HZ.out.2.2⟩⟩
     ·have b8 : (k0 == 8) = false:=by simpa using h8
      have b9 : (k0 == 9) = false:=by simpa using h9
      have b11 : (k0 == 11) = false:=by simpa using h11
      have HZ:=Lib.hid (HQ.out 1 (by rw [HPQ.out.2.2,paK_no _ _ _ h8 h9 h11,limN_one]))
      have HT : Hid (∀ W,Calls Tryz.prog 47 #[.int .i64 q,.int .i64 1] W fun e w' => e = .returned (.int .i64 (limN (q * 1) : Nat)) ∧ W = w'):=Lib.hid (fun W => times_any q 1 hq HZ.out.1 HZ.out.2.1 W)
      go_wp2_with (go_at_call 47;(with_reducible refine (HT.out _).mono ?_);rintro e w9 ⟨rfl,hw⟩;subst hw)
      go_roundg (n - (k + 1))
      case measure => have := HF.out;omega
      case rel => exact ⟨k + 1,limN (q * 1),rfl,(by have := HF.out;omega),by go_num,(by rw [Nat.mul_one]),limN_le _,Lib.hid ⟨by rw [← hW6];exact H6.out,HZ.out.2.2⟩⟩
    ·obtain rfl : k = n:=by omega
     go_wp2
     go_ret
     exact ⟨by rw [HI.out.2,List.take_of_length_le (by rw [← HH.out.2.2.2];exact Nat.le_refl _)];rfl,HI.out.1⟩
end Go.Proofs.YtnbdfpjcpapdcaaGreatDoor
namespace Go.Proofs.YtnbdfpjcpapdcaaGreatDoor
set_option maxRecDepth 100000
set_option maxHeartbeats 8000000
open Go.RowKit
theorem few_any : ∀ (M : Nat) (ss : List St),SizeOf.sizeOf ss < M → ∀ (A : Option Addr) (c : Nat) (w : World),StRow w w.heap.size ss A → ss.length ≤ maxLen →
 Calls Tryz.prog 11 #[.slice A ss.length c] w fun e w' => ∃ r : Int,e = .returned (.int .i64 r) ∧ 0 ≤ r ∧ r ≤ 61 ∧ (0 < r → ∀ f,FlL ss f → (f.length : Int) + r ≤ 61) ∧ Below w.heap.size w w':=by
 intro M
 induction M with
 | zero => intro ss h;omega
 | succ M ih =>
   intro ss hM A c w hr hn
   obtain ⟨T,N,zc,hT,hN,hzc,hag,hsz,hzv⟩:=stmt_hidden2
   have e1 : ∀ y : Operand,Op.load 42 y = Op.load T y:=fun y => by rw [hT]
   have e2 : ∀ y z : Operand,Op.store 42 y z = Op.store T y z:=fun y z => by rw [hT]
   have e3 : Op.alloc 42 = Op.alloc T:=by rw [hT]
   have hmx : Tryz.prog.follows .mixedOrders = true:=by kernel_rfl
   obtain ⟨n,hnn⟩ : ∃ n,n = ss.length:=⟨_,rfl⟩
   have HH:=Lib.hid (And.intro hr (And.intro ih (And.intro hM hnn)))
   have HB0:=Lib.hid (Below.refl w.heap.size w)
   have HN:=Lib.hid (And.intro hN hzc)
   rw [← hnn] at hn ⊢
   clear hr ih hM hnn hN hzc
   unfold maxLen at hn
   go_enter Tryz.func11,Tryz.ntmps11
   simp only [e1,e2,e3]
   clear e1 e2 e3 hT
   go_wp2
   go_loopg [3,10] n (fun mm v j wr => ∃ (k : Nat) (r : Int),mm = n - k ∧ k ≤ n ∧ j = .int .i64 k ∧ v = .int .i64 r ∧ 0 ≤ r ∧ r ≤ max (n : Int) 200 ∧ Hid (Below w.heap.size w wr ∧ (r ≤ 60 → ∀ f,FlL (ss.take k) f → (f.length : Int) + (n - k) ≤ r)))
   case atStart => exact ⟨0,n,rfl,Nat.zero_le _,rfl,rfl,by omega,by omega,Lib.hid ⟨HB0.out,fun _ f hf => by rw [List.take_zero] at hf;cases hf;simp⟩⟩
   case round =>
    obtain ⟨k,r,rfl,hk,rfl,rfl,hr0,hr1,HI⟩:=hrel
    by_cases hlt : k < n
    ·have hki : (k : Int) < n:=by omega
     obtain ⟨s,hi⟩ : ∃ x,ss[k]? = some x:=⟨ss[k]'(by rw [← HH.out.2.2.2];exact hlt),List.getElem?_eq_getElem _⟩
     obtain ⟨a,d,rfl,hab,hc,hown,hb1,hb2⟩:=HH.out.1.at_ hi
     have hsz2 : SizeOf.sizeOf s.body < M ∧ SizeOf.sizeOf s.els < M:=by
      have h1:=HH.out.2.2.1
      have h2:=List.sizeOf_lt_of_mem (List.mem_of_getElem? hi)
      obtain ⟨k0,ln,co,nm,fd,fr,e,cn,cl,iv,b,t⟩:=s
      have h3 : SizeOf.sizeOf b < SizeOf.sizeOf (St.mk k0 ln co nm fd fr e cn cl iv b t):=by simp;omega
      have h4 : SizeOf.sizeOf t < SizeOf.sizeOf (St.mk k0 ln co nm fd fr e cn cl iv b t):=by simp;omega
      simp only [St.body,St.els]
      omega
     have hln:=stOwn_lenF hown
     obtain ⟨nb,hnb⟩ : ∃ nb,nb = s.body.length:=⟨_,rfl⟩
     obtain ⟨nt,hnt⟩ : ∃ nt,nt = s.els.length:=⟨_,rfl⟩
     have hcz : (stCs d s).size = 24:=stCs_size d s
     have hone : (stCs d s).all (·.oneCell') = true:=stCs_one d s
     have hc22 : (stCs d s)[22]? = some (.slice d.s nb d.ns):=by rw [hnb];exact stCs_22F d s
     have hc23 : (stCs d s)[23]? = some (.slice d.t nt d.nt):=by rw [hnt];exact stCs_23F d s
     have hc0 : (stCs d s)[0]? = some (.int .i64 (kOf s)):=stCs_0F d s
     obtain ⟨cs,hcs⟩ : ∃ cs,cs = stCs d s:=⟨_,rfl⟩
     rw [← hcs] at hc hcz hone hc22 hc23 hc0
     have hszc : cs.size = N:=hcz.trans HN.out.1.symm
     have hbw : Below w.heap.size w wr:=HI.out.1
     have hl1 : (loadCellsFrom (a.add (k * 24)) 0 N #[]).run Tryz.prog wr = .ok cs wr:=load_list (fun j v hv => (hbw.cell (by rw [block_adds,block_adds];exact hab)).trans (hc j v hv)) hszc
     have hst:=store_fresh (w:=wr) (t:=T) (zc:=zc) (cs:=cs) (HN.out.2.trans hszc.symm) hone
     obtain ⟨W6,hW6⟩ : ∃ W6,W6 = wr.alloc (.cells cs T):=⟨_,rfl⟩
     have hb6 : Below wr.heap.size wr W6:=by rw [hW6];exact below_alloc wr _
     have hp6 : W6.heap[wr.heap.size]? = some (.cells cs T (0,0)):=by rw [hW6];exact heap_of_alloc wr _
     have HC1 : Hid (∀ W,Below W6.heap.size W6 W → Calls Tryz.prog 11 #[.slice d.s nb d.ns] W fun e w' => ∃ r : Int,e = .returned (.int .i64 r) ∧ 0 ≤ r ∧ r ≤ 61 ∧ (0 < r → ∀ f,FlL s.body f → (f.length : Int) + r ≤ 61) ∧ Below W.heap.size W w'):=Lib.hid (fun W hb => by
      rw [hnb]
      exact HH.out.2.1 s.body hsz2.1 d.s d.ns W (hb1.on ((hbw.chain hb6).chain hb)) hln.1)
     have HC2 : Hid (∀ W,Below W6.heap.size W6 W → Calls Tryz.prog 11 #[.slice d.t nt d.nt] W fun e w' => ∃ r : Int,e = .returned (.int .i64 r) ∧ 0 ≤ r ∧ r ≤ 61 ∧ (0 < r → ∀ f,FlL s.els f → (f.length : Int) + r ≤ 61) ∧ Below W.heap.size W w'):=Lib.hid (fun W hb => by
      rw [hnt]
      exact HH.out.2.1 s.els hsz2.2 d.t d.nt W (hb2.on ((hbw.chain hb6).chain hb)) hln.2)
     obtain ⟨S,hS⟩ : ∃ S : World → Prop,S = fun W => Below W6.heap.size W6 W:=⟨_,rfl⟩
     have HS2 : Hid (∀ W,Below W6.heap.size W6 W → S W):=Lib.hid (fun W hb => by rw [hS];exact hb)
     have HLD : Hid (∀ W,S W → W.cell? ⟨wr.heap.size,22,none⟩ = some (.slice d.s nb d.ns) ∧ W.cell? ⟨wr.heap.size,23,none⟩ = some (.slice d.t nt d.nt)):=Lib.hid (fun W hs => by
      rw [hS] at hs
      have q2:=kept_box hs hp6
      exact ⟨cell_of_block q2 22 hc22,cell_of_block q2 23 hc23⟩)
     have H6:=Lib.hid (hbw.chain hb6)
     have HX0:=Lib.hid (Below.refl W6.heap.size W6).drew
     have g0:=HS2.out _ HX0.out
     have HF:=Lib.hid (And.intro hi hlt)
     clear hi hab hc hown hb1 hb2 hsz2 hln hnb hnt hcs hc22 hc23 hc0 hbw hb6 hp6 hS hcz hone
     by_cases h60 : r ≤ 60
     ·go_wp2
      rw [← hW6]
      clear hW6 hl1 hst
      refine wp_region_held (S:=S) hmx ?_
      change wpAnyH _ _ _ _ _ 13 #[false,false,false,false,false,false,false,false,false,false,false,false,false] _ W6.drew
      refine tk 0 16 (.int .i64 r) g0 ?v ?_
      case v => intro Wx hSx;go_simp
      refine tk 1 17 (.pointer (some ⟨wr.heap.size,22,none⟩)) g0 ?v ?_
      case v => intro Wx hSx;go_simp
      refine tk 2 18 (.slice d.s nb d.ns) g0 ?v ?_
      case v => intro Wx hSx;obtain ⟨z1,z2⟩:=HLD.out Wx hSx;go_simp
      refine tk 7 23 (.pointer (some ⟨wr.heap.size,23,none⟩)) g0 ?v ?_
      case v => intro Wx hSx;go_simp
      try simp only [Act.put,List.setIfInBounds_toArray,List.set_cons_zero,List.set_cons_succ]
      refine tk 8 24 (.slice d.t nt d.nt) g0 ?v ?_
      case v => intro Wx hSx;obtain ⟨z1,z2⟩:=HLD.out Wx hSx;go_simp
      try simp only [Act.put,List.setIfInBounds_toArray,List.set_cons_zero,List.set_cons_succ]
      refine o1 3 (fun K hK => ?_)
      go_simp
      (with_reducible refine (HC1.out _ HX0.out).mono ?_)
      rintro e w3 ⟨r1,rfl,p0,p1,p2,hb3⟩
      have H3:=Lib.hid (HX0.out.chain hb3)
      have hs3:=HS2.out _ H3.out
      have HP1:=Lib.hid p2
      clear hb3 p2
      refine hK _ _ hs3 ?_
      clear hK K
      try simp only [Act.put,List.setIfInBounds_toArray,List.set_cons_zero,List.set_cons_succ]
      refine tk 4 20 (.int .i64 (61 - r1)) hs3 ?v ?_
      case v => intro Wx hSx;go_simp;try exact Go.IntWalk.i64_in _ (by omega)
      refine tk 5 21 (.int .i64 (61 - r1 + 60)) hs3 ?v ?_
      case v => intro Wx hSx;go_simp;try exact Go.IntWalk.i64_in _ (by omega)
      refine tk 6 22 (.int .i64 (61 - r1 + 60 + 1)) hs3 ?v ?_
      case v => intro Wx hSx;go_simp;try exact Go.IntWalk.i64_in _ (by omega)
      try simp only [Act.put,List.setIfInBounds_toArray,List.set_cons_zero,List.set_cons_succ]
      refine o1 9 (fun K hK => ?_)
      go_simp
      (with_reducible refine (HC2.out _ H3.out).mono ?_)
      rintro e w4 ⟨r2,rfl,p3,p4,p5,hb4⟩
      have H4:=Lib.hid (H3.out.chain hb4)
      have hs4:=HS2.out _ H4.out
      have HP2:=Lib.hid p5
      clear hb4 p5
      refine hK _ _ hs4 ?_
      clear hK K
      try simp only [Act.put,List.setIfInBounds_toArray,List.set_cons_zero,List.set_cons_succ]
      refine tk 10 26 (.int .i64 (61 - r1 + 60 + 1 - r2)) hs4 ?v ?_
      case v => intro Wx hSx;go_simp;try exact Go.IntWalk.i64_in _ (by omega)
      refine tk 11 27 (.int .i64 (r + (61 - r1 + 60 + 1 - r2))) hs4 ?v ?_
      case v => intro Wx hSx;go_simp;try exact Go.IntWalk.i64_in _ (by omega)
      refine tk 12 3 (.int .i64 (r + (61 - r1 + 60 + 1 - r2))) hs4 ?v ?_
      case v => intro Wx hSx;go_simp;try exact Go.IntWalk.i64_in _ (by omega)
      try simp only [Act.put,List.setIfInBounds_toArray,List.set_cons_zero,List.set_cons_succ]
      refine wpAnyH_done (by kernel_rfl) ?_ _
      go_wp2
      go_roundg (n - (k + 1))
      case measure => have := HF.out.2;omega
      case rel =>
       have hlt:=HF.out.2
       refine ⟨k + 1,r + (61 - r1 + 60 + 1 - r2),rfl,by omega,by go_num,rfl,by omega,by omega,Lib.hid ⟨H6.out.chain H4.out,fun h g hg => ?_⟩⟩
       obtain ⟨f,fb,fo,g1,g2,g3,hl⟩:=fl_snocF HF.out.1 hg
       have i1:=HP1.out (by omega) fb g2
       have i2:=HP2.out (by omega) fo g3
       have i3:=HI.out.2 h60 f g1
       omega
     ·go_wp2
      rw [← hW6]
      clear hW6 hl1 hst
      go_roundg (n - (k + 1))
      case measure => have := HF.out.2;omega
      case rel => exact ⟨k + 1,r,rfl,(by have := HF.out.2;omega),by go_num,rfl,hr0,hr1,Lib.hid ⟨H6.out,fun h => absurd h (by omega)⟩⟩
    ·obtain rfl : k = n:=by omega
     go_wp2
     go_ret
     have hw : wrap64 (61 - r) = 61 - r:=by unfold wrap64;omega
     refine ⟨_,rfl,?_,?_,?_,HI.out.1⟩
     ·omega
     ·omega
     ·intro h f hf
      have h2:=HI.out.2 (by omega) f (by rw [List.take_of_length_le (by rw [← HH.out.2.2.2];exact Nat.le_refl _)];exact hf)
      omega
end Go.Proofs.YtnbdfpjcpapdcaaGreatDoor
