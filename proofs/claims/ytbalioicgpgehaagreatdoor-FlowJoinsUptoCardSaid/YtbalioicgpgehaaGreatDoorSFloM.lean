import Derived.Test.YtbalioicgpgehaaGreatDoorSTreeMa
import Derived.Test.YtbalioicgpgehaaGreatDoorSTreeQ
import Derived.Test.YtbalioicgpgehaaGreatDoorSTreeAx
set_option linter.unusedVariables false
set_option linter.unusedSimpArgs false
namespace Go.Proofs.YtbalioicgpgehaaGreatDoor
open Go.RowKit
def powS (n : Nat) : Nat → Nat
 | 0 => 1
 | k + 1 => 1 + n * powS n k
mutual
def paS (lp : Nat) : St → Nat
 | .mk k _ _ _ _ _ _ _ _ _ b o => if k = 8 then paL lp b + paL lp o else if k = 9 then powS (paL lp b) lp else if k = 11 then paL lp b else 1
def paL (lp : Nat) : List St → Nat
 | [] => 1
 | s :: l => paS lp s * paL lp l
end
def limN (n : Nat) : Nat:=min n 1073741824
theorem limN_le (n : Nat) : limN n ≤ 1073741824:=Nat.min_le_right _ _
theorem limN_pos {n : Nat} (h : 1 ≤ n) : 1 ≤ limN n:=by unfold limN;omega
theorem limN_one : limN 1 = 1:=rfl
theorem limN_add (a b : Nat) : limN (limN a + limN b) = limN (a + b):=by unfold limN;omega
theorem limN_add1 (b : Nat) : limN (1 + limN b) = limN (1 + b):=by unfold limN;omega
theorem limN_mul {a b : Nat} (ha : 1 ≤ a) (hb : 1 ≤ b) : limN (limN a * limN b) = limN (a * b):=by
 unfold limN
 by_cases h1 : a ≤ 1073741824
 ·rw [Nat.min_eq_left h1]
  by_cases h2 : b ≤ 1073741824
  ·rw [Nat.min_eq_left h2]
  ·rw [Nat.min_eq_right (by omega : 1073741824 ≤ b)]
   have e1 : 1073741824 ≤ a * 1073741824:=Nat.le_mul_of_pos_left _ (by omega)
   have e2 : 1073741824 ≤ a * b:=Nat.le_trans (by omega : 1073741824 ≤ b) (Nat.le_mul_of_pos_left _ (by omega))
   rw [Nat.min_eq_right e1,Nat.min_eq_right e2]
 ·rw [Nat.min_eq_right (by omega : 1073741824 ≤ a)]
  have e2 : 1073741824 ≤ a * b:=Nat.le_trans (by omega : 1073741824 ≤ a) (Nat.le_mul_of_pos_right _ (by omega))
  have e1 : 1073741824 ≤ 1073741824 * min b 1073741824:=Nat.le_mul_of_pos_right _ (by omega)
  rw [Nat.min_eq_right e1,Nat.min_eq_right e2]
theorem powS_pos (n : Nat) : ∀ k,1 ≤ powS n k
 | 0 => Nat.le_refl _
 | k + 1 => by rw [powS];omega
theorem powS_lim {n : Nat} (hn : 1 ≤ n) (k : Nat) : limN (1 + limN n * limN (powS n k)) = limN (powS n (k + 1)):=by
 rw [powS,← limN_add1,limN_mul hn (powS_pos n k),limN_add1]
mutual
theorem paS_pos (lp : Nat) : ∀ s : St,1 ≤ paS lp s
 | .mk k _ _ _ _ _ _ _ _ _ b o => by
   have h1:=paL_pos lp b
   have h2:=powS_pos (paL lp b) lp
   rw [paS]
   split
   ·omega
   ·split
    ·exact h2
    ·split
     ·exact h1
     ·exact Nat.le_refl _
theorem paL_pos (lp : Nat) : ∀ l : List St,1 ≤ paL lp l
 | [] => by rw [paL];exact Nat.le_refl _
 | s :: l => by rw [paL];exact Nat.mul_pos (paS_pos lp s) (paL_pos lp l)
end
theorem paL_append (lp : Nat) : ∀ l m : List St,paL lp (l ++ m) = paL lp l * paL lp m
 | [],m => by rw [paL,List.nil_append,Nat.one_mul]
 | s :: l,m => by rw [List.cons_append,paL,paL,paL_append lp l m,Nat.mul_assoc]
theorem paL_take (lp : Nat) {k : Nat} {l : List St} {s : St} (h : l[k]? = some s) : paL lp (l.take (k + 1)) = paL lp (l.take k) * paS lp s:=by
 rw [List.take_add_one,h,paL_append]
 show _ * paL lp [s] = _
 rw [paL,paL,Nat.mul_one]
theorem paL_step (lp : Nat) {k : Nat} {l : List St} {s : St} (h : l[k]? = some s) : limN (limN (paL lp (l.take k)) * limN (paS lp s)) = limN (paL lp (l.take (k + 1))):=by
 rw [limN_mul (paL_pos _ _) (paS_pos _ _),paL_take lp h]
theorem times_lim {a b : Nat} (hb : 1 ≤ b) (hbm : b ≤ 1073741824) : (if (1073741824 / b : Nat) < a then 1073741824 else a * b) = limN (a * b):=by
 unfold limN
 split
 ·rename_i h
  have h2 : 1073741824 < a * b:=(Nat.div_lt_iff_lt_mul (by omega)).1 h
  omega
 ·rename_i h
  have h2 : a * b ≤ 1073741824:=(Nat.le_div_iff_mul_le (by omega)).1 (by omega)
  omega
theorem fl_snocF : ∀ {k : Nat} {ss : List St} {s : St},ss[k]? = some s → ∀ {g : List St},FlL (ss.take (k + 1)) g → ∃ f fb fo,FlL (ss.take k) f ∧ FlL s.body fb ∧ FlL s.els fo ∧ g.length = f.length + 1 + fb.length + fo.length
 | 0,x :: l,s,hi,g,hg => by
   obtain rfl : x = s:=Option.some.inj hi
   rw [List.take_succ_cons,List.take_zero] at hg
   cases hg with
   | cons _ _ fb fo fl h1 h2 h3 =>
     cases h3
     exact ⟨[],fb,fo,.nil,h1,h2,by simp only [List.length_cons,List.length_append,List.length_nil];omega⟩
 | k + 1,x :: l,s,hi,g,hg => by
   rw [List.take_succ_cons] at hg
   cases hg with
   | cons _ _ fb fo fl h1 h2 h3 =>
     obtain ⟨f,f2,f3,g1,g2,g3,hl⟩:=fl_snocF (k:=k) (ss:=l) hi h3
     refine ⟨_,f2,f3,by rw [List.take_succ_cons];exact .cons _ _ _ _ _ h1 h2 g1,g2,g3,?_⟩
     simp only [List.length_cons,List.length_append]
     omega
 | k,[],s,hi,g,hg => by simp at hi
end Go.Proofs.YtbalioicgpgehaaGreatDoor
namespace Go.Proofs.YtbalioicgpgehaaGreatDoor
open Go.RowKit
def kOf : St → Int
 | .mk k _ _ _ _ _ _ _ _ _ _ _ => k
def paK (k : Int) (lp X Y : Nat) : Nat:=if k = 8 then X + Y else if k = 9 then powS X lp else if k = 11 then X else 1
theorem paK_8 (lp X Y : Nat) : paK 8 lp X Y = X + Y:=rfl
theorem paK_9 (lp X Y : Nat) : paK 9 lp X Y = powS X lp:=rfl
theorem paK_11 (lp X Y : Nat) : paK 11 lp X Y = X:=rfl
theorem paK_no {k : Int} (lp X Y : Nat) (h8 : k ≠ 8) (h9 : k ≠ 9) (h11 : k ≠ 11) : paK k lp X Y = 1:=by unfold paK;rw [if_neg h8,if_neg h9,if_neg h11]
theorem stOwn_lenF {w : World} {B : Nat} {d : SAd} {x : St} (h : StOwn w B d x) : x.body.length ≤ maxLen ∧ x.els.length ≤ maxLen:=by
 obtain ⟨k0,ln,co,nm,fd,fr,⟨ek,en,es,el⟩,⟨ck,⟨ak,an,sa,al⟩,⟨bk,bn,sb,bl⟩,l⟩,cl,iv,bd,ot⟩:=x
 obtain ⟨⟨m0,m1,m2,m3,m4,m5,m6,m7,m8,m9,m10,m11,m12,m13⟩,_⟩:=h
 exact ⟨m12,m13⟩
theorem stCs_22F (d : SAd) (x : St) : (stCs d x)[22]? = some (.slice d.s x.body.length d.ns):=by
 obtain ⟨k0,ln,co,nm,fd,fr,⟨ek,en,es,el⟩,⟨ck,⟨ak,an,sa,al⟩,⟨bk,bn,sb,bl⟩,l⟩,cl,iv,bd,ot⟩:=x
 rfl
theorem stCs_23F (d : SAd) (x : St) : (stCs d x)[23]? = some (.slice d.t x.els.length d.nt):=by
 obtain ⟨k0,ln,co,nm,fd,fr,⟨ek,en,es,el⟩,⟨ck,⟨ak,an,sa,al⟩,⟨bk,bn,sb,bl⟩,l⟩,cl,iv,bd,ot⟩:=x
 rfl
theorem stCs_0F (d : SAd) (x : St) : (stCs d x)[0]? = some (.int .i64 (kOf x)):=by
 obtain ⟨k0,ln,co,nm,fd,fr,⟨ek,en,es,el⟩,⟨ck,⟨ak,an,sa,al⟩,⟨bk,bn,sb,bl⟩,l⟩,cl,iv,bd,ot⟩:=x
 rfl
end Go.Proofs.YtbalioicgpgehaaGreatDoor
namespace Go.Proofs.YtbalioicgpgehaaGreatDoor
set_option maxRecDepth 100000
set_option maxHeartbeats 8000000
open Go.RowKit
theorem few_any : ∀ (M : Nat) (ss : List St),SizeOf.sizeOf ss < M → ∀ (A : Option Addr) (c : Nat) (w : World),StRow w w.heap.size ss A → ss.length ≤ maxLen →
 Calls Tryz.prog 9 #[.slice A ss.length c] w fun e w' => ∃ r : Int,e = .returned (.int .i64 r) ∧ 0 ≤ r ∧ r ≤ 61 ∧ (0 < r → ∀ f,FlL ss f → (f.length : Int) + r ≤ 61) ∧ Below w.heap.size w w':=by
 intro M
 induction M with
 | zero => intro ss h;omega
 | succ M ih =>
   intro ss hM A c w hr hn
   obtain ⟨T,N,zc,hT,hN,hzc,hag,hsz,hzv⟩:=stmt_hidden2
   have e1 : ∀ y : Operand,Op.load 36 y = Op.load T y:=fun y => by rw [hT]
   have e2 : ∀ y z : Operand,Op.store 36 y z = Op.store T y z:=fun y z => by rw [hT]
   have e3 : Op.alloc 36 = Op.alloc T:=by rw [hT]
   have hmx : Tryz.prog.follows .mixedOrders = true:=by kernel_rfl
   obtain ⟨n,hnn⟩ : ∃ n,n = ss.length:=⟨_,rfl⟩
   have HH:=Lib.hid (And.intro hr (And.intro ih (And.intro hM hnn)))
   have HB0:=Lib.hid (Below.refl w.heap.size w)
   have HN:=Lib.hid (And.intro hN hzc)
   rw [← hnn] at hn ⊢
   clear hr ih hM hnn hN hzc
   unfold maxLen at hn
   go_enter Tryz.func9,Tryz.ntmps9
   simp only [e1,e2,e3]
   clear e1 e2 e3 hT
   go_wp2
   go_loopg [3,10] n (fun mm v j wr => ∃ (k : Nat) (r : Int),mm = n - k ∧ k ≤ n ∧ j = .int .i64 k ∧ v = .int .i64 r ∧ 0 ≤ r ∧ r ≤ max (n : Int) 200 ∧ Hid (Below w.heap.size w wr ∧ (r ≤ 60 → ∀ f,FlL (ss.take k) f → (f.length : Int) + (n - k) ≤ r)))
   case atStart => exact ⟨0,n,rfl,Nat.zero_le _,rfl,rfl,by omega,by omega,Lib.hid ⟨HB0.out,fun _ f hf => by rw [List.take_zero] at hf;cases hf;simp⟩⟩
   case round =>
    obtain ⟨k,r,rfl,hk,rfl,rfl,hr0,hr1,HI⟩:=hrel
    by_cases hlt : k < n
    ·have hki : (k : Int) < n:=by omega
     obtain ⟨s,hi⟩ : ∃ x,ss[k]? = some x:=⟨ss[k]'(by rw [← HH.out.2.2.2];exact hlt),List.getElem?_eq_getElem _⟩
     obtain ⟨a,d,rfl,hab,hc,hown,hb1,hb2⟩:=HH.out.1.at_ hi
     have hsz2 : SizeOf.sizeOf s.body < M ∧ SizeOf.sizeOf s.els < M:=by
      have h1:=HH.out.2.2.1
      have h2:=List.sizeOf_lt_of_mem (List.mem_of_getElem? hi)
      obtain ⟨k0,ln,co,nm,fd,fr,e,cn,cl,iv,b,t⟩:=s
      have h3 : SizeOf.sizeOf b < SizeOf.sizeOf (St.mk k0 ln co nm fd fr e cn cl iv b t):=by simp;omega
      have h4 : SizeOf.sizeOf t < SizeOf.sizeOf (St.mk k0 ln co nm fd fr e cn cl iv b t):=by simp;omega
      simp only [St.body,St.els]
      omega
     have hln:=stOwn_lenF hown
     obtain ⟨nb,hnb⟩ : ∃ nb,nb = s.body.length:=⟨_,rfl⟩
     obtain ⟨nt,hnt⟩ : ∃ nt,nt = s.els.length:=⟨_,rfl⟩
     have hcz : (stCs d s).size = 24:=stCs_size d s
     have hone : (stCs d s).all (·.oneCell') = true:=stCs_one d s
     have hc22 : (stCs d s)[22]? = some (.slice d.s nb d.ns):=by rw [hnb];exact stCs_22F d s
     have hc23 : (stCs d s)[23]? = some (.slice d.t nt d.nt):=by rw [hnt];exact stCs_23F d s
     have hc0 : (stCs d s)[0]? = some (.int .i64 (kOf s)):=stCs_0F d s
     obtain ⟨cs,hcs⟩ : ∃ cs,cs = stCs d s:=⟨_,rfl⟩
     rw [← hcs] at hc hcz hone hc22 hc23 hc0
     have hszc : cs.size = N:=hcz.trans HN.out.1.symm
     have hbw : Below w.heap.size w wr:=HI.out.1
     have hl1 : (loadCellsFrom (a.add (k * 24)) 0 N #[]).run Tryz.prog wr = .ok cs wr:=load_list (fun j v hv => (hbw.cell (by rw [block_adds,block_adds];exact hab)).trans (hc j v hv)) hszc
     have hst:=store_fresh (w:=wr) (t:=T) (zc:=zc) (cs:=cs) (HN.out.2.trans hszc.symm) hone
     obtain ⟨W6,hW6⟩ : ∃ W6,W6 = wr.alloc (.cells cs T):=⟨_,rfl⟩
     have hb6 : Below wr.heap.size wr W6:=by rw [hW6];exact below_alloc wr _
     have hp6 : W6.heap[wr.heap.size]? = some (.cells cs T (0,0)):=by rw [hW6];exact heap_of_alloc wr _
     have HC1 : Hid (∀ W,Below W6.heap.size W6 W → Calls Tryz.prog 9 #[.slice d.s nb d.ns] W fun e w' => ∃ r : Int,e = .returned (.int .i64 r) ∧ 0 ≤ r ∧ r ≤ 61 ∧ (0 < r → ∀ f,FlL s.body f → (f.length : Int) + r ≤ 61) ∧ Below W.heap.size W w'):=Lib.hid (fun W hb => by
      rw [hnb]
      exact HH.out.2.1 s.body hsz2.1 d.s d.ns W (hb1.on ((hbw.chain hb6).chain hb)) hln.1)
     have HC2 : Hid (∀ W,Below W6.heap.size W6 W → Calls Tryz.prog 9 #[.slice d.t nt d.nt] W fun e w' => ∃ r : Int,e = .returned (.int .i64 r) ∧ 0 ≤ r ∧ r ≤ 61 ∧ (0 < r → ∀ f,FlL s.els f → (f.length : Int) + r ≤ 61) ∧ Below W.heap.size W w'):=Lib.hid (fun W hb => by
      rw [hnt]
      exact HH.out.2.1 s.els hsz2.2 d.t d.nt W (hb2.on ((hbw.chain hb6).chain hb)) hln.2)
     obtain ⟨S,hS⟩ : ∃ S : World → Prop,S = fun W => Below W6.heap.size W6 W:=⟨_,rfl⟩
     have HS2 : Hid (∀ W,Below W6.heap.size W6 W → S W):=Lib.hid (fun W hb => by rw [hS];exact hb)
     have HLD : Hid (∀ W,S W → W.cell? ⟨wr.heap.size,22,none⟩ = some (.slice d.s nb d.ns) ∧ W.cell? ⟨wr.heap.size,23,none⟩ = some (.slice d.t nt d.nt)):=Lib.hid (fun W hs => by
      rw [hS] at hs
      have q2:=kept_box hs hp6
      exact ⟨cell_of_block q2 22 hc22,cell_of_block q2 23 hc23⟩)
     have H6:=Lib.hid (hbw.chain hb6)
     have HX0:=Lib.hid (Below.refl W6.heap.size W6).drew
     have g0:=HS2.out _ HX0.out
     have HF:=Lib.hid (And.intro hi hlt)
     clear hi hab hc hown hb1 hb2 hsz2 hln hnb hnt hcs hc22 hc23 hc0 hbw hb6 hp6 hS hcz hone
     by_cases h60 : r ≤ 60
     ·go_wp2
      rw [← hW6]
      clear hW6 hl1 hst
      refine wp_region_held (S:=S) hmx ?_
      change wpAnyH _ _ _ _ _ 13 #[false,false,false,false,false,false,false,false,false,false,false,false,false] _ W6.drew
      refine tk 0 16 (.int .i64 r) g0 ?v ?_
      case v => intro Wx hSx;go_simp
      refine tk 1 17 (.pointer (some ⟨wr.heap.size,22,none⟩)) g0 ?v ?_
      case v => intro Wx hSx;go_simp
      refine tk 2 18 (.slice d.s nb d.ns) g0 ?v ?_
      case v => intro Wx hSx;obtain ⟨z1,z2⟩:=HLD.out Wx hSx;go_simp
      refine tk 7 23 (.pointer (some ⟨wr.heap.size,23,none⟩)) g0 ?v ?_
      case v => intro Wx hSx;go_simp
      try simp only [Act.put,List.setIfInBounds_toArray,List.set_cons_zero,List.set_cons_succ]
      refine tk 8 24 (.slice d.t nt d.nt) g0 ?v ?_
      case v => intro Wx hSx;obtain ⟨z1,z2⟩:=HLD.out Wx hSx;go_simp
      try simp only [Act.put,List.setIfInBounds_toArray,List.set_cons_zero,List.set_cons_succ]
      refine o1 3 (fun K hK => ?_)
      go_simp
      (with_reducible refine (HC1.out _ HX0.out).mono ?_)
      rintro e w3 ⟨r1,rfl,p0,p1,p2,hb3⟩
      have H3:=Lib.hid (HX0.out.chain hb3)
      have hs3:=HS2.out _ H3.out
      have HP1:=Lib.hid p2
      clear hb3 p2
      refine hK _ _ hs3 ?_
      clear hK K
      try simp only [Act.put,List.setIfInBounds_toArray,List.set_cons_zero,List.set_cons_succ]
      refine tk 4 20 (.int .i64 (61 - r1)) hs3 ?v ?_
      case v => intro Wx hSx;go_simp;try exact Go.IntWalk.i64_in _ (by omega)
      refine tk 5 21 (.int .i64 (61 - r1 + 60)) hs3 ?v ?_
      case v => intro Wx hSx;go_simp;try exact Go.IntWalk.i64_in _ (by omega)
      refine tk 6 22 (.int .i64 (61 - r1 + 60 + 1)) hs3 ?v ?_
      case v => intro Wx hSx;go_simp;try exact Go.IntWalk.i64_in _ (by omega)
      try simp only [Act.put,List.setIfInBounds_toArray,List.set_cons_zero,List.set_cons_succ]
      refine o1 9 (fun K hK => ?_)
      go_simp
      (with_reducible refine (HC2.out _ H3.out).mono ?_)
      rintro e w4 ⟨r2,rfl,p3,p4,p5,hb4⟩
      have H4:=Lib.hid (H3.out.chain hb4)
      have hs4:=HS2.out _ H4.out
      have HP2:=Lib.hid p5
      clear hb4 p5
      refine hK _ _ hs4 ?_
      clear hK K
      try simp only [Act.put,List.setIfInBounds_toArray,List.set_cons_zero,List.set_cons_succ]
      refine tk 10 26 (.int .i64 (61 - r1 + 60 + 1 - r2)) hs4 ?v ?_
      case v => intro Wx hSx;go_simp;try exact Go.IntWalk.i64_in _ (by omega)
      refine tk 11 27 (.int .i64 (r + (61 - r1 + 60 + 1 - r2))) hs4 ?v ?_
      case v => intro Wx hSx;go_simp;try exact Go.IntWalk.i64_in _ (by omega)
      refine tk 12 3 (.int .i64 (r + (61 - r1 + 60 + 1 - r2))) hs4 ?v ?_
      case v => intro Wx hSx;go_simp;try exact Go.IntWalk.i64_in _ (by omega)
      try simp only [Act.put,List.setIfInBounds_toArray,List.set_cons_zero,List.set_cons_succ]
      refine wpAnyH_done (by kernel_rfl) ?_ _
      go_wp2
      go_roundg (n - (k + 1))
      case measure => have := HF.out.2;omega
      case rel =>
       have hlt:=HF.out.2
       refine ⟨k + 1,r + (61 - r1 + 60 + 1 - r2),rfl,by omega,by go_num,rfl,by omega,by omega,Lib.hid ⟨H6.out.chain H4.out,fun h g hg => ?_⟩⟩
       obtain ⟨f,fb,fo,g1,g2,g3,hl⟩:=fl_snocF HF.out.1 hg
       have i1:=HP1.out (by omega) fb g2
       have i2:=HP2.out (by omega) fo g3
       have i3:=HI.out.2 h60 f g1
       omega
     ·go_wp2
      rw [← hW6]
      clear hW6 hl1 hst
      go_roundg (n - (k + 1))
      case measure => have := HF.out.2;omega
      case rel => exact ⟨k + 1,r,rfl,(by have := HF.out.2;omega),by go_num,rfl,hr0,hr1,Lib.hid ⟨H6.out,fun h => absurd h (by omega)⟩⟩
    ·obtain rfl : k = n:=by omega
     go_wp2
     go_ret
     have hw : wrap64 (61 - r) = 61 - r:=by unfold wrap64;omega
     refine ⟨_,rfl,?_,?_,?_,HI.out.1⟩
     ·omega
     ·omega
     ·intro h f hf
      have h2:=HI.out.2 (by omega) f (by rw [List.take_of_length_le (by rw [← HH.out.2.2.2];exact Nat.le_refl _)];exact hf)
      omega
end Go.Proofs.YtbalioicgpgehaaGreatDoor
