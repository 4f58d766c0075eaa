import Derived.Test.YtbalioicgpgehaaGreatDoorSFloN
import Derived.Test.YtbalioicgpgehaaGreatDoorSFloV
set_option linter.unusedVariables false
set_option linter.unusedSimpArgs false
namespace Go.Proofs.YtbalioicgpgehaaGreatDoor
set_option maxRecDepth 100000
set_option maxHeartbeats 8000000
open Go.RowKit Go.Lib
def nmOf : St → List UInt8
 | .mk _ _ _ nm _ _ _ _ _ _ _ _ => nm
def clOf : St → List Cal
 | .mk _ _ _ _ _ _ _ _ cl _ _ _ => cl
theorem stCs_3F (d : SAd) (x : St) : (stCs d x)[3]? = some (.string ⟨(nmOf x).toArray⟩):=by
 obtain ⟨k0,ln,co,nm,fd,fr,⟨ek,en,es,el⟩,⟨ck,⟨ak,an,sa,al⟩,⟨bk,bn,sb,bl⟩,l⟩,cl,iv,bd,ot⟩:=x
 rfl
theorem stCs_20F (d : SAd) (x : St) : (stCs d x)[20]? = some (.slice d.c (clOf x).length d.nc):=by
 obtain ⟨k0,ln,co,nm,fd,fr,⟨ek,en,es,el⟩,⟨ck,⟨ak,an,sa,al⟩,⟨bk,bn,sb,bl⟩,l⟩,cl,iv,bd,ot⟩:=x
 rfl
theorem stOwn_nmF {w : World} {B : Nat} {d : SAd} {x : St} (h : StOwn w B d x) : (nmOf x).length ≤ maxLen ∧ (clOf x).length ≤ maxLen ∧ CalRow w B (clOf x) d.c:=by
 obtain ⟨k0,ln,co,nm,fd,fr,⟨ek,en,es,el⟩,⟨ck,⟨ak,an,sa,al⟩,⟨bk,bn,sb,bl⟩,l⟩,cl,iv,bd,ot⟩:=x
 obtain ⟨⟨m0,m1,m2,m3,m4,m5,m6,m7,m8,m9,m10,m11,m12,m13⟩,_,_,_,_,r,_⟩:=h
 exact ⟨m0,m10,r⟩
def resN (l : List Cal) : List (List UInt8):=(l.filter fun x => !(x.r == [])).map (·.r)
theorem resN_take {l : List Cal} {k : Nat} {x : Cal} (h : l[k]? = some x) : resN (l.take (k + 1)) = resN (l.take k) ++ (if x.r = [] then [] else [x.r]):=by
 unfold resN
 rw [List.take_add_one,h]
 by_cases hx : x.r = []
 ·simp [hx]
 ·simp [hx]
theorem resN_len (l : List Cal) : (resN l).length ≤ l.length:=by
 unfold resN
 rw [List.length_map]
 exact List.length_filter_le ..
def asgN (x : St) : List (List UInt8):=if kOf x = 1 ∨ kOf x = 2 ∨ kOf x = 4 ∨ kOf x = 6 then [nmOf x] else resN (clOf x)
def lckN (x : St) : List (List UInt8):=if kOf x = 11 then [nmOf x] else []
theorem one_post {w W : World} {s : List UInt8} (hs : s.length ≤ maxLen) (hb : Below w.heap.size w W) : NmPost [s] w (.returned (.slice (some ⟨W.heap.size,0,none⟩) 1 1)) (W.alloc (.cells #[.string ⟨s.toArray⟩] 9)):=by
 refine ⟨some ⟨W.heap.size,0,none⟩,1,[s],rfl,?_,fun x => Iff.rfl,fun x hx => ?_,Nat.le_refl _,hb.chain (below_alloc W _)⟩
 ·exact World.ownsRow_lit W #[.string ⟨s.toArray⟩] 1 hb.size (by unfold maxLen;omega) rfl
 ·obtain rfl : x = s:=by simpa using hx
  exact hs
theorem one_rowC (B : Nat) (W : World) (s : List UInt8) (hs : s.length ≤ maxLen) (hB : B ≤ W.heap.size) : NmRow [s] B (W.alloc (.cells #[.string ⟨s.toArray⟩] 9)) (some ⟨W.heap.size,0,none⟩) 1 1 :=
 ⟨[s],rfl,World.ownsRow_lit W #[.string ⟨s.toArray⟩] 1 hB (by unfold maxLen;omega) rfl,fun x => Iff.rfl,fun x hx => by
   obtain rfl : x = s:=by simpa using hx
   exact hs,Nat.le_refl _⟩
theorem no_post (w W : World) (hb : Below w.heap.size w W) : NmPost [] w (.returned (.slice none 0 0)) W :=
 ⟨none,0,[],rfl,World.ownsRow_nil _ _ _ _,fun x => Iff.rfl,fun x hx => by simp at hx,Nat.le_refl _,hb⟩
theorem locked_any (x : St) : TellsAt 51 lckN x:=by
 rintro w cs ⟨d,hcs,hown,_,_⟩
 obtain ⟨T,N,zc,hT,hN,hzc,hag,hsz,hzv⟩:=stmt_hidden2
 have e1 : ∀ y : Operand,Op.load 36 y = Op.load T y:=fun y => by rw [hT]
 have e4 : ∀ y : Operand,Op.box 36 y = Op.box T y:=fun y => by rw [hT]
 have hcz : cs.size = N:=by rw [hcs,hN];exact stCs_size d x
 have hone : cs.all (·.oneCell') = true:=by rw [hcs];exact stCs_one d x
 have hc3 : cs[3]? = some (.string ⟨(nmOf x).toArray⟩):=by rw [hcs];exact stCs_3F d x
 have hc0 : cs[0]? = some (.int .i64 (kOf x)):=by rw [hcs];exact stCs_0F d x
 have HM:=Lib.hid (stOwn_nmF hown)
 have hp6:=heap_of_alloc w (.cells cs T)
 have hk0:=cell_of_block hp6 0 hc0
 have hk3:=cell_of_block hp6 3 hc3
 have HB:=Lib.hid (below_alloc w (.cells cs T))
 have hL : lckN x = if kOf x = 11 then [nmOf x] else []:=rfl
 rw [hL]
 generalize nmOf x = s at *
 obtain ⟨k,hk⟩ : ∃ k,k = kOf x:=⟨_,rfl⟩
 rw [← hk] at hk0 ⊢
 clear hL hcs hown hc3 hc0 hp6 hk hN hzc
 by_cases h11 : k = 11
 ·subst h11
  rw [if_pos rfl]
  go_enter Tryz.func51,Tryz.ntmps51
  simp only [e1,e4]
  clear e1 e4 hT
  go_wp2
  go_ret
  have h:=one_post HM.out.1 HB.out
  simp only [size_of_alloc] at h
  exact h
 ·have b11 : (k == 11) = false:=by simpa using h11
  rw [if_neg h11]
  go_enter Tryz.func51,Tryz.ntmps51
  simp only [e1,e4]
  clear e1 e4 hT
  go_wp2
  go_ret
  exact no_post _ _ HB.out
theorem assigned_any (x : St) (hcl : (clOf x).length ≤ 1000) : TellsAt 45 asgN x:=by
 rintro w cs ⟨d,hcs,hown,_,_⟩
 obtain ⟨T,N,zc,hT,hN,hzc,hag,hsz,hzv⟩:=stmt_hidden2
 have e1 : ∀ y : Operand,Op.load 36 y = Op.load T y:=fun y => by rw [hT]
 have e4 : ∀ y : Operand,Op.box 36 y = Op.box T y:=fun y => by rw [hT]
 have hcz : cs.size = N:=by rw [hcs,hN];exact stCs_size d x
 have hone : cs.all (·.oneCell') = true:=by rw [hcs];exact stCs_one d x
 have hc3 : cs[3]? = some (.string ⟨(nmOf x).toArray⟩):=by rw [hcs];exact stCs_3F d x
 have hc20 : cs[20]? = some (.slice d.c (clOf x).length d.nc):=by rw [hcs];exact stCs_20F d x
 have hc0 : cs[0]? = some (.int .i64 (kOf x)):=by rw [hcs];exact stCs_0F d x
 have HM:=Lib.hid (stOwn_nmF hown)
 have hp6:=heap_of_alloc w (.cells cs T)
 have hk0:=cell_of_block hp6 0 hc0
 have hk3:=cell_of_block hp6 3 hc3
 have hk20:=cell_of_block hp6 20 hc20
 have HB:=Lib.hid (below_alloc w (.cells cs T))
 have hL : asgN x = if kOf x = 1 ∨ kOf x = 2 ∨ kOf x = 4 ∨ kOf x = 6 then [nmOf x] else resN (clOf x):=rfl
 rw [hL]
 generalize nmOf x = s at *
 generalize clOf x = cl at *
 obtain ⟨k,hk⟩ : ∃ k,k = kOf x:=⟨_,rfl⟩
 rw [← hk] at hk0 ⊢
 clear hL hcs hown hc3 hc0 hc20 hp6 hk hN hzc
 have hk4 : (k = 1 ∨ k = 2 ∨ k = 4 ∨ k = 6) ∨ (k ≠ 1 ∧ k ≠ 2 ∧ k ≠ 4 ∧ k ≠ 6):=by omega
 rcases hk4 with h1246 | ⟨h1,h2,h4,h6⟩
 ·rw [if_pos h1246]
  rcases h1246 with rfl | rfl | rfl | rfl
  all_goals
   go_enter Tryz.func45,Tryz.ntmps45
   simp only [e1,e4]
   clear e1 e4 hT
   go_wp2
   go_ret
   have h:=one_post HM.out.1 HB.out
   simp only [size_of_alloc] at h
   exact h
 ·have b1 : (k == 1) = false:=by simpa using h1
  have b2 : (k == 2) = false:=by simpa using h2
  have b4 : (k == 4) = false:=by simpa using h4
  have b6 : (k == 6) = false:=by simpa using h6
  rw [if_neg (by omega)]
  obtain ⟨n,hn⟩ : ∃ n,n = cl.length:=⟨_,rfl⟩
  have hnm : n ≤ 1000:=by rw [hn];exact hcl
  clear hcl
  obtain ⟨AC,hAC⟩ : ∃ A,A = d.c:=⟨_,rfl⟩
  rw [← hAC] at hk20 HM
  have HR:=Lib.hid (And.intro HM.out.2.2 hn)
  rw [← hn] at hk20
  clear hAC
  obtain ⟨i0,hi0,hiz,his,hib⟩:=info_parts infoStrA
  have HI0:=Lib.hid (And.intro hi0 (And.intro hiz (And.intro his hib)))
  clear hi0 hiz his hib hn
  obtain ⟨W6,hW6⟩ : ∃ W6,W6 = w.alloc (.cells cs T):=⟨_,rfl⟩
  go_enter Tryz.func45,Tryz.ntmps45
  simp only [e1,e4]
  clear e1 e4 hT
  go_wp2
  rw [← hW6] at HB ⊢
  clear hW6 hk0 hk3 hk20
  go_loopg [3,19] n (fun mm v j wr => ∃ (i nm c : Nat) (A : Option Addr),mm = n - i ∧ i ≤ n ∧ j = .int .i64 i ∧ v = .slice A nm c ∧ Hid (NmRow (resN (cl.take i)) w.heap.size wr A nm c ∧ Below w.heap.size w wr))
  case atStart => exact ⟨0,0,0,none,rfl,Nat.zero_le _,rfl,rfl,Lib.hid ⟨⟨[],rfl,World.ownsRow_nil _ _ _ _,fun x => Iff.rfl,fun y hy => by simp at hy,Nat.le_refl _⟩,HB.out⟩⟩
  case round =>
   obtain ⟨i,nm,c,A,rfl,hi,rfl,rfl,HI⟩:=hrel
   have hi0 : (0 : Int) ≤ i:=by omega
   by_cases hlt : i < n
   ·have hii : (i : Int) < n:=by omega
    obtain ⟨⟨xr,xp,xl⟩,hx⟩ : ∃ y,cl[i]? = some y:=⟨cl[i]'(by rw [← HR.out.2];exact hlt),List.getElem?_eq_getElem _⟩
    obtain ⟨a3,ha3,hab3,Al,cal,g0,g1,g2,hxr,hxp,hll,rxl⟩:=HR.out.1.at_ hx
    simp only at g0 g1 g2 hxr hxp hll rxl
    subst ha3
    have hbr:=HI.out.2
    have c0 : wr.cell? (a3.add (i * 3)) = some (.string ⟨xr.toArray⟩):=(hbr.cell (by rw [block_adds];exact hab3)).trans g0
    have c1 : wr.cell? ⟨(a3.add (i * 3)).block,(a3.add (i * 3)).off + 1,none⟩ = some (.string ⟨xp.toArray⟩):=(hbr.cell (p:=(a3.add (i * 3)).add 1) (by rw [block_adds,block_adds];exact hab3)).trans g1
    have c2 : wr.cell? ⟨(a3.add (i * 3)).block,(a3.add (i * 3)).off + 2,none⟩ = some (.slice Al xl.length cal):=(hbr.cell (p:=(a3.add (i * 3)).add 2) (by rw [block_adds,block_adds];exact hab3)).trans g2
    have hln : (resN (cl.take i)).length ≤ 1000:=Nat.le_trans (resN_len _) (by rw [List.length_take];omega)
    have HX:=Lib.hid (And.intro hx (And.intro hxr (And.intro hlt hln)))
    clear hx hxr hxp hll rxl g0 g1 g2 hbr hab3 hln
    generalize xl.length = nl at *
    have hb7 : Hid (Below wr.heap.size wr (wr.alloc (callC ⟨xr.toArray⟩ ⟨xp.toArray⟩ (.slice Al nl cal)))):=Lib.hid (below_alloc _ _)
    by_cases hr : xr = []
    ·subst hr
     go_wp2
     go_roundg (n - (i + 1))
     case measure => have := HX.out.2.2.1;omega
     case rel =>
      refine ⟨i + 1,nm,c,A,rfl,(by have := HX.out.2.2.1;omega),by go_num,rfl,Lib.hid ⟨?_,HI.out.2.chain hb7.out⟩⟩
      rw [resN_take HX.out.1,if_pos rfl,List.append_nil]
      exact HI.out.1.on hb7.out
    ·have hrb : (xr == ([] : List UInt8)) = false:=by simpa using hr
     have HX2:=Lib.hid hr
     clear hr
     obtain ⟨W7,hW7⟩ : ∃ W7,W7 = wr.alloc (callC ⟨xr.toArray⟩ ⟨xp.toArray⟩ (.slice Al nl cal)):=⟨_,rfl⟩
     have hb7b:=hb7.out
     rw [← hW7] at hb7b
     have HR8:=Lib.hid (And.intro (one_rowC w.heap.size W7 xr HX.out.2.1 (HI.out.2.chain hb7b).size) (And.intro ((HI.out.1.on hb7b).on (below_alloc W7 (.cells #[.string ⟨xr.toArray⟩] 9))) ((HI.out.2.chain hb7b).chain (below_alloc W7 (.cells #[.string ⟨xr.toArray⟩] 9)))))
     rw [hW7] at HR8
     simp only [size_of_alloc] at HR8
     clear hW7 hb7b
     go_wp2_with (at_builtin;refine nmL_append (o:=⟨some 30,_,_,_,_,_⟩) _ rfl _ _ rfl rfl rfl HR8.out.2.1 HR8.out.1 (by have h2:=HX.out.2.2.2;simp only [List.length_singleton];omega) HR8.out.2.2.size ?_;intro A10 n10 c10 w10 q10 hb10;have H10:=Lib.hid (And.intro (HR8.out.2.2.trans hb10) q10);clear q10 hb10)
     go_roundg (n - (i + 1))
     case measure => have := HX.out.2.2.1;omega
     case rel =>
      refine ⟨i + 1,n10,c10,A10,rfl,(by have := HX.out.2.2.1;omega),by go_num,rfl,Lib.hid ⟨?_,H10.out.1⟩⟩
      rw [resN_take HX.out.1,if_neg HX2.out]
      exact H10.out.2
   ·obtain rfl : i = n:=by omega
    go_wp2
    go_ret
    have h1:=HI.out.1
    rw [List.take_of_length_le (by rw [← HR.out.2];exact Nat.le_refl _)] at h1
    exact h1.post HI.out.2
end Go.Proofs.YtbalioicgpgehaaGreatDoor
namespace Go.Proofs.YtbalioicgpgehaaGreatDoor
set_option maxRecDepth 100000
set_option maxHeartbeats 8000000
open Go.RowKit Go.Lib
def callsN : List Cal → List (List UInt8)
 | [] => []
 | x :: l => exsVars x.l ++ callsN l
theorem callsN_append : ∀ l m : List Cal,callsN (l ++ m) = callsN l ++ callsN m
 | [],_ => by rw [callsN];rfl
 | x :: l,m => by rw [List.cons_append,callsN,callsN,callsN_append l m,List.append_assoc]
theorem callsN_take (l : List Cal) (k : Nat) (x : Cal) (h : l[k]? = some x) : callsN (l.take (k + 1)) = callsN (l.take k) ++ exsVars x.l:=by
 rw [List.take_add_one,h,callsN_append]
 show _ ++ callsN [x] = _
 rw [callsN,callsN,List.append_nil]
theorem callsN_le (l : List Cal) (i : Nat) (x : Cal) (h : l[i]? = some x) : (callsN (l.take i)).length + (exsVars x.l).length ≤ (callsN l).length:=by
 have e : l = l.take (i + 1) ++ l.drop (i + 1):=(List.take_append_drop ..).symm
 have h2 : (callsN l).length = (callsN (l.take (i + 1))).length + (callsN (l.drop (i + 1))).length:=by
  conv => lhs;rw [e,callsN_append,List.length_append]
 rw [h2,callsN_take l i x h,List.length_append]
 omega
def rdK (k : Int) (nm fr : List UInt8) : List (List UInt8):=if k = 2 then [fr] else if k = 3 ∨ k = 5 then [nm] else []
theorem rdK_no {k : Int} (nm fr : List UInt8) (h2 : k ≠ 2) (h3 : k ≠ 3) (h5 : k ≠ 5) : rdK k nm fr = []:=by unfold rdK;rw [if_neg h2,if_neg (by omega)]
def readN : St → List (List UInt8)
 | .mk k _ _ nm _ fr e c cl _ _ _ => exVars e ++ cnVars c ++ callsN cl ++ rdK k nm fr
theorem read_any (x : St) (hcnt : (readN x).length ≤ 8000000000000) : TellsAt 50 readN x:=by
 rintro w cs ⟨d,hcs,hown,_,_⟩
 obtain ⟨T,N,zc,hT,hN,hzc,hag,hsz,hzv⟩:=stmt_hidden2
 have e4 : ∀ y : Operand,Op.box 36 y = Op.box T y:=fun y => by rw [hT]
 have hmx : Tryz.prog.follows .mixedOrders = true:=by kernel_rfl
 obtain ⟨k,ln,co,nm,fd,fr,⟨ek,en,es,el⟩,⟨ck,⟨ak,an,sa,al⟩,⟨bk,bn,sb,bl⟩,l⟩,cl,iv,bd,ot⟩:=x
 rw [readN] at hcnt ⊢
 rw [List.length_append,List.length_append,List.length_append] at hcnt
 obtain ⟨⟨m0,m1,m2,m3,m4,m5,m6,m7,m8,m9,m10,m11,m12,m13⟩,re,ra,rb,rl,rc,ri⟩:=hown
 have hcz : cs.size = N:=by rw [hcs,hN];exact stCs_size d _
 have hone : cs.all (·.oneCell') = true:=by rw [hcs];exact stCs_one d _
 obtain ⟨W1,hW1⟩ : ∃ W1,W1 = w.alloc (.cells cs T):=⟨_,rfl⟩
 have hb1 : Below w.heap.size w W1:=by rw [hW1];exact below_alloc w _
 have hp1 : W1.heap[w.heap.size]? = some (.cells cs T (0,0)):=by rw [hW1];exact heap_of_alloc w _
 obtain ⟨S,hS⟩ : ∃ S : World → Prop,S = fun W => Below W1.heap.size W1 W:=⟨_,rfl⟩
 have HS2 : Hid (∀ W,Below W1.heap.size W1 W → S W):=Lib.hid (fun W hb => by rw [hS];exact hb)
 have HV : Hid (∀ W,Below W1.heap.size W1 W → Calls Tryz.prog 76 #[exprV ek en ⟨es.toArray⟩ (.slice d.e el.length d.ne)] W (NmPost (exVars (.mk ek en es el)) W)):=Lib.hid (fun W hb => vars_allF ek en es el d.e d.ne W (re.on (hb1.chain hb)) m3 m4 (by omega))
 have HC : Hid (∀ W,Below W1.heap.size W1 W → Calls Tryz.prog 77 #[condV2 ck ak an ⟨sa.toArray⟩ (.slice d.a al.length d.na) bk bn ⟨sb.toArray⟩ (.slice d.b bl.length d.nb) (.slice d.l l.length d.nl)] W (NmPost (cnVars (.mk ck (.mk ak an sa al) (.mk bk bn sb bl) l)) W)):=Lib.hid (fun W hb => cvars_any _ l (Nat.lt_succ_self _) ck ak an sa al bk bn sb bl d.a d.na d.b d.nb d.l d.nl W (ra.on (hb1.chain hb)) (rb.on (hb1.chain hb)) (rl.on (hb1.chain hb)) m5 m6 m7 m8 m9 (by omega))
 obtain ⟨nc,hnc⟩ : ∃ n,n = cl.length:=⟨_,rfl⟩
 obtain ⟨AC,hAC⟩ : ∃ A,A = d.c:=⟨_,rfl⟩
 obtain ⟨cC,hcC⟩ : ∃ c,c = d.nc:=⟨_,rfl⟩
 have HLD : Hid (∀ W,S W → (W.cell? ⟨w.heap.size,6,none⟩ = some (.int .i64 ek) ∧ W.cell? ⟨w.heap.size,7,none⟩ = some (.int .i64 en) ∧ W.cell? ⟨w.heap.size,8,none⟩ = some (.string ⟨es.toArray⟩) ∧ W.cell? ⟨w.heap.size,9,none⟩ = some (.slice d.e el.length d.ne)) ∧
  (W.cell? ⟨w.heap.size,10,none⟩ = some (.int .i64 ck) ∧ W.cell? ⟨w.heap.size,11,none⟩ = some (.int .i64 ak) ∧ W.cell? ⟨w.heap.size,12,none⟩ = some (.int .i64 an) ∧ W.cell? ⟨w.heap.size,13,none⟩ = some (.string ⟨sa.toArray⟩) ∧ W.cell? ⟨w.heap.size,14,none⟩ = some (.slice d.a al.length d.na) ∧
    W.cell? ⟨w.heap.size,15,none⟩ = some (.int .i64 bk) ∧ W.cell? ⟨w.heap.size,16,none⟩ = some (.int .i64 bn) ∧ W.cell? ⟨w.heap.size,17,none⟩ = some (.string ⟨sb.toArray⟩) ∧ W.cell? ⟨w.heap.size,18,none⟩ = some (.slice d.b bl.length d.nb) ∧ W.cell? ⟨w.heap.size,19,none⟩ = some (.slice d.l l.length d.nl)) ∧
  W.cell? ⟨w.heap.size,20,none⟩ = some (.slice AC nc cC)):=Lib.hid (fun W hs => by
  rw [hS] at hs
  have q:=kept_box hs hp1
  rw [hcs] at q
  rw [hnc,hAC,hcC]
  exact ⟨⟨cell_of_block q 6 rfl,cell_of_block q 7 rfl,cell_of_block q 8 rfl,cell_of_block q 9 rfl⟩,⟨cell_of_block q 10 rfl,cell_of_block q 11 rfl,cell_of_block q 12 rfl,cell_of_block q 13 rfl,cell_of_block q 14 rfl,cell_of_block q 15 rfl,cell_of_block q 16 rfl,cell_of_block q 17 rfl,cell_of_block q 18 rfl,cell_of_block q 19 rfl⟩,cell_of_block q 20 rfl⟩)
 have HLK : Hid (∀ W,Below W1.heap.size W1 W → W.cell? ⟨w.heap.size,0,none⟩ = some (.int .i64 k) ∧ W.cell? ⟨w.heap.size,3,none⟩ = some (.string ⟨nm.toArray⟩) ∧ W.cell? ⟨w.heap.size,5,none⟩ = some (.string ⟨fr.toArray⟩)):=Lib.hid (fun W hb => by
  have q:=kept_box hb hp1
  rw [hcs] at q
  exact ⟨cell_of_block q 0 rfl,cell_of_block q 3 rfl,cell_of_block q 5 rfl⟩)
 obtain ⟨Va,hVa⟩ : ∃ v,v = exVars (.mk ek en es el):=⟨_,rfl⟩
 obtain ⟨Vb,hVb⟩ : ∃ v,v = cnVars (.mk ck (.mk ak an sa al) (.mk bk bn sb bl) l):=⟨_,rfl⟩
 rw [← hVa] at HV hcnt ⊢
 rw [← hVb] at HC hcnt ⊢
 obtain ⟨dE,hdE⟩ : ∃ A,A = d.e:=⟨_,rfl⟩
 obtain ⟨dA,hdA⟩ : ∃ A,A = d.a:=⟨_,rfl⟩
 obtain ⟨dB,hdB⟩ : ∃ A,A = d.b:=⟨_,rfl⟩
 obtain ⟨dL,hdL⟩ : ∃ A,A = d.l:=⟨_,rfl⟩
 obtain ⟨jE,hjE⟩ : ∃ A,A = d.ne:=⟨_,rfl⟩
 obtain ⟨jA,hjA⟩ : ∃ A,A = d.na:=⟨_,rfl⟩
 obtain ⟨jB,hjB⟩ : ∃ A,A = d.nb:=⟨_,rfl⟩
 obtain ⟨jL,hjL⟩ : ∃ A,A = d.nl:=⟨_,rfl⟩
 rw [← hdE,← hjE] at HV HLD
 rw [← hdA,← hdB,← hdL,← hjA,← hjB,← hjL] at HC HLD
 rw [← hAC] at rc
 generalize el.length = n4 at *
 generalize al.length = n6 at *
 generalize bl.length = n8 at *
 generalize l.length = n9 at *
 have HH:=Lib.hid (And.intro rc (And.intro hcnt (And.intro hnc (And.intro hb1 (And.intro m0 m2)))))
 have HX0:=Lib.hid (Below.refl W1.heap.size W1).drew
 have g0:=HS2.out _ HX0.out
 rw [← hnc] at m10
 unfold maxLen at m10
 clear m0 m1 m2 m3 m4 m5 m6 m7 m8 m9 m11 m12 m13 re ra rb rl rc ri hcs hcnt hnc hb1 hp1 hS hVa hVb hN hzc hdE hdA hdB hdL hjE hjA hjB hjL hAC hcC
 go_enter Tryz.func50,Tryz.ntmps50
 simp only [e4]
 clear e4 hT
 go_wp2
 rw [← hW1]
 clear hW1
 refine wp_region_held (S:=S) hmx ?_
 change wpAnyH _ _ _ _ _ 8 #[false,false,false,false,false,false,false,false] _ W1.drew
 refine tk 0 8 (.pointer (some ⟨w.heap.size,6,none⟩)) g0 ?v ?_
 case v => intro Wx hSx;go_simp
 refine tk 1 9 (exprV ek en ⟨es.toArray⟩ (.slice dE n4 jE)) g0 ?v ?_
 case v => intro Wx hSx;obtain ⟨⟨z1,z2,z3,z4⟩,⟨z5,z6,z7,z8,z9,z10,z11,z12,z13,z14⟩,z15⟩:=HLD.out Wx hSx;go_simp
 refine tk 3 11 (.pointer (some ⟨w.heap.size,10,none⟩)) g0 ?v ?_
 case v => intro Wx hSx;go_simp
 refine tk 4 12 (condV2 ck ak an ⟨sa.toArray⟩ (.slice dA n6 jA) bk bn ⟨sb.toArray⟩ (.slice dB n8 jB) (.slice dL n9 jL)) g0 ?v ?_
 case v => intro Wx hSx;obtain ⟨⟨z1,z2,z3,z4⟩,⟨z5,z6,z7,z8,z9,z10,z11,z12,z13,z14⟩,z15⟩:=HLD.out Wx hSx;go_simp
 try simp only [Act.put,List.setIfInBounds_toArray,List.set_cons_zero,List.set_cons_succ]
 try simp only [Act.put,List.setIfInBounds_toArray,List.set_cons_zero,List.set_cons_succ]
 refine o1 2 (fun K hK => ?_)
 go_simp
 (with_reducible refine (HV.out _ HX0.out).mono ?_)
 rintro e w3 hp
 obtain ⟨A1,n1,c1,rfl,q1,hb3⟩:=hp.row
 have H3:=Lib.hid (HX0.out.chain hb3)
 have hs3:=HS2.out _ H3.out
 have HN1 : Hid (NmRow Va W1.heap.size w3 A1 n1 c1):=Lib.hid q1
 clear hb3 q1 hp
 refine hK _ _ hs3 ?_
 clear hK K
 try simp only [Act.put,List.setIfInBounds_toArray,List.set_cons_zero,List.set_cons_succ]
 refine o1 5 (fun K hK => ?_)
 go_simp
 (with_reducible refine (HC.out _ H3.out).mono ?_)
 rintro e w4 hp
 obtain ⟨A2,n2,c2,rfl,q2,hb4⟩:=hp.row
 have H4:=Lib.hid (H3.out.chain hb4)
 have hs4:=HS2.out _ H4.out
 have HN2:=Lib.hid (And.intro (HN1.out.on hb4) q2)
 clear hb4 q2 hp
 refine hK _ _ hs4 ?_
 clear hK K
 try simp only [Act.put,List.setIfInBounds_toArray,List.set_cons_zero,List.set_cons_succ]
 refine o1 6 (fun K hK => ?_)
 refine nm_append w4 _ _ rfl rfl rfl HN2.out.1 HN2.out.2 (by have := HH.out.2.1;omega) H4.out.size ?_
 intro A3 n3 c3 w5 q3 hb5
 have H5:=Lib.hid (H4.out.trans hb5)
 have hs5:=HS2.out _ H5.out
 have HN3:=Lib.hid q3
 clear hb5 q3
 refine hK _ _ hs5 ?_
 clear hK K
 try simp only [Act.put,List.setIfInBounds_toArray,List.set_cons_zero,List.set_cons_succ]
 refine tk 7 3 (.slice A3 n3 c3) hs5 ?v ?_
 case v => intro Wx hSx;go_simp
 try simp only [Act.put,List.setIfInBounds_toArray,List.set_cons_zero,List.set_cons_succ]
 refine wpAnyH_done (by kernel_rfl) ?_ _
 obtain ⟨_,_,z15⟩:=HLD.out w5 hs5
 go_wp2
 go_loopg [3,18] nc (fun mm v j wr => ∃ (i n c : Nat) (A : Option Addr),mm = nc - i ∧ i ≤ nc ∧ j = .int .i64 i ∧ v = .slice A n c ∧ Hid (NmRow (Va ++ Vb ++ callsN (cl.take i)) W1.heap.size wr A n c ∧ Below W1.heap.size W1 wr))
 case atStart => exact ⟨0,n3,c3,A3,rfl,Nat.zero_le _,rfl,rfl,Lib.hid ⟨by rw [List.take_zero,callsN,List.append_nil];exact HN3.out,H5.out⟩⟩
 case round =>
  obtain ⟨i,n,c,A,rfl,hi,rfl,rfl,HI⟩:=hrel
  have hi0 : (0 : Int) ≤ i:=by omega
  by_cases hlt : i < nc
  ·have hii : (i : Int) < nc:=by omega
   obtain ⟨⟨xr,xp,xl⟩,hx⟩ : ∃ y,cl[i]? = some y:=⟨cl[i]'(by rw [← HH.out.2.2.1];exact hlt),List.getElem?_eq_getElem _⟩
   obtain ⟨a3,ha3,hab3,Al,cal,g0',g1,g2,hxr,hxp,hll,rxl⟩:=HH.out.1.at_ hx
   simp only at g0' g1 g2 hxr hxp hll rxl
   subst ha3
   have hbr : Below w.heap.size w wr:=HH.out.2.2.2.1.chain HI.out.2
   have d0 : wr.cell? (a3.add (i * 3)) = some (.string ⟨xr.toArray⟩):=(hbr.cell (by rw [block_adds];exact hab3)).trans g0'
   have d1 : wr.cell? ⟨(a3.add (i * 3)).block,(a3.add (i * 3)).off + 1,none⟩ = some (.string ⟨xp.toArray⟩):=(hbr.cell (p:=(a3.add (i * 3)).add 1) (by rw [block_adds,block_adds];exact hab3)).trans g1
   have d2 : wr.cell? ⟨(a3.add (i * 3)).block,(a3.add (i * 3)).off + 2,none⟩ = some (.slice Al xl.length cal):=(hbr.cell (p:=(a3.add (i * 3)).add 2) (by rw [block_adds,block_adds];exact hab3)).trans g2
   have hle:=callsN_le cl i _ hx
   have htk:=callsN_take cl i _ hx
   simp only at hle htk
   obtain ⟨nx,hnx⟩ : ∃ n,n = xl.length:=⟨_,rfl⟩
   rw [← hnx] at d2 hll
   unfold maxLen at hll
   have HG:=Lib.hid (And.intro htk (And.intro hle (And.intro hlt (And.intro rxl hnx))))
   obtain ⟨W6,hW6⟩ : ∃ W6,W6 = wr.alloc (callC ⟨xr.toArray⟩ ⟨xp.toArray⟩ (.slice Al nx cal)):=⟨_,rfl⟩
   have hb6 : Below wr.heap.size wr W6:=by rw [hW6];exact below_alloc wr _
   have H6 : Hid (Below W1.heap.size W1 W6 ∧ NmRow (Va ++ Vb ++ callsN (cl.take i)) W1.heap.size W6 A n c):=Lib.hid ⟨HI.out.2.chain hb6,HI.out.1.on hb6⟩
   clear hx g0' g1 g2 hxr hxp rxl hbr hab3 hle htk hnx hb6
   go_wp2
   rw [← hW6]
   clear hW6 d0 d1 d2
   go_loopg [3,25] nx (fun mm v j wr2 => ∃ (q n c : Nat) (A : Option Addr),mm = nx - q ∧ q ≤ nx ∧ j = .int .i64 q ∧ v = .slice A n c ∧ Hid (NmRow (Va ++ Vb ++ callsN (cl.take i) ++ exsVars (xl.take q)) W1.heap.size wr2 A n c ∧ Below W1.heap.size W1 wr2))
   case atStart => exact ⟨0,n,c,A,rfl,Nat.zero_le _,rfl,rfl,Lib.hid ⟨by rw [List.take_zero,exsVars,List.append_nil];exact H6.out.2,H6.out.1⟩⟩
   case round =>
    obtain ⟨q,n7,c7,A7,rfl,hq,rfl,rfl,HJ⟩:=hrel
    have hq0 : (0 : Int) ≤ q:=by omega
    by_cases hqt : q < nx
    ·have hqi : (q : Int) < nx:=by omega
     obtain ⟨⟨k0,n0,s0,l0⟩,hy⟩ : ∃ y,xl[q]? = some y:=⟨xl[q]'(by rw [← HG.out.2.2.2.2];exact hqt),List.getElem?_eq_getElem _⟩
     have hbj : Below w.heap.size w wr:=HH.out.2.2.2.1.chain HJ.out.2
     obtain ⟨a,A',c',rfl,hab,y0,y1,y2,y3,hs0,hl0,hrow⟩:=(HG.out.2.2.2.1.on hbj).at_ hy
     have e0 : wr.cell? (a.add (q * 4)) = some (.int .i64 k0):=y0
     have e1 : wr.cell? ⟨(a.add (q * 4)).block,(a.add (q * 4)).off + 1,none⟩ = some (.int .i64 n0):=y1
     have e2 : wr.cell? ⟨(a.add (q * 4)).block,(a.add (q * 4)).off + 2,none⟩ = some (.string ⟨s0.toArray⟩):=y2
     have e3 : wr.cell? ⟨(a.add (q * 4)).block,(a.add (q * 4)).off + 3,none⟩ = some (.slice A' l0.length c'):=y3
     have hxe:=exsVars_le xl q _ hy
     have hxt:=exsVars_take xl q _ hy
     obtain ⟨Vx,hVx⟩ : ∃ v,v = exVars (.mk k0 n0 s0 l0):=⟨_,rfl⟩
     rw [← hVx] at hxe hxt
     obtain ⟨W8,hW8⟩ : ∃ W8,W8 = wr.alloc (exprC k0 n0 ⟨s0.toArray⟩ (.slice A' l0.length c')):=⟨_,rfl⟩
     have hb8 : Below wr.heap.size wr W8:=by rw [hW8];exact below_alloc wr _
     have HCx : Hid (Calls Tryz.prog 76 #[exprV k0 n0 ⟨s0.toArray⟩ (.slice A' l0.length c')] W8 (NmPost Vx W8)):=Lib.hid (by
      rw [hVx]
      refine vars_allF k0 n0 s0 l0 A' c' W8 (hrow.on hb8) hs0 hl0 ?_
      have := HH.out.2.1
      have := HG.out.2.1
      rw [← hVx]
      omega)
     have H8 : Hid (Below W1.heap.size W1 W8 ∧ NmRow (Va ++ Vb ++ callsN (cl.take i) ++ exsVars (xl.take q)) W1.heap.size W8 A7 n7 c7):=Lib.hid ⟨HJ.out.2.chain hb8,HJ.out.1.on hb8⟩
     rw [hW8] at HCx H8
     have HQ:=Lib.hid (And.intro hxt (And.intro hxe hqt))
     clear hy hbj hab y0 y1 y2 y3 hs0 hl0 hrow hxe hxt hVx hb8 hW8
     generalize l0.length = nl0 at *
     go_wp2_with (first
      | (go_at_call 76;(with_reducible refine HCx.out.mono ?_);rintro e w9 hp;obtain ⟨A9,n9,c9,rfl,q9,hb9⟩:=hp.row;have H9:=Lib.hid (And.intro (H8.out.1.chain hb9) (And.intro (H8.out.2.on hb9) q9));clear hb9 q9 hp)
      | (at_builtin;refine nmL_append (o:=⟨some 32,_,_,_,_,_⟩) _ rfl _ _ rfl rfl rfl H9.out.2.1 H9.out.2.2 (by have h1:=HH.out.2.1;have h2:=HG.out.2.1;have h3:=HQ.out.2.1;simp only [List.length_append];omega) H9.out.1.size ?_;intro A10 n10 c10 w10 q10 hb10;have H10:=Lib.hid (And.intro (H9.out.1.trans hb10) q10);clear q10 hb10))
     go_roundg (nx - (q + 1))
     case measure => have := HQ.out.2.2;omega
     case rel => exact ⟨q + 1,n10,c10,A10,rfl,(by have := HQ.out.2.2;omega),by go_num,rfl,Lib.hid ⟨by rw [HQ.out.1,← List.append_assoc];exact H10.out.2,H10.out.1⟩⟩
    ·obtain rfl : q = nx:=by omega
     have h1:=HJ.out.1
     rw [show xl.take q = xl from List.take_of_length_le (by rw [← HG.out.2.2.2.2];exact Nat.le_refl _)] at h1
     have HJ1:=Lib.hid h1
     clear h1
     go_wp2
     go_roundg (nc - (i + 1))
     case measure => have := HG.out.2.2.1;omega
     case rel => exact ⟨i + 1,n7,c7,A7,rfl,(by have := HG.out.2.2.1;omega),by go_num,rfl,Lib.hid ⟨by rw [HG.out.1,← List.append_assoc];exact HJ1.out,HJ.out.2⟩⟩
  ·obtain rfl : i = nc:=by omega
   have h1:=HI.out.1
   rw [List.take_of_length_le (by rw [← HH.out.2.2.1];exact Nat.le_refl _)] at h1
   obtain ⟨y0,y3,y5⟩:=HLK.out wr HI.out.2
   have HN4:=Lib.hid h1
   clear h1 z15
   have hk4 : (k = 2 ∨ k = 3 ∨ k = 5) ∨ (k ≠ 2 ∧ k ≠ 3 ∧ k ≠ 5):=by omega
   rcases hk4 with hk4 | ⟨h2,h3,h5⟩
   ·obtain ⟨s,hs,hsl⟩ : ∃ s,rdK k nm fr = [s] ∧ s.length ≤ maxLen:=by
     rcases hk4 with rfl | rfl | rfl
     ·exact ⟨fr,rfl,HH.out.2.2.2.2.2⟩
     ·exact ⟨nm,rfl,HH.out.2.2.2.2.1⟩
     ·exact ⟨nm,rfl,HH.out.2.2.2.2.1⟩
    have hcn:=HH.out.2.1
    rw [hs,List.length_singleton] at hcn
    have HR8:=Lib.hid (And.intro (one_rowC W1.heap.size wr s hsl HI.out.2.size) (And.intro (HN4.out.on (below_alloc wr (.cells #[.string ⟨s.toArray⟩] 9))) (HI.out.2.chain (below_alloc wr (.cells #[.string ⟨s.toArray⟩] 9)))))
    have HCN:=Lib.hid hcn
    rcases hk4 with rfl | rfl | rfl
    ·obtain rfl : fr = s:=by simpa [rdK] using hs
     clear hs hcn
     go_wp2_with (at_builtin;refine nmL_append (o:=⟨some 43,_,_,_,_,_⟩) _ rfl _ _ rfl rfl rfl HR8.out.2.1 HR8.out.1 (by have h2:=HCN.out;simp only [List.length_append,List.length_singleton];omega) HR8.out.2.2.size ?_;intro A10 n10 c10 w10 q10 hb10;have H10:=Lib.hid (And.intro (HR8.out.2.2.trans hb10) q10);clear q10 hb10)
     go_ret
     exact (H10.out.2.mono HH.out.2.2.2.1.size).post (HH.out.2.2.2.1.chain H10.out.1)
    ·obtain rfl : nm = s:=by simpa [rdK] using hs
     clear hs hcn
     go_wp2_with (at_builtin;refine nmL_append (o:=⟨some 51,_,_,_,_,_⟩) _ rfl _ _ rfl rfl rfl HR8.out.2.1 HR8.out.1 (by have h2:=HCN.out;simp only [List.length_append,List.length_singleton];omega) HR8.out.2.2.size ?_;intro A10 n10 c10 w10 q10 hb10;have H10:=Lib.hid (And.intro (HR8.out.2.2.trans hb10) q10);clear q10 hb10)
     go_ret
     exact (H10.out.2.mono HH.out.2.2.2.1.size).post (HH.out.2.2.2.1.chain H10.out.1)
    ·obtain rfl : nm = s:=by simpa [rdK] using hs
     clear hs hcn
     go_wp2_with (at_builtin;refine nmL_append (o:=⟨some 51,_,_,_,_,_⟩) _ rfl _ _ rfl rfl rfl HR8.out.2.1 HR8.out.1 (by have h2:=HCN.out;simp only [List.length_append,List.length_singleton];omega) HR8.out.2.2.size ?_;intro A10 n10 c10 w10 q10 hb10;have H10:=Lib.hid (And.intro (HR8.out.2.2.trans hb10) q10);clear q10 hb10)
     go_ret
     exact (H10.out.2.mono HH.out.2.2.2.1.size).post (HH.out.2.2.2.1.chain H10.out.1)
   ·have b2 : (k == 2) = false:=by simpa using h2
    have b3 : (k == 3) = false:=by simpa using h3
    have b5 : (k == 5) = false:=by simpa using h5
    have HK:=Lib.hid (rdK_no nm fr h2 h3 h5)
    go_wp2
    go_ret
    rw [HK.out,List.append_nil]
    exact (HN4.out.mono HH.out.2.2.2.1.size).post (HH.out.2.2.2.1.chain HI.out.2)
end Go.Proofs.YtbalioicgpgehaaGreatDoor
namespace Go.Proofs.YtbalioicgpgehaaGreatDoor
set_option maxRecDepth 100000
set_option maxHeartbeats 4000000
open Go.RowKit Go.Lib
theorem asgN_len {x : St} (h : (clOf x).length ≤ 1000) : (asgN x).length ≤ 1000:=by
 unfold asgN
 split
 ·show 1 ≤ 1000
  omega
 ·exact Nat.le_trans (resN_len _) h
theorem Modified_any {l f : List St} (hw : WS l) (hf : FlL l f) (hfl : f.length ≤ 100) (hcl : ∀ x ∈ f,(clOf x).length ≤ 1000) (A : Option Addr) (c : Nat) (w : World) (hP : PartsAt w) (hr : StRow w w.heap.size l A) (hl : l.length ≤ maxLen) (hv : vSs varB 1125899906842624 100 30 l = true) :
 Calls Tryz.prog 23 #[.slice A l.length c] w (NmsPost (f.flatMap asgN) w):=by
 have H:=Lib.hid (namesF_any asgN 45 (enters_of Tryz.func45 (by kernel_rfl) rfl) hw hf hfl 1000 (by omega) (fun x hx => asgN_len (hcl x hx)) (fun x hx => assigned_any x (hcl x hx)) A c w hP hr hl hv)
 generalize f.flatMap asgN = ns at *
 generalize l.length = n at *
 clear hw hf hfl hcl hP hr hl hv
 go_enter Tryz.func23,Tryz.ntmps23
 go_wp2_with (go_at_call 44;(with_reducible refine H.out.mono ?_);rintro e w2 ⟨A2,c2,m,rfl,q⟩;have HQ:=Lib.hid q;clear q)
 go_ret
 exact ⟨A2,c2,m,rfl,HQ.out⟩
theorem Used_any {l f : List St} (hw : WS l) (hf : FlL l f) (hfl : f.length ≤ 100) (hrd : ∀ x ∈ f,(readN x).length ≤ 80000000000) (A : Option Addr) (c : Nat) (w : World) (hP : PartsAt w) (hr : StRow w w.heap.size l A) (hl : l.length ≤ maxLen) (hv : vSs varB 1125899906842624 100 30 l = true) :
 Calls Tryz.prog 27 #[.slice A l.length c] w (NmsPost (f.flatMap readN) w):=by
 have H:=Lib.hid (namesF_any readN 50 (enters_of Tryz.func50 (by kernel_rfl) rfl) hw hf hfl 80000000000 (Nat.le_refl _) hrd (fun x hx => read_any x (Nat.le_trans (hrd x hx) (by omega))) A c w hP hr hl hv)
 generalize f.flatMap readN = ns at *
 generalize l.length = n at *
 clear hw hf hfl hrd hP hr hl hv
 go_enter Tryz.func27,Tryz.ntmps27
 go_wp2_with (go_at_call 44;(with_reducible refine H.out.mono ?_);rintro e w2 ⟨A2,c2,m,rfl,q⟩;have HQ:=Lib.hid q;clear q)
 go_ret
 exact ⟨A2,c2,m,rfl,HQ.out⟩
theorem Locks_any {l f : List St} (hw : WS l) (hf : FlL l f) (hfl : f.length ≤ 100) (A : Option Addr) (c : Nat) (w : World) (hP : PartsAt w) (hr : StRow w w.heap.size l A) (hl : l.length ≤ maxLen) (hv : vSs varB 1125899906842624 100 30 l = true) :
 Calls Tryz.prog 28 #[.slice A l.length c] w (NmsPost (f.flatMap lckN) w):=by
 have H:=Lib.hid (namesF_any lckN 51 (enters_of Tryz.func51 (by kernel_rfl) rfl) hw hf hfl 1 (by omega) (fun x _ => by unfold lckN;split <;> simp) (fun x _ => locked_any x) A c w hP hr hl hv)
 generalize f.flatMap lckN = ns at *
 generalize l.length = n at *
 clear hw hf hfl hP hr hl hv
 go_enter Tryz.func28,Tryz.ntmps28
 go_wp2_with (go_at_call 44;(with_reducible refine H.out.mono ?_);rintro e w2 ⟨A2,c2,m,rfl,q⟩;have HQ:=Lib.hid q;clear q)
 go_ret
 exact ⟨A2,c2,m,rfl,HQ.out⟩
end Go.Proofs.YtbalioicgpgehaaGreatDoor
