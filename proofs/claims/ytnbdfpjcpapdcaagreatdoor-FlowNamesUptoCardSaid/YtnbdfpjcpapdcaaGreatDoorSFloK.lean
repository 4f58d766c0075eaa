import Derived.Test.YtnbdfpjcpapdcaaGreatDoorSFloI
import Derived.Test.YtnbdfpjcpapdcaaGreatDoorSFloA
import Derived.Test.YtnbdfpjcpapdcaaGreatDoorSFloL
import Derived.Test.YtnbdfpjcpapdcaaGreatDoorSTreeMg
set_option linter.unusedVariables false
set_option linter.unusedSimpArgs false
namespace Go.Proofs.YtnbdfpjcpapdcaaGreatDoor
set_option maxRecDepth 100000
set_option maxHeartbeats 8000000
open Go.RowKit Go.Lib
theorem flat_rowF {B : Nat} {w w' : World} {f : List St} {A : Option Addr} {c : Nat} (h : Flatted B w f (.slice A f.length c) w') : StRow w' w'.heap.size f A:=by
 obtain ⟨D,xs,h1,h2,h3,h4⟩:=h
 obtain ⟨A',c',e,hin⟩:=own_stIn (S':=fun _ => True) h1 rfl h2 (fun _ _ => trivial) (fun _ _ => trivial) h3
 injection e with e1 _ _
 rw [e1]
 exact hin.row
theorem flatMap_take {α β : Type} (G : α → List β) {f : List α} {i : Nat} {x : α} (h : f[i]? = some x) : (f.take (i + 1)).flatMap G = (f.take i).flatMap G ++ G x:=by
 rw [List.take_add_one,h,List.flatMap_append]
 show _ ++ [x].flatMap G = _
 rw [List.flatMap_singleton]
theorem flatMap_le {α β : Type} (G : α → List β) {f : List α} {i : Nat} {x : α} (h : f[i]? = some x) : ((f.take i).flatMap G).length + (G x).length ≤ (f.flatMap G).length:=by
 have e : f = f.take (i + 1) ++ f.drop (i + 1):=(List.take_append_drop ..).symm
 have h2 : (f.flatMap G).length = ((f.take (i + 1)).flatMap G).length + ((f.drop (i + 1)).flatMap G).length:=by
  conv => lhs;rw [e,List.flatMap_append,List.length_append]
 rw [h2,flatMap_take G h,List.length_append]
 omega
theorem resN_len_take (l : List Cal) (q : Nat) : (resN (l.take q)).length ≤ (resN l).length:=by
 have e : l = l.take q ++ l.drop q:=(List.take_append_drop ..).symm
 have h2 : resN l = resN (l.take q) ++ resN (l.drop q):=by
  conv => lhs;rw [e]
  unfold resN
  rw [List.filter_append,List.map_append]
 rw [h2,List.length_append]
 omega
theorem rLoops_any {l f : List St} (hf : FlL l f) (hfl : f.length ≤ 200000) (A0 : Option Addr) (c0 : Nat) (w : World) (hr : StRow w w.heap.size l A0) (hl : l.length ≤ maxLen) :
 Calls Tryz.prog 21 #[.slice A0 l.length c0] w fun e w' => e = .returned (.int .i64 (lpsN f)) ∧ Below w.heap.size w w':=by
 obtain ⟨n,hn⟩ : ∃ n,n = l.length:=⟨_,rfl⟩
 obtain ⟨z,hz⟩ : ∃ z,z = f.length:=⟨_,rfl⟩
 have HF : Hid (Calls Tryz.prog 30 #[.slice A0 n c0] w fun e w' => ∃ (A : Option Addr) (c : Nat),e = .returned (.slice A z c) ∧ StRow w' w'.heap.size f A ∧ Below w.heap.size w w'):=Lib.hid (by
  rw [hn,hz]
  refine (flat_any _ l (Nat.lt_succ_self _) A0 c0 w.heap.size f w hr (Nat.le_refl _) hl hf hfl).mono ?_
  rintro e w' ⟨A,c,he,hq⟩
  refine ⟨A,c,he,flat_rowF hq,?_⟩
  obtain ⟨_,_,_,_,_,hb⟩:=hq
  exact hb)
 have hzm : z ≤ 200000:=by rw [hz];exact hfl
 have HP:=Lib.hid (And.intro hz trivial)
 rw [← hn]
 clear hf hr hn hl hfl hz
 go_enter Tryz.func21,Tryz.ntmps21
 go_wp2_with (go_at_call 30;(with_reducible refine HF.out.mono ?_);rintro e w5 ⟨AF,cF,rfl,hf5,hb5⟩;have HS5:=Lib.hid (And.intro hf5 hb5);clear hf5 hb5)
 go_loopg [3,5] z (fun mm v j wr => ∃ (i q : Nat),mm = z - i ∧ i ≤ z ∧ j = .int .i64 i ∧ v = .int .i64 q ∧ q ≤ i ∧ Hid (q = lpsN (f.take i) ∧ Below w5.heap.size w5 wr))
 case atStart => exact ⟨0,0,rfl,Nat.zero_le _,rfl,rfl,Nat.le_refl _,Lib.hid ⟨rfl,Below.refl _ _⟩⟩
 case round =>
  obtain ⟨i,q,rfl,hi,rfl,rfl,hq,HI⟩:=hrel
  have hi0 : (0 : Int) ≤ i:=by omega
  by_cases hlt : i < z
  ·have hii : (i : Int) < z:=by omega
   obtain ⟨s,hg⟩ : ∃ x,f[i]? = some x:=⟨f[i]'(by rw [← HP.out.1];exact hlt),List.getElem?_eq_getElem _⟩
   have hbw : Below w5.heap.size w5 wr:=HI.out.2
   obtain ⟨a,d,rfl,hab,hc,hown,hb1,hb2⟩:=(HS5.out.1.on hbw).at_ hg
   have d0 : wr.cell? (a.add (i * 24)) = some (.int .i64 (kOf s)):=by
    have h:=hc 0 _ (stCs_0F d s)
    rwa [add_add_plain,Nat.add_zero] at h
   have d3 : wr.cell? ⟨(a.add (i * 24)).block,(a.add (i * 24)).off + 3,none⟩ = some (.string ⟨(nmOf s).toArray⟩):=hc 3 _ (stCs_3F d s)
   have htk:=lpsN_take hg
   obtain ⟨k0,hk0⟩ : ∃ k,k = kOf s:=⟨_,rfl⟩
   rw [← hk0] at d0 htk
   have HG:=Lib.hid (And.intro htk hlt)
   clear hg hbw hab hc hown hb1 hb2 htk hk0 d3
   by_cases h9 : k0 = 9
   ·subst h9
    go_wp2
    go_roundg (z - (i + 1))
    case measure => have := HG.out.2;omega
    case rel => exact ⟨i + 1,q + 1,rfl,(by have := HG.out.2;omega),by go_num,by go_num,by omega,Lib.hid ⟨by have h1:=HG.out.1;have h2:=HI.out.1;simp at h1;omega,HI.out.2⟩⟩
   ·have b9 : (k0 == 9) = false:=by simpa using h9
    have HK9:=Lib.hid h9
    clear h9
    go_wp2
    go_roundg (z - (i + 1))
    case measure => have := HG.out.2;omega
    case rel => exact ⟨i + 1,q,rfl,(by have := HG.out.2;omega),by go_num,rfl,by omega,Lib.hid ⟨by have h1:=HG.out.1;rw [if_neg HK9.out] at h1;have h2:=HI.out.1;omega,HI.out.2⟩⟩
  ·obtain rfl : i = z:=by omega
   go_wp2
   go_ret
   refine ⟨?_,HS5.out.2.chain HI.out.2⟩
   rw [HI.out.1,show f.take i = f from List.take_of_length_le (by rw [← HP.out.1];exact Nat.le_refl _)]
   rfl
theorem rLocks_any {l f : List St} (hf : FlL l f) (hfl : f.length ≤ 200000) (hcnt : (f.flatMap lckN).length ≤ 6000000000000) (A0 : Option Addr) (c0 : Nat) (w : World) (hr : StRow w w.heap.size l A0) (hl : l.length ≤ maxLen) :
 Calls Tryz.prog 20 #[.slice A0 l.length c0] w (SetPost (f.flatMap lckN) w):=by
 obtain ⟨n,hn⟩ : ∃ n,n = l.length:=⟨_,rfl⟩
 obtain ⟨z,hz⟩ : ∃ z,z = f.length:=⟨_,rfl⟩
 have HF : Hid (Calls Tryz.prog 30 #[.slice A0 n c0] w fun e w' => ∃ (A : Option Addr) (c : Nat),e = .returned (.slice A z c) ∧ StRow w' w'.heap.size f A ∧ Below w.heap.size w w'):=Lib.hid (by
  rw [hn,hz]
  refine (flat_any _ l (Nat.lt_succ_self _) A0 c0 w.heap.size f w hr (Nat.le_refl _) hl hf hfl).mono ?_
  rintro e w' ⟨A,c,he,hq⟩
  refine ⟨A,c,he,flat_rowF hq,?_⟩
  obtain ⟨_,_,_,_,_,hb⟩:=hq
  exact hb)
 have hzm : z ≤ 200000:=by rw [hz];exact hfl
 have HP:=Lib.hid (And.intro hz hcnt)
 rw [← hn]
 clear hcnt hf hr hn hl hfl hz
 go_enter Tryz.func20,Tryz.ntmps20
 go_wp2_with (go_at_call 30;(with_reducible refine HF.out.mono ?_);rintro e w5 ⟨AF,cF,rfl,hf5,hb5⟩;have HS5:=Lib.hid (And.intro hf5 hb5);clear hf5 hb5)
 go_loopg [3,5] z (fun mm v j wr => ∃ (i n c : Nat) (A : Option Addr),mm = z - i ∧ i ≤ z ∧ j = .int .i64 i ∧ v = .slice A n c ∧ Hid (SetRow ((f.take i).flatMap lckN) wr A n c ∧ Below w5.heap.size w5 wr))
 case atStart => exact ⟨0,0,0,none,rfl,Nat.zero_le _,rfl,rfl,Lib.hid ⟨by rw [List.take_zero];exact SetRow.none_ _ _,Below.refl _ _⟩⟩
 case round =>
  obtain ⟨i,n,c,A,rfl,hi,rfl,rfl,HI⟩:=hrel
  have hi0 : (0 : Int) ≤ i:=by omega
  by_cases hlt : i < z
  ·have hii : (i : Int) < z:=by omega
   obtain ⟨s,hg⟩ : ∃ x,f[i]? = some x:=⟨f[i]'(by rw [← HP.out.1];exact hlt),List.getElem?_eq_getElem _⟩
   have hbw : Below w5.heap.size w5 wr:=HI.out.2
   obtain ⟨a,d,rfl,hab,hc,hown,hb1,hb2⟩:=(HS5.out.1.on hbw).at_ hg
   have d0 : wr.cell? (a.add (i * 24)) = some (.int .i64 (kOf s)):=by
    have h:=hc 0 _ (stCs_0F d s)
    rwa [add_add_plain,Nat.add_zero] at h
   have d3 : wr.cell? ⟨(a.add (i * 24)).block,(a.add (i * 24)).off + 3,none⟩ = some (.string ⟨(nmOf s).toArray⟩):=hc 3 _ (stCs_3F d s)
   have htk:=flatMap_take lckN hg
   have hle:=flatMap_le lckN hg
   have hcnt:=HP.out.2
   obtain ⟨Bs,hBs⟩ : ∃ Bs : List (List UInt8),Bs = (f.take i).flatMap lckN:=⟨_,rfl⟩
   have hSB : SetRow Bs wr A n c:=by rw [hBs];exact HI.out.1
   rw [← hBs] at htk hle
   have hL : lckN s = if kOf s = 11 then [nmOf s] else []:=rfl
   have hnm:=(stOwn_nmF hown).1
   obtain ⟨k0,hk0⟩ : ∃ k,k = kOf s:=⟨_,rfl⟩
   obtain ⟨nm,hnm0⟩ : ∃ k,k = nmOf s:=⟨_,rfl⟩
   rw [← hk0] at d0 hL
   rw [← hnm0] at d3 hL hnm
   have HI6:=Lib.hid (insert_any Bs nm hnm A n c wr hSB (by omega))
   have HG:=Lib.hid (And.intro htk (And.intro hlt (And.intro hL hSB)))
   clear hg hbw hab hc hown hb1 hb2 htk hk0 hnm0 hL hnm hle hcnt hBs hSB
   by_cases h9 : k0 = 11
   ·subst h9
    go_wp2_with (go_at_call 43;(with_reducible refine HI6.out.mono ?_);rintro e w7 ⟨A7,n7,c7,rfl,h7,hb7⟩;have H7:=Lib.hid (And.intro h7 hb7);clear h7 hb7)
    go_roundg (z - (i + 1))
    case measure => have := HG.out.2.1;omega
    case rel =>
     refine ⟨i + 1,n7,c7,A7,rfl,(by have := HG.out.2.1;omega),by go_num,rfl,Lib.hid ⟨?_,HI.out.2.chain H7.out.2⟩⟩
     rw [HG.out.1]
     have hL2 : lckN s = [nm]:=by have := HG.out.2.2.1;simpa using this
     rw [hL2]
     exact H7.out.1.same (fun y => by rw [List.mem_cons,List.mem_append,List.mem_singleton];exact Or.comm) (by simp)
   ·have b9 : (k0 == 11) = false:=by simpa using h9
    have HK9:=Lib.hid h9
    clear h9
    go_wp2
    go_roundg (z - (i + 1))
    case measure => have := HG.out.2.1;omega
    case rel =>
     refine ⟨i + 1,n,c,A,rfl,(by have := HG.out.2.1;omega),by go_num,rfl,Lib.hid ⟨?_,HI.out.2⟩⟩
     have hL2:=HG.out.2.2.1
     rw [if_neg HK9.out] at hL2
     rw [HG.out.1,hL2,List.append_nil]
     exact HG.out.2.2.2
  ·obtain rfl : i = z:=by omega
   go_wp2
   go_ret
   have h1:=HI.out.1
   rw [show f.take i = f from List.take_of_length_le (by rw [← HP.out.1];exact Nat.le_refl _)] at h1
   exact ⟨A,n,c,rfl,h1,HS5.out.2.chain HI.out.2⟩
theorem rModified_any {l f : List St} (hf : FlL l f) (hfl : f.length ≤ 200000) (hkc : ∀ x ∈ f,(kOf x = 1 ∨ kOf x = 2 ∨ kOf x = 4 ∨ kOf x = 6) → clOf x = []) (hcnt : (f.flatMap asgN).length ≤ 6000000000000) (A0 : Option Addr) (c0 : Nat) (w : World) (hr : StRow w w.heap.size l A0) (hl : l.length ≤ maxLen) :
 Calls Tryz.prog 18 #[.slice A0 l.length c0] w (SetPost (f.flatMap asgN) w):=by
 obtain ⟨T,N,zc,hT,hN,hzc,hag,hsz,hzv⟩:=stmt_hidden2
 have e1 : ∀ y : Operand,Op.load 42 y = Op.load T y:=fun y => by rw [hT]
 have e2 : ∀ y z : Operand,Op.store 42 y z = Op.store T y z:=fun y z => by rw [hT]
 have e3 : Op.alloc 42 = Op.alloc T:=by rw [hT]
 have hmx : Tryz.prog.follows .mixedOrders = true:=by kernel_rfl
 obtain ⟨n,hn⟩ : ∃ n,n = l.length:=⟨_,rfl⟩
 obtain ⟨z,hz⟩ : ∃ z,z = f.length:=⟨_,rfl⟩
 have HF : Hid (Calls Tryz.prog 30 #[.slice A0 n c0] w fun e w' => ∃ (A : Option Addr) (c : Nat),e = .returned (.slice A z c) ∧ StRow w' w'.heap.size f A ∧ Below w.heap.size w w'):=Lib.hid (by
  rw [hn,hz]
  refine (flat_any _ l (Nat.lt_succ_self _) A0 c0 w.heap.size f w hr (Nat.le_refl _) hl hf hfl).mono ?_
  rintro e w' ⟨A,c,he,hq⟩
  refine ⟨A,c,he,flat_rowF hq,?_⟩
  obtain ⟨_,_,_,_,_,hb⟩:=hq
  exact hb)
 have hzm : z ≤ 200000:=by rw [hz];exact hfl
 have HN:=Lib.hid (And.intro hN hzc)
 have HP:=Lib.hid (And.intro hz (And.intro hcnt hkc))
 rw [← hn]
 clear hcnt hkc hf hr hn hl hfl hN hzc hz
 go_enter Tryz.func18,Tryz.ntmps18
 simp only [e1,e2,e3]
 clear e1 e2 e3 hT
 go_wp2_with (go_at_call 30;(with_reducible refine HF.out.mono ?_);rintro e w5 ⟨AF,cF,rfl,hf5,hb5⟩;have HS5:=Lib.hid (And.intro hf5 hb5);clear hf5 hb5)
 go_loopg [3,5] z (fun mm v j wr => ∃ (i n c : Nat) (A : Option Addr),mm = z - i ∧ i ≤ z ∧ j = .int .i64 i ∧ v = .slice A n c ∧ Hid (SetRow ((f.take i).flatMap asgN) wr A n c ∧ Below w5.heap.size w5 wr))
 case atStart => exact ⟨0,0,0,none,rfl,Nat.zero_le _,rfl,rfl,Lib.hid ⟨by rw [List.take_zero];exact SetRow.none_ _ _,Below.refl _ _⟩⟩
 case round =>
  obtain ⟨i,n,c,A,rfl,hi,rfl,rfl,HI⟩:=hrel
  have hi0 : (0 : Int) ≤ i:=by omega
  by_cases hlt : i < z
  ·have hii : (i : Int) < z:=by omega
   obtain ⟨s,hg⟩ : ∃ x,f[i]? = some x:=⟨f[i]'(by rw [← HP.out.1];exact hlt),List.getElem?_eq_getElem _⟩
   have hxm:=List.mem_of_getElem? hg
   have hbw : Below w5.heap.size w5 wr:=HI.out.2
   obtain ⟨a,d,rfl,hab,hc,hown,hb1,hb2⟩:=(HS5.out.1.on hbw).at_ hg
   have hcz : (stCs d s).size = 24:=stCs_size d s
   have hone : (stCs d s).all (·.oneCell') = true:=stCs_one d s
   obtain ⟨cs,hcs⟩ : ∃ cs,cs = stCs d s:=⟨_,rfl⟩
   rw [← hcs] at hc hcz hone
   have hszc : cs.size = N:=hcz.trans HN.out.1.symm
   have hl1 : (loadCellsFrom (a.add (i * 24)) 0 N #[]).run Tryz.prog wr = .ok cs wr:=load_list (fun j v hv => hc j v hv) hszc
   have hst:=store_fresh (w:=wr) (t:=T) (zc:=zc) (cs:=cs) (HN.out.2.trans hszc.symm) hone
   obtain ⟨W6,hW6⟩ : ∃ W6,W6 = wr.alloc (.cells cs T):=⟨_,rfl⟩
   have hb6 : Below wr.heap.size wr W6:=by rw [hW6];exact below_alloc wr _
   have hp6 : W6.heap[wr.heap.size]? = some (.cells cs T (0,0)):=by rw [hW6];exact heap_of_alloc wr _
   have H6:=Lib.hid (And.intro hb6 (And.intro hp6 (hbw.chain hb6)))
   have htk:=flatMap_take asgN hg
   have hle:=flatMap_le asgN hg
   have hcnt:=HP.out.2.1
   obtain ⟨Bs,hBs⟩ : ∃ Bs : List (List UInt8),Bs = (f.take i).flatMap asgN:=⟨_,rfl⟩
   have hSB : SetRow Bs W6 A n c:=by rw [hBs];exact HI.out.1.on hb6
   rw [← hBs] at htk hle
   have hkc:=HP.out.2.2 s hxm
   have hkc2 : (clOf s).length ≤ maxLen ∧ CalRow wr wr.heap.size (clOf s) d.c:=(stOwn_nmF hown).2
   have hnm:=(stOwn_nmF hown).1
   have hA : asgN s = if kOf s = 1 ∨ kOf s = 2 ∨ kOf s = 4 ∨ kOf s = 6 then [nmOf s] else resN (clOf s):=rfl
   have hc0 : cs[0]? = some (.int .i64 (kOf s)):=by rw [hcs];exact stCs_0F d s
   have hc3 : cs[3]? = some (.string ⟨(nmOf s).toArray⟩):=by rw [hcs];exact stCs_3F d s
   have hc20 : cs[20]? = some (.slice d.c (clOf s).length d.nc):=by rw [hcs];exact stCs_20F d s
   obtain ⟨k0,hk0⟩ : ∃ k,k = kOf s:=⟨_,rfl⟩
   obtain ⟨nm,hnm0⟩ : ∃ k,k = nmOf s:=⟨_,rfl⟩
   obtain ⟨cl,hcl0⟩ : ∃ k,k = clOf s:=⟨_,rfl⟩
   obtain ⟨nc,hnc⟩ : ∃ n,n = cl.length:=⟨_,rfl⟩
   obtain ⟨AC,hAC⟩ : ∃ A,A = d.c:=⟨_,rfl⟩
   rw [← hk0] at hc0 hA hkc
   rw [← hnm0] at hc3 hA hnm
   rw [← hcl0] at hc20 hA hkc hkc2
   rw [← hnc,← hAC] at hc20
   rw [← hnc] at hkc2
   rw [← hAC] at hkc2
   obtain ⟨hncm,hrc⟩:=hkc2
   unfold maxLen at hncm
   have HLK : Hid (∀ W,Below W6.heap.size W6 W → W.cell? ⟨wr.heap.size,20,none⟩ = some (.slice AC nc d.nc)):=Lib.hid (fun W hb => cell_of_block (kept_box hb hp6) 20 hc20)
   have hk:=cell_of_block hp6 0 hc0
   have hk3:=cell_of_block hp6 3 hc3
   obtain ⟨P0,hP0⟩ : ∃ P0 : List (List UInt8),P0 = Bs ++ (if k0 = 1 ∨ k0 = 2 ∨ k0 = 4 ∨ k0 = 6 then [nm] else []):=⟨_,rfl⟩
   have hPA : Bs ++ asgN s = P0 ++ resN cl:=by
    rw [hA,hP0]
    by_cases h : k0 = 1 ∨ k0 = 2 ∨ k0 = 4 ∨ k0 = 6
    ·rw [if_pos h,if_pos h,hkc h];simp [resN]
    ·rw [if_neg h,if_neg h];simp
   rw [hPA] at htk
   have hlP : (P0 ++ resN cl).length ≤ 6000000000000:=by rw [← hPA,List.length_append];omega
   have HG:=Lib.hid (And.intro htk hlt)
   have HR:=Lib.hid (And.intro hnc (And.intro (hrc.on cal_keeps hb6) hlP))
   have HIn : Hid (Calls Tryz.prog 43 #[.slice A n c,.string ⟨nm.toArray⟩] W6 (SetPost (nm :: Bs) W6)):=Lib.hid (insert_any Bs nm hnm A n c W6 hSB (by omega))
   have H6:=Lib.hid (hbw.chain hb6)
   have HSB:=Lib.hid hSB
   have HP0:=Lib.hid hP0
   clear hg hxm hbw hab hc hown hb1 hb2 hcs hcz hone hb6 hp6 htk hk0 hnm0 hcl0 hnm hle hcnt hBs hSB hA hkc hc0 hc3 hc20 hPA hlP hnc hrc hAC hP0
   have hk4 : (k0 = 1 ∨ k0 = 2 ∨ k0 = 4 ∨ k0 = 6) ∨ (k0 ≠ 1 ∧ k0 ≠ 2 ∧ k0 ≠ 4 ∧ k0 ≠ 6):=by omega
   rw [hW6] at hk hk3
   rcases hk4 with h1246 | ⟨h1,h2,h4,h6⟩
   ·have HQ : Hid (P0 = Bs ++ [nm]):=Lib.hid (by rw [HP0.out,if_pos h1246])
    rw [hW6] at HIn
    rcases h1246 with rfl | rfl | rfl | rfl
    all_goals
     go_wp2_with (go_at_call 43;(with_reducible refine HIn.out.mono ?_);rintro e w7 ⟨A7,n7,c7,rfl,h7,hb7⟩;rw [← hW6] at hb7;have HS7 : Hid (SetRow P0 w7 A7 n7 c7 ∧ Below W6.heap.size W6 w7):=Lib.hid ⟨by rw [HQ.out];exact h7.same (fun y => by rw [List.mem_cons,List.mem_append,List.mem_singleton];exact Or.comm) (by simp),hb7⟩;have x20:=HLK.out w7 hb7;clear h7 hb7)
     go_loopg [3,7] nc (fun mm v j wr2 => ∃ (q n c : Nat) (A : Option Addr),mm = nc - q ∧ q ≤ nc ∧ j = .int .i64 q ∧ v = .slice A n c ∧ Hid (SetRow (P0 ++ resN (cl.take q)) wr2 A n c ∧ Below W6.heap.size W6 wr2))
     case atStart => exact ⟨0,n7,c7,A7,rfl,Nat.zero_le _,rfl,rfl,Lib.hid ⟨by rw [List.take_zero,show resN [] = [] from rfl,List.append_nil];exact HS7.out.1,HS7.out.2⟩⟩
     case round =>
      obtain ⟨q,n8,c8,A8,rfl,hq,rfl,rfl,HJ⟩:=hrel
      have hq0 : (0 : Int) ≤ q:=by omega
      have x20:=HLK.out _ HJ.out.2
      by_cases hqt : q < nc
      ·have hqi : (q : Int) < nc:=by omega
       obtain ⟨⟨xr,xp,xl⟩,hx⟩ : ∃ x,cl[q]? = some x:=⟨cl[q]'(by rw [← HR.out.1];exact hqt),List.getElem?_eq_getElem _⟩
       obtain ⟨a3,ha3,hab3,Al,cal,g0,g1,g2,hxr,hxp,hll,rxl⟩:=(HR.out.2.1.on cal_keeps HJ.out.2).at_ hx
       simp only at g0 hxr
       obtain rfl : AC = some a3:=ha3
       have d0 : wr.cell? (a3.add (q * 3)) = some (.string ⟨xr.toArray⟩):=g0
       have htk3:=resN_take hx
       have hlt3 : (resN (cl.take q)).length + (if xr = [] then [] else [xr] : List (List UInt8)).length ≤ (resN cl).length:=by
        have h1:=resN_len_take cl q
        rw [← List.length_append,← show resN (cl.take (q + 1)) = _ from htk3]
        exact resN_len_take cl (q + 1)
       have HX:=Lib.hid (And.intro htk3 (And.intro hqt hlt3))
       have HI9 : Hid (xr ≠ [] → Calls Tryz.prog 43 #[.slice A8 n8 c8,.string ⟨xr.toArray⟩] wr (SetPost (xr :: (P0 ++ resN (cl.take q))) wr)):=Lib.hid (fun hne => insert_any _ xr hxr A8 n8 c8 wr HJ.out.1 (by
        have h1:=HX.out.2.2
        rw [if_neg hne] at h1
        have h2:=HR.out.2.2
        simp only [List.length_append,List.length_singleton] at h1 h2 ⊢
        omega))
       clear hx g0 g1 g2 hxr hxp hll rxl hab3 htk3 hlt3
       by_cases hr : xr = []
       ·subst hr
        go_wp2
        go_roundg (nc - (q + 1))
        case measure => have := HX.out.2.1;omega
        case rel =>
         refine ⟨q + 1,n8,c8,A8,rfl,(by have := HX.out.2.1;omega),by go_num,rfl,Lib.hid ⟨?_,HJ.out.2⟩⟩
         have h1:=HX.out.1
         simp only [if_true,List.append_nil] at h1
         rw [h1]
         exact HJ.out.1
       ·have hrb : (xr == ([] : List UInt8)) = false:=by simpa using hr
        have HX2:=Lib.hid hr
        have HI10:=Lib.hid (HI9.out hr)
        clear hr
        go_wp2_with (go_at_call 43;(with_reducible refine HI10.out.mono ?_);rintro e w9 ⟨A9,n9,c9,rfl,h9,hb9⟩;have H9:=Lib.hid (And.intro h9 hb9);clear h9 hb9)
        go_roundg (nc - (q + 1))
        case measure => have := HX.out.2.1;omega
        case rel =>
         refine ⟨q + 1,n9,c9,A9,rfl,(by have := HX.out.2.1;omega),by go_num,rfl,Lib.hid ⟨?_,HJ.out.2.chain H9.out.2⟩⟩
         have h1:=HX.out.1
         rw [if_neg HX2.out] at h1
         rw [h1,← List.append_assoc]
         exact H9.out.1.same (fun y => by rw [List.mem_cons,List.mem_append (t:=[xr]),List.mem_singleton];exact Or.comm) (by simp;omega)
      ·obtain rfl : q = nc:=by omega
       have h1:=HJ.out.1
       rw [show cl.take q = cl from List.take_of_length_le (by rw [← HR.out.1];exact Nat.le_refl _)] at h1
       have HJ1:=Lib.hid h1
       clear h1
       go_wp2
       go_roundg (z - (i + 1))
       case measure => have := HG.out.2;omega
       case rel => exact ⟨i + 1,n8,c8,A8,rfl,(by have := HG.out.2;omega),by go_num,rfl,Lib.hid ⟨by rw [HG.out.1];exact HJ1.out.same (fun y => Iff.rfl) (Nat.le_refl _),H6.out.chain HJ.out.2⟩⟩
   ·have b1 : (k0 == 1) = false:=by simpa using h1
    have b2 : (k0 == 2) = false:=by simpa using h2
    have b4 : (k0 == 4) = false:=by simpa using h4
    have b6 : (k0 == 6) = false:=by simpa using h6
    have HS7 : Hid (SetRow P0 W6 A n c ∧ Below W6.heap.size W6 W6):=Lib.hid ⟨by rw [HP0.out,if_neg (by omega),List.append_nil];exact HSB.out,Below.refl _ _⟩
    go_wp2
    rw [← hW6]
    go_loopg [3,7] nc (fun mm v j wr2 => ∃ (q n c : Nat) (A : Option Addr),mm = nc - q ∧ q ≤ nc ∧ j = .int .i64 q ∧ v = .slice A n c ∧ Hid (SetRow (P0 ++ resN (cl.take q)) wr2 A n c ∧ Below W6.heap.size W6 wr2))
    case atStart => exact ⟨0,n,c,A,rfl,Nat.zero_le _,rfl,rfl,Lib.hid ⟨by rw [List.take_zero,show resN [] = [] from rfl,List.append_nil];exact HS7.out.1,HS7.out.2⟩⟩
    case round =>
     obtain ⟨q,n8,c8,A8,rfl,hq,rfl,rfl,HJ⟩:=hrel
     have hq0 : (0 : Int) ≤ q:=by omega
     have x20:=HLK.out _ HJ.out.2
     by_cases hqt : q < nc
     ·have hqi : (q : Int) < nc:=by omega
      obtain ⟨⟨xr,xp,xl⟩,hx⟩ : ∃ x,cl[q]? = some x:=⟨cl[q]'(by rw [← HR.out.1];exact hqt),List.getElem?_eq_getElem _⟩
      obtain ⟨a3,ha3,hab3,Al,cal,g0,g1,g2,hxr,hxp,hll,rxl⟩:=(HR.out.2.1.on cal_keeps HJ.out.2).at_ hx
      simp only at g0 hxr
      obtain rfl : AC = some a3:=ha3
      have d0 : wr.cell? (a3.add (q * 3)) = some (.string ⟨xr.toArray⟩):=g0
      have htk3:=resN_take hx
      have hlt3 : (resN (cl.take q)).length + (if xr = [] then [] else [xr] : List (List UInt8)).length ≤ (resN cl).length:=by
       have h1:=resN_len_take cl q
       rw [← List.length_append,← show resN (cl.take (q + 1)) = _ from htk3]
       exact resN_len_take cl (q + 1)
      have HX:=Lib.hid (And.intro htk3 (And.intro hqt hlt3))
      have HI9 : Hid (xr ≠ [] → Calls Tryz.prog 43 #[.slice A8 n8 c8,.string ⟨xr.toArray⟩] wr (SetPost (xr :: (P0 ++ resN (cl.take q))) wr)):=Lib.hid (fun hne => insert_any _ xr hxr A8 n8 c8 wr HJ.out.1 (by
       have h1:=HX.out.2.2
       rw [if_neg hne] at h1
       have h2:=HR.out.2.2
       simp only [List.length_append,List.length_singleton] at h1 h2 ⊢
       omega))
      clear hx g0 g1 g2 hxr hxp hll rxl hab3 htk3 hlt3
      by_cases hr : xr = []
      ·subst hr
       go_wp2
       go_roundg (nc - (q + 1))
       case measure => have := HX.out.2.1;omega
       case rel =>
        refine ⟨q + 1,n8,c8,A8,rfl,(by have := HX.out.2.1;omega),by go_num,rfl,Lib.hid ⟨?_,HJ.out.2⟩⟩
        have h1:=HX.out.1
        simp only [if_true,List.append_nil] at h1
        rw [h1]
        exact HJ.out.1
      ·have hrb : (xr == ([] : List UInt8)) = false:=by simpa using hr
       have HX2:=Lib.hid hr
       have HI10:=Lib.hid (HI9.out hr)
       clear hr
       go_wp2_with (go_at_call 43;(with_reducible refine HI10.out.mono ?_);rintro e w9 ⟨A9,n9,c9,rfl,h9,hb9⟩;have H9:=Lib.hid (And.intro h9 hb9);clear h9 hb9)
       go_roundg (nc - (q + 1))
       case measure => have := HX.out.2.1;omega
       case rel =>
        refine ⟨q + 1,n9,c9,A9,rfl,(by have := HX.out.2.1;omega),by go_num,rfl,Lib.hid ⟨?_,HJ.out.2.chain H9.out.2⟩⟩
        have h1:=HX.out.1
        rw [if_neg HX2.out] at h1
        rw [h1,← List.append_assoc]
        exact H9.out.1.same (fun y => by rw [List.mem_cons,List.mem_append (t:=[xr]),List.mem_singleton];exact Or.comm) (by simp;omega)
     ·obtain rfl : q = nc:=by omega
      have h1:=HJ.out.1
      rw [show cl.take q = cl from List.take_of_length_le (by rw [← HR.out.1];exact Nat.le_refl _)] at h1
      have HJ1:=Lib.hid h1
      clear h1
      go_wp2
      go_roundg (z - (i + 1))
      case measure => have := HG.out.2;omega
      case rel => exact ⟨i + 1,n8,c8,A8,rfl,(by have := HG.out.2;omega),by go_num,rfl,Lib.hid ⟨by rw [HG.out.1];exact HJ1.out.same (fun y => Iff.rfl) (Nat.le_refl _),H6.out.chain HJ.out.2⟩⟩
  ·obtain rfl : i = z:=by omega
   go_wp2
   go_ret
   have h1:=HI.out.1
   rw [show f.take i = f from List.take_of_length_le (by rw [← HP.out.1];exact Nat.le_refl _)] at h1
   exact ⟨A,n,c,rfl,h1,HS5.out.2.chain HI.out.2⟩
end Go.Proofs.YtnbdfpjcpapdcaaGreatDoor
namespace Go.Proofs.YtnbdfpjcpapdcaaGreatDoor
set_option maxRecDepth 100000
set_option maxHeartbeats 8000000
open Go.RowKit Go.Lib
theorem ex_row1 {W : World} {g : Nat} {k1 n1 : Int} {s1 : List UInt8} {l1 : List Ex} {A1 : Option Addr} {c1 : Nat} (hg : W.heap[g]? = some (.cells #[.int .i64 k1,.int .i64 n1,.string ⟨s1.toArray⟩,.slice A1 l1.length c1] 35 (0,0)))
 (h1 : s1.length ≤ maxLen) (h2 : l1.length ≤ maxLen) (r1 : ExRow W W.heap.size l1 A1) : ExRow W W.heap.size [.mk k1 n1 s1 l1] (some ⟨g,0,none⟩):=by
 refine .row _ _ (fun _ => A1) (fun _ => c1) (Array.getElem?_eq_some_iff.1 hg).1 (fun i k n s l hi => ?_) (fun i k n s l hi => ?_)
 ·match i,hi with
  | 0,hi =>
    injection hi with hi;injection hi with e1 e2 e3 e4;subst e1 e2 e3 e4
    simp only [add_block0]
    exact ⟨cell_of_block hg 0 rfl,cell_of_block hg 1 rfl,cell_of_block hg 2 rfl,cell_of_block hg 3 rfl,h1,h2⟩
  | i + 1,hi => simp at hi
 ·match i,hi with
  | 0,hi => injection hi with hi;injection hi with e1 e2 e3 e4;subst e4;exact r1
  | i + 1,hi => simp at hi
theorem mem_turnF (Bs Va Vb R C : List (List UInt8)) (y : List UInt8) : y ∈ Bs ++ Va ++ Vb ++ R ++ C ↔ y ∈ Bs ++ (Va ++ Vb ++ C ++ R):=by
 simp only [List.mem_append]
 constructor
 ·rintro ((((h | h) | h) | h) | h) <;> simp [h]
 ·rintro (h | (((h | h) | h) | h)) <;> simp [h]
theorem used_le (V1 V2 V3 V4 : List (List UInt8)) : (V1 ++ V2 ++ V3 ++ V4).length = V1.length + V2.length + V3.length + V4.length:=by
 simp only [List.length_append]
theorem rUsed_any {l f : List St} (hf : FlL l f) (hfl : f.length ≤ 200000) (hcnt : (f.flatMap readN).length ≤ 6000000000000) (A0 : Option Addr) (c0 : Nat) (w : World) (hr : StRow w w.heap.size l A0) (hl : l.length ≤ maxLen) :
 Calls Tryz.prog 19 #[.slice A0 l.length c0] w (SetPost (f.flatMap readN) w):=by
 obtain ⟨T,N,zc,hT,hN,hzc,hag,hsz,hzv⟩:=stmt_hidden2
 have e1 : ∀ y : Operand,Op.load 42 y = Op.load T y:=fun y => by rw [hT]
 have e2 : ∀ y z : Operand,Op.store 42 y z = Op.store T y z:=fun y z => by rw [hT]
 have e3 : Op.alloc 42 = Op.alloc T:=by rw [hT]
 have hmx : Tryz.prog.follows .mixedOrders = true:=by kernel_rfl
 obtain ⟨n,hn⟩ : ∃ n,n = l.length:=⟨_,rfl⟩
 obtain ⟨z,hz⟩ : ∃ z,z = f.length:=⟨_,rfl⟩
 have HF : Hid (Calls Tryz.prog 30 #[.slice A0 n c0] w fun e w' => ∃ (A : Option Addr) (c : Nat),e = .returned (.slice A z c) ∧ StRow w' w'.heap.size f A ∧ Below w.heap.size w w'):=Lib.hid (by
  rw [hn,hz]
  refine (flat_any _ l (Nat.lt_succ_self _) A0 c0 w.heap.size f w hr (Nat.le_refl _) hl hf hfl).mono ?_
  rintro e w' ⟨A,c,he,hq⟩
  refine ⟨A,c,he,flat_rowF hq,?_⟩
  obtain ⟨_,_,_,_,_,hb⟩:=hq
  exact hb)
 have hzm : z ≤ 200000:=by rw [hz];exact hfl
 have HN:=Lib.hid (And.intro hN hzc)
 have HP:=Lib.hid (And.intro hz hcnt)
 rw [← hn]
 clear hcnt hf hr hn hl hfl hN hzc hz
 go_enter Tryz.func19,Tryz.ntmps19
 simp only [e1,e2,e3]
 clear e1 e2 e3 hT
 go_wp2_with (go_at_call 30;(with_reducible refine HF.out.mono ?_);rintro e w5 ⟨AF,cF,rfl,hf5,hb5⟩;have HS5:=Lib.hid (And.intro hf5 hb5);clear hf5 hb5)
 go_loopg [3,5] z (fun mm v j wr => ∃ (i n c : Nat) (A : Option Addr),mm = z - i ∧ i ≤ z ∧ j = .int .i64 i ∧ v = .slice A n c ∧ Hid (SetRow ((f.take i).flatMap readN) wr A n c ∧ Below w5.heap.size w5 wr))
 case atStart => exact ⟨0,0,0,none,rfl,Nat.zero_le _,rfl,rfl,Lib.hid ⟨by rw [List.take_zero];exact SetRow.none_ _ _,Below.refl _ _⟩⟩
 case round =>
  obtain ⟨i,n,c,A,rfl,hi,rfl,rfl,HI⟩:=hrel
  have hi0 : (0 : Int) ≤ i:=by omega
  by_cases hlt : i < z
  ·have hii : (i : Int) < z:=by omega
   obtain ⟨s,hg⟩ : ∃ x,f[i]? = some x:=⟨f[i]'(by rw [← HP.out.1];exact hlt),List.getElem?_eq_getElem _⟩
   have hxm:=List.mem_of_getElem? hg
   have hbw : Below w5.heap.size w5 wr:=HI.out.2
   obtain ⟨a,d,rfl,hab,hc,hown,hb1,hb2⟩:=(HS5.out.1.on hbw).at_ hg
   have hcz : (stCs d s).size = 24:=stCs_size d s
   have hone : (stCs d s).all (·.oneCell') = true:=stCs_one d s
   obtain ⟨cs,hcs⟩ : ∃ cs,cs = stCs d s:=⟨_,rfl⟩
   rw [← hcs] at hc hcz hone
   have hszc : cs.size = N:=hcz.trans HN.out.1.symm
   have hl1 : (loadCellsFrom (a.add (i * 24)) 0 N #[]).run Tryz.prog wr = .ok cs wr:=load_list (fun j v hv => hc j v hv) hszc
   have hst:=store_fresh (w:=wr) (t:=T) (zc:=zc) (cs:=cs) (HN.out.2.trans hszc.symm) hone
   obtain ⟨W6,hW6⟩ : ∃ W6,W6 = wr.alloc (.cells cs T):=⟨_,rfl⟩
   have hb6 : Below wr.heap.size wr W6:=by rw [hW6];exact below_alloc wr _
   have hp6 : W6.heap[wr.heap.size]? = some (.cells cs T (0,0)):=by rw [hW6];exact heap_of_alloc wr _
   have H6:=Lib.hid (And.intro hb6 (And.intro hp6 (hbw.chain hb6)))
   have htk:=flatMap_take readN hg
   have hle:=flatMap_le readN hg
   have hcnt:=HP.out.2
   obtain ⟨Bs,hBs⟩ : ∃ Bs : List (List UInt8),Bs = (f.take i).flatMap readN:=⟨_,rfl⟩
   have hSB : SetRow Bs W6 A n c:=by rw [hBs];exact HI.out.1.on hb6
   rw [← hBs] at htk hle
   obtain ⟨k,ln,co,nm,fd,fr,⟨ek,en,es,el⟩,⟨ck,⟨ak,an,sa,al⟩,⟨bk,bn,sb,bl⟩,l0⟩,cl,iv,bd,ot⟩:=s
   rw [readN] at htk hle
   rw [used_le] at hle
   obtain ⟨⟨m0,m1,m2,m3,m4,m5,m6,m7,m8,m9,m10,m11,m12,m13⟩,re,ra,rb,rl,rc,ri⟩:=hown
   obtain ⟨S,hS⟩ : ∃ S : World → Prop,S = fun W => Below W6.heap.size W6 W:=⟨_,rfl⟩
   have HS2 : Hid (∀ W,Below W6.heap.size W6 W → S W):=Lib.hid (fun W hb => by rw [hS];exact hb)
   obtain ⟨nc,hnc⟩ : ∃ n,n = cl.length:=⟨_,rfl⟩
   obtain ⟨AC,hAC⟩ : ∃ A,A = d.c:=⟨_,rfl⟩
   obtain ⟨cC,hcC⟩ : ∃ c,c = d.nc:=⟨_,rfl⟩
   have HLD : Hid (∀ W,S W → (W.cell? ⟨wr.heap.size,6,none⟩ = some (.int .i64 ek) ∧ W.cell? ⟨wr.heap.size,7,none⟩ = some (.int .i64 en) ∧ W.cell? ⟨wr.heap.size,8,none⟩ = some (.string ⟨es.toArray⟩) ∧ W.cell? ⟨wr.heap.size,9,none⟩ = some (.slice d.e el.length d.ne)) ∧
    (W.cell? ⟨wr.heap.size,10,none⟩ = some (.int .i64 ck) ∧ W.cell? ⟨wr.heap.size,11,none⟩ = some (.int .i64 ak) ∧ W.cell? ⟨wr.heap.size,12,none⟩ = some (.int .i64 an) ∧ W.cell? ⟨wr.heap.size,13,none⟩ = some (.string ⟨sa.toArray⟩) ∧ W.cell? ⟨wr.heap.size,14,none⟩ = some (.slice d.a al.length d.na) ∧
      W.cell? ⟨wr.heap.size,15,none⟩ = some (.int .i64 bk) ∧ W.cell? ⟨wr.heap.size,16,none⟩ = some (.int .i64 bn) ∧ W.cell? ⟨wr.heap.size,17,none⟩ = some (.string ⟨sb.toArray⟩) ∧ W.cell? ⟨wr.heap.size,18,none⟩ = some (.slice d.b bl.length d.nb) ∧ W.cell? ⟨wr.heap.size,19,none⟩ = some (.slice d.l l0.length d.nl)) ∧
    W.cell? ⟨wr.heap.size,20,none⟩ = some (.slice AC nc cC)):=Lib.hid (fun W hs => by
    rw [hS] at hs
    have q:=kept_box hs hp6
    rw [hcs] at q
    rw [hnc,hAC,hcC]
    exact ⟨⟨cell_of_block q 6 rfl,cell_of_block q 7 rfl,cell_of_block q 8 rfl,cell_of_block q 9 rfl⟩,⟨cell_of_block q 10 rfl,cell_of_block q 11 rfl,cell_of_block q 12 rfl,cell_of_block q 13 rfl,cell_of_block q 14 rfl,cell_of_block q 15 rfl,cell_of_block q 16 rfl,cell_of_block q 17 rfl,cell_of_block q 18 rfl,cell_of_block q 19 rfl⟩,cell_of_block q 20 rfl⟩)
   have HLK : Hid (∀ W,Below W6.heap.size W6 W → W.cell? ⟨wr.heap.size,0,none⟩ = some (.int .i64 k) ∧ W.cell? ⟨wr.heap.size,3,none⟩ = some (.string ⟨nm.toArray⟩) ∧ W.cell? ⟨wr.heap.size,5,none⟩ = some (.string ⟨fr.toArray⟩)):=Lib.hid (fun W hb => by
    have q:=kept_box hb hp6
    rw [hcs] at q
    exact ⟨cell_of_block q 0 rfl,cell_of_block q 3 rfl,cell_of_block q 5 rfl⟩)
   obtain ⟨Va,hVa⟩ : ∃ v,v = exVars (.mk ek en es el):=⟨_,rfl⟩
   obtain ⟨Vb,hVb⟩ : ∃ v,v = cnVars (.mk ck (.mk ak an sa al) (.mk bk bn sb bl) l0):=⟨_,rfl⟩
   rw [← hVa,← hVb] at htk hle
   have re6:=re.on hb6
   have ra6:=ra.on hb6
   have rb6:=rb.on hb6
   have rl6:=rl.on hb6
   have rc6:=rc.on cal_keeps hb6
   have HE : Hid (∀ W,Below W6.heap.size W6 W → ∀ W',W' = (W.alloc (.cells #[.int .i64 ek,.int .i64 en,.string ⟨es.toArray⟩,.slice d.e el.length d.ne] 35)).drew → Calls Tryz.prog 45 #[.slice A n c,.slice (some ⟨W.heap.size,0,none⟩) 1 1] W' (SetPost (Bs ++ Va) W')):=Lib.hid (fun W hb W' hW' => by
    have hb7 : Below W.heap.size W W':=by rw [hW'];exact (below_alloc W _).drew
    have hp7:=heap_of_alloc W (.cells #[.int .i64 ek,.int .i64 en,.string ⟨es.toArray⟩,.slice d.e el.length d.ne] 35)
    replace hp7 : W'.heap[W.heap.size]? = some (.cells #[.int .i64 ek,.int .i64 en,.string ⟨es.toArray⟩,.slice d.e el.length d.ne] 35 (0,0)):=by rw [hW'];exact hp7
    have hbb:=hb.chain hb7
    have h:=rexprs_any [.mk ek en es el] (some ⟨W.heap.size,0,none⟩) 1 Bs A n c W' (ex_row1 hp7 m3 m4 (re6.on hbb)) (by show 1 ≤ maxLen;unfold maxLen;omega) (hSB.on hbb) (by rw [exsVars,exsVars,List.append_nil,← hVa];omega)
    rw [exsVars,exsVars,List.append_nil,← hVa] at h
    exact h)
   have HC : Hid (∀ W A n c,Below W6.heap.size W6 W → SetRow (Bs ++ Va) W A n c → Calls Tryz.prog 44 #[.slice A n c,condV2 ck ak an ⟨sa.toArray⟩ (.slice d.a al.length d.na) bk bn ⟨sb.toArray⟩ (.slice d.b bl.length d.nb) (.slice d.l l0.length d.nl)] W (SetPost (Bs ++ Va ++ Vb) W)):=Lib.hid (fun W A n c hb hs => by
    have h:=rcondF_any _ l0 (Nat.lt_succ_self _) ck ak an sa al bk bn sb bl d.a d.na d.b d.nb d.l d.nl (Bs ++ Va) A n c W (ra6.on hb) (rb6.on hb) (rl6.on hb) m5 m6 m7 m8 m9 hs (by rw [← hVb,List.length_append];omega)
    rw [← hVb] at h
    exact h)
   obtain ⟨P0,hP0⟩ : ∃ P0 : List (List UInt8),P0 = Bs ++ Va ++ Vb ++ rdK k nm fr:=⟨_,rfl⟩
   have hlP : P0.length + (callsN cl).length ≤ 6000000000000:=by rw [hP0,used_le];omega
   have HI9 : Hid (∀ (W : World) (A : Option Addr) (n c : Nat) (v : List UInt8),v.length ≤ maxLen → SetRow (Bs ++ Va ++ Vb) W A n c → Calls Tryz.prog 43 #[.slice A n c,.string ⟨v.toArray⟩] W (SetPost (v :: (Bs ++ Va ++ Vb)) W)):=Lib.hid (fun W A n c v hv hs => insert_any _ v hv A n c W hs (by simp only [List.length_append];omega))
   have HG:=Lib.hid (And.intro htk (And.intro hlt (And.intro m0 m2)))
   have HR:=Lib.hid (And.intro hnc (And.intro rc6 hlP))
   have H6:=Lib.hid (hbw.chain hb6)
   have HP0:=Lib.hid hP0
   have HX0:=Lib.hid (Below.refl W6.heap.size W6).drew
   have g0:=HS2.out _ HX0.out
   rw [← hnc] at m10
   unfold maxLen at m10
   rw [← hAC] at HR
   obtain ⟨dE,hdE⟩ : ∃ A,A = d.e:=⟨_,rfl⟩
   obtain ⟨dA,hdA⟩ : ∃ A,A = d.a:=⟨_,rfl⟩
   obtain ⟨dB,hdB⟩ : ∃ A,A = d.b:=⟨_,rfl⟩
   obtain ⟨dL,hdL⟩ : ∃ A,A = d.l:=⟨_,rfl⟩
   obtain ⟨jE,hjE⟩ : ∃ A,A = d.ne:=⟨_,rfl⟩
   obtain ⟨jA,hjA⟩ : ∃ A,A = d.na:=⟨_,rfl⟩
   obtain ⟨jB,hjB⟩ : ∃ A,A = d.nb:=⟨_,rfl⟩
   obtain ⟨jL,hjL⟩ : ∃ A,A = d.nl:=⟨_,rfl⟩
   rw [← hdE,← hjE] at HE HLD
   rw [← hdA,← hdB,← hdL,← hjA,← hjB,← hjL] at HC HLD
   generalize el.length = n4 at *
   generalize al.length = n6 at *
   generalize bl.length = n8 at *
   generalize l0.length = n9 at *
   clear hg hxm hbw hab hc hb1 hb2 hcs hcz hone hb6 hp6 htk hle hcnt hBs hSB hlP hnc hAC hcC hP0 hS hVa hVb m0 m1 m2 m3 m4 m5 m6 m7 m8 m9 m11 m12 m13 re ra rb rl rc ri re6 ra6 rb6 rl6 rc6 hdE hdA hdB hdL hjE hjA hjB hjL
   go_wp2
   rw [← hW6]
   clear hW6
   refine wp_region_held (S:=S) hmx ?_
   change wpAnyH _ _ _ _ _ 9 #[false,false,false,false,false,false,false,false,false] _ W6.drew
   refine tk 0 20 (.slice A n c) g0 ?v ?_
   case v => intro Wx hSx;go_simp
   refine tk 1 21 (.pointer (some ⟨wr.heap.size,6,none⟩)) g0 ?v ?_
   case v => intro Wx hSx;go_simp
   refine tk 2 22 (exprV ek en ⟨es.toArray⟩ (.slice dE n4 jE)) g0 ?v ?_
   case v => intro Wx hSx;obtain ⟨⟨z1,z2,z3,z4⟩,⟨z5,z6,z7,z8,z9,z10,z11,z12,z13,z14⟩,z15⟩:=HLD.out Wx hSx;go_simp
   try simp only [Act.put,List.setIfInBounds_toArray,List.set_cons_zero,List.set_cons_succ]
   refine tk 5 25 (.pointer (some ⟨wr.heap.size,10,none⟩)) g0 ?v ?_
   case v => intro Wx hSx;go_simp
   refine tk 6 26 (condV2 ck ak an ⟨sa.toArray⟩ (.slice dA n6 jA) bk bn ⟨sb.toArray⟩ (.slice dB n8 jB) (.slice dL n9 jL)) g0 ?v ?_
   case v => intro Wx hSx;obtain ⟨⟨z1,z2,z3,z4⟩,⟨z5,z6,z7,z8,z9,z10,z11,z12,z13,z14⟩,z15⟩:=HLD.out Wx hSx;go_simp
   try simp only [Act.put,List.setIfInBounds_toArray,List.set_cons_zero,List.set_cons_succ]
   refine o1 3 (fun K hK => ?_)
   go_simp
   obtain ⟨W7,hW7⟩ : ∃ W7,W7 = (W6.alloc (.cells #[.int .i64 ek,.int .i64 en,.string ⟨es.toArray⟩,.slice dE n4 jE] 35)).drew:=⟨_,rfl⟩
   have H7 : Hid (Below W6.heap.size W6 W7):=Lib.hid (by rw [hW7];exact (below_alloc _ _).drew)
   have hs7:=HS2.out _ H7.out
   have HE7:=Lib.hid (HE.out W6 (Below.refl _ _) W7 hW7)
   rw [← hW7]
   clear hW7
   refine hK _ _ hs7 ?_
   clear hK K
   try simp only [Act.put,List.setIfInBounds_toArray,List.set_cons_zero,List.set_cons_succ]
   refine o1 4 (fun K hK => ?_)
   go_simp
   (with_reducible refine HE7.out.mono ?_)
   rintro e w8 ⟨A8,n8',c8,rfl,h8,hb8⟩
   have H8:=Lib.hid (H7.out.chain hb8)
   have hs8:=HS2.out _ H8.out
   have HC8:=Lib.hid (HC.out w8 A8 n8' c8 H8.out h8)
   clear h8 hb8
   refine hK _ _ hs8 ?_
   clear hK K
   try simp only [Act.put,List.setIfInBounds_toArray,List.set_cons_zero,List.set_cons_succ]
   refine o1 7 (fun K hK => ?_)
   go_simp
   (with_reducible refine HC8.out.mono ?_)
   rintro e w9 ⟨A9,n9',c9,rfl,h9,hb9⟩
   have H9:=Lib.hid (H8.out.chain hb9)
   have hs9:=HS2.out _ H9.out
   have HR9:=Lib.hid h9
   clear h9 hb9
   refine hK _ _ hs9 ?_
   clear hK K
   try simp only [Act.put,List.setIfInBounds_toArray,List.set_cons_zero,List.set_cons_succ]
   refine tk 8 3 (.slice A9 n9' c9) hs9 ?v ?_
   case v => intro Wx hSx;go_simp
   try simp only [Act.put,List.setIfInBounds_toArray,List.set_cons_zero,List.set_cons_succ]
   refine wpAnyH_done (by kernel_rfl) ?_ _
   obtain ⟨x0,x3,x5⟩:=HLK.out w9 H9.out
   have hk4 : k = 2 ∨ k = 3 ∨ k = 5 ∨ (k ≠ 2 ∧ k ≠ 3 ∧ k ≠ 5):=by omega
   rcases hk4 with rfl | rfl | rfl | ⟨h2,h3,h5⟩
   iterate 3
    ·go_wp2_with (go_at_call 43;(with_reducible refine (HI9.out w9 A9 n9' c9 _ (by first | exact HG.out.2.2.2 | exact HG.out.2.2.1) HR9.out).mono ?_);rintro e w7' ⟨A7,n7,c7,rfl,h7,hb7⟩;have HS7 : Hid (SetRow P0 w7' A7 n7 c7 ∧ Below W6.heap.size W6 w7'):=Lib.hid ⟨by rw [HP0.out];exact h7.same (fun y => by show _ ↔ y ∈ Bs ++ Va ++ Vb ++ [_];rw [List.mem_cons,List.mem_append (t:=[_]),List.mem_singleton];exact Or.comm) (by show _ ≤ (Bs ++ Va ++ Vb ++ [_]).length;simp;omega),H9.out.chain hb7⟩;obtain ⟨x0,x3,x5⟩:=HLK.out w7' (H9.out.chain hb7);obtain ⟨_,_,x20⟩:=HLD.out w7' (HS2.out _ (H9.out.chain hb7));clear h7 hb7)
     go_loopg [3,7] nc (fun mm v j wr2 => ∃ (q n c : Nat) (A : Option Addr),mm = nc - q ∧ q ≤ nc ∧ j = .int .i64 q ∧ v = .slice A n c ∧ Hid (SetRow (P0 ++ callsN (cl.take q)) wr2 A n c ∧ Below W6.heap.size W6 wr2))
     case atStart => exact ⟨0,n7,c7,A7,rfl,Nat.zero_le _,rfl,rfl,Lib.hid ⟨by rw [List.take_zero,callsN,List.append_nil];exact HS7.out.1,HS7.out.2⟩⟩
     case round =>
      obtain ⟨q,n8,c8,A8,rfl,hq,rfl,rfl,HJ⟩:=hrel
      have hq0 : (0 : Int) ≤ q:=by omega
      obtain ⟨_,_,x20⟩:=HLD.out _ (HS2.out _ HJ.out.2)
      by_cases hqt : q < nc
      ·have hqi : (q : Int) < nc:=by omega
       obtain ⟨⟨xr,xp,xl⟩,hx⟩ : ∃ x,cl[q]? = some x:=⟨cl[q]'(by rw [← HR.out.1];exact hqt),List.getElem?_eq_getElem _⟩
       obtain ⟨a3,ha3,hab3,Al,cal,g0',g1,g2,hxr,hxp,hll,rxl⟩:=(HR.out.2.1.on cal_keeps HJ.out.2).at_ hx
       simp only at g0' g1 g2 hxr hxp hll rxl
       obtain rfl : AC = some a3:=ha3
       have d2 : wr.cell? ⟨(a3.add (q * 3)).block,(a3.add (q * 3)).off + 2,none⟩ = some (.slice Al xl.length cal):=g2
       have htk3:=callsN_take cl q _ hx
       have hle3:=callsN_le cl q _ hx
       simp only at htk3 hle3
       have HX : Hid (callsN (cl.take (q + 1)) = callsN (cl.take q) ++ exsVars xl ∧ q < nc):=Lib.hid ⟨htk3,hqt⟩
       have HE9 : Hid (Calls Tryz.prog 45 #[.slice A8 n8 c8,.slice Al xl.length cal] wr (SetPost (P0 ++ callsN (cl.take q) ++ exsVars xl) wr)):=Lib.hid (rexprs_any xl Al cal _ A8 n8 c8 wr rxl hll HJ.out.1 (by
        have h2:=HR.out.2.2
        rw [List.length_append]
        omega))
       unfold maxLen at hll
       clear hx g0' g1 g2 hxr hxp rxl hab3 htk3 hle3
       go_wp2_with (go_at_call 45;(with_reducible refine HE9.out.mono ?_);rintro e w9 ⟨A9,n9,c9,rfl,h9,hb9⟩;have H9:=Lib.hid (And.intro h9 hb9);clear h9 hb9)
       go_roundg (nc - (q + 1))
       case measure => have := HX.out.2;omega
       case rel => exact ⟨q + 1,n9,c9,A9,rfl,(by have := HX.out.2;omega),by go_num,rfl,Lib.hid ⟨by rw [HX.out.1,← List.append_assoc];exact H9.out.1,HJ.out.2.chain H9.out.2⟩⟩
      ·obtain rfl : q = nc:=by omega
       have h1:=HJ.out.1
       rw [show cl.take q = cl from List.take_of_length_le (by rw [← HR.out.1];exact Nat.le_refl _)] at h1
       have HJ1:=Lib.hid h1
       clear h1
       go_wp2
       go_roundg (z - (i + 1))
       case measure => have := HG.out.2.1;omega
       case rel => exact ⟨i + 1,n8,c8,A8,rfl,(by have := HG.out.2.1;omega),by go_num,rfl,Lib.hid ⟨by rw [HG.out.1];exact HJ1.out.same (fun y => by rw [HP0.out];exact mem_turnF _ _ _ _ _ y) (by rw [HP0.out];simp only [List.length_append];omega),H6.out.chain HJ.out.2⟩⟩
   ·have b2 : (k == 2) = false:=by simpa using h2
    have b3 : (k == 3) = false:=by simpa using h3
    have b5 : (k == 5) = false:=by simpa using h5
    have HS7 : Hid (SetRow P0 w9 A9 n9' c9 ∧ Below W6.heap.size W6 w9):=Lib.hid ⟨by rw [HP0.out,rdK_no _ _ h2 h3 h5,List.append_nil];exact HR9.out,H9.out⟩
    obtain ⟨_,_,x20⟩:=HLD.out w9 hs9
    go_wp2
    go_loopg [3,7] nc (fun mm v j wr2 => ∃ (q n c : Nat) (A : Option Addr),mm = nc - q ∧ q ≤ nc ∧ j = .int .i64 q ∧ v = .slice A n c ∧ Hid (SetRow (P0 ++ callsN (cl.take q)) wr2 A n c ∧ Below W6.heap.size W6 wr2))
    case atStart => exact ⟨0,n9',c9,A9,rfl,Nat.zero_le _,rfl,rfl,Lib.hid ⟨by rw [List.take_zero,callsN,List.append_nil];exact HS7.out.1,HS7.out.2⟩⟩
    case round =>
     obtain ⟨q,n8,c8,A8,rfl,hq,rfl,rfl,HJ⟩:=hrel
     have hq0 : (0 : Int) ≤ q:=by omega
     obtain ⟨_,_,x20⟩:=HLD.out _ (HS2.out _ HJ.out.2)
     by_cases hqt : q < nc
     ·have hqi : (q : Int) < nc:=by omega
      obtain ⟨⟨xr,xp,xl⟩,hx⟩ : ∃ x,cl[q]? = some x:=⟨cl[q]'(by rw [← HR.out.1];exact hqt),List.getElem?_eq_getElem _⟩
      obtain ⟨a3,ha3,hab3,Al,cal,g0',g1,g2,hxr,hxp,hll,rxl⟩:=(HR.out.2.1.on cal_keeps HJ.out.2).at_ hx
      simp only at g0' g1 g2 hxr hxp hll rxl
      obtain rfl : AC = some a3:=ha3
      have d2 : wr.cell? ⟨(a3.add (q * 3)).block,(a3.add (q * 3)).off + 2,none⟩ = some (.slice Al xl.length cal):=g2
      have htk3:=callsN_take cl q _ hx
      have hle3:=callsN_le cl q _ hx
      simp only at htk3 hle3
      have HX : Hid (callsN (cl.take (q + 1)) = callsN (cl.take q) ++ exsVars xl ∧ q < nc):=Lib.hid ⟨htk3,hqt⟩
      have HE9 : Hid (Calls Tryz.prog 45 #[.slice A8 n8 c8,.slice Al xl.length cal] wr (SetPost (P0 ++ callsN (cl.take q) ++ exsVars xl) wr)):=Lib.hid (rexprs_any xl Al cal _ A8 n8 c8 wr rxl hll HJ.out.1 (by
       have h2:=HR.out.2.2
       rw [List.length_append]
       omega))
      unfold maxLen at hll
      clear hx g0' g1 g2 hxr hxp rxl hab3 htk3 hle3
      go_wp2_with (go_at_call 45;(with_reducible refine HE9.out.mono ?_);rintro e w9 ⟨A9,n9,c9,rfl,h9,hb9⟩;have H9:=Lib.hid (And.intro h9 hb9);clear h9 hb9)
      go_roundg (nc - (q + 1))
      case measure => have := HX.out.2;omega
      case rel => exact ⟨q + 1,n9,c9,A9,rfl,(by have := HX.out.2;omega),by go_num,rfl,Lib.hid ⟨by rw [HX.out.1,← List.append_assoc];exact H9.out.1,HJ.out.2.chain H9.out.2⟩⟩
     ·obtain rfl : q = nc:=by omega
      have h1:=HJ.out.1
      rw [show cl.take q = cl from List.take_of_length_le (by rw [← HR.out.1];exact Nat.le_refl _)] at h1
      have HJ1:=Lib.hid h1
      clear h1
      go_wp2
      go_roundg (z - (i + 1))
      case measure => have := HG.out.2.1;omega
      case rel => exact ⟨i + 1,n8,c8,A8,rfl,(by have := HG.out.2.1;omega),by go_num,rfl,Lib.hid ⟨by rw [HG.out.1];exact HJ1.out.same (fun y => by rw [HP0.out];exact mem_turnF _ _ _ _ _ y) (by rw [HP0.out];simp only [List.length_append];omega),H6.out.chain HJ.out.2⟩⟩
  ·obtain rfl : i = z:=by omega
   go_wp2
   go_ret
   have h1:=HI.out.1
   rw [show f.take i = f from List.take_of_length_le (by rw [← HP.out.1];exact Nat.le_refl _)] at h1
   exact ⟨A,n,c,rfl,h1,HS5.out.2.chain HI.out.2⟩
end Go.Proofs.YtnbdfpjcpapdcaaGreatDoor
