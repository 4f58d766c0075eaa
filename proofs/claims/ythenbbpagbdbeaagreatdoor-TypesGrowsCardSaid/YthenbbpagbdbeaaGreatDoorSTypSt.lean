import Derived.Test.YthenbbpagbdbeaaGreatDoorSTypSm
set_option linter.unusedVariables false
set_option linter.unusedSimpArgs false
namespace Go.Proofs.YthenbbpagbdbeaaGreatDoor
set_option maxRecDepth 100000
set_option maxHeartbeats 16000000
open Go.RowKit Go.Lib
theorem plainL_lens {w : World} {B : Nat} {l : List Ex} {A : Option Addr} (h : ExRow w B l A) : ∀ x ∈ plainL l,x.length ≤ maxLen:=by
 intro x hx
 unfold plainL at hx
 obtain ⟨⟨k,n,s,l0⟩,hy,hxy⟩:=List.mem_flatMap.1 hx
 obtain ⟨i,hi,he⟩:=List.getElem_of_mem hy
 obtain ⟨_,_,_,_,_,_,_,_,_,hs,_⟩:=h.at_ (i:=i) (by rw [List.getElem?_eq_getElem hi,he])
 have h2 : x ∈ (if k = 2 then [s] else []):=hxy
 split at h2
 ·obtain rfl : x = s:=by simpa using h2
  exact hs
 ·simp at h2
def StepsPost (f : Fm) (w : World) (e : Ending) (w' : World) : Prop :=
 ∃ (v : Value) (xs : List Value) (B : Nat),e = .returned v ∧ w.heap.size ≤ B ∧ w'.ownsRow B 172 2 v (stepsF f).length xs ∧ StepsAt w' B v.ownBlock (stepsF f) xs ∧ Below w.heap.size w w'
def sbL (f : Fm) (i : Nat) : List Stp:=f.cls.flatMap stepsCl ++ (f.ats.take i).flatMap stepsAt
theorem sbL_zero (f : Fm) : sbL f 0 = f.cls.flatMap stepsCl:=by
 unfold sbL
 rw [List.take_zero,List.flatMap_nil,List.append_nil]
theorem plain_one {k n : Int} {s : List UInt8} {l : List Ex} (hs : s.length ≤ maxLen) : ∀ x ∈ plainL [.mk k n s l],x.length ≤ maxLen:=by
 intro x hx
 have h2 : x ∈ (if k = 2 then [s] else []) ++ List.flatMap plainN []:=hx
 rw [List.flatMap_nil,List.append_nil] at h2
 split at h2
 ·obtain rfl : x = s:=by simpa using h2
  exact hs
 ·simp at h2
theorem plainL_one (e : Ex) : plainL [e] = plainN e:=by
 unfold plainL
 rw [List.flatMap_cons,List.flatMap_nil,List.append_nil]
theorem ex_one {W : World} {g : Nat} {k n : Int} {s : List UInt8} {l : List Ex} {A : Option Addr} {c : Nat} (h : W.heap[g]? = some (exprC k n ⟨s.toArray⟩ (.slice A l.length c))) (hr : ExRow W W.heap.size l A) (hs : s.length ≤ maxLen) (hl : l.length ≤ maxLen) : ExRow W W.heap.size [.mk k n s l] (some ⟨g,0,none⟩):=by
 refine .row ⟨g,0,none⟩ [.mk k n s l] (fun _ => A) (fun _ => c) ((Array.getElem?_eq_some_iff.1 h).1) (fun i k' n' s' l' hi => ?_) (fun i k' n' s' l' hi => ?_)
 ·match i,hi with
  | 0,hi =>
    obtain ⟨rfl,rfl,rfl,rfl⟩ : k = k' ∧ n = n' ∧ s = s' ∧ l = l':=by
     have := Option.some.inj hi
     injection this with h1 h2 h3 h4
     exact ⟨h1,h2,h3,h4⟩
    exact ⟨cell_of_block h 0 rfl,cell_of_block h 1 rfl,cell_of_block h 2 rfl,cell_of_block h 3 rfl,hs,hl⟩
  | i + 1,hi => simp at hi
 ·match i,hi with
  | 0,hi =>
    obtain ⟨rfl,rfl,rfl,rfl⟩ : k = k' ∧ n = n' ∧ s = s' ∧ l = l':=by
     have := Option.some.inj hi
     injection this with h1 h2 h3 h4
     exact ⟨h1,h2,h3,h4⟩
    exact hr
  | i + 1,hi => simp at hi
theorem steps_any (f : Fm) (P : Option Addr) (np cp : Nat) (Aa : Option Addr) (na ca : Nat) (Ac : Option Addr) (nc cc : Nat) (hna : na = f.ats.length) (hnc : nc = f.cls.length) (hf : FmFew f) (w : World) (hA : AtRow w w.heap.size f.ats Aa) (hC : ClRow w w.heap.size f.cls Ac) :
 Calls Tryz.prog 102 #[formulaV (.slice P np cp) (.slice Aa na ca) (.slice Ac nc cc)] w (StepsPost f w):=by
 obtain ⟨i0,hi,hiz,his,hib⟩:=info_parts infoStp
 have HI0:=Lib.hid (And.intro hi (And.intro hiz (And.intro his hib)))
 have hmx : Tryz.prog.follows .mixedOrders = true:=by kernel_rfl
 obtain ⟨W1,hW1⟩ : ∃ W1,W1 = w.alloc (formulaC (.slice P np cp) (.slice Aa na ca) (.slice Ac nc cc)):=⟨_,rfl⟩
 have hb1 : Below w.heap.size w W1:=by rw [hW1];exact below_alloc w _
 have hp1 : W1.heap[w.heap.size]? = some (formulaC (.slice P np cp) (.slice Aa na ca) (.slice Ac nc cc)):=by rw [hW1];exact heap_of_alloc w _
 have HW1:=Lib.hid (And.intro hb1 hp1)
 have HC:=Lib.hid (And.intro (hC.stay cl_keeps hb1 (Nat.le_refl _)) (And.intro hnc (And.intro hf hb1.size)))
 have HA:=Lib.hid (And.intro (hA.stay at_keeps hb1 (Nat.le_refl _)) (And.intro hna trivial))
 have HO0:=Lib.hid (World.ownsRow_nil W1 W1.heap.size 172 2)
 have hncm : nc ≤ 1000000:=by rw [hnc];exact hf.2.2.1
 have hnam : na ≤ 1000000:=by rw [hna];exact hf.2.1
 clear hi hiz his hib hb1 hp1 hC hA hf hnc hna
 go_enter Tryz.func102,Tryz.ntmps102
 go_wp2
 rw [← hW1]
 clear hW1
 go_loopg [3,11] nc (fun mm u3 j wr => ∃ (i : Nat) (xs : List Value),mm = nc - i ∧ i ≤ nc ∧ j = .int .i64 i ∧ Hid (Below W1.heap.size W1 wr ∧ wr.ownsRow W1.heap.size 172 2 u3 (scL f i).length xs ∧ StepsAt wr W1.heap.size u3.ownBlock (scL f i) xs))
 case atStart => exact ⟨0,[],rfl,Nat.zero_le _,rfl,Lib.hid ⟨Below.refl _ _,HO0.out,StepsAt.nil _ _ _⟩⟩
 case round =>
  obtain ⟨i,xs,rfl,hi,rfl,HI⟩:=hrel
  have hi0 : (0 : Int) ≤ i:=by omega
  by_cases hlt : i < nc
  ·have hii : (i : Int) < nc:=by omega
   obtain ⟨⟨k0,nm0,l0⟩,hg⟩ : ∃ x,f.cls[i]? = some x:=⟨f.cls[i]'(by rw [← HC.out.2.1];exact hlt),List.getElem?_eq_getElem _⟩
   obtain ⟨a,rfl,hab,A',c',d0,d1,d2,hnl,hll,hrow,hcap⟩:=(HC.out.1.stay cl_keeps HI.out.1 HC.out.2.2.2).at_ hg
   have e0 : wr.cell? (a.add (i * 3)) = some (.int .i64 k0):=d0
   have e1 : wr.cell? ⟨(a.add (i * 3)).block,(a.add (i * 3)).off + 1,none⟩ = some (.string ⟨nm0.toArray⟩):=d1
   have e2 : wr.cell? ⟨(a.add (i * 3)).block,(a.add (i * 3)).off + 2,none⟩ = some (.slice A' l0.length c'):=d2
   have hx:=HC.out.2.2.1.2.2.2.1 _ (List.mem_of_getElem? hg)
   have hsc : scL f (i + 1) = scL f i ++ stepsCl ⟨k0,nm0,l0⟩:=flatMap_take stepsCl f.cls i _ hg
   have hz1 : (scL f i).length ≤ 1000000:=by
    have h:=flatMap_le stepsCl 1 stepsCl_le (f.cls.take i)
    have h2:=List.length_take_le i f.cls
    unfold scL
    have := HC.out.2.1
    omega
   obtain ⟨W6,hW6⟩ : ∃ W6,W6 = wr.alloc (cellC k0 ⟨nm0.toArray⟩ (.slice A' l0.length c')):=⟨_,rfl⟩
   have hb6 : Below wr.heap.size wr W6:=by rw [hW6];exact below_alloc wr _
   have hp6 : W6.heap[wr.heap.size]? = some (cellC k0 ⟨nm0.toArray⟩ (.slice A' l0.length c')):=by rw [hW6];exact heap_of_alloc wr _
   have H6:=Lib.hid (HI.out.1.chain hb6)
   have hO6:=own_below HI.out.2.1 hb6 (fun g hg => (own_lt HI.out.2.1 g hg).2)
   have hS6:=HI.out.2.2.on hb6
   by_cases hk : k0 = 1
   ·subst hk
    obtain ⟨a0,r,rfl⟩ : ∃ a0 r,l0 = a0 :: r:=by
     cases l0 with
     | nil => exact absurd rfl (hx.1 rfl)
     | cons a r => exact ⟨a,r,rfl⟩
    obtain ⟨ek,en,es,el⟩:=a0
    obtain ⟨b,Ae,ce,rfl,hbb0,q0,q1,q2,q3,hs0,hl0,hrow0⟩:=hrow.at_ (i:=0) rfl
    rw [add_zero4] at q0 q1 q2 q3
    obtain ⟨R,hR⟩ : ∃ R,R = if c' = 1 then b else b.add 4:=⟨_,rfl⟩
    obtain ⟨nl,hnl2⟩ : ∃ nl,nl = (Ex.mk ek en es el :: r).length:=⟨_,rfl⟩
    have hnl1 : 1 ≤ nl:=by rw [hnl2,List.length_cons];omega
    have hsl : ∀ W,(Instr.slice 44 (.slice (some b) nl c') (some (.int .i64 1)) none none).run Tryz.prog W = .ok (.slice (some R) (nl - 1) (c' - 1)) W:=fun W => by rw [hR];exact slice_one b nl c' hnl1 W
    have hri : nl - 1 = r.length:=by rw [hnl2,List.length_cons];omega
    have hrr : ExRow wr w.heap.size r (some R):=by
     rw [hR]
     split
     ·have h0 : r = []:=by
       have : nl ≤ c':=by rw [hnl2];exact hcap
       exact List.eq_nil_of_length_eq_zero (by omega)
      rw [h0]
      exact .nil _
     ·exact hrow.tail
    obtain ⟨z,hz⟩ : ∃ z,z = (scL f i).length:=⟨_,rfl⟩
    rw [← hz] at hz1 hO6
    have HSC : Hid (scL f (i + 1) = scL f i ++ [⟨exVars (.mk ek en es el),plainL r⟩]):=Lib.hid hsc
    have HZ : Hid (z + 1 ≤ 4000000):=Lib.hid (by omega)
    have HZZ:=Lib.hid hz
    have HLO : Hid (W1.heap.size ≤ W6.heap.size):=Lib.hid H6.out.size
    have HPn : Hid (∀ x ∈ plainL r,x.length ≤ maxLen):=Lib.hid (plainL_lens hrr)
    have hB0 : w.heap.size ≤ wr.heap.size:=Nat.le_trans HC.out.2.2.2 HI.out.1.size
    have hown : ∀ g,u3.ownBlock = some g → W1.heap.size ≤ g ∧ g < wr.heap.size:=own_lt HI.out.2.1
    obtain ⟨S,hS⟩ : ∃ S : World → Prop,S = fun W => W.cell? ⟨wr.heap.size,2,none⟩ = some (.slice (some b) nl c') ∧ W.cell? b = some (.int .i64 ek) ∧ W.cell? ⟨b.block,b.off + 1,none⟩ = some (.int .i64 en) ∧ W.cell? ⟨b.block,b.off + 2,none⟩ = some (.string ⟨es.toArray⟩) ∧ W.cell? ⟨b.block,b.off + 3,none⟩ = some (.slice Ae el.length ce):=⟨_,rfl⟩
    have HS2 : Hid (∀ W,Below W6.heap.size W6 W → S W):=Lib.hid (fun W hb => by
     rw [hS]
     have h:=hb6.chain hb
     have hbl : b.block < wr.heap.size:=Nat.lt_of_lt_of_le hbb0 hB0
     exact ⟨by rw [hnl2];exact cell_of_block (kept_box hb hp6) 2 rfl,(h.cell hbl).trans q0,(h.cell (p:=⟨b.block,b.off + 1,none⟩) hbl).trans q1,(h.cell (p:=⟨b.block,b.off + 2,none⟩) hbl).trans q2,(h.cell (p:=⟨b.block,b.off + 3,none⟩) hbl).trans q3⟩)
    have HLD : Hid (∀ W,S W → W.cell? ⟨wr.heap.size,2,none⟩ = some (.slice (some b) nl c') ∧ W.cell? b = some (.int .i64 ek) ∧ W.cell? ⟨b.block,b.off + 1,none⟩ = some (.int .i64 en) ∧ W.cell? ⟨b.block,b.off + 2,none⟩ = some (.string ⟨es.toArray⟩) ∧ W.cell? ⟨b.block,b.off + 3,none⟩ = some (.slice Ae el.length ce)):=Lib.hid (fun W hs => by rw [hS] at hs;exact hs)
    have HSG : Hid (∀ W W',S W → W.grownBy W' u3.ownBlock → S W'):=Lib.hid (fun W W' hs hg => by
     rw [hS] at hs ⊢
     obtain ⟨s1,s2,s3,s4,s5⟩:=hs
     have n1 : u3.ownBlock ≠ some wr.heap.size:=fun e => Nat.lt_irrefl _ (hown _ e).2
     have n2 : u3.ownBlock ≠ some b.block:=fun e => by
      have := (hown _ e).1
      have := HC.out.2.2.2
      omega
     exact ⟨grown_cellne hg s1 n1,grown_cellne hg s2 n2,grown_cellne hg s3 n2,grown_cellne hg s4 n2,grown_cellne hg s5 n2⟩)
    have HVa : Hid (∀ W,Below W6.heap.size W6 W → Calls Tryz.prog 130 #[exprV ek en ⟨es.toArray⟩ (.slice Ae el.length ce)] W fun e w' => ∃ (v : Value) (m : List (List UInt8)) (B : Nat),e = .returned v ∧ W.heap.size ≤ B ∧ w'.ownsRow B 9 1 v m.length (m.map encS) ∧ (∀ x,x ∈ m ↔ x ∈ exVars (.mk ek en es el)) ∧ (∀ x ∈ m,x.length ≤ maxLen) ∧ Below W.heap.size W w'):=Lib.hid (fun W hb =>
     vars_all ek en es el Ae ce W (hrow0.keep (fun q hq => (hb6.chain hb).cell (Nat.lt_of_lt_of_le hq hB0)) (Nat.le_trans hB0 (hb6.chain hb).size)) hs0 hl0 (hx.2.2 _ (List.mem_cons_self ..)))
    have HPl : Hid (∀ W,Below W6.heap.size W6 W → Calls Tryz.prog 131 #[.slice (some R) (nl - 1) (c' - 1)] W fun e w' => ∃ v,e = .returned v ∧ w'.ownsRow W.heap.size 9 1 v (plainL r).length ((plainL r).map encS) ∧ Below W.heap.size W w'):=Lib.hid (fun W hb =>
     plain_any r (some R) (c' - 1) (nl - 1) hri (by rw [hri];have := hx.2.1;rw [List.length_cons] at this;omega) W (hrr.keep (fun q hq => (hb6.chain hb).cell (Nat.lt_of_lt_of_le hq hB0)) (Nat.le_trans hB0 (hb6.chain hb).size)))
    have FB0:=Lib.hid (Below.refl W6.heap.size W6).drew
    have FO0 : Hid (W6.drew.ownsRow W1.heap.size 172 2 u3 z xs):=Lib.hid hO6
    have FS0 : Hid (StepsAt W6.drew W1.heap.size u3.ownBlock (scL f i) xs):=Lib.hid (hS6.on (Below.refl _ _).drew)
    have g0:=HS2.out _ FB0.out
    rw [← hnl2] at hW6 e2
    clear hx hsc hz1 hz hb6 hp6 hO6 hS6 hrow hbb0 q0 q1 q2 q3 hs0 hl0 hrow0 hR hnl2 hri hrr hB0 hown hS hg d0 d1 d2 hnl hll hcap hab
    go_wp2
    rw [← hW6]
    clear hW6 e0 e1 e2
    obtain ⟨x0,hx0⟩ : ∃ X,X = W6.drew:=⟨_,rfl⟩
    refine wp_region_held (S:=S) hmx ?_
    change wpAnyH _ _ _ _ _ 14 #[false,false,false,false,false,false,false,false,false,false,false,false,false,false] _ W6.drew
    rw [← hx0] at FB0 FO0 FS0 g0 ⊢
    clear hx0
    refine tk 0 18 (u3) g0 ?v ?_
    case v => intro Wx hSx;go_simp
    refine tk 1 19 (.pointer (some ⟨wr.heap.size,2,none⟩)) g0 ?v ?_
    case v => intro Wx hSx;go_simp
    refine tk 2 20 (.slice (some b) nl c') g0 ?v ?_
    case v => intro Wx hSx;obtain ⟨z1,z2,z3,z4,z5⟩:=HLD.out Wx hSx;go_simp
    refine tk 3 21 (.pointer (some b)) g0 ?v ?_
    case v => intro Wx hSx;go_simp;intro h0;omega
    try simp only [Act.put,List.setIfInBounds_toArray,List.set_cons_zero,List.set_cons_succ]
    refine tk 4 22 (exprV ek en ⟨es.toArray⟩ (.slice Ae el.length ce)) g0 ?v ?_
    case v => intro Wx hSx;obtain ⟨z1,z2,z3,z4,z5⟩:=HLD.out Wx hSx;go_simp
    refine tk 6 24 (.pointer (some ⟨wr.heap.size,2,none⟩)) g0 ?v ?_
    case v => intro Wx hSx;go_simp
    refine tk 7 25 (.slice (some b) nl c') g0 ?v ?_
    case v => intro Wx hSx;obtain ⟨z1,z2,z3,z4,z5⟩:=HLD.out Wx hSx;go_simp
    refine tk 8 26 (.slice (some R) (nl - 1) (c' - 1)) g0 ?v ?_
    case v => intro Wx hSx;go_simp
    try simp only [Act.put,List.setIfInBounds_toArray,List.set_cons_zero,List.set_cons_succ]
    try simp only [Act.put,List.setIfInBounds_toArray,List.set_cons_zero,List.set_cons_succ]
    refine o1 5 (fun K hK => ?_)
    go_simp
    (with_reducible refine (HVa.out _ FB0.out).mono ?_)
    rintro e x1 ⟨v23,m23,B23,rfl,hBA,hoA,hmA,hlA,hbb⟩
    obtain ⟨A23,c23,rfl,hnA⟩:=NmR.of_own (lo:=W1.heap.size) (O:=u3.ownBlock) hoA hlA (Nat.le_trans HLO.out (Nat.le_trans FB0.out.size hBA)) (fun g hg => Nat.lt_of_lt_of_le (own_lt FO0.out g hg).2 hBA)
    have FB1:=Lib.hid (FB0.out.chain hbb)
    have FO1:=Lib.hid (own_below FO0.out hbb (fun g hg => (own_lt FO0.out g hg).2))
    have FS1:=Lib.hid (FS0.out.on hbb)
    have F23_1:=Lib.hid hnA
    have FM23:=Lib.hid hmA
    clear hBA hoA hmA hlA hbb hnA
    refine hK _ _ (HS2.out _ FB1.out) ?_
    clear hK K
    try simp only [Act.put,List.setIfInBounds_toArray,List.set_cons_zero,List.set_cons_succ]
    refine o1 9 (fun K hK => ?_)
    go_simp
    (with_reducible refine (HPl.out _ FB1.out).mono ?_)
    rintro e x2 ⟨v27,rfl,hoA,hbb⟩
    obtain ⟨A27,c27,rfl,hnA⟩:=NmR.of_own (lo:=W1.heap.size) (O:=u3.ownBlock) hoA HPn.out (Nat.le_trans HLO.out FB1.out.size) (fun g hg => (own_lt FO1.out g hg).2)
    have FB2:=Lib.hid (FB1.out.chain hbb)
    have FO2:=Lib.hid (own_below FO1.out hbb (fun g hg => (own_lt FO1.out g hg).2))
    have FS2:=Lib.hid (FS1.out.on hbb)
    have F23_2:=Lib.hid (F23_1.out.on hbb)
    have F27_2:=Lib.hid hnA
    clear hoA hbb hnA
    refine hK _ _ (HS2.out _ FB2.out) ?_
    clear hK K
    try simp only [Act.put,List.setIfInBounds_toArray,List.set_cons_zero,List.set_cons_succ]
    refine tk 10 28 (.agg #[.slice A23 m23.length c23,.slice A27 (plainL r).length c27]) (HS2.out _ FB2.out) ?v ?_
    case v => intro Wx hSx;go_simp
    try simp only [Act.put,List.setIfInBounds_toArray,List.set_cons_zero,List.set_cons_succ]
    refine o1 11 (fun K hK => ?_)
    obtain ⟨x3,hX⟩ : ∃ X,X = x2.alloc (.cells #[.slice A23 m23.length c23,.slice A27 (plainL r).length c27] 172):=⟨_,rfl⟩
    have hbb : Below x2.heap.size x2 x3:=by rw [hX];exact below_alloc x2 _
    have hbx : x3.heap[x2.heap.size]? = some (.cells #[.slice A23 m23.length c23,.slice A27 (plainL r).length c27] 172):=by rw [hX];exact heap_of_alloc x2 _
    go_simp
    rw [← hX]
    have FB3:=Lib.hid (FB2.out.chain hbb)
    have FO3:=Lib.hid (own_below FO2.out hbb (fun g hg => (own_lt FO2.out g hg).2))
    have FS3:=Lib.hid (FS2.out.on hbb)
    have F23_3:=Lib.hid (F23_2.out.on hbb)
    have F27_3:=Lib.hid (F27_2.out.on hbb)
    have HRD:=Lib.hid (reads_box (size:=2) (m:=1) hbx rfl)
    have HSV : Hid (StepV x3 W1.heap.size u3.ownBlock ⟨exVars (.mk ek en es el),plainL r⟩ (.slice A23 m23.length c23) (.slice A27 (plainL r).length c27)):=Lib.hid ⟨A23,_,c23,A27,_,c27,m23,rfl,rfl,F23_3.out,FM23.out,F27_3.out⟩
    have HON:=Lib.hid (two_one (a:=.slice A23 m23.length c23) (b:=.slice A27 (plainL r).length c27) rfl rfl)
    clear hbb hbx hX
    refine hK _ _ (HS2.out _ FB3.out) ?_
    clear hK K
    try simp only [Act.put,List.setIfInBounds_toArray,List.set_cons_zero,List.set_cons_succ]
    refine o1 12 (fun K hK => ?_)
    refine wp_append_any x3 _ _ 169 rfl W1.heap.size 172 i0 _ 2 48 Tryz.underlying169 HI0.out.1 HI0.out.2.1 HI0.out.2.2.1 HI0.out.2.2.2 rfl (by decide) u3 z xs rfl FO3.out x3.heap.size (some ⟨x2.heap.size,0,none⟩) 1 _ [.slice A23 m23.length c23,.slice A27 (plainL r).length c27] rfl HRD.out HON.out (by unfold maxLen;have := HZ.out;omega) (by have := HZ.out;omega) (Nat.le_trans HLO.out FB3.out.size) ?_
    intro v' X2 ho2 hg2 hown2
    have hbe:=below_grown FO3.out hg2 (Nat.le_trans HLO.out FB3.out.size)
    have HX2 : Hid (Below W1.heap.size W1 X2 ∧ X2.ownsRow W1.heap.size 172 2 v' (scL f (i + 1)).length (xs ++ [.slice A23 m23.length c23,.slice A27 (plainL r).length c27]) ∧ StepsAt X2 W1.heap.size v'.ownBlock (scL f (i + 1)) (xs ++ [.slice A23 m23.length c23,.slice A27 (plainL r).length c27])):=Lib.hid (by
     refine ⟨(H6.out.chain FB3.out).trans hbe,?_,?_⟩
     ·rw [HSC.out,List.length_append,← HZZ.out];exact ho2
     ·rw [HSC.out];exact (FS3.out.grown hg2 hown2).snoc (HSV.out.grown hg2 hown2))
    have gx:=HSG.out _ _ (HS2.out _ FB3.out) hg2
    refine hK _ _ gx ?_
    clear hK K ho2 hg2 hown2 hbe
    try simp only [Act.put,List.setIfInBounds_toArray,List.set_cons_zero,List.set_cons_succ]
    refine tk 13 3 v' gx ?v ?_
    case v => intro Wx hSx;go_simp
    try simp only [Act.put,List.setIfInBounds_toArray,List.set_cons_zero,List.set_cons_succ]
    refine wpAnyH_done (by kernel_rfl) ?_ _
    go_wp2
    go_roundg (nc - (i + 1))
    case measure => omega
    case rel => exact ⟨i + 1,xs ++ [.slice A23 m23.length c23,.slice A27 (plainL r).length c27],rfl,by omega,by go_num,HX2⟩
   ·have hk' : (k0 == 1) = false:=beq_eq_false_iff_ne.2 hk
    have HE : Hid (scL f (i + 1) = scL f i):=Lib.hid (by
     rw [hsc]
     have : stepsCl ⟨k0,nm0,l0⟩ = []:=if_neg hk
     rw [this,List.append_nil])
    have HX : Hid (Below W1.heap.size W1 W6 ∧ W6.ownsRow W1.heap.size 172 2 u3 (scL f (i + 1)).length xs ∧ StepsAt W6 W1.heap.size u3.ownBlock (scL f (i + 1)) xs):=Lib.hid (by
     rw [HE.out]
     exact ⟨H6.out,hO6,hS6⟩)
    clear hx hsc hz1 hb6 hp6 hO6 hS6 hrow hg d0 d1 d2 hnl hll hcap hab hk
    go_wp2
    rw [← hW6]
    go_roundg (nc - (i + 1))
    case measure => omega
    case rel => exact ⟨i + 1,xs,rfl,by omega,by go_num,HX⟩
  ·have hlt' : ¬ (i : Int) < nc:=by omega
   obtain rfl : i = nc:=by omega
   have hfull : scL f i = f.cls.flatMap stepsCl:=by
    unfold scL
    rw [List.take_of_length_le (by rw [← HC.out.2.1];exact Nat.le_refl _)]
   have hI2:=HI.out
   rw [hfull] at hI2
   have hbx:=kept_box (HI.out.1) HW1.out.2
   have hz0 : (f.cls.flatMap stepsCl).length ≤ 1000000:=by
    have h:=flatMap_le stepsCl 1 stepsCl_le f.cls
    have := HC.out.2.1
    omega
   obtain ⟨Wm,hWm⟩ : ∃ Wm,Wm = wr:=⟨_,rfl⟩
   subst hWm
   have HM:=Lib.hid hI2
   have HZ0:=Lib.hid hz0
   have HBX:=Lib.hid hbx
   have b1:=cell_of_block hbx 1 (v:=.slice Aa na ca) rfl
   clear hfull hI2 hbx hz0 HI
   go_wp2
   go_loopg [3,35] na (fun mm u3 j wr => ∃ (i : Nat) (xs : List Value),mm = na - i ∧ i ≤ na ∧ j = .int .i64 i ∧ Hid (Below W1.heap.size W1 wr ∧ wr.ownsRow W1.heap.size 172 2 u3 (sbL f i).length xs ∧ StepsAt wr W1.heap.size u3.ownBlock (sbL f i) xs))
   case atStart => exact ⟨0,xs,rfl,Nat.zero_le _,rfl,Lib.hid (by rw [sbL_zero];exact HM.out)⟩
   case round =>
    clear b1
    obtain ⟨i,xs,rfl,hi,rfl,HI⟩:=hrel
    have hi0 : (0 : Int) ≤ i:=by omega
    by_cases hlt : i < na
    ·have hii : (i : Int) < na:=by omega
     obtain ⟨⟨k0,⟨ak,an,sa,al⟩,⟨bk,bn,sb,bl⟩⟩,hg⟩ : ∃ x,f.ats[i]? = some x:=⟨f.ats[i]'(by rw [← HA.out.2.1];exact hlt),List.getElem?_eq_getElem _⟩
     obtain ⟨a,rfl,hab,ak',an',sa',al',bk',bn',sb',bl',Aa0,ca0,Ab0,cb0,heq1,heq2,hcs,hls,ra,rb⟩:=(HA.out.1.stay at_keeps HI.out.1 HC.out.2.2.2).at_ hg
     obtain ⟨rfl,rfl,rfl,rfl⟩ : ak' = ak ∧ an' = an ∧ sa' = sa ∧ al' = al:=by injection heq1 with h1 h2 h3 h4;exact ⟨h1.symm,h2.symm,h3.symm,h4.symm⟩
     obtain ⟨rfl,rfl,rfl,rfl⟩ : bk' = bk ∧ bn' = bn ∧ sb' = sb ∧ bl' = bl:=by injection heq2 with h1 h2 h3 h4;exact ⟨h1.symm,h2.symm,h3.symm,h4.symm⟩
     obtain ⟨e0,e1,e2,e3,e4,e5,e6,e7,e8⟩:=hcs.flat
     have hx:=HC.out.2.2.1.2.2.2.2 _ (List.mem_of_getElem? hg)
     have hsc : sbL f (i + 1) = sbL f i ++ stepsAt ⟨k0,.mk ak' an' sa' al',.mk bk' bn' sb' bl'⟩:=by unfold sbL;rw [flatMap_take stepsAt f.ats i _ hg,List.append_assoc]
     have hz1 : (sbL f i).length ≤ 3000000:=by
      have h:=flatMap_le stepsAt 2 stepsAt_le (f.ats.take i)
      have h2:=List.length_take_le i f.ats
      unfold sbL
      rw [List.length_append]
      have := HA.out.2.1
      have := HZ0.out
      omega
     obtain ⟨W6,hW6⟩ : ∃ W6,W6 = wr.alloc (.cells #[.int .i64 k0,.int .i64 ak',.int .i64 an',.string ⟨sa'.toArray⟩,.slice Aa0 al'.length ca0,.int .i64 bk',.int .i64 bn',.string ⟨sb'.toArray⟩,.slice Ab0 bl'.length cb0] 136):=⟨_,rfl⟩
     have hb6 : Below wr.heap.size wr W6:=by rw [hW6];exact below_alloc wr _
     have hp6 : W6.heap[wr.heap.size]? = some (.cells #[.int .i64 k0,.int .i64 ak',.int .i64 an',.string ⟨sa'.toArray⟩,.slice Aa0 al'.length ca0,.int .i64 bk',.int .i64 bn',.string ⟨sb'.toArray⟩,.slice Ab0 bl'.length cb0] 136):=by rw [hW6];exact heap_of_alloc wr _
     have H6:=Lib.hid (HI.out.1.chain hb6)
     have hO6:=own_below HI.out.2.1 hb6 (fun g hg => (own_lt HI.out.2.1 g hg).2)
     have hS6:=HI.out.2.2.on hb6
     by_cases hk : k0 = 1
     ·subst hk
      obtain ⟨z,hz⟩ : ∃ z,z = (sbL f i).length:=⟨_,rfl⟩
      rw [← hz] at hz1 hO6
      have HSC : Hid (sbL f (i + 1) = sbL f i ++ [⟨exVars (.mk ak' an' sa' al'),plainN (.mk bk' bn' sb' bl')⟩,⟨exVars (.mk bk' bn' sb' bl'),plainN (.mk ak' an' sa' al')⟩]):=Lib.hid (by rw [hsc];unfold stepsAt;rw [if_pos rfl])
      have HZ : Hid (z + 2 ≤ 4000000):=Lib.hid (by omega)
      have HZZ:=Lib.hid hz
      have HLO : Hid (W1.heap.size ≤ W6.heap.size):=Lib.hid H6.out.size
      have HPa : Hid (∀ x ∈ plainL [.mk ak' an' sa' al'],x.length ≤ maxLen):=Lib.hid (plain_one hls.1)
      have HPb : Hid (∀ x ∈ plainL [.mk bk' bn' sb' bl'],x.length ≤ maxLen):=Lib.hid (plain_one hls.2.2.1)
      have hB0 : w.heap.size ≤ wr.heap.size:=Nat.le_trans HC.out.2.2.2 HI.out.1.size
      have hown : ∀ g,u3.ownBlock = some g → W1.heap.size ≤ g ∧ g < wr.heap.size:=own_lt HI.out.2.1
      obtain ⟨na0,hna0⟩ : ∃ n,n = al'.length:=⟨_,rfl⟩
      obtain ⟨nb0,hnb0⟩ : ∃ n,n = bl'.length:=⟨_,rfl⟩
      obtain ⟨S,hS⟩ : ∃ S : World → Prop,S = fun W => (W.cell? ⟨wr.heap.size,1,none⟩ = some (.int .i64 ak') ∧ W.cell? ⟨wr.heap.size,2,none⟩ = some (.int .i64 an') ∧ W.cell? ⟨wr.heap.size,3,none⟩ = some (.string ⟨sa'.toArray⟩) ∧ W.cell? ⟨wr.heap.size,4,none⟩ = some (.slice Aa0 na0 ca0)) ∧ (W.cell? ⟨wr.heap.size,5,none⟩ = some (.int .i64 bk') ∧ W.cell? ⟨wr.heap.size,6,none⟩ = some (.int .i64 bn') ∧ W.cell? ⟨wr.heap.size,7,none⟩ = some (.string ⟨sb'.toArray⟩) ∧ W.cell? ⟨wr.heap.size,8,none⟩ = some (.slice Ab0 nb0 cb0)):=⟨_,rfl⟩
      have HS2 : Hid (∀ W,Below W6.heap.size W6 W → S W):=Lib.hid (fun W hb => by
       rw [hS,hna0,hnb0]
       have q:=kept_box hb hp6
       exact ⟨⟨cell_of_block q 1 rfl,cell_of_block q 2 rfl,cell_of_block q 3 rfl,cell_of_block q 4 rfl⟩,⟨cell_of_block q 5 rfl,cell_of_block q 6 rfl,cell_of_block q 7 rfl,cell_of_block q 8 rfl⟩⟩)
      have HLD : Hid (∀ W,S W → (W.cell? ⟨wr.heap.size,1,none⟩ = some (.int .i64 ak') ∧ W.cell? ⟨wr.heap.size,2,none⟩ = some (.int .i64 an') ∧ W.cell? ⟨wr.heap.size,3,none⟩ = some (.string ⟨sa'.toArray⟩) ∧ W.cell? ⟨wr.heap.size,4,none⟩ = some (.slice Aa0 na0 ca0)) ∧ (W.cell? ⟨wr.heap.size,5,none⟩ = some (.int .i64 bk') ∧ W.cell? ⟨wr.heap.size,6,none⟩ = some (.int .i64 bn') ∧ W.cell? ⟨wr.heap.size,7,none⟩ = some (.string ⟨sb'.toArray⟩) ∧ W.cell? ⟨wr.heap.size,8,none⟩ = some (.slice Ab0 nb0 cb0))):=Lib.hid (fun W hs => by rw [hS] at hs;exact hs)
      have HSG : Hid (∀ W W',S W → W.grownBy W' u3.ownBlock → S W'):=Lib.hid (fun W W' hs hg => by
       rw [hS] at hs ⊢
       obtain ⟨⟨s1,s2,s3,s4⟩,⟨s5,s6,s7,s8⟩⟩:=hs
       have n1 : u3.ownBlock ≠ some wr.heap.size:=fun e => Nat.lt_irrefl _ (hown _ e).2
       exact ⟨⟨grown_cellne hg s1 n1,grown_cellne hg s2 n1,grown_cellne hg s3 n1,grown_cellne hg s4 n1⟩,⟨grown_cellne hg s5 n1,grown_cellne hg s6 n1,grown_cellne hg s7 n1,grown_cellne hg s8 n1⟩⟩)
      have HVa : Hid (∀ W,Below W6.heap.size W6 W → Calls Tryz.prog 130 #[exprV ak' an' ⟨sa'.toArray⟩ (.slice Aa0 na0 ca0)] W fun e w' => ∃ (v : Value) (m : List (List UInt8)) (B : Nat),e = .returned v ∧ W.heap.size ≤ B ∧ w'.ownsRow B 9 1 v m.length (m.map encS) ∧ (∀ x,x ∈ m ↔ x ∈ exVars (.mk ak' an' sa' al')) ∧ (∀ x ∈ m,x.length ≤ maxLen) ∧ Below W.heap.size W w'):=Lib.hid (fun W hb => by
       rw [hna0]
       exact vars_all ak' an' sa' al' Aa0 ca0 W (ra.keep (fun q hq => (hb6.chain hb).cell (Nat.lt_of_lt_of_le hq hB0)) (Nat.le_trans hB0 (hb6.chain hb).size)) hls.1 hls.2.1 hx.1)
      have HVb : Hid (∀ W,Below W6.heap.size W6 W → Calls Tryz.prog 130 #[exprV bk' bn' ⟨sb'.toArray⟩ (.slice Ab0 nb0 cb0)] W fun e w' => ∃ (v : Value) (m : List (List UInt8)) (B : Nat),e = .returned v ∧ W.heap.size ≤ B ∧ w'.ownsRow B 9 1 v m.length (m.map encS) ∧ (∀ x,x ∈ m ↔ x ∈ exVars (.mk bk' bn' sb' bl')) ∧ (∀ x ∈ m,x.length ≤ maxLen) ∧ Below W.heap.size W w'):=Lib.hid (fun W hb => by
       rw [hnb0]
       exact vars_all bk' bn' sb' bl' Ab0 cb0 W (rb.keep (fun q hq => (hb6.chain hb).cell (Nat.lt_of_lt_of_le hq hB0)) (Nat.le_trans hB0 (hb6.chain hb).size)) hls.2.2.1 hls.2.2.2 hx.2)
      have HPla : Hid (∀ W g,Below W6.heap.size W6 W → W.heap[g]? = some (exprC ak' an' ⟨sa'.toArray⟩ (.slice Aa0 na0 ca0)) → Calls Tryz.prog 131 #[.slice (some ⟨g,0,none⟩) 1 1] W fun e w' => ∃ v,e = .returned v ∧ w'.ownsRow W.heap.size 9 1 v (plainL [.mk ak' an' sa' al']).length ((plainL [.mk ak' an' sa' al']).map encS) ∧ Below W.heap.size W w'):=Lib.hid (fun W g hb hg => by
       rw [hna0] at hg
       exact plain_any [.mk ak' an' sa' al'] _ 1 1 rfl (by omega) W (ex_one hg (ra.keep (fun q hq => (hb6.chain hb).cell (Nat.lt_of_lt_of_le hq hB0)) (Nat.le_trans hB0 (hb6.chain hb).size)) hls.1 hls.2.1))
      have HPlb : Hid (∀ W g,Below W6.heap.size W6 W → W.heap[g]? = some (exprC bk' bn' ⟨sb'.toArray⟩ (.slice Ab0 nb0 cb0)) → Calls Tryz.prog 131 #[.slice (some ⟨g,0,none⟩) 1 1] W fun e w' => ∃ v,e = .returned v ∧ w'.ownsRow W.heap.size 9 1 v (plainL [.mk bk' bn' sb' bl']).length ((plainL [.mk bk' bn' sb' bl']).map encS) ∧ Below W.heap.size W w'):=Lib.hid (fun W g hb hg => by
       rw [hnb0] at hg
       exact plain_any [.mk bk' bn' sb' bl'] _ 1 1 rfl (by omega) W (ex_one hg (rb.keep (fun q hq => (hb6.chain hb).cell (Nat.lt_of_lt_of_le hq hB0)) (Nat.le_trans hB0 (hb6.chain hb).size)) hls.2.2.1 hls.2.2.2))
      have FB0:=Lib.hid (Below.refl W6.heap.size W6).drew
      have FO0 : Hid (W6.drew.ownsRow W1.heap.size 172 2 u3 z xs):=Lib.hid hO6
      have FS0 : Hid (StepsAt W6.drew W1.heap.size u3.ownBlock (sbL f i) xs):=Lib.hid (hS6.on (Below.refl _ _).drew)
      have g0:=HS2.out _ FB0.out
      rw [← hna0] at hW6 e4
      rw [← hnb0] at hW6 e8
      clear hx hsc hz1 hz hb6 hp6 hO6 hS6 hab hls ra rb hB0 hown hS hg hcs heq1 heq2 hna0 hnb0
      go_wp2
      rw [← hW6]
      clear hW6 e0 e1 e2 e3 e4 e5 e6 e7 e8
      obtain ⟨x0,hx0⟩ : ∃ X,X = W6.drew:=⟨_,rfl⟩
      refine wp_region_held (S:=S) hmx ?_
      change wpAnyH _ _ _ _ _ 20 #[false,false,false,false,false,false,false,false,false,false,false,false,false,false,false,false,false,false,false,false] _ W6.drew
      rw [← hx0] at FB0 FO0 FS0 g0 ⊢
      clear hx0
      refine tk 0 42 (u3) g0 ?v ?_
      case v => intro Wx hSx;go_simp
      refine tk 1 43 (.pointer (some ⟨wr.heap.size,1,none⟩)) g0 ?v ?_
      case v => intro Wx hSx;go_simp
      refine tk 2 44 (exprV ak' an' ⟨sa'.toArray⟩ (.slice Aa0 na0 ca0)) g0 ?v ?_
      case v => intro Wx hSx;obtain ⟨⟨z1,z2,z3,z4⟩,⟨z5,z6,z7,z8⟩⟩:=HLD.out Wx hSx;go_simp
      refine tk 4 46 (.pointer (some ⟨wr.heap.size,5,none⟩)) g0 ?v ?_
      case v => intro Wx hSx;go_simp
      try simp only [Act.put,List.setIfInBounds_toArray,List.set_cons_zero,List.set_cons_succ]
      refine tk 5 47 (exprV bk' bn' ⟨sb'.toArray⟩ (.slice Ab0 nb0 cb0)) g0 ?v ?_
      case v => intro Wx hSx;obtain ⟨⟨z1,z2,z3,z4⟩,⟨z5,z6,z7,z8⟩⟩:=HLD.out Wx hSx;go_simp
      refine tk 9 51 (.pointer (some ⟨wr.heap.size,5,none⟩)) g0 ?v ?_
      case v => intro Wx hSx;go_simp
      refine tk 10 52 (exprV bk' bn' ⟨sb'.toArray⟩ (.slice Ab0 nb0 cb0)) g0 ?v ?_
      case v => intro Wx hSx;obtain ⟨⟨z1,z2,z3,z4⟩,⟨z5,z6,z7,z8⟩⟩:=HLD.out Wx hSx;go_simp
      refine tk 12 54 (.pointer (some ⟨wr.heap.size,1,none⟩)) g0 ?v ?_
      case v => intro Wx hSx;go_simp
      try simp only [Act.put,List.setIfInBounds_toArray,List.set_cons_zero,List.set_cons_succ]
      refine tk 13 55 (exprV ak' an' ⟨sa'.toArray⟩ (.slice Aa0 na0 ca0)) g0 ?v ?_
      case v => intro Wx hSx;obtain ⟨⟨z1,z2,z3,z4⟩,⟨z5,z6,z7,z8⟩⟩:=HLD.out Wx hSx;go_simp
      try simp only [Act.put,List.setIfInBounds_toArray,List.set_cons_zero,List.set_cons_succ]
      refine anyH_three 3 6 14 (by kernel_rfl) rfl rfl rfl (by kernel_rfl) (by kernel_rfl) (by kernel_rfl) (fun K hK => ?_) (fun K hK => ?_) (fun K hK => ?_)
      ·go_simp
       (with_reducible refine (HVa.out _ FB0.out).mono ?_)
       rintro e x1 ⟨v45,m45,B45,rfl,hBA,hoA,hmA,hlA,hbb⟩
       obtain ⟨A45,c45,rfl,hnA⟩:=NmR.of_own (lo:=W1.heap.size) (O:=u3.ownBlock) hoA hlA (Nat.le_trans HLO.out (Nat.le_trans FB0.out.size hBA)) (fun g hg => Nat.lt_of_lt_of_le (own_lt FO0.out g hg).2 hBA)
       have FB1:=Lib.hid (FB0.out.chain hbb)
       have FO1:=Lib.hid (own_below FO0.out hbb (fun g hg => (own_lt FO0.out g hg).2))
       have FS1:=Lib.hid (FS0.out.on hbb)
       have F45_1:=Lib.hid hnA
       have FM45:=Lib.hid hmA
       clear hBA hoA hmA hlA hbb hnA
       refine hK _ _ (HS2.out _ FB1.out) ?_
       clear hK K
       try simp only [Act.put,List.setIfInBounds_toArray,List.set_cons_zero,List.set_cons_succ]
       refine anyH_two 6 14 (by kernel_rfl) rfl rfl (by kernel_rfl) (by kernel_rfl) (fun K hK => ?_) (fun K hK => ?_)
       ·obtain ⟨x2,hx2⟩ : ∃ X,X = x1.alloc (exprC bk' bn' ⟨sb'.toArray⟩ (.slice Ab0 nb0 cb0)):=⟨_,rfl⟩
        have hbb : Below x1.heap.size x1 x2:=by rw [hx2];exact below_alloc x1 _
        have hbx : x2.heap[x1.heap.size]? = some (exprC bk' bn' ⟨sb'.toArray⟩ (.slice Ab0 nb0 cb0)):=by rw [hx2];exact heap_of_alloc x1 _
        go_simp
        rw [← hx2]
        have FB2:=Lib.hid (FB1.out.chain hbb)
        have FO2:=Lib.hid (own_below FO1.out hbb (fun g hg => (own_lt FO1.out g hg).2))
        have FS2:=Lib.hid (FS1.out.on hbb)
        have F45_2:=Lib.hid (F45_1.out.on hbb)
        have F48_2:=Lib.hid hbx
        clear hbb hbx hx2
        refine hK _ _ (HS2.out _ FB2.out) ?_
        clear hK K
        try simp only [Act.put,List.setIfInBounds_toArray,List.set_cons_zero,List.set_cons_succ]
        refine anyH_two 7 14 (by kernel_rfl) rfl rfl (by kernel_rfl) (by kernel_rfl) (fun K hK => ?_) (fun K hK => ?_)
        ·go_simp
         (with_reducible refine (HPlb.out _ _ FB2.out F48_2.out).mono ?_)
         rintro e x3 ⟨v49,rfl,hoA,hbb⟩
         obtain ⟨A49,c49,rfl,hnA⟩:=NmR.of_own (lo:=W1.heap.size) (O:=u3.ownBlock) hoA HPb.out (Nat.le_trans HLO.out FB2.out.size) (fun g hg => (own_lt FO2.out g hg).2)
         have FB3:=Lib.hid (FB2.out.chain hbb)
         have FO3:=Lib.hid (own_below FO2.out hbb (fun g hg => (own_lt FO2.out g hg).2))
         have FS3:=Lib.hid (FS2.out.on hbb)
         have F45_3:=Lib.hid (F45_2.out.on hbb)
         have F48_3:=Lib.hid (kept_box hbb F48_2.out)
         have F49_3:=Lib.hid hnA
         clear hoA hbb hnA
         refine hK _ _ (HS2.out _ FB3.out) ?_
         clear hK K
         try simp only [Act.put,List.setIfInBounds_toArray,List.set_cons_zero,List.set_cons_succ]
         refine tk 8 50 (.agg #[.slice A45 m45.length c45,.slice A49 (plainL [.mk bk' bn' sb' bl']).length c49]) (HS2.out _ FB3.out) ?v ?_
         case v => intro Wx hSx;go_simp
         try simp only [Act.put,List.setIfInBounds_toArray,List.set_cons_zero,List.set_cons_succ]
         refine anyH_two 11 14 (by kernel_rfl) rfl rfl (by kernel_rfl) (by kernel_rfl) (fun K hK => ?_) (fun K hK => ?_)
         ·go_simp
          (with_reducible refine (HVb.out _ FB3.out).mono ?_)
          rintro e x4 ⟨v53,m53,B53,rfl,hBA,hoA,hmA,hlA,hbb⟩
          obtain ⟨A53,c53,rfl,hnA⟩:=NmR.of_own (lo:=W1.heap.size) (O:=u3.ownBlock) hoA hlA (Nat.le_trans HLO.out (Nat.le_trans FB3.out.size hBA)) (fun g hg => Nat.lt_of_lt_of_le (own_lt FO3.out g hg).2 hBA)
          have FB4:=Lib.hid (FB3.out.chain hbb)
          have FO4:=Lib.hid (own_below FO3.out hbb (fun g hg => (own_lt FO3.out g hg).2))
          have FS4:=Lib.hid (FS3.out.on hbb)
          have F45_4:=Lib.hid (F45_3.out.on hbb)
          have F48_4:=Lib.hid (kept_box hbb F48_3.out)
          have F49_4:=Lib.hid (F49_3.out.on hbb)
          have F53_4:=Lib.hid hnA
          have FM53:=Lib.hid hmA
          clear hBA hoA hmA hlA hbb hnA
          refine hK _ _ (HS2.out _ FB4.out) ?_
          clear hK K
          try simp only [Act.put,List.setIfInBounds_toArray,List.set_cons_zero,List.set_cons_succ]
          refine o1 14 (fun K hK => ?_)
          obtain ⟨x5,hx5⟩ : ∃ X,X = x4.alloc (exprC ak' an' ⟨sa'.toArray⟩ (.slice Aa0 na0 ca0)):=⟨_,rfl⟩
          have hbb : Below x4.heap.size x4 x5:=by rw [hx5];exact below_alloc x4 _
          have hbx : x5.heap[x4.heap.size]? = some (exprC ak' an' ⟨sa'.toArray⟩ (.slice Aa0 na0 ca0)):=by rw [hx5];exact heap_of_alloc x4 _
          go_simp
          rw [← hx5]
          have FB5:=Lib.hid (FB4.out.chain hbb)
          have FO5:=Lib.hid (own_below FO4.out hbb (fun g hg => (own_lt FO4.out g hg).2))
          have FS5:=Lib.hid (FS4.out.on hbb)
          have F45_5:=Lib.hid (F45_4.out.on hbb)
          have F48_5:=Lib.hid (kept_box hbb F48_4.out)
          have F49_5:=Lib.hid (F49_4.out.on hbb)
          have F53_5:=Lib.hid (F53_4.out.on hbb)
          have F56_5:=Lib.hid hbx
          clear hbb hbx hx5
          refine hK _ _ (HS2.out _ FB5.out) ?_
          clear hK K
          try simp only [Act.put,List.setIfInBounds_toArray,List.set_cons_zero,List.set_cons_succ]
          refine o1 15 (fun K hK => ?_)
          go_simp
          (with_reducible refine (HPla.out _ _ FB5.out F56_5.out).mono ?_)
          rintro e x6 ⟨v57,rfl,hoA,hbb⟩
          obtain ⟨A57,c57,rfl,hnA⟩:=NmR.of_own (lo:=W1.heap.size) (O:=u3.ownBlock) hoA HPa.out (Nat.le_trans HLO.out FB5.out.size) (fun g hg => (own_lt FO5.out g hg).2)
          have FB6:=Lib.hid (FB5.out.chain hbb)
          have FO6:=Lib.hid (own_below FO5.out hbb (fun g hg => (own_lt FO5.out g hg).2))
          have FS6:=Lib.hid (FS5.out.on hbb)
          have F45_6:=Lib.hid (F45_5.out.on hbb)
          have F48_6:=Lib.hid (kept_box hbb F48_5.out)
          have F49_6:=Lib.hid (F49_5.out.on hbb)
          have F53_6:=Lib.hid (F53_5.out.on hbb)
          have F56_6:=Lib.hid (kept_box hbb F56_5.out)
          have F57_6:=Lib.hid hnA
          clear hoA hbb hnA
          refine hK _ _ (HS2.out _ FB6.out) ?_
          clear hK K
          try simp only [Act.put,List.setIfInBounds_toArray,List.set_cons_zero,List.set_cons_succ]
          refine tk 16 58 (.agg #[.slice A53 m53.length c53,.slice A57 (plainL [.mk ak' an' sa' al']).length c57]) (HS2.out _ FB6.out) ?v ?_
          case v => intro Wx hSx;go_simp
          try simp only [Act.put,List.setIfInBounds_toArray,List.set_cons_zero,List.set_cons_succ]
          refine o1 17 (fun K hK => ?_)
          obtain ⟨x7,hX⟩ : ∃ X,X = x6.alloc (.cells #[.slice A45 m45.length c45,.slice A49 (plainL [.mk bk' bn' sb' bl']).length c49,.slice A53 m53.length c53,.slice A57 (plainL [.mk ak' an' sa' al']).length c57] 172):=⟨_,rfl⟩
          have hbb : Below x6.heap.size x6 x7:=by rw [hX];exact below_alloc x6 _
          have hbx : x7.heap[x6.heap.size]? = some (.cells #[.slice A45 m45.length c45,.slice A49 (plainL [.mk bk' bn' sb' bl']).length c49,.slice A53 m53.length c53,.slice A57 (plainL [.mk ak' an' sa' al']).length c57] 172):=by rw [hX];exact heap_of_alloc x6 _
          go_simp
          rw [← hX]
          have FB7:=Lib.hid (FB6.out.chain hbb)
          have FO7:=Lib.hid (own_below FO6.out hbb (fun g hg => (own_lt FO6.out g hg).2))
          have FS7:=Lib.hid (FS6.out.on hbb)
          have F45_7:=Lib.hid (F45_6.out.on hbb)
          have F48_7:=Lib.hid (kept_box hbb F48_6.out)
          have F49_7:=Lib.hid (F49_6.out.on hbb)
          have F53_7:=Lib.hid (F53_6.out.on hbb)
          have F56_7:=Lib.hid (kept_box hbb F56_6.out)
          have F57_7:=Lib.hid (F57_6.out.on hbb)
          have HRD:=Lib.hid (reads_box (size:=2) (m:=2) hbx rfl)
          have HSV : Hid (StepV x7 W1.heap.size u3.ownBlock ⟨exVars (.mk ak' an' sa' al'),plainN (.mk bk' bn' sb' bl')⟩ (.slice A45 m45.length c45) (.slice A49 (plainL [.mk bk' bn' sb' bl']).length c49) ∧ StepV x7 W1.heap.size u3.ownBlock ⟨exVars (.mk bk' bn' sb' bl'),plainN (.mk ak' an' sa' al')⟩ (.slice A53 m53.length c53) (.slice A57 (plainL [.mk ak' an' sa' al']).length c57)):=Lib.hid ⟨⟨A45,_,c45,A49,_,c49,m45,rfl,rfl,F45_7.out,FM45.out,by rw [← plainL_one];exact F49_7.out⟩,⟨A53,_,c53,A57,_,c57,m53,rfl,rfl,F53_7.out,FM53.out,by rw [← plainL_one];exact F57_7.out⟩⟩
          have HON:=Lib.hid (four_one (a:=.slice A45 m45.length c45) (b:=.slice A49 (plainL [.mk bk' bn' sb' bl']).length c49) (c:=.slice A53 m53.length c53) (d:=.slice A57 (plainL [.mk ak' an' sa' al']).length c57) rfl rfl rfl rfl)
          clear hbb hbx hX
          refine hK _ _ (HS2.out _ FB7.out) ?_
          clear hK K
          try simp only [Act.put,List.setIfInBounds_toArray,List.set_cons_zero,List.set_cons_succ]
          refine o1 18 (fun K hK => ?_)
          refine wp_append_any x7 _ _ 169 rfl W1.heap.size 172 i0 _ 2 48 Tryz.underlying169 HI0.out.1 HI0.out.2.1 HI0.out.2.2.1 HI0.out.2.2.2 rfl (by decide) u3 z xs rfl FO7.out x7.heap.size (some ⟨x6.heap.size,0,none⟩) 2 _ [.slice A45 m45.length c45,.slice A49 (plainL [.mk bk' bn' sb' bl']).length c49,.slice A53 m53.length c53,.slice A57 (plainL [.mk ak' an' sa' al']).length c57] rfl HRD.out HON.out (by unfold maxLen;have := HZ.out;omega) (by have := HZ.out;omega) (Nat.le_trans HLO.out FB7.out.size) ?_
          intro v' X2 ho2 hg2 hown2
          have hbe:=below_grown FO7.out hg2 (Nat.le_trans HLO.out FB7.out.size)
          have HX2 : Hid (Below W1.heap.size W1 X2 ∧ X2.ownsRow W1.heap.size 172 2 v' (sbL f (i + 1)).length (xs ++ [.slice A45 m45.length c45,.slice A49 (plainL [.mk bk' bn' sb' bl']).length c49,.slice A53 m53.length c53,.slice A57 (plainL [.mk ak' an' sa' al']).length c57]) ∧ StepsAt X2 W1.heap.size v'.ownBlock (sbL f (i + 1)) (xs ++ [.slice A45 m45.length c45,.slice A49 (plainL [.mk bk' bn' sb' bl']).length c49,.slice A53 m53.length c53,.slice A57 (plainL [.mk ak' an' sa' al']).length c57])):=Lib.hid (by
           refine ⟨(H6.out.chain FB7.out).trans hbe,?_,?_⟩
           ·rw [HSC.out,List.length_append,← HZZ.out];exact ho2
           ·rw [HSC.out];have h:=((FS7.out.grown hg2 hown2).snoc (HSV.out.1.grown hg2 hown2)).snoc (HSV.out.2.grown hg2 hown2);rw [List.append_assoc,List.append_assoc] at h;exact h)
          have gx:=HSG.out _ _ (HS2.out _ FB7.out) hg2
          refine hK _ _ gx ?_
          clear hK K ho2 hg2 hown2 hbe
          try simp only [Act.put,List.setIfInBounds_toArray,List.set_cons_zero,List.set_cons_succ]
          refine tk 19 3 v' gx ?v ?_
          case v => intro Wx hSx;go_simp
          try simp only [Act.put,List.setIfInBounds_toArray,List.set_cons_zero,List.set_cons_succ]
          refine wpAnyH_done (by kernel_rfl) ?_ _
          go_wp2
          go_roundg (na - (i + 1))
          case measure => omega
          case rel => exact ⟨i + 1,xs ++ [.slice A45 m45.length c45,.slice A49 (plainL [.mk bk' bn' sb' bl']).length c49,.slice A53 m53.length c53,.slice A57 (plainL [.mk ak' an' sa' al']).length c57],rfl,by omega,by go_num,HX2⟩
         ·obtain ⟨x4,hx4⟩ : ∃ X,X = x3.alloc (exprC ak' an' ⟨sa'.toArray⟩ (.slice Aa0 na0 ca0)):=⟨_,rfl⟩
          have hbb : Below x3.heap.size x3 x4:=by rw [hx4];exact below_alloc x3 _
          have hbx : x4.heap[x3.heap.size]? = some (exprC ak' an' ⟨sa'.toArray⟩ (.slice Aa0 na0 ca0)):=by rw [hx4];exact heap_of_alloc x3 _
          go_simp
          rw [← hx4]
          have FB4:=Lib.hid (FB3.out.chain hbb)
          have FO4:=Lib.hid (own_below FO3.out hbb (fun g hg => (own_lt FO3.out g hg).2))
          have FS4:=Lib.hid (FS3.out.on hbb)
          have F45_4:=Lib.hid (F45_3.out.on hbb)
          have F48_4:=Lib.hid (kept_box hbb F48_3.out)
          have F49_4:=Lib.hid (F49_3.out.on hbb)
          have F56_4:=Lib.hid hbx
          clear hbb hbx hx4
          refine hK _ _ (HS2.out _ FB4.out) ?_
          clear hK K
          try simp only [Act.put,List.setIfInBounds_toArray,List.set_cons_zero,List.set_cons_succ]
          refine o1 11 (fun K hK => ?_)
          go_simp
          (with_reducible refine (HVb.out _ FB4.out).mono ?_)
          rintro e x5 ⟨v53,m53,B53,rfl,hBA,hoA,hmA,hlA,hbb⟩
          obtain ⟨A53,c53,rfl,hnA⟩:=NmR.of_own (lo:=W1.heap.size) (O:=u3.ownBlock) hoA hlA (Nat.le_trans HLO.out (Nat.le_trans FB4.out.size hBA)) (fun g hg => Nat.lt_of_lt_of_le (own_lt FO4.out g hg).2 hBA)
          have FB5:=Lib.hid (FB4.out.chain hbb)
          have FO5:=Lib.hid (own_below FO4.out hbb (fun g hg => (own_lt FO4.out g hg).2))
          have FS5:=Lib.hid (FS4.out.on hbb)
          have F45_5:=Lib.hid (F45_4.out.on hbb)
          have F48_5:=Lib.hid (kept_box hbb F48_4.out)
          have F49_5:=Lib.hid (F49_4.out.on hbb)
          have F56_5:=Lib.hid (kept_box hbb F56_4.out)
          have F53_5:=Lib.hid hnA
          have FM53:=Lib.hid hmA
          clear hBA hoA hmA hlA hbb hnA
          refine hK _ _ (HS2.out _ FB5.out) ?_
          clear hK K
          try simp only [Act.put,List.setIfInBounds_toArray,List.set_cons_zero,List.set_cons_succ]
          refine o1 15 (fun K hK => ?_)
          go_simp
          (with_reducible refine (HPla.out _ _ FB5.out F56_5.out).mono ?_)
          rintro e x6 ⟨v57,rfl,hoA,hbb⟩
          obtain ⟨A57,c57,rfl,hnA⟩:=NmR.of_own (lo:=W1.heap.size) (O:=u3.ownBlock) hoA HPa.out (Nat.le_trans HLO.out FB5.out.size) (fun g hg => (own_lt FO5.out g hg).2)
          have FB6:=Lib.hid (FB5.out.chain hbb)
          have FO6:=Lib.hid (own_below FO5.out hbb (fun g hg => (own_lt FO5.out g hg).2))
          have FS6:=Lib.hid (FS5.out.on hbb)
          have F45_6:=Lib.hid (F45_5.out.on hbb)
          have F48_6:=Lib.hid (kept_box hbb F48_5.out)
          have F49_6:=Lib.hid (F49_5.out.on hbb)
          have F56_6:=Lib.hid (kept_box hbb F56_5.out)
          have F53_6:=Lib.hid (F53_5.out.on hbb)
          have F57_6:=Lib.hid hnA
          clear hoA hbb hnA
          refine hK _ _ (HS2.out _ FB6.out) ?_
          clear hK K
          try simp only [Act.put,List.setIfInBounds_toArray,List.set_cons_zero,List.set_cons_succ]
          refine tk 16 58 (.agg #[.slice A53 m53.length c53,.slice A57 (plainL [.mk ak' an' sa' al']).length c57]) (HS2.out _ FB6.out) ?v ?_
          case v => intro Wx hSx;go_simp
          try simp only [Act.put,List.setIfInBounds_toArray,List.set_cons_zero,List.set_cons_succ]
          refine o1 17 (fun K hK => ?_)
          obtain ⟨x7,hX⟩ : ∃ X,X = x6.alloc (.cells #[.slice A45 m45.length c45,.slice A49 (plainL [.mk bk' bn' sb' bl']).length c49,.slice A53 m53.length c53,.slice A57 (plainL [.mk ak' an' sa' al']).length c57] 172):=⟨_,rfl⟩
          have hbb : Below x6.heap.size x6 x7:=by rw [hX];exact below_alloc x6 _
          have hbx : x7.heap[x6.heap.size]? = some (.cells #[.slice A45 m45.length c45,.slice A49 (plainL [.mk bk' bn' sb' bl']).length c49,.slice A53 m53.length c53,.slice A57 (plainL [.mk ak' an' sa' al']).length c57] 172):=by rw [hX];exact heap_of_alloc x6 _
          go_simp
          rw [← hX]
          have FB7:=Lib.hid (FB6.out.chain hbb)
          have FO7:=Lib.hid (own_below FO6.out hbb (fun g hg => (own_lt FO6.out g hg).2))
          have FS7:=Lib.hid (FS6.out.on hbb)
          have F45_7:=Lib.hid (F45_6.out.on hbb)
          have F48_7:=Lib.hid (kept_box hbb F48_6.out)
          have F49_7:=Lib.hid (F49_6.out.on hbb)
          have F56_7:=Lib.hid (kept_box hbb F56_6.out)
          have F53_7:=Lib.hid (F53_6.out.on hbb)
          have F57_7:=Lib.hid (F57_6.out.on hbb)
          have HRD:=Lib.hid (reads_box (size:=2) (m:=2) hbx rfl)
          have HSV : Hid (StepV x7 W1.heap.size u3.ownBlock ⟨exVars (.mk ak' an' sa' al'),plainN (.mk bk' bn' sb' bl')⟩ (.slice A45 m45.length c45) (.slice A49 (plainL [.mk bk' bn' sb' bl']).length c49) ∧ StepV x7 W1.heap.size u3.ownBlock ⟨exVars (.mk bk' bn' sb' bl'),plainN (.mk ak' an' sa' al')⟩ (.slice A53 m53.length c53) (.slice A57 (plainL [.mk ak' an' sa' al']).length c57)):=Lib.hid ⟨⟨A45,_,c45,A49,_,c49,m45,rfl,rfl,F45_7.out,FM45.out,by rw [← plainL_one];exact F49_7.out⟩,⟨A53,_,c53,A57,_,c57,m53,rfl,rfl,F53_7.out,FM53.out,by rw [← plainL_one];exact F57_7.out⟩⟩
          have HON:=Lib.hid (four_one (a:=.slice A45 m45.length c45) (b:=.slice A49 (plainL [.mk bk' bn' sb' bl']).length c49) (c:=.slice A53 m53.length c53) (d:=.slice A57 (plainL [.mk ak' an' sa' al']).length c57) rfl rfl rfl rfl)
          clear hbb hbx hX
          refine hK _ _ (HS2.out _ FB7.out) ?_
          clear hK K
          try simp only [Act.put,List.setIfInBounds_toArray,List.set_cons_zero,List.set_cons_succ]
          refine o1 18 (fun K hK => ?_)
          refine wp_append_any x7 _ _ 169 rfl W1.heap.size 172 i0 _ 2 48 Tryz.underlying169 HI0.out.1 HI0.out.2.1 HI0.out.2.2.1 HI0.out.2.2.2 rfl (by decide) u3 z xs rfl FO7.out x7.heap.size (some ⟨x6.heap.size,0,none⟩) 2 _ [.slice A45 m45.length c45,.slice A49 (plainL [.mk bk' bn' sb' bl']).length c49,.slice A53 m53.length c53,.slice A57 (plainL [.mk ak' an' sa' al']).length c57] rfl HRD.out HON.out (by unfold maxLen;have := HZ.out;omega) (by have := HZ.out;omega) (Nat.le_trans HLO.out FB7.out.size) ?_
          intro v' X2 ho2 hg2 hown2
          have hbe:=below_grown FO7.out hg2 (Nat.le_trans HLO.out FB7.out.size)
          have HX2 : Hid (Below W1.heap.size W1 X2 ∧ X2.ownsRow W1.heap.size 172 2 v' (sbL f (i + 1)).length (xs ++ [.slice A45 m45.length c45,.slice A49 (plainL [.mk bk' bn' sb' bl']).length c49,.slice A53 m53.length c53,.slice A57 (plainL [.mk ak' an' sa' al']).length c57]) ∧ StepsAt X2 W1.heap.size v'.ownBlock (sbL f (i + 1)) (xs ++ [.slice A45 m45.length c45,.slice A49 (plainL [.mk bk' bn' sb' bl']).length c49,.slice A53 m53.length c53,.slice A57 (plainL [.mk ak' an' sa' al']).length c57])):=Lib.hid (by
           refine ⟨(H6.out.chain FB7.out).trans hbe,?_,?_⟩
           ·rw [HSC.out,List.length_append,← HZZ.out];exact ho2
           ·rw [HSC.out];have h:=((FS7.out.grown hg2 hown2).snoc (HSV.out.1.grown hg2 hown2)).snoc (HSV.out.2.grown hg2 hown2);rw [List.append_assoc,List.append_assoc] at h;exact h)
          have gx:=HSG.out _ _ (HS2.out _ FB7.out) hg2
          refine hK _ _ gx ?_
          clear hK K ho2 hg2 hown2 hbe
          try simp only [Act.put,List.setIfInBounds_toArray,List.set_cons_zero,List.set_cons_succ]
          refine tk 19 3 v' gx ?v ?_
          case v => intro Wx hSx;go_simp
          try simp only [Act.put,List.setIfInBounds_toArray,List.set_cons_zero,List.set_cons_succ]
          refine wpAnyH_done (by kernel_rfl) ?_ _
          go_wp2
          go_roundg (na - (i + 1))
          case measure => omega
          case rel => exact ⟨i + 1,xs ++ [.slice A45 m45.length c45,.slice A49 (plainL [.mk bk' bn' sb' bl']).length c49,.slice A53 m53.length c53,.slice A57 (plainL [.mk ak' an' sa' al']).length c57],rfl,by omega,by go_num,HX2⟩
        ·obtain ⟨x3,hx3⟩ : ∃ X,X = x2.alloc (exprC ak' an' ⟨sa'.toArray⟩ (.slice Aa0 na0 ca0)):=⟨_,rfl⟩
         have hbb : Below x2.heap.size x2 x3:=by rw [hx3];exact below_alloc x2 _
         have hbx : x3.heap[x2.heap.size]? = some (exprC ak' an' ⟨sa'.toArray⟩ (.slice Aa0 na0 ca0)):=by rw [hx3];exact heap_of_alloc x2 _
         go_simp
         rw [← hx3]
         have FB3:=Lib.hid (FB2.out.chain hbb)
         have FO3:=Lib.hid (own_below FO2.out hbb (fun g hg => (own_lt FO2.out g hg).2))
         have FS3:=Lib.hid (FS2.out.on hbb)
         have F45_3:=Lib.hid (F45_2.out.on hbb)
         have F48_3:=Lib.hid (kept_box hbb F48_2.out)
         have F56_3:=Lib.hid hbx
         clear hbb hbx hx3
         refine hK _ _ (HS2.out _ FB3.out) ?_
         clear hK K
         try simp only [Act.put,List.setIfInBounds_toArray,List.set_cons_zero,List.set_cons_succ]
         refine o1 7 (fun K hK => ?_)
         go_simp
         (with_reducible refine (HPlb.out _ _ FB3.out F48_3.out).mono ?_)
         rintro e x4 ⟨v49,rfl,hoA,hbb⟩
         obtain ⟨A49,c49,rfl,hnA⟩:=NmR.of_own (lo:=W1.heap.size) (O:=u3.ownBlock) hoA HPb.out (Nat.le_trans HLO.out FB3.out.size) (fun g hg => (own_lt FO3.out g hg).2)
         have FB4:=Lib.hid (FB3.out.chain hbb)
         have FO4:=Lib.hid (own_below FO3.out hbb (fun g hg => (own_lt FO3.out g hg).2))
         have FS4:=Lib.hid (FS3.out.on hbb)
         have F45_4:=Lib.hid (F45_3.out.on hbb)
         have F48_4:=Lib.hid (kept_box hbb F48_3.out)
         have F56_4:=Lib.hid (kept_box hbb F56_3.out)
         have F49_4:=Lib.hid hnA
         clear hoA hbb hnA
         refine hK _ _ (HS2.out _ FB4.out) ?_
         clear hK K
         try simp only [Act.put,List.setIfInBounds_toArray,List.set_cons_zero,List.set_cons_succ]
         refine tk 8 50 (.agg #[.slice A45 m45.length c45,.slice A49 (plainL [.mk bk' bn' sb' bl']).length c49]) (HS2.out _ FB4.out) ?v ?_
         case v => intro Wx hSx;go_simp
         try simp only [Act.put,List.setIfInBounds_toArray,List.set_cons_zero,List.set_cons_succ]
         refine o1 11 (fun K hK => ?_)
         go_simp
         (with_reducible refine (HVb.out _ FB4.out).mono ?_)
         rintro e x5 ⟨v53,m53,B53,rfl,hBA,hoA,hmA,hlA,hbb⟩
         obtain ⟨A53,c53,rfl,hnA⟩:=NmR.of_own (lo:=W1.heap.size) (O:=u3.ownBlock) hoA hlA (Nat.le_trans HLO.out (Nat.le_trans FB4.out.size hBA)) (fun g hg => Nat.lt_of_lt_of_le (own_lt FO4.out g hg).2 hBA)
         have FB5:=Lib.hid (FB4.out.chain hbb)
         have FO5:=Lib.hid (own_below FO4.out hbb (fun g hg => (own_lt FO4.out g hg).2))
         have FS5:=Lib.hid (FS4.out.on hbb)
         have F45_5:=Lib.hid (F45_4.out.on hbb)
         have F48_5:=Lib.hid (kept_box hbb F48_4.out)
         have F56_5:=Lib.hid (kept_box hbb F56_4.out)
         have F49_5:=Lib.hid (F49_4.out.on hbb)
         have F53_5:=Lib.hid hnA
         have FM53:=Lib.hid hmA
         clear hBA hoA hmA hlA hbb hnA
         refine hK _ _ (HS2.out _ FB5.out) ?_
         clear hK K
         try simp only [Act.put,List.setIfInBounds_toArray,List.set_cons_zero,List.set_cons_succ]
         refine o1 15 (fun K hK => ?_)
         go_simp
         (with_reducible refine (HPla.out _ _ FB5.out F56_5.out).mono ?_)
         rintro e x6 ⟨v57,rfl,hoA,hbb⟩
         obtain ⟨A57,c57,rfl,hnA⟩:=NmR.of_own (lo:=W1.heap.size) (O:=u3.ownBlock) hoA HPa.out (Nat.le_trans HLO.out FB5.out.size) (fun g hg => (own_lt FO5.out g hg).2)
         have FB6:=Lib.hid (FB5.out.chain hbb)
         have FO6:=Lib.hid (own_below FO5.out hbb (fun g hg => (own_lt FO5.out g hg).2))
         have FS6:=Lib.hid (FS5.out.on hbb)
         have F45_6:=Lib.hid (F45_5.out.on hbb)
         have F48_6:=Lib.hid (kept_box hbb F48_5.out)
         have F56_6:=Lib.hid (kept_box hbb F56_5.out)
         have F49_6:=Lib.hid (F49_5.out.on hbb)
         have F53_6:=Lib.hid (F53_5.out.on hbb)
         have F57_6:=Lib.hid hnA
         clear hoA hbb hnA
         refine hK _ _ (HS2.out _ FB6.out) ?_
         clear hK K
         try simp only [Act.put,List.setIfInBounds_toArray,List.set_cons_zero,List.set_cons_succ]
         refine tk 16 58 (.agg #[.slice A53 m53.length c53,.slice A57 (plainL [.mk ak' an' sa' al']).length c57]) (HS2.out _ FB6.out) ?v ?_
         case v => intro Wx hSx;go_simp
         try simp only [Act.put,List.setIfInBounds_toArray,List.set_cons_zero,List.set_cons_succ]
         refine o1 17 (fun K hK => ?_)
         obtain ⟨x7,hX⟩ : ∃ X,X = x6.alloc (.cells #[.slice A45 m45.length c45,.slice A49 (plainL [.mk bk' bn' sb' bl']).length c49,.slice A53 m53.length c53,.slice A57 (plainL [.mk ak' an' sa' al']).length c57] 172):=⟨_,rfl⟩
         have hbb : Below x6.heap.size x6 x7:=by rw [hX];exact below_alloc x6 _
         have hbx : x7.heap[x6.heap.size]? = some (.cells #[.slice A45 m45.length c45,.slice A49 (plainL [.mk bk' bn' sb' bl']).length c49,.slice A53 m53.length c53,.slice A57 (plainL [.mk ak' an' sa' al']).length c57] 172):=by rw [hX];exact heap_of_alloc x6 _
         go_simp
         rw [← hX]
         have FB7:=Lib.hid (FB6.out.chain hbb)
         have FO7:=Lib.hid (own_below FO6.out hbb (fun g hg => (own_lt FO6.out g hg).2))
         have FS7:=Lib.hid (FS6.out.on hbb)
         have F45_7:=Lib.hid (F45_6.out.on hbb)
         have F48_7:=Lib.hid (kept_box hbb F48_6.out)
         have F56_7:=Lib.hid (kept_box hbb F56_6.out)
         have F49_7:=Lib.hid (F49_6.out.on hbb)
         have F53_7:=Lib.hid (F53_6.out.on hbb)
         have F57_7:=Lib.hid (F57_6.out.on hbb)
         have HRD:=Lib.hid (reads_box (size:=2) (m:=2) hbx rfl)
         have HSV : Hid (StepV x7 W1.heap.size u3.ownBlock ⟨exVars (.mk ak' an' sa' al'),plainN (.mk bk' bn' sb' bl')⟩ (.slice A45 m45.length c45) (.slice A49 (plainL [.mk bk' bn' sb' bl']).length c49) ∧ StepV x7 W1.heap.size u3.ownBlock ⟨exVars (.mk bk' bn' sb' bl'),plainN (.mk ak' an' sa' al')⟩ (.slice A53 m53.length c53) (.slice A57 (plainL [.mk ak' an' sa' al']).length c57)):=Lib.hid ⟨⟨A45,_,c45,A49,_,c49,m45,rfl,rfl,F45_7.out,FM45.out,by rw [← plainL_one];exact F49_7.out⟩,⟨A53,_,c53,A57,_,c57,m53,rfl,rfl,F53_7.out,FM53.out,by rw [← plainL_one];exact F57_7.out⟩⟩
         have HON:=Lib.hid (four_one (a:=.slice A45 m45.length c45) (b:=.slice A49 (plainL [.mk bk' bn' sb' bl']).length c49) (c:=.slice A53 m53.length c53) (d:=.slice A57 (plainL [.mk ak' an' sa' al']).length c57) rfl rfl rfl rfl)
         clear hbb hbx hX
         refine hK _ _ (HS2.out _ FB7.out) ?_
         clear hK K
         try simp only [Act.put,List.setIfInBounds_toArray,List.set_cons_zero,List.set_cons_succ]
         refine o1 18 (fun K hK => ?_)
         refine wp_append_any x7 _ _ 169 rfl W1.heap.size 172 i0 _ 2 48 Tryz.underlying169 HI0.out.1 HI0.out.2.1 HI0.out.2.2.1 HI0.out.2.2.2 rfl (by decide) u3 z xs rfl FO7.out x7.heap.size (some ⟨x6.heap.size,0,none⟩) 2 _ [.slice A45 m45.length c45,.slice A49 (plainL [.mk bk' bn' sb' bl']).length c49,.slice A53 m53.length c53,.slice A57 (plainL [.mk ak' an' sa' al']).length c57] rfl HRD.out HON.out (by unfold maxLen;have := HZ.out;omega) (by have := HZ.out;omega) (Nat.le_trans HLO.out FB7.out.size) ?_
         intro v' X2 ho2 hg2 hown2
         have hbe:=below_grown FO7.out hg2 (Nat.le_trans HLO.out FB7.out.size)
         have HX2 : Hid (Below W1.heap.size W1 X2 ∧ X2.ownsRow W1.heap.size 172 2 v' (sbL f (i + 1)).length (xs ++ [.slice A45 m45.length c45,.slice A49 (plainL [.mk bk' bn' sb' bl']).length c49,.slice A53 m53.length c53,.slice A57 (plainL [.mk ak' an' sa' al']).length c57]) ∧ StepsAt X2 W1.heap.size v'.ownBlock (sbL f (i + 1)) (xs ++ [.slice A45 m45.length c45,.slice A49 (plainL [.mk bk' bn' sb' bl']).length c49,.slice A53 m53.length c53,.slice A57 (plainL [.mk ak' an' sa' al']).length c57])):=Lib.hid (by
          refine ⟨(H6.out.chain FB7.out).trans hbe,?_,?_⟩
          ·rw [HSC.out,List.length_append,← HZZ.out];exact ho2
          ·rw [HSC.out];have h:=((FS7.out.grown hg2 hown2).snoc (HSV.out.1.grown hg2 hown2)).snoc (HSV.out.2.grown hg2 hown2);rw [List.append_assoc,List.append_assoc] at h;exact h)
         have gx:=HSG.out _ _ (HS2.out _ FB7.out) hg2
         refine hK _ _ gx ?_
         clear hK K ho2 hg2 hown2 hbe
         try simp only [Act.put,List.setIfInBounds_toArray,List.set_cons_zero,List.set_cons_succ]
         refine tk 19 3 v' gx ?v ?_
         case v => intro Wx hSx;go_simp
         try simp only [Act.put,List.setIfInBounds_toArray,List.set_cons_zero,List.set_cons_succ]
         refine wpAnyH_done (by kernel_rfl) ?_ _
         go_wp2
         go_roundg (na - (i + 1))
         case measure => omega
         case rel => exact ⟨i + 1,xs ++ [.slice A45 m45.length c45,.slice A49 (plainL [.mk bk' bn' sb' bl']).length c49,.slice A53 m53.length c53,.slice A57 (plainL [.mk ak' an' sa' al']).length c57],rfl,by omega,by go_num,HX2⟩
       ·obtain ⟨x2,hx2⟩ : ∃ X,X = x1.alloc (exprC ak' an' ⟨sa'.toArray⟩ (.slice Aa0 na0 ca0)):=⟨_,rfl⟩
        have hbb : Below x1.heap.size x1 x2:=by rw [hx2];exact below_alloc x1 _
        have hbx : x2.heap[x1.heap.size]? = some (exprC ak' an' ⟨sa'.toArray⟩ (.slice Aa0 na0 ca0)):=by rw [hx2];exact heap_of_alloc x1 _
        go_simp
        rw [← hx2]
        have FB2:=Lib.hid (FB1.out.chain hbb)
        have FO2:=Lib.hid (own_below FO1.out hbb (fun g hg => (own_lt FO1.out g hg).2))
        have FS2:=Lib.hid (FS1.out.on hbb)
        have F45_2:=Lib.hid (F45_1.out.on hbb)
        have F56_2:=Lib.hid hbx
        clear hbb hbx hx2
        refine hK _ _ (HS2.out _ FB2.out) ?_
        clear hK K
        try simp only [Act.put,List.setIfInBounds_toArray,List.set_cons_zero,List.set_cons_succ]
        refine o1 6 (fun K hK => ?_)
        obtain ⟨x3,hx3⟩ : ∃ X,X = x2.alloc (exprC bk' bn' ⟨sb'.toArray⟩ (.slice Ab0 nb0 cb0)):=⟨_,rfl⟩
        have hbb : Below x2.heap.size x2 x3:=by rw [hx3];exact below_alloc x2 _
        have hbx : x3.heap[x2.heap.size]? = some (exprC bk' bn' ⟨sb'.toArray⟩ (.slice Ab0 nb0 cb0)):=by rw [hx3];exact heap_of_alloc x2 _
        go_simp
        rw [← hx3]
        have FB3:=Lib.hid (FB2.out.chain hbb)
        have FO3:=Lib.hid (own_below FO2.out hbb (fun g hg => (own_lt FO2.out g hg).2))
        have FS3:=Lib.hid (FS2.out.on hbb)
        have F45_3:=Lib.hid (F45_2.out.on hbb)
        have F56_3:=Lib.hid (kept_box hbb F56_2.out)
        have F48_3:=Lib.hid hbx
        clear hbb hbx hx3
        refine hK _ _ (HS2.out _ FB3.out) ?_
        clear hK K
        try simp only [Act.put,List.setIfInBounds_toArray,List.set_cons_zero,List.set_cons_succ]
        refine o1 7 (fun K hK => ?_)
        go_simp
        (with_reducible refine (HPlb.out _ _ FB3.out F48_3.out).mono ?_)
        rintro e x4 ⟨v49,rfl,hoA,hbb⟩
        obtain ⟨A49,c49,rfl,hnA⟩:=NmR.of_own (lo:=W1.heap.size) (O:=u3.ownBlock) hoA HPb.out (Nat.le_trans HLO.out FB3.out.size) (fun g hg => (own_lt FO3.out g hg).2)
        have FB4:=Lib.hid (FB3.out.chain hbb)
        have FO4:=Lib.hid (own_below FO3.out hbb (fun g hg => (own_lt FO3.out g hg).2))
        have FS4:=Lib.hid (FS3.out.on hbb)
        have F45_4:=Lib.hid (F45_3.out.on hbb)
        have F56_4:=Lib.hid (kept_box hbb F56_3.out)
        have F48_4:=Lib.hid (kept_box hbb F48_3.out)
        have F49_4:=Lib.hid hnA
        clear hoA hbb hnA
        refine hK _ _ (HS2.out _ FB4.out) ?_
        clear hK K
        try simp only [Act.put,List.setIfInBounds_toArray,List.set_cons_zero,List.set_cons_succ]
        refine tk 8 50 (.agg #[.slice A45 m45.length c45,.slice A49 (plainL [.mk bk' bn' sb' bl']).length c49]) (HS2.out _ FB4.out) ?v ?_
        case v => intro Wx hSx;go_simp
        try simp only [Act.put,List.setIfInBounds_toArray,List.set_cons_zero,List.set_cons_succ]
        refine o1 11 (fun K hK => ?_)
        go_simp
        (with_reducible refine (HVb.out _ FB4.out).mono ?_)
        rintro e x5 ⟨v53,m53,B53,rfl,hBA,hoA,hmA,hlA,hbb⟩
        obtain ⟨A53,c53,rfl,hnA⟩:=NmR.of_own (lo:=W1.heap.size) (O:=u3.ownBlock) hoA hlA (Nat.le_trans HLO.out (Nat.le_trans FB4.out.size hBA)) (fun g hg => Nat.lt_of_lt_of_le (own_lt FO4.out g hg).2 hBA)
        have FB5:=Lib.hid (FB4.out.chain hbb)
        have FO5:=Lib.hid (own_below FO4.out hbb (fun g hg => (own_lt FO4.out g hg).2))
        have FS5:=Lib.hid (FS4.out.on hbb)
        have F45_5:=Lib.hid (F45_4.out.on hbb)
        have F56_5:=Lib.hid (kept_box hbb F56_4.out)
        have F48_5:=Lib.hid (kept_box hbb F48_4.out)
        have F49_5:=Lib.hid (F49_4.out.on hbb)
        have F53_5:=Lib.hid hnA
        have FM53:=Lib.hid hmA
        clear hBA hoA hmA hlA hbb hnA
        refine hK _ _ (HS2.out _ FB5.out) ?_
        clear hK K
        try simp only [Act.put,List.setIfInBounds_toArray,List.set_cons_zero,List.set_cons_succ]
        refine o1 15 (fun K hK => ?_)
        go_simp
        (with_reducible refine (HPla.out _ _ FB5.out F56_5.out).mono ?_)
        rintro e x6 ⟨v57,rfl,hoA,hbb⟩
        obtain ⟨A57,c57,rfl,hnA⟩:=NmR.of_own (lo:=W1.heap.size) (O:=u3.ownBlock) hoA HPa.out (Nat.le_trans HLO.out FB5.out.size) (fun g hg => (own_lt FO5.out g hg).2)
        have FB6:=Lib.hid (FB5.out.chain hbb)
        have FO6:=Lib.hid (own_below FO5.out hbb (fun g hg => (own_lt FO5.out g hg).2))
        have FS6:=Lib.hid (FS5.out.on hbb)
        have F45_6:=Lib.hid (F45_5.out.on hbb)
        have F56_6:=Lib.hid (kept_box hbb F56_5.out)
        have F48_6:=Lib.hid (kept_box hbb F48_5.out)
        have F49_6:=Lib.hid (F49_5.out.on hbb)
        have F53_6:=Lib.hid (F53_5.out.on hbb)
        have F57_6:=Lib.hid hnA
        clear hoA hbb hnA
        refine hK _ _ (HS2.out _ FB6.out) ?_
        clear hK K
        try simp only [Act.put,List.setIfInBounds_toArray,List.set_cons_zero,List.set_cons_succ]
        refine tk 16 58 (.agg #[.slice A53 m53.length c53,.slice A57 (plainL [.mk ak' an' sa' al']).length c57]) (HS2.out _ FB6.out) ?v ?_
        case v => intro Wx hSx;go_simp
        try simp only [Act.put,List.setIfInBounds_toArray,List.set_cons_zero,List.set_cons_succ]
        refine o1 17 (fun K hK => ?_)
        obtain ⟨x7,hX⟩ : ∃ X,X = x6.alloc (.cells #[.slice A45 m45.length c45,.slice A49 (plainL [.mk bk' bn' sb' bl']).length c49,.slice A53 m53.length c53,.slice A57 (plainL [.mk ak' an' sa' al']).length c57] 172):=⟨_,rfl⟩
        have hbb : Below x6.heap.size x6 x7:=by rw [hX];exact below_alloc x6 _
        have hbx : x7.heap[x6.heap.size]? = some (.cells #[.slice A45 m45.length c45,.slice A49 (plainL [.mk bk' bn' sb' bl']).length c49,.slice A53 m53.length c53,.slice A57 (plainL [.mk ak' an' sa' al']).length c57] 172):=by rw [hX];exact heap_of_alloc x6 _
        go_simp
        rw [← hX]
        have FB7:=Lib.hid (FB6.out.chain hbb)
        have FO7:=Lib.hid (own_below FO6.out hbb (fun g hg => (own_lt FO6.out g hg).2))
        have FS7:=Lib.hid (FS6.out.on hbb)
        have F45_7:=Lib.hid (F45_6.out.on hbb)
        have F56_7:=Lib.hid (kept_box hbb F56_6.out)
        have F48_7:=Lib.hid (kept_box hbb F48_6.out)
        have F49_7:=Lib.hid (F49_6.out.on hbb)
        have F53_7:=Lib.hid (F53_6.out.on hbb)
        have F57_7:=Lib.hid (F57_6.out.on hbb)
        have HRD:=Lib.hid (reads_box (size:=2) (m:=2) hbx rfl)
        have HSV : Hid (StepV x7 W1.heap.size u3.ownBlock ⟨exVars (.mk ak' an' sa' al'),plainN (.mk bk' bn' sb' bl')⟩ (.slice A45 m45.length c45) (.slice A49 (plainL [.mk bk' bn' sb' bl']).length c49) ∧ StepV x7 W1.heap.size u3.ownBlock ⟨exVars (.mk bk' bn' sb' bl'),plainN (.mk ak' an' sa' al')⟩ (.slice A53 m53.length c53) (.slice A57 (plainL [.mk ak' an' sa' al']).length c57)):=Lib.hid ⟨⟨A45,_,c45,A49,_,c49,m45,rfl,rfl,F45_7.out,FM45.out,by rw [← plainL_one];exact F49_7.out⟩,⟨A53,_,c53,A57,_,c57,m53,rfl,rfl,F53_7.out,FM53.out,by rw [← plainL_one];exact F57_7.out⟩⟩
        have HON:=Lib.hid (four_one (a:=.slice A45 m45.length c45) (b:=.slice A49 (plainL [.mk bk' bn' sb' bl']).length c49) (c:=.slice A53 m53.length c53) (d:=.slice A57 (plainL [.mk ak' an' sa' al']).length c57) rfl rfl rfl rfl)
        clear hbb hbx hX
        refine hK _ _ (HS2.out _ FB7.out) ?_
        clear hK K
        try simp only [Act.put,List.setIfInBounds_toArray,List.set_cons_zero,List.set_cons_succ]
        refine o1 18 (fun K hK => ?_)
        refine wp_append_any x7 _ _ 169 rfl W1.heap.size 172 i0 _ 2 48 Tryz.underlying169 HI0.out.1 HI0.out.2.1 HI0.out.2.2.1 HI0.out.2.2.2 rfl (by decide) u3 z xs rfl FO7.out x7.heap.size (some ⟨x6.heap.size,0,none⟩) 2 _ [.slice A45 m45.length c45,.slice A49 (plainL [.mk bk' bn' sb' bl']).length c49,.slice A53 m53.length c53,.slice A57 (plainL [.mk ak' an' sa' al']).length c57] rfl HRD.out HON.out (by unfold maxLen;have := HZ.out;omega) (by have := HZ.out;omega) (Nat.le_trans HLO.out FB7.out.size) ?_
        intro v' X2 ho2 hg2 hown2
        have hbe:=below_grown FO7.out hg2 (Nat.le_trans HLO.out FB7.out.size)
        have HX2 : Hid (Below W1.heap.size W1 X2 ∧ X2.ownsRow W1.heap.size 172 2 v' (sbL f (i + 1)).length (xs ++ [.slice A45 m45.length c45,.slice A49 (plainL [.mk bk' bn' sb' bl']).length c49,.slice A53 m53.length c53,.slice A57 (plainL [.mk ak' an' sa' al']).length c57]) ∧ StepsAt X2 W1.heap.size v'.ownBlock (sbL f (i + 1)) (xs ++ [.slice A45 m45.length c45,.slice A49 (plainL [.mk bk' bn' sb' bl']).length c49,.slice A53 m53.length c53,.slice A57 (plainL [.mk ak' an' sa' al']).length c57])):=Lib.hid (by
         refine ⟨(H6.out.chain FB7.out).trans hbe,?_,?_⟩
         ·rw [HSC.out,List.length_append,← HZZ.out];exact ho2
         ·rw [HSC.out];have h:=((FS7.out.grown hg2 hown2).snoc (HSV.out.1.grown hg2 hown2)).snoc (HSV.out.2.grown hg2 hown2);rw [List.append_assoc,List.append_assoc] at h;exact h)
        have gx:=HSG.out _ _ (HS2.out _ FB7.out) hg2
        refine hK _ _ gx ?_
        clear hK K ho2 hg2 hown2 hbe
        try simp only [Act.put,List.setIfInBounds_toArray,List.set_cons_zero,List.set_cons_succ]
        refine tk 19 3 v' gx ?v ?_
        case v => intro Wx hSx;go_simp
        try simp only [Act.put,List.setIfInBounds_toArray,List.set_cons_zero,List.set_cons_succ]
        refine wpAnyH_done (by kernel_rfl) ?_ _
        go_wp2
        go_roundg (na - (i + 1))
        case measure => omega
        case rel => exact ⟨i + 1,xs ++ [.slice A45 m45.length c45,.slice A49 (plainL [.mk bk' bn' sb' bl']).length c49,.slice A53 m53.length c53,.slice A57 (plainL [.mk ak' an' sa' al']).length c57],rfl,by omega,by go_num,HX2⟩
      ·obtain ⟨x1,hx1⟩ : ∃ X,X = x0.alloc (exprC bk' bn' ⟨sb'.toArray⟩ (.slice Ab0 nb0 cb0)):=⟨_,rfl⟩
       have hbb : Below x0.heap.size x0 x1:=by rw [hx1];exact below_alloc x0 _
       have hbx : x1.heap[x0.heap.size]? = some (exprC bk' bn' ⟨sb'.toArray⟩ (.slice Ab0 nb0 cb0)):=by rw [hx1];exact heap_of_alloc x0 _
       go_simp
       rw [← hx1]
       have FB1:=Lib.hid (FB0.out.chain hbb)
       have FO1:=Lib.hid (own_below FO0.out hbb (fun g hg => (own_lt FO0.out g hg).2))
       have FS1:=Lib.hid (FS0.out.on hbb)
       have F48_1:=Lib.hid hbx
       clear hbb hbx hx1
       refine hK _ _ (HS2.out _ FB1.out) ?_
       clear hK K
       try simp only [Act.put,List.setIfInBounds_toArray,List.set_cons_zero,List.set_cons_succ]
       refine anyH_two 3 14 (by kernel_rfl) rfl rfl (by kernel_rfl) (by kernel_rfl) (fun K hK => ?_) (fun K hK => ?_)
       ·go_simp
        (with_reducible refine (HVa.out _ FB1.out).mono ?_)
        rintro e x2 ⟨v45,m45,B45,rfl,hBA,hoA,hmA,hlA,hbb⟩
        obtain ⟨A45,c45,rfl,hnA⟩:=NmR.of_own (lo:=W1.heap.size) (O:=u3.ownBlock) hoA hlA (Nat.le_trans HLO.out (Nat.le_trans FB1.out.size hBA)) (fun g hg => Nat.lt_of_lt_of_le (own_lt FO1.out g hg).2 hBA)
        have FB2:=Lib.hid (FB1.out.chain hbb)
        have FO2:=Lib.hid (own_below FO1.out hbb (fun g hg => (own_lt FO1.out g hg).2))
        have FS2:=Lib.hid (FS1.out.on hbb)
        have F48_2:=Lib.hid (kept_box hbb F48_1.out)
        have F45_2:=Lib.hid hnA
        have FM45:=Lib.hid hmA
        clear hBA hoA hmA hlA hbb hnA
        refine hK _ _ (HS2.out _ FB2.out) ?_
        clear hK K
        try simp only [Act.put,List.setIfInBounds_toArray,List.set_cons_zero,List.set_cons_succ]
        refine anyH_two 7 14 (by kernel_rfl) rfl rfl (by kernel_rfl) (by kernel_rfl) (fun K hK => ?_) (fun K hK => ?_)
        ·go_simp
         (with_reducible refine (HPlb.out _ _ FB2.out F48_2.out).mono ?_)
         rintro e x3 ⟨v49,rfl,hoA,hbb⟩
         obtain ⟨A49,c49,rfl,hnA⟩:=NmR.of_own (lo:=W1.heap.size) (O:=u3.ownBlock) hoA HPb.out (Nat.le_trans HLO.out FB2.out.size) (fun g hg => (own_lt FO2.out g hg).2)
         have FB3:=Lib.hid (FB2.out.chain hbb)
         have FO3:=Lib.hid (own_below FO2.out hbb (fun g hg => (own_lt FO2.out g hg).2))
         have FS3:=Lib.hid (FS2.out.on hbb)
         have F48_3:=Lib.hid (kept_box hbb F48_2.out)
         have F45_3:=Lib.hid (F45_2.out.on hbb)
         have F49_3:=Lib.hid hnA
         clear hoA hbb hnA
         refine hK _ _ (HS2.out _ FB3.out) ?_
         clear hK K
         try simp only [Act.put,List.setIfInBounds_toArray,List.set_cons_zero,List.set_cons_succ]
         refine tk 8 50 (.agg #[.slice A45 m45.length c45,.slice A49 (plainL [.mk bk' bn' sb' bl']).length c49]) (HS2.out _ FB3.out) ?v ?_
         case v => intro Wx hSx;go_simp
         try simp only [Act.put,List.setIfInBounds_toArray,List.set_cons_zero,List.set_cons_succ]
         refine anyH_two 11 14 (by kernel_rfl) rfl rfl (by kernel_rfl) (by kernel_rfl) (fun K hK => ?_) (fun K hK => ?_)
         ·go_simp
          (with_reducible refine (HVb.out _ FB3.out).mono ?_)
          rintro e x4 ⟨v53,m53,B53,rfl,hBA,hoA,hmA,hlA,hbb⟩
          obtain ⟨A53,c53,rfl,hnA⟩:=NmR.of_own (lo:=W1.heap.size) (O:=u3.ownBlock) hoA hlA (Nat.le_trans HLO.out (Nat.le_trans FB3.out.size hBA)) (fun g hg => Nat.lt_of_lt_of_le (own_lt FO3.out g hg).2 hBA)
          have FB4:=Lib.hid (FB3.out.chain hbb)
          have FO4:=Lib.hid (own_below FO3.out hbb (fun g hg => (own_lt FO3.out g hg).2))
          have FS4:=Lib.hid (FS3.out.on hbb)
          have F48_4:=Lib.hid (kept_box hbb F48_3.out)
          have F45_4:=Lib.hid (F45_3.out.on hbb)
          have F49_4:=Lib.hid (F49_3.out.on hbb)
          have F53_4:=Lib.hid hnA
          have FM53:=Lib.hid hmA
          clear hBA hoA hmA hlA hbb hnA
          refine hK _ _ (HS2.out _ FB4.out) ?_
          clear hK K
          try simp only [Act.put,List.setIfInBounds_toArray,List.set_cons_zero,List.set_cons_succ]
          refine o1 14 (fun K hK => ?_)
          obtain ⟨x5,hx5⟩ : ∃ X,X = x4.alloc (exprC ak' an' ⟨sa'.toArray⟩ (.slice Aa0 na0 ca0)):=⟨_,rfl⟩
          have hbb : Below x4.heap.size x4 x5:=by rw [hx5];exact below_alloc x4 _
          have hbx : x5.heap[x4.heap.size]? = some (exprC ak' an' ⟨sa'.toArray⟩ (.slice Aa0 na0 ca0)):=by rw [hx5];exact heap_of_alloc x4 _
          go_simp
          rw [← hx5]
          have FB5:=Lib.hid (FB4.out.chain hbb)
          have FO5:=Lib.hid (own_below FO4.out hbb (fun g hg => (own_lt FO4.out g hg).2))
          have FS5:=Lib.hid (FS4.out.on hbb)
          have F48_5:=Lib.hid (kept_box hbb F48_4.out)
          have F45_5:=Lib.hid (F45_4.out.on hbb)
          have F49_5:=Lib.hid (F49_4.out.on hbb)
          have F53_5:=Lib.hid (F53_4.out.on hbb)
          have F56_5:=Lib.hid hbx
          clear hbb hbx hx5
          refine hK _ _ (HS2.out _ FB5.out) ?_
          clear hK K
          try simp only [Act.put,List.setIfInBounds_toArray,List.set_cons_zero,List.set_cons_succ]
          refine o1 15 (fun K hK => ?_)
          go_simp
          (with_reducible refine (HPla.out _ _ FB5.out F56_5.out).mono ?_)
          rintro e x6 ⟨v57,rfl,hoA,hbb⟩
          obtain ⟨A57,c57,rfl,hnA⟩:=NmR.of_own (lo:=W1.heap.size) (O:=u3.ownBlock) hoA HPa.out (Nat.le_trans HLO.out FB5.out.size) (fun g hg => (own_lt FO5.out g hg).2)
          have FB6:=Lib.hid (FB5.out.chain hbb)
          have FO6:=Lib.hid (own_below FO5.out hbb (fun g hg => (own_lt FO5.out g hg).2))
          have FS6:=Lib.hid (FS5.out.on hbb)
          have F48_6:=Lib.hid (kept_box hbb F48_5.out)
          have F45_6:=Lib.hid (F45_5.out.on hbb)
          have F49_6:=Lib.hid (F49_5.out.on hbb)
          have F53_6:=Lib.hid (F53_5.out.on hbb)
          have F56_6:=Lib.hid (kept_box hbb F56_5.out)
          have F57_6:=Lib.hid hnA
          clear hoA hbb hnA
          refine hK _ _ (HS2.out _ FB6.out) ?_
          clear hK K
          try simp only [Act.put,List.setIfInBounds_toArray,List.set_cons_zero,List.set_cons_succ]
          refine tk 16 58 (.agg #[.slice A53 m53.length c53,.slice A57 (plainL [.mk ak' an' sa' al']).length c57]) (HS2.out _ FB6.out) ?v ?_
          case v => intro Wx hSx;go_simp
          try simp only [Act.put,List.setIfInBounds_toArray,List.set_cons_zero,List.set_cons_succ]
          refine o1 17 (fun K hK => ?_)
          obtain ⟨x7,hX⟩ : ∃ X,X = x6.alloc (.cells #[.slice A45 m45.length c45,.slice A49 (plainL [.mk bk' bn' sb' bl']).length c49,.slice A53 m53.length c53,.slice A57 (plainL [.mk ak' an' sa' al']).length c57] 172):=⟨_,rfl⟩
          have hbb : Below x6.heap.size x6 x7:=by rw [hX];exact below_alloc x6 _
          have hbx : x7.heap[x6.heap.size]? = some (.cells #[.slice A45 m45.length c45,.slice A49 (plainL [.mk bk' bn' sb' bl']).length c49,.slice A53 m53.length c53,.slice A57 (plainL [.mk ak' an' sa' al']).length c57] 172):=by rw [hX];exact heap_of_alloc x6 _
          go_simp
          rw [← hX]
          have FB7:=Lib.hid (FB6.out.chain hbb)
          have FO7:=Lib.hid (own_below FO6.out hbb (fun g hg => (own_lt FO6.out g hg).2))
          have FS7:=Lib.hid (FS6.out.on hbb)
          have F48_7:=Lib.hid (kept_box hbb F48_6.out)
          have F45_7:=Lib.hid (F45_6.out.on hbb)
          have F49_7:=Lib.hid (F49_6.out.on hbb)
          have F53_7:=Lib.hid (F53_6.out.on hbb)
          have F56_7:=Lib.hid (kept_box hbb F56_6.out)
          have F57_7:=Lib.hid (F57_6.out.on hbb)
          have HRD:=Lib.hid (reads_box (size:=2) (m:=2) hbx rfl)
          have HSV : Hid (StepV x7 W1.heap.size u3.ownBlock ⟨exVars (.mk ak' an' sa' al'),plainN (.mk bk' bn' sb' bl')⟩ (.slice A45 m45.length c45) (.slice A49 (plainL [.mk bk' bn' sb' bl']).length c49) ∧ StepV x7 W1.heap.size u3.ownBlock ⟨exVars (.mk bk' bn' sb' bl'),plainN (.mk ak' an' sa' al')⟩ (.slice A53 m53.length c53) (.slice A57 (plainL [.mk ak' an' sa' al']).length c57)):=Lib.hid ⟨⟨A45,_,c45,A49,_,c49,m45,rfl,rfl,F45_7.out,FM45.out,by rw [← plainL_one];exact F49_7.out⟩,⟨A53,_,c53,A57,_,c57,m53,rfl,rfl,F53_7.out,FM53.out,by rw [← plainL_one];exact F57_7.out⟩⟩
          have HON:=Lib.hid (four_one (a:=.slice A45 m45.length c45) (b:=.slice A49 (plainL [.mk bk' bn' sb' bl']).length c49) (c:=.slice A53 m53.length c53) (d:=.slice A57 (plainL [.mk ak' an' sa' al']).length c57) rfl rfl rfl rfl)
          clear hbb hbx hX
          refine hK _ _ (HS2.out _ FB7.out) ?_
          clear hK K
          try simp only [Act.put,List.setIfInBounds_toArray,List.set_cons_zero,List.set_cons_succ]
          refine o1 18 (fun K hK => ?_)
          refine wp_append_any x7 _ _ 169 rfl W1.heap.size 172 i0 _ 2 48 Tryz.underlying169 HI0.out.1 HI0.out.2.1 HI0.out.2.2.1 HI0.out.2.2.2 rfl (by decide) u3 z xs rfl FO7.out x7.heap.size (some ⟨x6.heap.size,0,none⟩) 2 _ [.slice A45 m45.length c45,.slice A49 (plainL [.mk bk' bn' sb' bl']).length c49,.slice A53 m53.length c53,.slice A57 (plainL [.mk ak' an' sa' al']).length c57] rfl HRD.out HON.out (by unfold maxLen;have := HZ.out;omega) (by have := HZ.out;omega) (Nat.le_trans HLO.out FB7.out.size) ?_
          intro v' X2 ho2 hg2 hown2
          have hbe:=below_grown FO7.out hg2 (Nat.le_trans HLO.out FB7.out.size)
          have HX2 : Hid (Below W1.heap.size W1 X2 ∧ X2.ownsRow W1.heap.size 172 2 v' (sbL f (i + 1)).length (xs ++ [.slice A45 m45.length c45,.slice A49 (plainL [.mk bk' bn' sb' bl']).length c49,.slice A53 m53.length c53,.slice A57 (plainL [.mk ak' an' sa' al']).length c57]) ∧ StepsAt X2 W1.heap.size v'.ownBlock (sbL f (i + 1)) (xs ++ [.slice A45 m45.length c45,.slice A49 (plainL [.mk bk' bn' sb' bl']).length c49,.slice A53 m53.length c53,.slice A57 (plainL [.mk ak' an' sa' al']).length c57])):=Lib.hid (by
           refine ⟨(H6.out.chain FB7.out).trans hbe,?_,?_⟩
           ·rw [HSC.out,List.length_append,← HZZ.out];exact ho2
           ·rw [HSC.out];have h:=((FS7.out.grown hg2 hown2).snoc (HSV.out.1.grown hg2 hown2)).snoc (HSV.out.2.grown hg2 hown2);rw [List.append_assoc,List.append_assoc] at h;exact h)
          have gx:=HSG.out _ _ (HS2.out _ FB7.out) hg2
          refine hK _ _ gx ?_
          clear hK K ho2 hg2 hown2 hbe
          try simp only [Act.put,List.setIfInBounds_toArray,List.set_cons_zero,List.set_cons_succ]
          refine tk 19 3 v' gx ?v ?_
          case v => intro Wx hSx;go_simp
          try simp only [Act.put,List.setIfInBounds_toArray,List.set_cons_zero,List.set_cons_succ]
          refine wpAnyH_done (by kernel_rfl) ?_ _
          go_wp2
          go_roundg (na - (i + 1))
          case measure => omega
          case rel => exact ⟨i + 1,xs ++ [.slice A45 m45.length c45,.slice A49 (plainL [.mk bk' bn' sb' bl']).length c49,.slice A53 m53.length c53,.slice A57 (plainL [.mk ak' an' sa' al']).length c57],rfl,by omega,by go_num,HX2⟩
         ·obtain ⟨x4,hx4⟩ : ∃ X,X = x3.alloc (exprC ak' an' ⟨sa'.toArray⟩ (.slice Aa0 na0 ca0)):=⟨_,rfl⟩
          have hbb : Below x3.heap.size x3 x4:=by rw [hx4];exact below_alloc x3 _
          have hbx : x4.heap[x3.heap.size]? = some (exprC ak' an' ⟨sa'.toArray⟩ (.slice Aa0 na0 ca0)):=by rw [hx4];exact heap_of_alloc x3 _
          go_simp
          rw [← hx4]
          have FB4:=Lib.hid (FB3.out.chain hbb)
          have FO4:=Lib.hid (own_below FO3.out hbb (fun g hg => (own_lt FO3.out g hg).2))
          have FS4:=Lib.hid (FS3.out.on hbb)
          have F48_4:=Lib.hid (kept_box hbb F48_3.out)
          have F45_4:=Lib.hid (F45_3.out.on hbb)
          have F49_4:=Lib.hid (F49_3.out.on hbb)
          have F56_4:=Lib.hid hbx
          clear hbb hbx hx4
          refine hK _ _ (HS2.out _ FB4.out) ?_
          clear hK K
          try simp only [Act.put,List.setIfInBounds_toArray,List.set_cons_zero,List.set_cons_succ]
          refine o1 11 (fun K hK => ?_)
          go_simp
          (with_reducible refine (HVb.out _ FB4.out).mono ?_)
          rintro e x5 ⟨v53,m53,B53,rfl,hBA,hoA,hmA,hlA,hbb⟩
          obtain ⟨A53,c53,rfl,hnA⟩:=NmR.of_own (lo:=W1.heap.size) (O:=u3.ownBlock) hoA hlA (Nat.le_trans HLO.out (Nat.le_trans FB4.out.size hBA)) (fun g hg => Nat.lt_of_lt_of_le (own_lt FO4.out g hg).2 hBA)
          have FB5:=Lib.hid (FB4.out.chain hbb)
          have FO5:=Lib.hid (own_below FO4.out hbb (fun g hg => (own_lt FO4.out g hg).2))
          have FS5:=Lib.hid (FS4.out.on hbb)
          have F48_5:=Lib.hid (kept_box hbb F48_4.out)
          have F45_5:=Lib.hid (F45_4.out.on hbb)
          have F49_5:=Lib.hid (F49_4.out.on hbb)
          have F56_5:=Lib.hid (kept_box hbb F56_4.out)
          have F53_5:=Lib.hid hnA
          have FM53:=Lib.hid hmA
          clear hBA hoA hmA hlA hbb hnA
          refine hK _ _ (HS2.out _ FB5.out) ?_
          clear hK K
          try simp only [Act.put,List.setIfInBounds_toArray,List.set_cons_zero,List.set_cons_succ]
          refine o1 15 (fun K hK => ?_)
          go_simp
          (with_reducible refine (HPla.out _ _ FB5.out F56_5.out).mono ?_)
          rintro e x6 ⟨v57,rfl,hoA,hbb⟩
          obtain ⟨A57,c57,rfl,hnA⟩:=NmR.of_own (lo:=W1.heap.size) (O:=u3.ownBlock) hoA HPa.out (Nat.le_trans HLO.out FB5.out.size) (fun g hg => (own_lt FO5.out g hg).2)
          have FB6:=Lib.hid (FB5.out.chain hbb)
          have FO6:=Lib.hid (own_below FO5.out hbb (fun g hg => (own_lt FO5.out g hg).2))
          have FS6:=Lib.hid (FS5.out.on hbb)
          have F48_6:=Lib.hid (kept_box hbb F48_5.out)
          have F45_6:=Lib.hid (F45_5.out.on hbb)
          have F49_6:=Lib.hid (F49_5.out.on hbb)
          have F56_6:=Lib.hid (kept_box hbb F56_5.out)
          have F53_6:=Lib.hid (F53_5.out.on hbb)
          have F57_6:=Lib.hid hnA
          clear hoA hbb hnA
          refine hK _ _ (HS2.out _ FB6.out) ?_
          clear hK K
          try simp only [Act.put,List.setIfInBounds_toArray,List.set_cons_zero,List.set_cons_succ]
          refine tk 16 58 (.agg #[.slice A53 m53.length c53,.slice A57 (plainL [.mk ak' an' sa' al']).length c57]) (HS2.out _ FB6.out) ?v ?_
          case v => intro Wx hSx;go_simp
          try simp only [Act.put,List.setIfInBounds_toArray,List.set_cons_zero,List.set_cons_succ]
          refine o1 17 (fun K hK => ?_)
          obtain ⟨x7,hX⟩ : ∃ X,X = x6.alloc (.cells #[.slice A45 m45.length c45,.slice A49 (plainL [.mk bk' bn' sb' bl']).length c49,.slice A53 m53.length c53,.slice A57 (plainL [.mk ak' an' sa' al']).length c57] 172):=⟨_,rfl⟩
          have hbb : Below x6.heap.size x6 x7:=by rw [hX];exact below_alloc x6 _
          have hbx : x7.heap[x6.heap.size]? = some (.cells #[.slice A45 m45.length c45,.slice A49 (plainL [.mk bk' bn' sb' bl']).length c49,.slice A53 m53.length c53,.slice A57 (plainL [.mk ak' an' sa' al']).length c57] 172):=by rw [hX];exact heap_of_alloc x6 _
          go_simp
          rw [← hX]
          have FB7:=Lib.hid (FB6.out.chain hbb)
          have FO7:=Lib.hid (own_below FO6.out hbb (fun g hg => (own_lt FO6.out g hg).2))
          have FS7:=Lib.hid (FS6.out.on hbb)
          have F48_7:=Lib.hid (kept_box hbb F48_6.out)
          have F45_7:=Lib.hid (F45_6.out.on hbb)
          have F49_7:=Lib.hid (F49_6.out.on hbb)
          have F56_7:=Lib.hid (kept_box hbb F56_6.out)
          have F53_7:=Lib.hid (F53_6.out.on hbb)
          have F57_7:=Lib.hid (F57_6.out.on hbb)
          have HRD:=Lib.hid (reads_box (size:=2) (m:=2) hbx rfl)
          have HSV : Hid (StepV x7 W1.heap.size u3.ownBlock ⟨exVars (.mk ak' an' sa' al'),plainN (.mk bk' bn' sb' bl')⟩ (.slice A45 m45.length c45) (.slice A49 (plainL [.mk bk' bn' sb' bl']).length c49) ∧ StepV x7 W1.heap.size u3.ownBlock ⟨exVars (.mk bk' bn' sb' bl'),plainN (.mk ak' an' sa' al')⟩ (.slice A53 m53.length c53) (.slice A57 (plainL [.mk ak' an' sa' al']).length c57)):=Lib.hid ⟨⟨A45,_,c45,A49,_,c49,m45,rfl,rfl,F45_7.out,FM45.out,by rw [← plainL_one];exact F49_7.out⟩,⟨A53,_,c53,A57,_,c57,m53,rfl,rfl,F53_7.out,FM53.out,by rw [← plainL_one];exact F57_7.out⟩⟩
          have HON:=Lib.hid (four_one (a:=.slice A45 m45.length c45) (b:=.slice A49 (plainL [.mk bk' bn' sb' bl']).length c49) (c:=.slice A53 m53.length c53) (d:=.slice A57 (plainL [.mk ak' an' sa' al']).length c57) rfl rfl rfl rfl)
          clear hbb hbx hX
          refine hK _ _ (HS2.out _ FB7.out) ?_
          clear hK K
          try simp only [Act.put,List.setIfInBounds_toArray,List.set_cons_zero,List.set_cons_succ]
          refine o1 18 (fun K hK => ?_)
          refine wp_append_any x7 _ _ 169 rfl W1.heap.size 172 i0 _ 2 48 Tryz.underlying169 HI0.out.1 HI0.out.2.1 HI0.out.2.2.1 HI0.out.2.2.2 rfl (by decide) u3 z xs rfl FO7.out x7.heap.size (some ⟨x6.heap.size,0,none⟩) 2 _ [.slice A45 m45.length c45,.slice A49 (plainL [.mk bk' bn' sb' bl']).length c49,.slice A53 m53.length c53,.slice A57 (plainL [.mk ak' an' sa' al']).length c57] rfl HRD.out HON.out (by unfold maxLen;have := HZ.out;omega) (by have := HZ.out;omega) (Nat.le_trans HLO.out FB7.out.size) ?_
          intro v' X2 ho2 hg2 hown2
          have hbe:=below_grown FO7.out hg2 (Nat.le_trans HLO.out FB7.out.size)
          have HX2 : Hid (Below W1.heap.size W1 X2 ∧ X2.ownsRow W1.heap.size 172 2 v' (sbL f (i + 1)).length (xs ++ [.slice A45 m45.length c45,.slice A49 (plainL [.mk bk' bn' sb' bl']).length c49,.slice A53 m53.length c53,.slice A57 (plainL [.mk ak' an' sa' al']).length c57]) ∧ StepsAt X2 W1.heap.size v'.ownBlock (sbL f (i + 1)) (xs ++ [.slice A45 m45.length c45,.slice A49 (plainL [.mk bk' bn' sb' bl']).length c49,.slice A53 m53.length c53,.slice A57 (plainL [.mk ak' an' sa' al']).length c57])):=Lib.hid (by
           refine ⟨(H6.out.chain FB7.out).trans hbe,?_,?_⟩
           ·rw [HSC.out,List.length_append,← HZZ.out];exact ho2
           ·rw [HSC.out];have h:=((FS7.out.grown hg2 hown2).snoc (HSV.out.1.grown hg2 hown2)).snoc (HSV.out.2.grown hg2 hown2);rw [List.append_assoc,List.append_assoc] at h;exact h)
          have gx:=HSG.out _ _ (HS2.out _ FB7.out) hg2
          refine hK _ _ gx ?_
          clear hK K ho2 hg2 hown2 hbe
          try simp only [Act.put,List.setIfInBounds_toArray,List.set_cons_zero,List.set_cons_succ]
          refine tk 19 3 v' gx ?v ?_
          case v => intro Wx hSx;go_simp
          try simp only [Act.put,List.setIfInBounds_toArray,List.set_cons_zero,List.set_cons_succ]
          refine wpAnyH_done (by kernel_rfl) ?_ _
          go_wp2
          go_roundg (na - (i + 1))
          case measure => omega
          case rel => exact ⟨i + 1,xs ++ [.slice A45 m45.length c45,.slice A49 (plainL [.mk bk' bn' sb' bl']).length c49,.slice A53 m53.length c53,.slice A57 (plainL [.mk ak' an' sa' al']).length c57],rfl,by omega,by go_num,HX2⟩
        ·obtain ⟨x3,hx3⟩ : ∃ X,X = x2.alloc (exprC ak' an' ⟨sa'.toArray⟩ (.slice Aa0 na0 ca0)):=⟨_,rfl⟩
         have hbb : Below x2.heap.size x2 x3:=by rw [hx3];exact below_alloc x2 _
         have hbx : x3.heap[x2.heap.size]? = some (exprC ak' an' ⟨sa'.toArray⟩ (.slice Aa0 na0 ca0)):=by rw [hx3];exact heap_of_alloc x2 _
         go_simp
         rw [← hx3]
         have FB3:=Lib.hid (FB2.out.chain hbb)
         have FO3:=Lib.hid (own_below FO2.out hbb (fun g hg => (own_lt FO2.out g hg).2))
         have FS3:=Lib.hid (FS2.out.on hbb)
         have F48_3:=Lib.hid (kept_box hbb F48_2.out)
         have F45_3:=Lib.hid (F45_2.out.on hbb)
         have F56_3:=Lib.hid hbx
         clear hbb hbx hx3
         refine hK _ _ (HS2.out _ FB3.out) ?_
         clear hK K
         try simp only [Act.put,List.setIfInBounds_toArray,List.set_cons_zero,List.set_cons_succ]
         refine o1 7 (fun K hK => ?_)
         go_simp
         (with_reducible refine (HPlb.out _ _ FB3.out F48_3.out).mono ?_)
         rintro e x4 ⟨v49,rfl,hoA,hbb⟩
         obtain ⟨A49,c49,rfl,hnA⟩:=NmR.of_own (lo:=W1.heap.size) (O:=u3.ownBlock) hoA HPb.out (Nat.le_trans HLO.out FB3.out.size) (fun g hg => (own_lt FO3.out g hg).2)
         have FB4:=Lib.hid (FB3.out.chain hbb)
         have FO4:=Lib.hid (own_below FO3.out hbb (fun g hg => (own_lt FO3.out g hg).2))
         have FS4:=Lib.hid (FS3.out.on hbb)
         have F48_4:=Lib.hid (kept_box hbb F48_3.out)
         have F45_4:=Lib.hid (F45_3.out.on hbb)
         have F56_4:=Lib.hid (kept_box hbb F56_3.out)
         have F49_4:=Lib.hid hnA
         clear hoA hbb hnA
         refine hK _ _ (HS2.out _ FB4.out) ?_
         clear hK K
         try simp only [Act.put,List.setIfInBounds_toArray,List.set_cons_zero,List.set_cons_succ]
         refine tk 8 50 (.agg #[.slice A45 m45.length c45,.slice A49 (plainL [.mk bk' bn' sb' bl']).length c49]) (HS2.out _ FB4.out) ?v ?_
         case v => intro Wx hSx;go_simp
         try simp only [Act.put,List.setIfInBounds_toArray,List.set_cons_zero,List.set_cons_succ]
         refine o1 11 (fun K hK => ?_)
         go_simp
         (with_reducible refine (HVb.out _ FB4.out).mono ?_)
         rintro e x5 ⟨v53,m53,B53,rfl,hBA,hoA,hmA,hlA,hbb⟩
         obtain ⟨A53,c53,rfl,hnA⟩:=NmR.of_own (lo:=W1.heap.size) (O:=u3.ownBlock) hoA hlA (Nat.le_trans HLO.out (Nat.le_trans FB4.out.size hBA)) (fun g hg => Nat.lt_of_lt_of_le (own_lt FO4.out g hg).2 hBA)
         have FB5:=Lib.hid (FB4.out.chain hbb)
         have FO5:=Lib.hid (own_below FO4.out hbb (fun g hg => (own_lt FO4.out g hg).2))
         have FS5:=Lib.hid (FS4.out.on hbb)
         have F48_5:=Lib.hid (kept_box hbb F48_4.out)
         have F45_5:=Lib.hid (F45_4.out.on hbb)
         have F56_5:=Lib.hid (kept_box hbb F56_4.out)
         have F49_5:=Lib.hid (F49_4.out.on hbb)
         have F53_5:=Lib.hid hnA
         have FM53:=Lib.hid hmA
         clear hBA hoA hmA hlA hbb hnA
         refine hK _ _ (HS2.out _ FB5.out) ?_
         clear hK K
         try simp only [Act.put,List.setIfInBounds_toArray,List.set_cons_zero,List.set_cons_succ]
         refine o1 15 (fun K hK => ?_)
         go_simp
         (with_reducible refine (HPla.out _ _ FB5.out F56_5.out).mono ?_)
         rintro e x6 ⟨v57,rfl,hoA,hbb⟩
         obtain ⟨A57,c57,rfl,hnA⟩:=NmR.of_own (lo:=W1.heap.size) (O:=u3.ownBlock) hoA HPa.out (Nat.le_trans HLO.out FB5.out.size) (fun g hg => (own_lt FO5.out g hg).2)
         have FB6:=Lib.hid (FB5.out.chain hbb)
         have FO6:=Lib.hid (own_below FO5.out hbb (fun g hg => (own_lt FO5.out g hg).2))
         have FS6:=Lib.hid (FS5.out.on hbb)
         have F48_6:=Lib.hid (kept_box hbb F48_5.out)
         have F45_6:=Lib.hid (F45_5.out.on hbb)
         have F56_6:=Lib.hid (kept_box hbb F56_5.out)
         have F49_6:=Lib.hid (F49_5.out.on hbb)
         have F53_6:=Lib.hid (F53_5.out.on hbb)
         have F57_6:=Lib.hid hnA
         clear hoA hbb hnA
         refine hK _ _ (HS2.out _ FB6.out) ?_
         clear hK K
         try simp only [Act.put,List.setIfInBounds_toArray,List.set_cons_zero,List.set_cons_succ]
         refine tk 16 58 (.agg #[.slice A53 m53.length c53,.slice A57 (plainL [.mk ak' an' sa' al']).length c57]) (HS2.out _ FB6.out) ?v ?_
         case v => intro Wx hSx;go_simp
         try simp only [Act.put,List.setIfInBounds_toArray,List.set_cons_zero,List.set_cons_succ]
         refine o1 17 (fun K hK => ?_)
         obtain ⟨x7,hX⟩ : ∃ X,X = x6.alloc (.cells #[.slice A45 m45.length c45,.slice A49 (plainL [.mk bk' bn' sb' bl']).length c49,.slice A53 m53.length c53,.slice A57 (plainL [.mk ak' an' sa' al']).length c57] 172):=⟨_,rfl⟩
         have hbb : Below x6.heap.size x6 x7:=by rw [hX];exact below_alloc x6 _
         have hbx : x7.heap[x6.heap.size]? = some (.cells #[.slice A45 m45.length c45,.slice A49 (plainL [.mk bk' bn' sb' bl']).length c49,.slice A53 m53.length c53,.slice A57 (plainL [.mk ak' an' sa' al']).length c57] 172):=by rw [hX];exact heap_of_alloc x6 _
         go_simp
         rw [← hX]
         have FB7:=Lib.hid (FB6.out.chain hbb)
         have FO7:=Lib.hid (own_below FO6.out hbb (fun g hg => (own_lt FO6.out g hg).2))
         have FS7:=Lib.hid (FS6.out.on hbb)
         have F48_7:=Lib.hid (kept_box hbb F48_6.out)
         have F45_7:=Lib.hid (F45_6.out.on hbb)
         have F56_7:=Lib.hid (kept_box hbb F56_6.out)
         have F49_7:=Lib.hid (F49_6.out.on hbb)
         have F53_7:=Lib.hid (F53_6.out.on hbb)
         have F57_7:=Lib.hid (F57_6.out.on hbb)
         have HRD:=Lib.hid (reads_box (size:=2) (m:=2) hbx rfl)
         have HSV : Hid (StepV x7 W1.heap.size u3.ownBlock ⟨exVars (.mk ak' an' sa' al'),plainN (.mk bk' bn' sb' bl')⟩ (.slice A45 m45.length c45) (.slice A49 (plainL [.mk bk' bn' sb' bl']).length c49) ∧ StepV x7 W1.heap.size u3.ownBlock ⟨exVars (.mk bk' bn' sb' bl'),plainN (.mk ak' an' sa' al')⟩ (.slice A53 m53.length c53) (.slice A57 (plainL [.mk ak' an' sa' al']).length c57)):=Lib.hid ⟨⟨A45,_,c45,A49,_,c49,m45,rfl,rfl,F45_7.out,FM45.out,by rw [← plainL_one];exact F49_7.out⟩,⟨A53,_,c53,A57,_,c57,m53,rfl,rfl,F53_7.out,FM53.out,by rw [← plainL_one];exact F57_7.out⟩⟩
         have HON:=Lib.hid (four_one (a:=.slice A45 m45.length c45) (b:=.slice A49 (plainL [.mk bk' bn' sb' bl']).length c49) (c:=.slice A53 m53.length c53) (d:=.slice A57 (plainL [.mk ak' an' sa' al']).length c57) rfl rfl rfl rfl)
         clear hbb hbx hX
         refine hK _ _ (HS2.out _ FB7.out) ?_
         clear hK K
         try simp only [Act.put,List.setIfInBounds_toArray,List.set_cons_zero,List.set_cons_succ]
         refine o1 18 (fun K hK => ?_)
         refine wp_append_any x7 _ _ 169 rfl W1.heap.size 172 i0 _ 2 48 Tryz.underlying169 HI0.out.1 HI0.out.2.1 HI0.out.2.2.1 HI0.out.2.2.2 rfl (by decide) u3 z xs rfl FO7.out x7.heap.size (some ⟨x6.heap.size,0,none⟩) 2 _ [.slice A45 m45.length c45,.slice A49 (plainL [.mk bk' bn' sb' bl']).length c49,.slice A53 m53.length c53,.slice A57 (plainL [.mk ak' an' sa' al']).length c57] rfl HRD.out HON.out (by unfold maxLen;have := HZ.out;omega) (by have := HZ.out;omega) (Nat.le_trans HLO.out FB7.out.size) ?_
         intro v' X2 ho2 hg2 hown2
         have hbe:=below_grown FO7.out hg2 (Nat.le_trans HLO.out FB7.out.size)
         have HX2 : Hid (Below W1.heap.size W1 X2 ∧ X2.ownsRow W1.heap.size 172 2 v' (sbL f (i + 1)).length (xs ++ [.slice A45 m45.length c45,.slice A49 (plainL [.mk bk' bn' sb' bl']).length c49,.slice A53 m53.length c53,.slice A57 (plainL [.mk ak' an' sa' al']).length c57]) ∧ StepsAt X2 W1.heap.size v'.ownBlock (sbL f (i + 1)) (xs ++ [.slice A45 m45.length c45,.slice A49 (plainL [.mk bk' bn' sb' bl']).length c49,.slice A53 m53.length c53,.slice A57 (plainL [.mk ak' an' sa' al']).length c57])):=Lib.hid (by
          refine ⟨(H6.out.chain FB7.out).trans hbe,?_,?_⟩
          ·rw [HSC.out,List.length_append,← HZZ.out];exact ho2
          ·rw [HSC.out];have h:=((FS7.out.grown hg2 hown2).snoc (HSV.out.1.grown hg2 hown2)).snoc (HSV.out.2.grown hg2 hown2);rw [List.append_assoc,List.append_assoc] at h;exact h)
         have gx:=HSG.out _ _ (HS2.out _ FB7.out) hg2
         refine hK _ _ gx ?_
         clear hK K ho2 hg2 hown2 hbe
         try simp only [Act.put,List.setIfInBounds_toArray,List.set_cons_zero,List.set_cons_succ]
         refine tk 19 3 v' gx ?v ?_
         case v => intro Wx hSx;go_simp
         try simp only [Act.put,List.setIfInBounds_toArray,List.set_cons_zero,List.set_cons_succ]
         refine wpAnyH_done (by kernel_rfl) ?_ _
         go_wp2
         go_roundg (na - (i + 1))
         case measure => omega
         case rel => exact ⟨i + 1,xs ++ [.slice A45 m45.length c45,.slice A49 (plainL [.mk bk' bn' sb' bl']).length c49,.slice A53 m53.length c53,.slice A57 (plainL [.mk ak' an' sa' al']).length c57],rfl,by omega,by go_num,HX2⟩
       ·obtain ⟨x2,hx2⟩ : ∃ X,X = x1.alloc (exprC ak' an' ⟨sa'.toArray⟩ (.slice Aa0 na0 ca0)):=⟨_,rfl⟩
        have hbb : Below x1.heap.size x1 x2:=by rw [hx2];exact below_alloc x1 _
        have hbx : x2.heap[x1.heap.size]? = some (exprC ak' an' ⟨sa'.toArray⟩ (.slice Aa0 na0 ca0)):=by rw [hx2];exact heap_of_alloc x1 _
        go_simp
        rw [← hx2]
        have FB2:=Lib.hid (FB1.out.chain hbb)
        have FO2:=Lib.hid (own_below FO1.out hbb (fun g hg => (own_lt FO1.out g hg).2))
        have FS2:=Lib.hid (FS1.out.on hbb)
        have F48_2:=Lib.hid (kept_box hbb F48_1.out)
        have F56_2:=Lib.hid hbx
        clear hbb hbx hx2
        refine hK _ _ (HS2.out _ FB2.out) ?_
        clear hK K
        try simp only [Act.put,List.setIfInBounds_toArray,List.set_cons_zero,List.set_cons_succ]
        refine o1 3 (fun K hK => ?_)
        go_simp
        (with_reducible refine (HVa.out _ FB2.out).mono ?_)
        rintro e x3 ⟨v45,m45,B45,rfl,hBA,hoA,hmA,hlA,hbb⟩
        obtain ⟨A45,c45,rfl,hnA⟩:=NmR.of_own (lo:=W1.heap.size) (O:=u3.ownBlock) hoA hlA (Nat.le_trans HLO.out (Nat.le_trans FB2.out.size hBA)) (fun g hg => Nat.lt_of_lt_of_le (own_lt FO2.out g hg).2 hBA)
        have FB3:=Lib.hid (FB2.out.chain hbb)
        have FO3:=Lib.hid (own_below FO2.out hbb (fun g hg => (own_lt FO2.out g hg).2))
        have FS3:=Lib.hid (FS2.out.on hbb)
        have F48_3:=Lib.hid (kept_box hbb F48_2.out)
        have F56_3:=Lib.hid (kept_box hbb F56_2.out)
        have F45_3:=Lib.hid hnA
        have FM45:=Lib.hid hmA
        clear hBA hoA hmA hlA hbb hnA
        refine hK _ _ (HS2.out _ FB3.out) ?_
        clear hK K
        try simp only [Act.put,List.setIfInBounds_toArray,List.set_cons_zero,List.set_cons_succ]
        refine o1 7 (fun K hK => ?_)
        go_simp
        (with_reducible refine (HPlb.out _ _ FB3.out F48_3.out).mono ?_)
        rintro e x4 ⟨v49,rfl,hoA,hbb⟩
        obtain ⟨A49,c49,rfl,hnA⟩:=NmR.of_own (lo:=W1.heap.size) (O:=u3.ownBlock) hoA HPb.out (Nat.le_trans HLO.out FB3.out.size) (fun g hg => (own_lt FO3.out g hg).2)
        have FB4:=Lib.hid (FB3.out.chain hbb)
        have FO4:=Lib.hid (own_below FO3.out hbb (fun g hg => (own_lt FO3.out g hg).2))
        have FS4:=Lib.hid (FS3.out.on hbb)
        have F48_4:=Lib.hid (kept_box hbb F48_3.out)
        have F56_4:=Lib.hid (kept_box hbb F56_3.out)
        have F45_4:=Lib.hid (F45_3.out.on hbb)
        have F49_4:=Lib.hid hnA
        clear hoA hbb hnA
        refine hK _ _ (HS2.out _ FB4.out) ?_
        clear hK K
        try simp only [Act.put,List.setIfInBounds_toArray,List.set_cons_zero,List.set_cons_succ]
        refine tk 8 50 (.agg #[.slice A45 m45.length c45,.slice A49 (plainL [.mk bk' bn' sb' bl']).length c49]) (HS2.out _ FB4.out) ?v ?_
        case v => intro Wx hSx;go_simp
        try simp only [Act.put,List.setIfInBounds_toArray,List.set_cons_zero,List.set_cons_succ]
        refine o1 11 (fun K hK => ?_)
        go_simp
        (with_reducible refine (HVb.out _ FB4.out).mono ?_)
        rintro e x5 ⟨v53,m53,B53,rfl,hBA,hoA,hmA,hlA,hbb⟩
        obtain ⟨A53,c53,rfl,hnA⟩:=NmR.of_own (lo:=W1.heap.size) (O:=u3.ownBlock) hoA hlA (Nat.le_trans HLO.out (Nat.le_trans FB4.out.size hBA)) (fun g hg => Nat.lt_of_lt_of_le (own_lt FO4.out g hg).2 hBA)
        have FB5:=Lib.hid (FB4.out.chain hbb)
        have FO5:=Lib.hid (own_below FO4.out hbb (fun g hg => (own_lt FO4.out g hg).2))
        have FS5:=Lib.hid (FS4.out.on hbb)
        have F48_5:=Lib.hid (kept_box hbb F48_4.out)
        have F56_5:=Lib.hid (kept_box hbb F56_4.out)
        have F45_5:=Lib.hid (F45_4.out.on hbb)
        have F49_5:=Lib.hid (F49_4.out.on hbb)
        have F53_5:=Lib.hid hnA
        have FM53:=Lib.hid hmA
        clear hBA hoA hmA hlA hbb hnA
        refine hK _ _ (HS2.out _ FB5.out) ?_
        clear hK K
        try simp only [Act.put,List.setIfInBounds_toArray,List.set_cons_zero,List.set_cons_succ]
        refine o1 15 (fun K hK => ?_)
        go_simp
        (with_reducible refine (HPla.out _ _ FB5.out F56_5.out).mono ?_)
        rintro e x6 ⟨v57,rfl,hoA,hbb⟩
        obtain ⟨A57,c57,rfl,hnA⟩:=NmR.of_own (lo:=W1.heap.size) (O:=u3.ownBlock) hoA HPa.out (Nat.le_trans HLO.out FB5.out.size) (fun g hg => (own_lt FO5.out g hg).2)
        have FB6:=Lib.hid (FB5.out.chain hbb)
        have FO6:=Lib.hid (own_below FO5.out hbb (fun g hg => (own_lt FO5.out g hg).2))
        have FS6:=Lib.hid (FS5.out.on hbb)
        have F48_6:=Lib.hid (kept_box hbb F48_5.out)
        have F56_6:=Lib.hid (kept_box hbb F56_5.out)
        have F45_6:=Lib.hid (F45_5.out.on hbb)
        have F49_6:=Lib.hid (F49_5.out.on hbb)
        have F53_6:=Lib.hid (F53_5.out.on hbb)
        have F57_6:=Lib.hid hnA
        clear hoA hbb hnA
        refine hK _ _ (HS2.out _ FB6.out) ?_
        clear hK K
        try simp only [Act.put,List.setIfInBounds_toArray,List.set_cons_zero,List.set_cons_succ]
        refine tk 16 58 (.agg #[.slice A53 m53.length c53,.slice A57 (plainL [.mk ak' an' sa' al']).length c57]) (HS2.out _ FB6.out) ?v ?_
        case v => intro Wx hSx;go_simp
        try simp only [Act.put,List.setIfInBounds_toArray,List.set_cons_zero,List.set_cons_succ]
        refine o1 17 (fun K hK => ?_)
        obtain ⟨x7,hX⟩ : ∃ X,X = x6.alloc (.cells #[.slice A45 m45.length c45,.slice A49 (plainL [.mk bk' bn' sb' bl']).length c49,.slice A53 m53.length c53,.slice A57 (plainL [.mk ak' an' sa' al']).length c57] 172):=⟨_,rfl⟩
        have hbb : Below x6.heap.size x6 x7:=by rw [hX];exact below_alloc x6 _
        have hbx : x7.heap[x6.heap.size]? = some (.cells #[.slice A45 m45.length c45,.slice A49 (plainL [.mk bk' bn' sb' bl']).length c49,.slice A53 m53.length c53,.slice A57 (plainL [.mk ak' an' sa' al']).length c57] 172):=by rw [hX];exact heap_of_alloc x6 _
        go_simp
        rw [← hX]
        have FB7:=Lib.hid (FB6.out.chain hbb)
        have FO7:=Lib.hid (own_below FO6.out hbb (fun g hg => (own_lt FO6.out g hg).2))
        have FS7:=Lib.hid (FS6.out.on hbb)
        have F48_7:=Lib.hid (kept_box hbb F48_6.out)
        have F56_7:=Lib.hid (kept_box hbb F56_6.out)
        have F45_7:=Lib.hid (F45_6.out.on hbb)
        have F49_7:=Lib.hid (F49_6.out.on hbb)
        have F53_7:=Lib.hid (F53_6.out.on hbb)
        have F57_7:=Lib.hid (F57_6.out.on hbb)
        have HRD:=Lib.hid (reads_box (size:=2) (m:=2) hbx rfl)
        have HSV : Hid (StepV x7 W1.heap.size u3.ownBlock ⟨exVars (.mk ak' an' sa' al'),plainN (.mk bk' bn' sb' bl')⟩ (.slice A45 m45.length c45) (.slice A49 (plainL [.mk bk' bn' sb' bl']).length c49) ∧ StepV x7 W1.heap.size u3.ownBlock ⟨exVars (.mk bk' bn' sb' bl'),plainN (.mk ak' an' sa' al')⟩ (.slice A53 m53.length c53) (.slice A57 (plainL [.mk ak' an' sa' al']).length c57)):=Lib.hid ⟨⟨A45,_,c45,A49,_,c49,m45,rfl,rfl,F45_7.out,FM45.out,by rw [← plainL_one];exact F49_7.out⟩,⟨A53,_,c53,A57,_,c57,m53,rfl,rfl,F53_7.out,FM53.out,by rw [← plainL_one];exact F57_7.out⟩⟩
        have HON:=Lib.hid (four_one (a:=.slice A45 m45.length c45) (b:=.slice A49 (plainL [.mk bk' bn' sb' bl']).length c49) (c:=.slice A53 m53.length c53) (d:=.slice A57 (plainL [.mk ak' an' sa' al']).length c57) rfl rfl rfl rfl)
        clear hbb hbx hX
        refine hK _ _ (HS2.out _ FB7.out) ?_
        clear hK K
        try simp only [Act.put,List.setIfInBounds_toArray,List.set_cons_zero,List.set_cons_succ]
        refine o1 18 (fun K hK => ?_)
        refine wp_append_any x7 _ _ 169 rfl W1.heap.size 172 i0 _ 2 48 Tryz.underlying169 HI0.out.1 HI0.out.2.1 HI0.out.2.2.1 HI0.out.2.2.2 rfl (by decide) u3 z xs rfl FO7.out x7.heap.size (some ⟨x6.heap.size,0,none⟩) 2 _ [.slice A45 m45.length c45,.slice A49 (plainL [.mk bk' bn' sb' bl']).length c49,.slice A53 m53.length c53,.slice A57 (plainL [.mk ak' an' sa' al']).length c57] rfl HRD.out HON.out (by unfold maxLen;have := HZ.out;omega) (by have := HZ.out;omega) (Nat.le_trans HLO.out FB7.out.size) ?_
        intro v' X2 ho2 hg2 hown2
        have hbe:=below_grown FO7.out hg2 (Nat.le_trans HLO.out FB7.out.size)
        have HX2 : Hid (Below W1.heap.size W1 X2 ∧ X2.ownsRow W1.heap.size 172 2 v' (sbL f (i + 1)).length (xs ++ [.slice A45 m45.length c45,.slice A49 (plainL [.mk bk' bn' sb' bl']).length c49,.slice A53 m53.length c53,.slice A57 (plainL [.mk ak' an' sa' al']).length c57]) ∧ StepsAt X2 W1.heap.size v'.ownBlock (sbL f (i + 1)) (xs ++ [.slice A45 m45.length c45,.slice A49 (plainL [.mk bk' bn' sb' bl']).length c49,.slice A53 m53.length c53,.slice A57 (plainL [.mk ak' an' sa' al']).length c57])):=Lib.hid (by
         refine ⟨(H6.out.chain FB7.out).trans hbe,?_,?_⟩
         ·rw [HSC.out,List.length_append,← HZZ.out];exact ho2
         ·rw [HSC.out];have h:=((FS7.out.grown hg2 hown2).snoc (HSV.out.1.grown hg2 hown2)).snoc (HSV.out.2.grown hg2 hown2);rw [List.append_assoc,List.append_assoc] at h;exact h)
        have gx:=HSG.out _ _ (HS2.out _ FB7.out) hg2
        refine hK _ _ gx ?_
        clear hK K ho2 hg2 hown2 hbe
        try simp only [Act.put,List.setIfInBounds_toArray,List.set_cons_zero,List.set_cons_succ]
        refine tk 19 3 v' gx ?v ?_
        case v => intro Wx hSx;go_simp
        try simp only [Act.put,List.setIfInBounds_toArray,List.set_cons_zero,List.set_cons_succ]
        refine wpAnyH_done (by kernel_rfl) ?_ _
        go_wp2
        go_roundg (na - (i + 1))
        case measure => omega
        case rel => exact ⟨i + 1,xs ++ [.slice A45 m45.length c45,.slice A49 (plainL [.mk bk' bn' sb' bl']).length c49,.slice A53 m53.length c53,.slice A57 (plainL [.mk ak' an' sa' al']).length c57],rfl,by omega,by go_num,HX2⟩
      ·obtain ⟨x1,hx1⟩ : ∃ X,X = x0.alloc (exprC ak' an' ⟨sa'.toArray⟩ (.slice Aa0 na0 ca0)):=⟨_,rfl⟩
       have hbb : Below x0.heap.size x0 x1:=by rw [hx1];exact below_alloc x0 _
       have hbx : x1.heap[x0.heap.size]? = some (exprC ak' an' ⟨sa'.toArray⟩ (.slice Aa0 na0 ca0)):=by rw [hx1];exact heap_of_alloc x0 _
       go_simp
       rw [← hx1]
       have FB1:=Lib.hid (FB0.out.chain hbb)
       have FO1:=Lib.hid (own_below FO0.out hbb (fun g hg => (own_lt FO0.out g hg).2))
       have FS1:=Lib.hid (FS0.out.on hbb)
       have F56_1:=Lib.hid hbx
       clear hbb hbx hx1
       refine hK _ _ (HS2.out _ FB1.out) ?_
       clear hK K
       try simp only [Act.put,List.setIfInBounds_toArray,List.set_cons_zero,List.set_cons_succ]
       refine anyH_two 3 6 (by kernel_rfl) rfl rfl (by kernel_rfl) (by kernel_rfl) (fun K hK => ?_) (fun K hK => ?_)
       ·go_simp
        (with_reducible refine (HVa.out _ FB1.out).mono ?_)
        rintro e x2 ⟨v45,m45,B45,rfl,hBA,hoA,hmA,hlA,hbb⟩
        obtain ⟨A45,c45,rfl,hnA⟩:=NmR.of_own (lo:=W1.heap.size) (O:=u3.ownBlock) hoA hlA (Nat.le_trans HLO.out (Nat.le_trans FB1.out.size hBA)) (fun g hg => Nat.lt_of_lt_of_le (own_lt FO1.out g hg).2 hBA)
        have FB2:=Lib.hid (FB1.out.chain hbb)
        have FO2:=Lib.hid (own_below FO1.out hbb (fun g hg => (own_lt FO1.out g hg).2))
        have FS2:=Lib.hid (FS1.out.on hbb)
        have F56_2:=Lib.hid (kept_box hbb F56_1.out)
        have F45_2:=Lib.hid hnA
        have FM45:=Lib.hid hmA
        clear hBA hoA hmA hlA hbb hnA
        refine hK _ _ (HS2.out _ FB2.out) ?_
        clear hK K
        try simp only [Act.put,List.setIfInBounds_toArray,List.set_cons_zero,List.set_cons_succ]
        refine o1 6 (fun K hK => ?_)
        obtain ⟨x3,hx3⟩ : ∃ X,X = x2.alloc (exprC bk' bn' ⟨sb'.toArray⟩ (.slice Ab0 nb0 cb0)):=⟨_,rfl⟩
        have hbb : Below x2.heap.size x2 x3:=by rw [hx3];exact below_alloc x2 _
        have hbx : x3.heap[x2.heap.size]? = some (exprC bk' bn' ⟨sb'.toArray⟩ (.slice Ab0 nb0 cb0)):=by rw [hx3];exact heap_of_alloc x2 _
        go_simp
        rw [← hx3]
        have FB3:=Lib.hid (FB2.out.chain hbb)
        have FO3:=Lib.hid (own_below FO2.out hbb (fun g hg => (own_lt FO2.out g hg).2))
        have FS3:=Lib.hid (FS2.out.on hbb)
        have F56_3:=Lib.hid (kept_box hbb F56_2.out)
        have F45_3:=Lib.hid (F45_2.out.on hbb)
        have F48_3:=Lib.hid hbx
        clear hbb hbx hx3
        refine hK _ _ (HS2.out _ FB3.out) ?_
        clear hK K
        try simp only [Act.put,List.setIfInBounds_toArray,List.set_cons_zero,List.set_cons_succ]
        refine o1 7 (fun K hK => ?_)
        go_simp
        (with_reducible refine (HPlb.out _ _ FB3.out F48_3.out).mono ?_)
        rintro e x4 ⟨v49,rfl,hoA,hbb⟩
        obtain ⟨A49,c49,rfl,hnA⟩:=NmR.of_own (lo:=W1.heap.size) (O:=u3.ownBlock) hoA HPb.out (Nat.le_trans HLO.out FB3.out.size) (fun g hg => (own_lt FO3.out g hg).2)
        have FB4:=Lib.hid (FB3.out.chain hbb)
        have FO4:=Lib.hid (own_below FO3.out hbb (fun g hg => (own_lt FO3.out g hg).2))
        have FS4:=Lib.hid (FS3.out.on hbb)
        have F56_4:=Lib.hid (kept_box hbb F56_3.out)
        have F45_4:=Lib.hid (F45_3.out.on hbb)
        have F48_4:=Lib.hid (kept_box hbb F48_3.out)
        have F49_4:=Lib.hid hnA
        clear hoA hbb hnA
        refine hK _ _ (HS2.out _ FB4.out) ?_
        clear hK K
        try simp only [Act.put,List.setIfInBounds_toArray,List.set_cons_zero,List.set_cons_succ]
        refine tk 8 50 (.agg #[.slice A45 m45.length c45,.slice A49 (plainL [.mk bk' bn' sb' bl']).length c49]) (HS2.out _ FB4.out) ?v ?_
        case v => intro Wx hSx;go_simp
        try simp only [Act.put,List.setIfInBounds_toArray,List.set_cons_zero,List.set_cons_succ]
        refine o1 11 (fun K hK => ?_)
        go_simp
        (with_reducible refine (HVb.out _ FB4.out).mono ?_)
        rintro e x5 ⟨v53,m53,B53,rfl,hBA,hoA,hmA,hlA,hbb⟩
        obtain ⟨A53,c53,rfl,hnA⟩:=NmR.of_own (lo:=W1.heap.size) (O:=u3.ownBlock) hoA hlA (Nat.le_trans HLO.out (Nat.le_trans FB4.out.size hBA)) (fun g hg => Nat.lt_of_lt_of_le (own_lt FO4.out g hg).2 hBA)
        have FB5:=Lib.hid (FB4.out.chain hbb)
        have FO5:=Lib.hid (own_below FO4.out hbb (fun g hg => (own_lt FO4.out g hg).2))
        have FS5:=Lib.hid (FS4.out.on hbb)
        have F56_5:=Lib.hid (kept_box hbb F56_4.out)
        have F45_5:=Lib.hid (F45_4.out.on hbb)
        have F48_5:=Lib.hid (kept_box hbb F48_4.out)
        have F49_5:=Lib.hid (F49_4.out.on hbb)
        have F53_5:=Lib.hid hnA
        have FM53:=Lib.hid hmA
        clear hBA hoA hmA hlA hbb hnA
        refine hK _ _ (HS2.out _ FB5.out) ?_
        clear hK K
        try simp only [Act.put,List.setIfInBounds_toArray,List.set_cons_zero,List.set_cons_succ]
        refine o1 15 (fun K hK => ?_)
        go_simp
        (with_reducible refine (HPla.out _ _ FB5.out F56_5.out).mono ?_)
        rintro e x6 ⟨v57,rfl,hoA,hbb⟩
        obtain ⟨A57,c57,rfl,hnA⟩:=NmR.of_own (lo:=W1.heap.size) (O:=u3.ownBlock) hoA HPa.out (Nat.le_trans HLO.out FB5.out.size) (fun g hg => (own_lt FO5.out g hg).2)
        have FB6:=Lib.hid (FB5.out.chain hbb)
        have FO6:=Lib.hid (own_below FO5.out hbb (fun g hg => (own_lt FO5.out g hg).2))
        have FS6:=Lib.hid (FS5.out.on hbb)
        have F56_6:=Lib.hid (kept_box hbb F56_5.out)
        have F45_6:=Lib.hid (F45_5.out.on hbb)
        have F48_6:=Lib.hid (kept_box hbb F48_5.out)
        have F49_6:=Lib.hid (F49_5.out.on hbb)
        have F53_6:=Lib.hid (F53_5.out.on hbb)
        have F57_6:=Lib.hid hnA
        clear hoA hbb hnA
        refine hK _ _ (HS2.out _ FB6.out) ?_
        clear hK K
        try simp only [Act.put,List.setIfInBounds_toArray,List.set_cons_zero,List.set_cons_succ]
        refine tk 16 58 (.agg #[.slice A53 m53.length c53,.slice A57 (plainL [.mk ak' an' sa' al']).length c57]) (HS2.out _ FB6.out) ?v ?_
        case v => intro Wx hSx;go_simp
        try simp only [Act.put,List.setIfInBounds_toArray,List.set_cons_zero,List.set_cons_succ]
        refine o1 17 (fun K hK => ?_)
        obtain ⟨x7,hX⟩ : ∃ X,X = x6.alloc (.cells #[.slice A45 m45.length c45,.slice A49 (plainL [.mk bk' bn' sb' bl']).length c49,.slice A53 m53.length c53,.slice A57 (plainL [.mk ak' an' sa' al']).length c57] 172):=⟨_,rfl⟩
        have hbb : Below x6.heap.size x6 x7:=by rw [hX];exact below_alloc x6 _
        have hbx : x7.heap[x6.heap.size]? = some (.cells #[.slice A45 m45.length c45,.slice A49 (plainL [.mk bk' bn' sb' bl']).length c49,.slice A53 m53.length c53,.slice A57 (plainL [.mk ak' an' sa' al']).length c57] 172):=by rw [hX];exact heap_of_alloc x6 _
        go_simp
        rw [← hX]
        have FB7:=Lib.hid (FB6.out.chain hbb)
        have FO7:=Lib.hid (own_below FO6.out hbb (fun g hg => (own_lt FO6.out g hg).2))
        have FS7:=Lib.hid (FS6.out.on hbb)
        have F56_7:=Lib.hid (kept_box hbb F56_6.out)
        have F45_7:=Lib.hid (F45_6.out.on hbb)
        have F48_7:=Lib.hid (kept_box hbb F48_6.out)
        have F49_7:=Lib.hid (F49_6.out.on hbb)
        have F53_7:=Lib.hid (F53_6.out.on hbb)
        have F57_7:=Lib.hid (F57_6.out.on hbb)
        have HRD:=Lib.hid (reads_box (size:=2) (m:=2) hbx rfl)
        have HSV : Hid (StepV x7 W1.heap.size u3.ownBlock ⟨exVars (.mk ak' an' sa' al'),plainN (.mk bk' bn' sb' bl')⟩ (.slice A45 m45.length c45) (.slice A49 (plainL [.mk bk' bn' sb' bl']).length c49) ∧ StepV x7 W1.heap.size u3.ownBlock ⟨exVars (.mk bk' bn' sb' bl'),plainN (.mk ak' an' sa' al')⟩ (.slice A53 m53.length c53) (.slice A57 (plainL [.mk ak' an' sa' al']).length c57)):=Lib.hid ⟨⟨A45,_,c45,A49,_,c49,m45,rfl,rfl,F45_7.out,FM45.out,by rw [← plainL_one];exact F49_7.out⟩,⟨A53,_,c53,A57,_,c57,m53,rfl,rfl,F53_7.out,FM53.out,by rw [← plainL_one];exact F57_7.out⟩⟩
        have HON:=Lib.hid (four_one (a:=.slice A45 m45.length c45) (b:=.slice A49 (plainL [.mk bk' bn' sb' bl']).length c49) (c:=.slice A53 m53.length c53) (d:=.slice A57 (plainL [.mk ak' an' sa' al']).length c57) rfl rfl rfl rfl)
        clear hbb hbx hX
        refine hK _ _ (HS2.out _ FB7.out) ?_
        clear hK K
        try simp only [Act.put,List.setIfInBounds_toArray,List.set_cons_zero,List.set_cons_succ]
        refine o1 18 (fun K hK => ?_)
        refine wp_append_any x7 _ _ 169 rfl W1.heap.size 172 i0 _ 2 48 Tryz.underlying169 HI0.out.1 HI0.out.2.1 HI0.out.2.2.1 HI0.out.2.2.2 rfl (by decide) u3 z xs rfl FO7.out x7.heap.size (some ⟨x6.heap.size,0,none⟩) 2 _ [.slice A45 m45.length c45,.slice A49 (plainL [.mk bk' bn' sb' bl']).length c49,.slice A53 m53.length c53,.slice A57 (plainL [.mk ak' an' sa' al']).length c57] rfl HRD.out HON.out (by unfold maxLen;have := HZ.out;omega) (by have := HZ.out;omega) (Nat.le_trans HLO.out FB7.out.size) ?_
        intro v' X2 ho2 hg2 hown2
        have hbe:=below_grown FO7.out hg2 (Nat.le_trans HLO.out FB7.out.size)
        have HX2 : Hid (Below W1.heap.size W1 X2 ∧ X2.ownsRow W1.heap.size 172 2 v' (sbL f (i + 1)).length (xs ++ [.slice A45 m45.length c45,.slice A49 (plainL [.mk bk' bn' sb' bl']).length c49,.slice A53 m53.length c53,.slice A57 (plainL [.mk ak' an' sa' al']).length c57]) ∧ StepsAt X2 W1.heap.size v'.ownBlock (sbL f (i + 1)) (xs ++ [.slice A45 m45.length c45,.slice A49 (plainL [.mk bk' bn' sb' bl']).length c49,.slice A53 m53.length c53,.slice A57 (plainL [.mk ak' an' sa' al']).length c57])):=Lib.hid (by
         refine ⟨(H6.out.chain FB7.out).trans hbe,?_,?_⟩
         ·rw [HSC.out,List.length_append,← HZZ.out];exact ho2
         ·rw [HSC.out];have h:=((FS7.out.grown hg2 hown2).snoc (HSV.out.1.grown hg2 hown2)).snoc (HSV.out.2.grown hg2 hown2);rw [List.append_assoc,List.append_assoc] at h;exact h)
        have gx:=HSG.out _ _ (HS2.out _ FB7.out) hg2
        refine hK _ _ gx ?_
        clear hK K ho2 hg2 hown2 hbe
        try simp only [Act.put,List.setIfInBounds_toArray,List.set_cons_zero,List.set_cons_succ]
        refine tk 19 3 v' gx ?v ?_
        case v => intro Wx hSx;go_simp
        try simp only [Act.put,List.setIfInBounds_toArray,List.set_cons_zero,List.set_cons_succ]
        refine wpAnyH_done (by kernel_rfl) ?_ _
        go_wp2
        go_roundg (na - (i + 1))
        case measure => omega
        case rel => exact ⟨i + 1,xs ++ [.slice A45 m45.length c45,.slice A49 (plainL [.mk bk' bn' sb' bl']).length c49,.slice A53 m53.length c53,.slice A57 (plainL [.mk ak' an' sa' al']).length c57],rfl,by omega,by go_num,HX2⟩
       ·obtain ⟨x2,hx2⟩ : ∃ X,X = x1.alloc (exprC bk' bn' ⟨sb'.toArray⟩ (.slice Ab0 nb0 cb0)):=⟨_,rfl⟩
        have hbb : Below x1.heap.size x1 x2:=by rw [hx2];exact below_alloc x1 _
        have hbx : x2.heap[x1.heap.size]? = some (exprC bk' bn' ⟨sb'.toArray⟩ (.slice Ab0 nb0 cb0)):=by rw [hx2];exact heap_of_alloc x1 _
        go_simp
        rw [← hx2]
        have FB2:=Lib.hid (FB1.out.chain hbb)
        have FO2:=Lib.hid (own_below FO1.out hbb (fun g hg => (own_lt FO1.out g hg).2))
        have FS2:=Lib.hid (FS1.out.on hbb)
        have F56_2:=Lib.hid (kept_box hbb F56_1.out)
        have F48_2:=Lib.hid hbx
        clear hbb hbx hx2
        refine hK _ _ (HS2.out _ FB2.out) ?_
        clear hK K
        try simp only [Act.put,List.setIfInBounds_toArray,List.set_cons_zero,List.set_cons_succ]
        refine o1 3 (fun K hK => ?_)
        go_simp
        (with_reducible refine (HVa.out _ FB2.out).mono ?_)
        rintro e x3 ⟨v45,m45,B45,rfl,hBA,hoA,hmA,hlA,hbb⟩
        obtain ⟨A45,c45,rfl,hnA⟩:=NmR.of_own (lo:=W1.heap.size) (O:=u3.ownBlock) hoA hlA (Nat.le_trans HLO.out (Nat.le_trans FB2.out.size hBA)) (fun g hg => Nat.lt_of_lt_of_le (own_lt FO2.out g hg).2 hBA)
        have FB3:=Lib.hid (FB2.out.chain hbb)
        have FO3:=Lib.hid (own_below FO2.out hbb (fun g hg => (own_lt FO2.out g hg).2))
        have FS3:=Lib.hid (FS2.out.on hbb)
        have F56_3:=Lib.hid (kept_box hbb F56_2.out)
        have F48_3:=Lib.hid (kept_box hbb F48_2.out)
        have F45_3:=Lib.hid hnA
        have FM45:=Lib.hid hmA
        clear hBA hoA hmA hlA hbb hnA
        refine hK _ _ (HS2.out _ FB3.out) ?_
        clear hK K
        try simp only [Act.put,List.setIfInBounds_toArray,List.set_cons_zero,List.set_cons_succ]
        refine o1 7 (fun K hK => ?_)
        go_simp
        (with_reducible refine (HPlb.out _ _ FB3.out F48_3.out).mono ?_)
        rintro e x4 ⟨v49,rfl,hoA,hbb⟩
        obtain ⟨A49,c49,rfl,hnA⟩:=NmR.of_own (lo:=W1.heap.size) (O:=u3.ownBlock) hoA HPb.out (Nat.le_trans HLO.out FB3.out.size) (fun g hg => (own_lt FO3.out g hg).2)
        have FB4:=Lib.hid (FB3.out.chain hbb)
        have FO4:=Lib.hid (own_below FO3.out hbb (fun g hg => (own_lt FO3.out g hg).2))
        have FS4:=Lib.hid (FS3.out.on hbb)
        have F56_4:=Lib.hid (kept_box hbb F56_3.out)
        have F48_4:=Lib.hid (kept_box hbb F48_3.out)
        have F45_4:=Lib.hid (F45_3.out.on hbb)
        have F49_4:=Lib.hid hnA
        clear hoA hbb hnA
        refine hK _ _ (HS2.out _ FB4.out) ?_
        clear hK K
        try simp only [Act.put,List.setIfInBounds_toArray,List.set_cons_zero,List.set_cons_succ]
        refine tk 8 50 (.agg #[.slice A45 m45.length c45,.slice A49 (plainL [.mk bk' bn' sb' bl']).length c49]) (HS2.out _ FB4.out) ?v ?_
        case v => intro Wx hSx;go_simp
        try simp only [Act.put,List.setIfInBounds_toArray,List.set_cons_zero,List.set_cons_succ]
        refine o1 11 (fun K hK => ?_)
        go_simp
        (with_reducible refine (HVb.out _ FB4.out).mono ?_)
        rintro e x5 ⟨v53,m53,B53,rfl,hBA,hoA,hmA,hlA,hbb⟩
        obtain ⟨A53,c53,rfl,hnA⟩:=NmR.of_own (lo:=W1.heap.size) (O:=u3.ownBlock) hoA hlA (Nat.le_trans HLO.out (Nat.le_trans FB4.out.size hBA)) (fun g hg => Nat.lt_of_lt_of_le (own_lt FO4.out g hg).2 hBA)
        have FB5:=Lib.hid (FB4.out.chain hbb)
        have FO5:=Lib.hid (own_below FO4.out hbb (fun g hg => (own_lt FO4.out g hg).2))
        have FS5:=Lib.hid (FS4.out.on hbb)
        have F56_5:=Lib.hid (kept_box hbb F56_4.out)
        have F48_5:=Lib.hid (kept_box hbb F48_4.out)
        have F45_5:=Lib.hid (F45_4.out.on hbb)
        have F49_5:=Lib.hid (F49_4.out.on hbb)
        have F53_5:=Lib.hid hnA
        have FM53:=Lib.hid hmA
        clear hBA hoA hmA hlA hbb hnA
        refine hK _ _ (HS2.out _ FB5.out) ?_
        clear hK K
        try simp only [Act.put,List.setIfInBounds_toArray,List.set_cons_zero,List.set_cons_succ]
        refine o1 15 (fun K hK => ?_)
        go_simp
        (with_reducible refine (HPla.out _ _ FB5.out F56_5.out).mono ?_)
        rintro e x6 ⟨v57,rfl,hoA,hbb⟩
        obtain ⟨A57,c57,rfl,hnA⟩:=NmR.of_own (lo:=W1.heap.size) (O:=u3.ownBlock) hoA HPa.out (Nat.le_trans HLO.out FB5.out.size) (fun g hg => (own_lt FO5.out g hg).2)
        have FB6:=Lib.hid (FB5.out.chain hbb)
        have FO6:=Lib.hid (own_below FO5.out hbb (fun g hg => (own_lt FO5.out g hg).2))
        have FS6:=Lib.hid (FS5.out.on hbb)
        have F56_6:=Lib.hid (kept_box hbb F56_5.out)
        have F48_6:=Lib.hid (kept_box hbb F48_5.out)
        have F45_6:=Lib.hid (F45_5.out.on hbb)
        have F49_6:=Lib.hid (F49_5.out.on hbb)
        have F53_6:=Lib.hid (F53_5.out.on hbb)
        have F57_6:=Lib.hid hnA
        clear hoA hbb hnA
        refine hK _ _ (HS2.out _ FB6.out) ?_
        clear hK K
        try simp only [Act.put,List.setIfInBounds_toArray,List.set_cons_zero,List.set_cons_succ]
        refine tk 16 58 (.agg #[.slice A53 m53.length c53,.slice A57 (plainL [.mk ak' an' sa' al']).length c57]) (HS2.out _ FB6.out) ?v ?_
        case v => intro Wx hSx;go_simp
        try simp only [Act.put,List.setIfInBounds_toArray,List.set_cons_zero,List.set_cons_succ]
        refine o1 17 (fun K hK => ?_)
        obtain ⟨x7,hX⟩ : ∃ X,X = x6.alloc (.cells #[.slice A45 m45.length c45,.slice A49 (plainL [.mk bk' bn' sb' bl']).length c49,.slice A53 m53.length c53,.slice A57 (plainL [.mk ak' an' sa' al']).length c57] 172):=⟨_,rfl⟩
        have hbb : Below x6.heap.size x6 x7:=by rw [hX];exact below_alloc x6 _
        have hbx : x7.heap[x6.heap.size]? = some (.cells #[.slice A45 m45.length c45,.slice A49 (plainL [.mk bk' bn' sb' bl']).length c49,.slice A53 m53.length c53,.slice A57 (plainL [.mk ak' an' sa' al']).length c57] 172):=by rw [hX];exact heap_of_alloc x6 _
        go_simp
        rw [← hX]
        have FB7:=Lib.hid (FB6.out.chain hbb)
        have FO7:=Lib.hid (own_below FO6.out hbb (fun g hg => (own_lt FO6.out g hg).2))
        have FS7:=Lib.hid (FS6.out.on hbb)
        have F56_7:=Lib.hid (kept_box hbb F56_6.out)
        have F48_7:=Lib.hid (kept_box hbb F48_6.out)
        have F45_7:=Lib.hid (F45_6.out.on hbb)
        have F49_7:=Lib.hid (F49_6.out.on hbb)
        have F53_7:=Lib.hid (F53_6.out.on hbb)
        have F57_7:=Lib.hid (F57_6.out.on hbb)
        have HRD:=Lib.hid (reads_box (size:=2) (m:=2) hbx rfl)
        have HSV : Hid (StepV x7 W1.heap.size u3.ownBlock ⟨exVars (.mk ak' an' sa' al'),plainN (.mk bk' bn' sb' bl')⟩ (.slice A45 m45.length c45) (.slice A49 (plainL [.mk bk' bn' sb' bl']).length c49) ∧ StepV x7 W1.heap.size u3.ownBlock ⟨exVars (.mk bk' bn' sb' bl'),plainN (.mk ak' an' sa' al')⟩ (.slice A53 m53.length c53) (.slice A57 (plainL [.mk ak' an' sa' al']).length c57)):=Lib.hid ⟨⟨A45,_,c45,A49,_,c49,m45,rfl,rfl,F45_7.out,FM45.out,by rw [← plainL_one];exact F49_7.out⟩,⟨A53,_,c53,A57,_,c57,m53,rfl,rfl,F53_7.out,FM53.out,by rw [← plainL_one];exact F57_7.out⟩⟩
        have HON:=Lib.hid (four_one (a:=.slice A45 m45.length c45) (b:=.slice A49 (plainL [.mk bk' bn' sb' bl']).length c49) (c:=.slice A53 m53.length c53) (d:=.slice A57 (plainL [.mk ak' an' sa' al']).length c57) rfl rfl rfl rfl)
        clear hbb hbx hX
        refine hK _ _ (HS2.out _ FB7.out) ?_
        clear hK K
        try simp only [Act.put,List.setIfInBounds_toArray,List.set_cons_zero,List.set_cons_succ]
        refine o1 18 (fun K hK => ?_)
        refine wp_append_any x7 _ _ 169 rfl W1.heap.size 172 i0 _ 2 48 Tryz.underlying169 HI0.out.1 HI0.out.2.1 HI0.out.2.2.1 HI0.out.2.2.2 rfl (by decide) u3 z xs rfl FO7.out x7.heap.size (some ⟨x6.heap.size,0,none⟩) 2 _ [.slice A45 m45.length c45,.slice A49 (plainL [.mk bk' bn' sb' bl']).length c49,.slice A53 m53.length c53,.slice A57 (plainL [.mk ak' an' sa' al']).length c57] rfl HRD.out HON.out (by unfold maxLen;have := HZ.out;omega) (by have := HZ.out;omega) (Nat.le_trans HLO.out FB7.out.size) ?_
        intro v' X2 ho2 hg2 hown2
        have hbe:=below_grown FO7.out hg2 (Nat.le_trans HLO.out FB7.out.size)
        have HX2 : Hid (Below W1.heap.size W1 X2 ∧ X2.ownsRow W1.heap.size 172 2 v' (sbL f (i + 1)).length (xs ++ [.slice A45 m45.length c45,.slice A49 (plainL [.mk bk' bn' sb' bl']).length c49,.slice A53 m53.length c53,.slice A57 (plainL [.mk ak' an' sa' al']).length c57]) ∧ StepsAt X2 W1.heap.size v'.ownBlock (sbL f (i + 1)) (xs ++ [.slice A45 m45.length c45,.slice A49 (plainL [.mk bk' bn' sb' bl']).length c49,.slice A53 m53.length c53,.slice A57 (plainL [.mk ak' an' sa' al']).length c57])):=Lib.hid (by
         refine ⟨(H6.out.chain FB7.out).trans hbe,?_,?_⟩
         ·rw [HSC.out,List.length_append,← HZZ.out];exact ho2
         ·rw [HSC.out];have h:=((FS7.out.grown hg2 hown2).snoc (HSV.out.1.grown hg2 hown2)).snoc (HSV.out.2.grown hg2 hown2);rw [List.append_assoc,List.append_assoc] at h;exact h)
        have gx:=HSG.out _ _ (HS2.out _ FB7.out) hg2
        refine hK _ _ gx ?_
        clear hK K ho2 hg2 hown2 hbe
        try simp only [Act.put,List.setIfInBounds_toArray,List.set_cons_zero,List.set_cons_succ]
        refine tk 19 3 v' gx ?v ?_
        case v => intro Wx hSx;go_simp
        try simp only [Act.put,List.setIfInBounds_toArray,List.set_cons_zero,List.set_cons_succ]
        refine wpAnyH_done (by kernel_rfl) ?_ _
        go_wp2
        go_roundg (na - (i + 1))
        case measure => omega
        case rel => exact ⟨i + 1,xs ++ [.slice A45 m45.length c45,.slice A49 (plainL [.mk bk' bn' sb' bl']).length c49,.slice A53 m53.length c53,.slice A57 (plainL [.mk ak' an' sa' al']).length c57],rfl,by omega,by go_num,HX2⟩
     ·have hk' : (k0 == 1) = false:=beq_eq_false_iff_ne.2 hk
      have HE : Hid (sbL f (i + 1) = sbL f i):=Lib.hid (by
       rw [hsc]
       have : stepsAt ⟨k0,.mk ak' an' sa' al',.mk bk' bn' sb' bl'⟩ = []:=if_neg hk
       rw [this,List.append_nil])
      have HX : Hid (Below W1.heap.size W1 W6 ∧ W6.ownsRow W1.heap.size 172 2 u3 (sbL f (i + 1)).length xs ∧ StepsAt W6 W1.heap.size u3.ownBlock (sbL f (i + 1)) xs):=Lib.hid (by
       rw [HE.out]
       exact ⟨H6.out,hO6,hS6⟩)
      clear hx hsc hz1 hb6 hp6 hO6 hS6 hg hab hls ra rb hk hcs heq1 heq2
      go_wp2
      rw [← hW6]
      go_roundg (na - (i + 1))
      case measure => omega
      case rel => exact ⟨i + 1,xs,rfl,by omega,by go_num,HX⟩
    ·have hlt' : ¬ (i : Int) < na:=by omega
     obtain rfl : i = na:=by omega
     have hfull : sbL f i = stepsF f:=by
      unfold sbL stepsF
      rw [List.take_of_length_le (by rw [← HA.out.2.1];exact Nat.le_refl _)]
     have hI2:=HI.out
     rw [hfull] at hI2
     have HM2:=Lib.hid hI2
     clear hfull hI2 HI
     go_wp2
     go_ret
     exact ⟨_,xs,W1.heap.size,rfl,HW1.out.1.size,HM2.out.2.1,HM2.out.2.2,HW1.out.1.chain HM2.out.1⟩
end Go.Proofs.YthenbbpagbdbeaaGreatDoor
