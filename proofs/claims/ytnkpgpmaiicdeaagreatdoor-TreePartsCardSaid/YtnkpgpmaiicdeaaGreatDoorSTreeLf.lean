/-
  LeftConds.
  LeftFormulas, at any row of formulas.
  LeftStmts, at any row of statements.
-/
import Derived.Test.YtnkpgpmaiicdeaaGreatDoorSTreeL
import Derived.Deep.RegionHeld3
import Derived.MakeChecks
import Derived.OpenShut
set_option linter.unusedVariables false
set_option linter.unusedSimpArgs false
namespace Go.Proofs.YtnkpgpmaiicdeaaGreatDoor
set_option maxRecDepth 100000
set_option maxHeartbeats 8000000
open Go.RowKit
theorem pair_row {W : World} {g : Nat} {ak an bk bn : Int} {sa sb : List UInt8} {al bl : List Ex} {Aa Ab : Option Addr} {Ca Cb : Nat}
 (hg : W.heap[g]? = some (.cells #[.int .i64 ak,.int .i64 an,.string ⟨sa.toArray⟩,.slice Aa al.length Ca,.int .i64 bk,.int .i64 bn,.string ⟨sb.toArray⟩,.slice Ab bl.length Cb] 33 (0,0)))
 (h1 : sa.length ≤ maxLen) (h2 : al.length ≤ maxLen) (h3 : sb.length ≤ maxLen) (h4 : bl.length ≤ maxLen) (ha : ExRow W W.heap.size al Aa) (hb : ExRow W W.heap.size bl Ab) :
 ExRow W W.heap.size [.mk ak an sa al,.mk bk bn sb bl] (some ⟨g,0,none⟩):=by
 refine .row _ _ (fun i => if i = 0 then Aa else Ab) (fun i => if i = 0 then Ca else Cb) (Array.getElem?_eq_some_iff.1 hg).1 (fun i k n s l hi => ?_) (fun i k n s l hi => ?_)
 ·match i,hi with
  | 0,hi =>
    injection hi with hi;injection hi with e1 e2 e3 e4;subst e1 e2 e3 e4
    simp only [add_block0]
    exact ⟨cell_of_block hg 0 rfl,cell_of_block hg 1 rfl,cell_of_block hg 2 rfl,cell_of_block hg 3 rfl,h1,h2⟩
  | 1,hi =>
    injection hi with hi;injection hi with e1 e2 e3 e4;subst e1 e2 e3 e4
    simp only [add_block0]
    exact ⟨cell_of_block hg 4 rfl,cell_of_block hg 5 rfl,cell_of_block hg 6 rfl,cell_of_block hg 7 rfl,h3,h4⟩
  | i + 2,hi => simp at hi
 ·match i,hi with
  | 0,hi => injection hi with hi;injection hi with e1 e2 e3 e4;subst e4;exact ha
  | 1,hi => injection hi with hi;injection hi with e1 e2 e3 e4;subst e4;exact hb
  | i + 2,hi => simp at hi
theorem left_conds : ∀ (M : Nat) (cs : List Cn),SizeOf.sizeOf cs < M → ∀ (left : Int) (A : Option Addr) (c : Nat) (w : World),-1 ≤ left → left ≤ 200000 → CnRow w w.heap.size cs A → cs.length ≤ maxLen →
 Calls Tryz.prog 25 #[.int .i64 left,.slice A cs.length c] w fun e w' => ∃ r : Int,e = .returned (.int .i64 r) ∧ -1 ≤ r ∧ r ≤ 200000 ∧ Below w.heap.size w w':=by
 intro M
 induction M with
 | zero => intro cs h;omega
 | succ M ih =>
   intro cs hM left A c w h0 h1 hr hn
   obtain ⟨n,hnn⟩ : ∃ n,n = cs.length:=⟨_,rfl⟩
   have HH:=Lib.hid (And.intro hr (And.intro ih (And.intro hM hnn)))
   have HB0:=Lib.hid (Below.refl w.heap.size w)
   rw [← hnn] at hn ⊢
   clear hr ih hM hnn
   unfold maxLen at hn
   go_enter Tryz.func25,Tryz.ntmps25
   go_wp2
   go_loopg [0,5] n (fun m lf j wr => ∃ (k : Nat) (r : Int),m = n - k ∧ k ≤ n ∧ j = .int .i64 k ∧ lf = .int .i64 r ∧ -1 ≤ r ∧ r ≤ 200000 ∧ Hid (Below w.heap.size w wr))
   case atStart => exact ⟨0,left,rfl,Nat.zero_le _,rfl,rfl,h0,h1,HB0⟩
   case round =>
    obtain ⟨k,r,rfl,hk,rfl,rfl,hr0,hr1,HI⟩:=hrel
    by_cases hlt : k < n
    ·by_cases hneg : 0 ≤ r
     ·have hki : (k : Int) < n:=by omega
      obtain ⟨⟨k0,⟨ak,an,sa,al⟩,⟨bk,bn,sb,bl⟩,l⟩,hi⟩ : ∃ x,cs[k]? = some x:=⟨cs[k]'(by rw [← HH.out.2.2.2];exact hlt),List.getElem?_eq_getElem _⟩
      obtain ⟨a,Aa,Ca,Ab,Cb,Al,Cl,rfl,hab,hc,b1,b2,b3,b4,b5,ra,rb,rl⟩:=(HH.out.1.stay HI.out (Nat.le_refl _)).at_ hi
      have c1 : wr.cell? ⟨(a.add (k * 10)).block,(a.add (k * 10)).off + 1,none⟩ = some (.int .i64 ak):=hc.c1
      have c2 : wr.cell? ⟨(a.add (k * 10)).block,(a.add (k * 10)).off + 2,none⟩ = some (.int .i64 an):=hc.c2
      have c3 : wr.cell? ⟨(a.add (k * 10)).block,(a.add (k * 10)).off + 3,none⟩ = some (.string ⟨sa.toArray⟩):=hc.c3
      have c4 : wr.cell? ⟨(a.add (k * 10)).block,(a.add (k * 10)).off + 4,none⟩ = some (.slice Aa al.length Ca):=hc.c4
      have c5 : wr.cell? ⟨(a.add (k * 10)).block,(a.add (k * 10)).off + 5,none⟩ = some (.int .i64 bk):=hc.c5
      have c6 : wr.cell? ⟨(a.add (k * 10)).block,(a.add (k * 10)).off + 6,none⟩ = some (.int .i64 bn):=hc.c6
      have c7 : wr.cell? ⟨(a.add (k * 10)).block,(a.add (k * 10)).off + 7,none⟩ = some (.string ⟨sb.toArray⟩):=hc.c7
      have c8 : wr.cell? ⟨(a.add (k * 10)).block,(a.add (k * 10)).off + 8,none⟩ = some (.slice Ab bl.length Cb):=hc.c8
      have hablk : (a.add (k * 10)).block < w.heap.size:=by rw [block_adds];exact hab
      have hwr:=HI.out.size
      have hsz : SizeOf.sizeOf l < M:=by
       have h1:=HH.out.2.2.1
       have h2:=List.sizeOf_lt_of_mem (List.mem_of_getElem? hi)
       have h3 : SizeOf.sizeOf l < SizeOf.sizeOf (Cn.mk k0 (.mk ak an sa al) (.mk bk bn sb bl) l):=by simp;omega
       omega
      obtain ⟨PC,hPC⟩ : ∃ PC : Obj,PC = .cells #[.int .i64 ak,.int .i64 an,.string ⟨sa.toArray⟩,.slice Aa al.length Ca,.int .i64 bk,.int .i64 bn,.string ⟨sb.toArray⟩,.slice Ab bl.length Cb] 33:=⟨_,rfl⟩
      have HE : Hid (Calls Tryz.prog 24 #[.int .i64 (r - 1),.slice (some ⟨wr.heap.size,0,none⟩) 2 2] (wr.alloc (.cells #[.int .i64 ak,.int .i64 an,.string ⟨sa.toArray⟩,.slice Aa al.length Ca,.int .i64 bk,.int .i64 bn,.string ⟨sb.toArray⟩,.slice Ab bl.length Cb] 33)).drew fun e w' => ∃ r : Int,e = .returned (.int .i64 r) ∧ -1 ≤ r ∧ r ≤ 200000 ∧ Below wr.heap.size wr w'):=Lib.hid (by
       have hba:=(below_alloc wr (.cells #[.int .i64 ak,.int .i64 an,.string ⟨sa.toArray⟩,.slice Aa al.length Ca,.int .i64 bk,.int .i64 bn,.string ⟨sb.toArray⟩,.slice Ab bl.length Cb] 33)).drew
       have hgr:=heap_of_alloc wr (.cells #[.int .i64 ak,.int .i64 an,.string ⟨sa.toArray⟩,.slice Aa al.length Ca,.int .i64 bk,.int .i64 bn,.string ⟨sb.toArray⟩,.slice Ab bl.length Cb] 33)
       refine (left_exprs _ [.mk ak an sa al,.mk bk bn sb bl] (Nat.lt_succ_self _) (r - 1) (some ⟨wr.heap.size,0,none⟩) 2 _ (by omega) (by omega) (pair_row (W:=(wr.alloc _).drew) hgr b1 b2 b3 b4 ((ra.stay hba hwr).more (Nat.le_trans hwr hba.size)) ((rb.stay hba hwr).more (Nat.le_trans hwr hba.size))) (show 2 ≤ maxLen by decide)).mono fun e w' ⟨r',he,q0,q1,hb⟩ => ⟨r',he,q0,q1,hba.chain hb⟩)
      have HL:=Lib.hid (And.intro (HH.out.2.1 l hsz) (And.intro rl b5))
      have HLT:=Lib.hid (And.intro trivial (And.intro hlt (And.intro hablk hc)))
      have hw1 : IntKind.i64.wrap (r - 1) = r - 1:=by rw [IntKind.wrap_i64];omega
      clear hc b1 b2 b3 b4 b5 ra rb rl hi hsz hPC PC hablk hwr
      go_wp2
      go_region_held3 (fun W => W.cell? ⟨(a.add (k * 10)).block,(a.add (k * 10)).off + 1,none⟩ = some (.int .i64 ak) ∧ W.cell? ⟨(a.add (k * 10)).block,(a.add (k * 10)).off + 2,none⟩ = some (.int .i64 an) ∧ W.cell? ⟨(a.add (k * 10)).block,(a.add (k * 10)).off + 3,none⟩ = some (.string ⟨sa.toArray⟩) ∧ W.cell? ⟨(a.add (k * 10)).block,(a.add (k * 10)).off + 4,none⟩ = some (.slice Aa al.length Ca) ∧
       W.cell? ⟨(a.add (k * 10)).block,(a.add (k * 10)).off + 5,none⟩ = some (.int .i64 bk) ∧ W.cell? ⟨(a.add (k * 10)).block,(a.add (k * 10)).off + 6,none⟩ = some (.int .i64 bn) ∧ W.cell? ⟨(a.add (k * 10)).block,(a.add (k * 10)).off + 7,none⟩ = some (.string ⟨sb.toArray⟩) ∧ W.cell? ⟨(a.add (k * 10)).block,(a.add (k * 10)).off + 8,none⟩ = some (.slice Ab bl.length Cb))
       (first | go_keep | (trace_state;fail))
       (first
         | (go_at_call 24;refine HE.out.mono ?_;rintro e w3 ⟨r2,rfl,q0,q1,hb⟩;have HB3:=Lib.hid (And.intro (HI.out.chain hb) hb);obtain ⟨g0,g1,g2,g3,g4,g5,g6,g7,g8,g9⟩:=(HLT.out.2.2.2.stay hb (Nat.lt_of_lt_of_le HLT.out.2.2.1 HI.out.size)).flat;clear hb))
      all_goals
       (go_wp2_with (go_at_call 25;refine (HL.out.1 _ _ _ w3 q0 q1 ((HL.out.2.1.stay HB3.out.2 HI.out.size).more (Nat.le_trans HI.out.size HB3.out.2.size)) HL.out.2.2).mono ?_;rintro e w4 ⟨r3,rfl,p0,p1,hb4⟩;have HB4:=Lib.hid (HB3.out.1.chain hb4);clear hb4)
        go_roundg (n - (k + 1))
        case measure => have := HLT.out.2.1;omega
        case rel => exact ⟨k + 1,r3,rfl,(by have := HLT.out.2.1;omega),by go_num,rfl,p0,p1,HB4⟩)
     ·have hki : (k : Int) < n:=by omega
      go_wp2
      go_ret
      exact ⟨r,rfl,hr0,hr1,HI.out⟩
    ·obtain rfl : k = n:=by omega
     go_wp2
     go_ret
     exact ⟨r,rfl,hr0,hr1,HI.out⟩
end Go.Proofs.YtnkpgpmaiicdeaaGreatDoor
namespace Go.Proofs.YtnkpgpmaiicdeaaGreatDoor
set_option maxRecDepth 100000
set_option maxHeartbeats 8000000
open Go.RowKit
theorem left_formulas (fs : List Fm) (left : Int) (A : Option Addr) (c : Nat) (w : World) (h0 : -1 ≤ left) (h1 : left ≤ 200000) (hr : FmRow w w.heap.size fs A) (hn : fs.length ≤ maxLen) :
 Calls Tryz.prog 26 #[.int .i64 left,.slice A fs.length c] w fun e w' => ∃ r : Int,e = .returned (.int .i64 r) ∧ -1 ≤ r ∧ r ≤ 200000 ∧ Below w.heap.size w w':=by
 obtain ⟨n,hnn⟩ : ∃ n,n = fs.length:=⟨_,rfl⟩
 have HH:=Lib.hid (And.intro hr hnn)
 have HB0:=Lib.hid (Below.refl w.heap.size w)
 rw [← hnn] at hn ⊢
 clear hr hnn
 unfold maxLen at hn
 go_enter Tryz.func26,Tryz.ntmps26
 go_wp2
 go_loopg [0,5] n (fun m lf j wr => ∃ (k : Nat) (r : Int),m = n - k ∧ k ≤ n ∧ j = .int .i64 k ∧ lf = .int .i64 r ∧ -1 ≤ r ∧ r ≤ 200000 ∧ Hid (Below w.heap.size w wr))
 case atStart => exact ⟨0,left,rfl,Nat.zero_le _,rfl,rfl,h0,h1,HB0⟩
 case round =>
  obtain ⟨k,r,rfl,hk,rfl,rfl,hr0,hr1,HI⟩:=hrel
  by_cases hlt : k < n
  ·by_cases hneg : 0 ≤ r
   ·have hki : (k : Int) < n:=by omega
    obtain ⟨⟨ps,ats,cls⟩,hi⟩ : ∃ x,fs[k]? = some x:=⟨fs[k]'(by rw [← HH.out.2];exact hlt),List.getElem?_eq_getElem _⟩
    obtain ⟨a,rfl,hab,Ap,cp,Aa,ca,Ac,cc,d0,d1,d2,⟨b0,b1,b2⟩,rp,ra,rc⟩:=HH.out.1.at_ hi
    simp only at d0 d1 d2 b0 b1 b2 rp ra rc
    obtain ⟨na,hna⟩ : ∃ na,na = ats.length:=⟨_,rfl⟩
    obtain ⟨nc,hnc⟩ : ∃ nc,nc = cls.length:=⟨_,rfl⟩
    rw [← hna] at d1 b1
    rw [← hnc] at d2 b2
    have HF : Hid (∀ W,Below w.heap.size w W → W.cell? ⟨(a.add (k * 3)).block,(a.add (k * 3)).off + 1,none⟩ = some (.slice Aa na ca) ∧ W.cell? ⟨(a.add (k * 3)).block,(a.add (k * 3)).off + 2,none⟩ = some (.slice Ac nc cc)):=Lib.hid (fun W hb =>
     ⟨(hb.cell (p:=(a.add (k * 3)).add 1) (by rw [block_adds,block_adds];exact hab)).trans d1,(hb.cell (p:=(a.add (k * 3)).add 2) (by rw [block_adds,block_adds];exact hab)).trans d2⟩)
    have HR:=Lib.hid (And.intro ra (And.intro rc (And.intro hna hnc)))
    have HLT:=Lib.hid (And.intro trivial hlt)
    clear d0 d1 d2 b0 rp ra rc hi hna hnc
    unfold maxLen at b1 b2
    obtain ⟨f1,f2⟩:=HF.out _ HI.out
    go_wp2
    go_loopg [0,6] na (fun m lf j wr => ∃ (q : Nat) (r1 : Int),m = na - q ∧ q ≤ na ∧ j = .int .i64 q ∧ lf = .int .i64 r1 ∧ -1 ≤ r1 ∧ r1 ≤ 200000 ∧ Hid (Below w.heap.size w wr))
    case atStart => exact ⟨0,r - 1,rfl,Nat.zero_le _,rfl,(by first | rfl | go_num),by omega,by omega,HI⟩
    case round =>
     obtain ⟨q,r1,rfl,hq,rfl,rfl,hr2,hr3,HJ⟩:=hrel
     clear f1 f2
     obtain ⟨f1,f2⟩:=HF.out _ HJ.out
     by_cases hqt : q < na
     ·have hqi : (q : Int) < na:=by omega
      obtain ⟨⟨k0,xa,xb⟩,hx⟩ : ∃ x,ats[q]? = some x:=⟨ats[q]'(by rw [← HR.out.2.2.1];exact hqt),List.getElem?_eq_getElem _⟩
      obtain ⟨a2,rfl,hab2,ak,an,sa,al,bk,bn,sb,bl,Ba,ca2,Bb,cb2,rfl,rfl,hc,⟨p1,p2,p3,p4⟩,ra,rb⟩:=HR.out.1.at_ hx
      simp only at hc
      have habk : (a2.add (q * 9)).block < w.heap.size:=by rw [block_adds];exact hab2
      have hcw:=hc.stay HJ.out habk
      obtain ⟨e0,e1,e2,e3,e4,e5,e6,e7,e8⟩:=hcw.flat
      have hwr:=HJ.out.size
      have HE : Hid (Calls Tryz.prog 24 #[.int .i64 r1,.slice (some ⟨wr.heap.size,0,none⟩) 2 2] (wr.alloc (.cells #[.int .i64 ak,.int .i64 an,.string ⟨sa.toArray⟩,.slice Ba al.length ca2,.int .i64 bk,.int .i64 bn,.string ⟨sb.toArray⟩,.slice Bb bl.length cb2] 33)).drew fun e w' => ∃ r : Int,e = .returned (.int .i64 r) ∧ -1 ≤ r ∧ r ≤ 200000 ∧ Below wr.heap.size wr w'):=Lib.hid (by
       have hba:=(below_alloc wr (.cells #[.int .i64 ak,.int .i64 an,.string ⟨sa.toArray⟩,.slice Ba al.length ca2,.int .i64 bk,.int .i64 bn,.string ⟨sb.toArray⟩,.slice Bb bl.length cb2] 33)).drew
       have hgr:=heap_of_alloc wr (.cells #[.int .i64 ak,.int .i64 an,.string ⟨sa.toArray⟩,.slice Ba al.length ca2,.int .i64 bk,.int .i64 bn,.string ⟨sb.toArray⟩,.slice Bb bl.length cb2] 33)
       refine (left_exprs _ [.mk ak an sa al,.mk bk bn sb bl] (Nat.lt_succ_self _) r1 (some ⟨wr.heap.size,0,none⟩) 2 _ hr2 hr3 (pair_row (W:=(wr.alloc _).drew) hgr p1 p2 p3 p4 (((ra.stay HJ.out (Nat.le_refl _)).stay hba hwr).more (Nat.le_trans hwr hba.size)) (((rb.stay HJ.out (Nat.le_refl _)).stay hba hwr).more (Nat.le_trans hwr hba.size))) (show 2 ≤ maxLen by decide)).mono fun e w' ⟨r',he,q0,q1,hb⟩ => ⟨r',he,q0,q1,hba.chain hb⟩)
      have HQT:=Lib.hid (And.intro trivial (And.intro hqt (And.intro habk hc)))
      clear hc hcw p1 p2 p3 p4 ra rb hx habk hwr f2 e0
      go_wp2
      go_region_held3 (fun W => W.cell? ⟨(a.add (k * 3)).block,(a.add (k * 3)).off + 1,none⟩ = some (.slice (some a2) na ca) ∧ W.cell? ⟨(a2.add (q * 9)).block,(a2.add (q * 9)).off + 1,none⟩ = some (.int .i64 ak) ∧ W.cell? ⟨(a2.add (q * 9)).block,(a2.add (q * 9)).off + 2,none⟩ = some (.int .i64 an) ∧ W.cell? ⟨(a2.add (q * 9)).block,(a2.add (q * 9)).off + 3,none⟩ = some (.string ⟨sa.toArray⟩) ∧ W.cell? ⟨(a2.add (q * 9)).block,(a2.add (q * 9)).off + 4,none⟩ = some (.slice Ba al.length ca2) ∧
       W.cell? ⟨(a2.add (q * 9)).block,(a2.add (q * 9)).off + 5,none⟩ = some (.int .i64 bk) ∧ W.cell? ⟨(a2.add (q * 9)).block,(a2.add (q * 9)).off + 6,none⟩ = some (.int .i64 bn) ∧ W.cell? ⟨(a2.add (q * 9)).block,(a2.add (q * 9)).off + 7,none⟩ = some (.string ⟨sb.toArray⟩) ∧ W.cell? ⟨(a2.add (q * 9)).block,(a2.add (q * 9)).off + 8,none⟩ = some (.slice Bb bl.length cb2))
       (first | go_keep | (trace_state;fail))
       (first
         | (go_at_call 24;refine HE.out.mono ?_;rintro e w3 ⟨r2,rfl,q0,q1,hb⟩;have HB3:=Lib.hid (HJ.out.chain hb);obtain ⟨g0,g1,g2,g3,g4,g5,g6,g7,g8⟩:=(HQT.out.2.2.2.stay HB3.out HQT.out.2.2.1).flat;obtain ⟨y1,y2⟩:=HF.out _ HB3.out;clear hb))
      all_goals
       (go_wp2
        go_roundg (na - (q + 1))
        case measure => have := HQT.out.2.1;omega
        case rel => exact ⟨q + 1,r2,rfl,(by have := HQT.out.2.1;omega),by go_num,rfl,q0,q1,HB3⟩)
     ·obtain rfl : q = na:=by omega
      go_wp2
      go_loopg [0,7] nc (fun m lf j wr => ∃ (t : Nat) (r4 : Int),m = nc - t ∧ t ≤ nc ∧ j = .int .i64 t ∧ lf = .int .i64 r4 ∧ -1 ≤ r4 ∧ r4 ≤ 200000 ∧ Hid (Below w.heap.size w wr))
      case atStart => exact ⟨0,r1,rfl,Nat.zero_le _,rfl,rfl,hr2,hr3,HJ⟩
      case round =>
       obtain ⟨t,r4,rfl,ht,rfl,rfl,hr4,hr5,HK⟩:=hrel
       clear f1 f2
       obtain ⟨f1,f2⟩:=HF.out _ HK.out
       by_cases htt : t < nc
       ·have hti : (t : Int) < nc:=by omega
        obtain ⟨⟨k0,nm,l⟩,hx⟩ : ∃ x,cls[t]? = some x:=⟨cls[t]'(by rw [← HR.out.2.2.2];exact htt),List.getElem?_eq_getElem _⟩
        obtain ⟨a3,rfl,hab3,Al,cl,d0,d1,d2,hnm,hll,rl⟩:=HR.out.2.1.at_ hx
        simp only at d0 d1 d2 hnm hll rl
        have c2 : wr.cell? ⟨(a3.add (t * 3)).block,(a3.add (t * 3)).off + 2,none⟩ = some (.slice Al l.length cl):=(HK.out.cell (p:=(a3.add (t * 3)).add 2) (by rw [block_adds,block_adds];exact hab3)).trans d2
        have HC:=Lib.hid (left_exprs _ l (Nat.lt_succ_self _) r4 Al cl wr hr4 hr5 ((rl.stay HK.out (Nat.le_refl _)).more HK.out.size) hll)
        have HTT:=Lib.hid (And.intro trivial htt)
        clear d0 d1 d2 hnm hll rl hx
        go_wp2_with (go_at_call 24;refine HC.out.mono ?_;rintro e w5 ⟨r6,rfl,q0,q1,hb⟩;have HB5:=Lib.hid (HK.out.chain hb);clear hb)
        go_roundg (nc - (t + 1))
        case measure => have := HTT.out.2;omega
        case rel => exact ⟨t + 1,r6,rfl,(by have := HTT.out.2;omega),by go_num,rfl,q0,q1,HB5⟩
       ·obtain rfl : t = nc:=by omega
        go_wp2
        go_roundg (n - (k + 1))
        case measure => have := HLT.out.2;omega
        case rel => exact ⟨k + 1,r4,rfl,(by have := HLT.out.2;omega),by go_num,rfl,hr4,hr5,HK⟩
   ·have hki : (k : Int) < n:=by omega
    go_wp2
    go_ret
    exact ⟨r,rfl,hr0,hr1,HI.out⟩
  ·obtain rfl : k = n:=by omega
   go_wp2
   go_ret
   exact ⟨r,rfl,hr0,hr1,HI.out⟩
end Go.Proofs.YtnkpgpmaiicdeaaGreatDoor
namespace Go.Proofs.YtnkpgpmaiicdeaaGreatDoor
set_option maxRecDepth 100000
set_option maxHeartbeats 8000000
open Go.RowKit
theorem one_condT {W : World} {g : Nat} {k2 ak an : Int} {sa : List UInt8} {al : List Ex} {bk bn : Int} {sb : List UInt8} {bl : List Ex} {l2 : List Cn} {Aa : Option Addr} {ca : Nat} {Ab : Option Addr} {cb : Nat} {Al : Option Addr} {cl : Nat} (hg : W.heap[g]? = some (condC2 k2 ak an ⟨sa.toArray⟩ (.slice Aa al.length ca) bk bn ⟨sb.toArray⟩ (.slice Ab bl.length cb) (.slice Al l2.length cl)))
 (h1 : sa.length ≤ maxLen) (h2 : al.length ≤ maxLen) (h3 : sb.length ≤ maxLen) (h4 : bl.length ≤ maxLen) (h5 : l2.length ≤ maxLen) (ra : ExRow W W.heap.size al Aa) (rb : ExRow W W.heap.size bl Ab) (rl : CnRow W W.heap.size l2 Al) : CnRow W W.heap.size [.mk k2 (.mk ak an sa al) (.mk bk bn sb bl) l2] (some ⟨g,0,none⟩):=by
 refine .row _ _ (fun _ => Aa) (fun _ => Ab) (fun _ => Al) (fun _ => ca) (fun _ => cb) (fun _ => cl) (Array.getElem?_eq_some_iff.1 hg).1 (fun i k ak an sa al bk bn sb bl l hi => ?_) (fun i k ak an sa al bk bn sb bl l hi => ?_)
 ·match i,hi with
  | 0,hi =>
    injection hi with hi;injection hi with e1 e2 e3 e4
    injection e2 with f1 f2 f3 f4
    injection e3 with g1 g2 g3 g4
    subst e1 e4 f1 f2 f3 f4 g1 g2 g3 g4
    exact ⟨⟨by simp only [add_block0];exact cell_of_block hg 0 rfl,by simp only [add_block0];exact cell_of_block hg 1 rfl,by simp only [add_block0];exact cell_of_block hg 2 rfl,by simp only [add_block0];exact cell_of_block hg 3 rfl,by simp only [add_block0];exact cell_of_block hg 4 rfl,by simp only [add_block0];exact cell_of_block hg 5 rfl,by simp only [add_block0];exact cell_of_block hg 6 rfl,by simp only [add_block0];exact cell_of_block hg 7 rfl,by simp only [add_block0];exact cell_of_block hg 8 rfl,by simp only [add_block0];exact cell_of_block hg 9 rfl⟩,h1,h2,h3,h4,h5,ra,rb⟩
  | i + 1,hi => simp at hi
 ·match i,hi with
  | 0,hi => injection hi with hi;injection hi with e1 e2 e3 e4;subst e4;exact rl
  | i + 1,hi => simp at hi
theorem one_expr {W : World} {g : Nat} {k n : Int} {s : List UInt8} {l : List Ex} {A : Option Addr} {c : Nat} (hg : W.heap[g]? = some (.cells #[.int .i64 k,.int .i64 n,.string ⟨s.toArray⟩,.slice A l.length c] 33 (0,0))) (h1 : s.length ≤ maxLen) (h2 : l.length ≤ maxLen) (hr : ExRow W W.heap.size l A) : ExRow W W.heap.size [.mk k n s l] (some ⟨g,0,none⟩):=by
 refine .row _ _ (fun _ => A) (fun _ => c) (Array.getElem?_eq_some_iff.1 hg).1 (fun i k n s l hi => ?_) (fun i k n s l hi => ?_)
 ·match i,hi with
  | 0,hi =>
    injection hi with hi;injection hi with e1 e2 e3 e4;subst e1 e2 e3 e4
    simp only [add_block0]
    exact ⟨cell_of_block hg 0 rfl,cell_of_block hg 1 rfl,cell_of_block hg 2 rfl,cell_of_block hg 3 rfl,h1,h2⟩
  | i + 1,hi => simp at hi
 ·match i,hi with
  | 0,hi => injection hi with hi;injection hi with e1 e2 e3 e4;subst e4;exact hr
  | i + 1,hi => simp at hi
theorem left_stmts : ∀ (M : Nat) (ss : List St),SizeOf.sizeOf ss < M → ∀ (left : Int) (A : Option Addr) (c : Nat) (w : World),-1 ≤ left → left ≤ 200000 → StRow w w.heap.size ss A → ss.length ≤ maxLen →
 Calls Tryz.prog 6 #[.int .i64 left,.slice A ss.length c] w fun e w' => ∃ r : Int,e = .returned (.int .i64 r) ∧ -1 ≤ r ∧ r ≤ 200000 ∧ Below w.heap.size w w':=by
 intro M
 induction M with
 | zero => intro ss h;omega
 | succ M ih =>
   intro ss hM left A c w h0 h1 hr hn
   obtain ⟨n,hnn⟩ : ∃ n,n = ss.length:=⟨_,rfl⟩
   have HH:=Lib.hid (And.intro hr (And.intro ih (And.intro hM hnn)))
   have HB0:=Lib.hid (Below.refl w.heap.size w)
   rw [← hnn] at hn ⊢
   clear hr ih hM hnn
   unfold maxLen at hn
   go_enter Tryz.func6,Tryz.ntmps6
   go_wp2
   go_loopg [0,5] n (fun m lf j wr => ∃ (k : Nat) (r : Int),m = n - k ∧ k ≤ n ∧ j = .int .i64 k ∧ lf = .int .i64 r ∧ -1 ≤ r ∧ r ≤ 200000 ∧ Hid (Below w.heap.size w wr))
   case atStart => exact ⟨0,left,rfl,Nat.zero_le _,rfl,rfl,h0,h1,HB0⟩
   case round =>
    obtain ⟨k,r,rfl,hk,rfl,rfl,hr0,hr1,HI⟩:=hrel
    by_cases hlt : k < n
    ·by_cases hneg : 0 ≤ r
     ·have hki : (k : Int) < n:=by omega
      obtain ⟨s,hi⟩ : ∃ x,ss[k]? = some x:=⟨ss[k]'(by rw [← HH.out.2.2.2];exact hlt),List.getElem?_eq_getElem _⟩
      obtain ⟨a,d,rfl,hab,hc,hown,hb1,hb2⟩:=HH.out.1.at_ hi
      obtain ⟨k0,ln,co,nm,fd,fr,⟨ek,en,es,el⟩,⟨ck,⟨ak,an,sa,al⟩,⟨bk,bn,sb,bl⟩,l⟩,cl,iv,b,o⟩:=s
      obtain ⟨⟨_,_,_,m3,m4,m5,m6,m7,m8,m9,m10,m11,m12,m13⟩,re,ra,rb,rl,rc,ri⟩:=hown
      have hsz : SizeOf.sizeOf b < M ∧ SizeOf.sizeOf o < M:=by
       have h1:=HH.out.2.2.1
       have h2:=List.sizeOf_lt_of_mem (List.mem_of_getElem? hi)
       have h3 : SizeOf.sizeOf b < SizeOf.sizeOf (St.mk k0 ln co nm fd fr (.mk ek en es el) (.mk ck (.mk ak an sa al) (.mk bk bn sb bl) l) cl iv b o):=by simp;omega
       have h4 : SizeOf.sizeOf o < SizeOf.sizeOf (St.mk k0 ln co nm fd fr (.mk ek en es el) (.mk ck (.mk ak an sa al) (.mk bk bn sb bl) l) cl iv b o):=by simp;omega
       omega
      have habk : (a.add (k * 24)).block < w.heap.size:=by rw [block_adds];exact hab
      obtain ⟨nc,hnc⟩ : ∃ nc,nc = cl.length:=⟨_,rfl⟩
      have HF : Hid (∀ W,Below w.heap.size w W →
       (W.cell? ⟨(a.add (k * 24)).block,(a.add (k * 24)).off + 6,none⟩ = some (.int .i64 ek) ∧ W.cell? ⟨(a.add (k * 24)).block,(a.add (k * 24)).off + 7,none⟩ = some (.int .i64 en) ∧ W.cell? ⟨(a.add (k * 24)).block,(a.add (k * 24)).off + 8,none⟩ = some (.string ⟨es.toArray⟩) ∧ W.cell? ⟨(a.add (k * 24)).block,(a.add (k * 24)).off + 9,none⟩ = some (.slice d.e el.length d.ne)) ∧
       (W.cell? ⟨(a.add (k * 24)).block,(a.add (k * 24)).off + 10,none⟩ = some (.int .i64 ck) ∧ W.cell? ⟨(a.add (k * 24)).block,(a.add (k * 24)).off + 11,none⟩ = some (.int .i64 ak) ∧ W.cell? ⟨(a.add (k * 24)).block,(a.add (k * 24)).off + 12,none⟩ = some (.int .i64 an) ∧ W.cell? ⟨(a.add (k * 24)).block,(a.add (k * 24)).off + 13,none⟩ = some (.string ⟨sa.toArray⟩) ∧ W.cell? ⟨(a.add (k * 24)).block,(a.add (k * 24)).off + 14,none⟩ = some (.slice d.a al.length d.na) ∧
         W.cell? ⟨(a.add (k * 24)).block,(a.add (k * 24)).off + 15,none⟩ = some (.int .i64 bk) ∧ W.cell? ⟨(a.add (k * 24)).block,(a.add (k * 24)).off + 16,none⟩ = some (.int .i64 bn) ∧ W.cell? ⟨(a.add (k * 24)).block,(a.add (k * 24)).off + 17,none⟩ = some (.string ⟨sb.toArray⟩) ∧ W.cell? ⟨(a.add (k * 24)).block,(a.add (k * 24)).off + 18,none⟩ = some (.slice d.b bl.length d.nb) ∧ W.cell? ⟨(a.add (k * 24)).block,(a.add (k * 24)).off + 19,none⟩ = some (.slice d.l l.length d.nl)) ∧
       W.cell? ⟨(a.add (k * 24)).block,(a.add (k * 24)).off + 20,none⟩ = some (.slice d.c nc d.nc) ∧ W.cell? ⟨(a.add (k * 24)).block,(a.add (k * 24)).off + 21,none⟩ = some (.slice d.i iv.length d.ni) ∧ W.cell? ⟨(a.add (k * 24)).block,(a.add (k * 24)).off + 22,none⟩ = some (.slice d.s b.length d.ns) ∧ W.cell? ⟨(a.add (k * 24)).block,(a.add (k * 24)).off + 23,none⟩ = some (.slice d.t o.length d.nt)):=Lib.hid (fun W hb => by
       rw [hnc]
       have e : ∀ j v,(stCs d (St.mk k0 ln co nm fd fr (.mk ek en es el) (.mk ck (.mk ak an sa al) (.mk bk bn sb bl) l) cl iv b o))[j]? = some v → W.cell? ((a.add (k * 24)).add j) = some v:=fun j v hv => (hb.cell (by rw [block_adds];exact habk)).trans (hc j v hv)
       exact ⟨⟨e 6 _ rfl,e 7 _ rfl,e 8 _ rfl,e 9 _ rfl⟩,⟨e 10 _ rfl,e 11 _ rfl,e 12 _ rfl,e 13 _ rfl,e 14 _ rfl,e 15 _ rfl,e 16 _ rfl,e 17 _ rfl,e 18 _ rfl,e 19 _ rfl⟩,e 20 _ rfl,e 21 _ rfl,e 22 _ rfl,e 23 _ rfl⟩)
      have HE : Hid (∀ (left : Int) W,Below w.heap.size w W → -1 ≤ left → left ≤ 200000 → Calls Tryz.prog 24 #[.int .i64 left,.slice (some ⟨W.heap.size,0,none⟩) 1 1] (W.alloc (.cells #[.int .i64 ek,.int .i64 en,.string ⟨es.toArray⟩,.slice d.e el.length d.ne] 33)) fun e w' => ∃ r : Int,e = .returned (.int .i64 r) ∧ -1 ≤ r ∧ r ≤ 200000 ∧ Below W.heap.size W w'):=Lib.hid (fun left W hb g0 g1 => by
       have hba:=below_alloc W (.cells #[.int .i64 ek,.int .i64 en,.string ⟨es.toArray⟩,.slice d.e el.length d.ne] 33)
       exact (left_exprs _ [.mk ek en es el] (Nat.lt_succ_self _) left (some ⟨W.heap.size,0,none⟩) 1 _ g0 g1 (one_expr (heap_of_alloc W _) m3 m4 (re.on (hb.chain hba))) (show 1 ≤ maxLen by decide)).mono fun e w' ⟨r',he,q0,q1,hb2⟩ => ⟨r',he,q0,q1,hba.chain hb2⟩)
      have HC : Hid (∀ (left : Int) W,Below w.heap.size w W → -1 ≤ left → left ≤ 200000 → Calls Tryz.prog 25 #[.int .i64 left,.slice (some ⟨W.heap.size,0,none⟩) 1 1] (W.alloc (condC2 ck ak an ⟨sa.toArray⟩ (.slice d.a al.length d.na) bk bn ⟨sb.toArray⟩ (.slice d.b bl.length d.nb) (.slice d.l l.length d.nl))) fun e w' => ∃ r : Int,e = .returned (.int .i64 r) ∧ -1 ≤ r ∧ r ≤ 200000 ∧ Below W.heap.size W w'):=Lib.hid (fun left W hb g0 g1 => by
       have hba:=below_alloc W (condC2 ck ak an ⟨sa.toArray⟩ (.slice d.a al.length d.na) bk bn ⟨sb.toArray⟩ (.slice d.b bl.length d.nb) (.slice d.l l.length d.nl))
       exact (left_conds _ [.mk ck (.mk ak an sa al) (.mk bk bn sb bl) l] (Nat.lt_succ_self _) left (some ⟨W.heap.size,0,none⟩) 1 _ g0 g1 (one_condT (heap_of_alloc W _) m5 m6 m7 m8 m9 (ra.on (hb.chain hba)) (rb.on (hb.chain hba)) (rl.on (hb.chain hba))) (show 1 ≤ maxLen by decide)).mono fun e w' ⟨r',he,q0,q1,hb2⟩ => ⟨r',he,q0,q1,hba.chain hb2⟩)
      have HG : Hid (∀ (left : Int) W,Below w.heap.size w W → -1 ≤ left → left ≤ 200000 → Calls Tryz.prog 26 #[.int .i64 left,.slice d.i iv.length d.ni] W fun e w' => ∃ r : Int,e = .returned (.int .i64 r) ∧ -1 ≤ r ∧ r ≤ 200000 ∧ Below W.heap.size W w'):=Lib.hid (fun left W hb g0 g1 => left_formulas iv left d.i d.ni W g0 g1 (ri.on fm_keeps hb) m11)
      have HS1 : Hid (∀ (left : Int) W,Below w.heap.size w W → -1 ≤ left → left ≤ 200000 → Calls Tryz.prog 6 #[.int .i64 left,.slice d.s b.length d.ns] W fun e w' => ∃ r : Int,e = .returned (.int .i64 r) ∧ -1 ≤ r ∧ r ≤ 200000 ∧ Below W.heap.size W w'):=Lib.hid (fun left W hb g0 g1 => HH.out.2.1 b hsz.1 left d.s d.ns W g0 g1 (hb1.on hb) m12)
      have HS2 : Hid (∀ (left : Int) W,Below w.heap.size w W → -1 ≤ left → left ≤ 200000 → Calls Tryz.prog 6 #[.int .i64 left,.slice d.t o.length d.nt] W fun e w' => ∃ r : Int,e = .returned (.int .i64 r) ∧ -1 ≤ r ∧ r ≤ 200000 ∧ Below W.heap.size W w'):=Lib.hid (fun left W hb g0 g1 => HH.out.2.1 o hsz.2 left d.t d.nt W g0 g1 (hb2.on hb) m13)
      have HR:=Lib.hid (And.intro rc (And.intro hnc (And.intro trivial hlt)))
      rw [← hnc] at m10
      unfold maxLen at m3 m4 m5 m6 m7 m8 m9 m10 m11 m12 m13
      generalize el.length = n4 at *
      generalize al.length = n6 at *
      generalize bl.length = n8 at *
      generalize l.length = n9 at *
      generalize iv.length = n11 at *
      generalize b.length = n12 at *
      generalize o.length = n13 at *
      obtain ⟨⟨y6,y7,y8,y9⟩,_⟩:=HF.out _ HI.out
      clear hc re ra rb rl rc ri hi hsz hb1 hb2 hnc habk
      go_wp2_with (first
       | (go_at_call 24;refine (HE.out _ _ HI.out (by omega) (by omega)).mono ?_;rintro e w3 ⟨r3,rfl,p0,p1,hb3⟩;have HB3:=Lib.hid (HI.out.chain hb3);clear hb3;obtain ⟨_,⟨z10,z11,z12,z13,z14,z15,z16,z17,z18,z19⟩,_⟩:=HF.out _ HB3.out)
       | (go_at_call 25;refine (HC.out _ _ HB3.out p0 p1).mono ?_;rintro e w4 ⟨r4,rfl,p2,p3,hb4⟩;have HB4:=Lib.hid (HB3.out.chain hb4);clear hb4;obtain ⟨_,_,_,x21,_⟩:=HF.out _ HB4.out)
       | (go_at_call 26;refine (HG.out _ _ HB4.out p2 p3).mono ?_;rintro e w5 ⟨r5,rfl,p4,p5,hb5⟩;have HB5:=Lib.hid (HB4.out.chain hb5);clear hb5))
      go_loopg [0,6] nc (fun m lf j wr2 => ∃ (q : Nat) (r1 : Int),m = nc - q ∧ q ≤ nc ∧ j = .int .i64 q ∧ lf = .int .i64 r1 ∧ -1 ≤ r1 ∧ r1 ≤ 200000 ∧ Hid (Below w.heap.size w wr2))
      case atStart => exact ⟨0,r5,rfl,Nat.zero_le _,rfl,rfl,p4,p5,HB5⟩
      case round =>
       obtain ⟨q,r1,rfl,hq,rfl,rfl,hr2,hr3,HJ⟩:=hrel
       obtain ⟨_,_,x20,_⟩:=HF.out _ HJ.out
       by_cases hqt : q < nc
       ·have hqi : (q : Int) < nc:=by omega
        obtain ⟨⟨xr,xp,xl⟩,hx⟩ : ∃ x,cl[q]? = some x:=⟨cl[q]'(by rw [← HR.out.2.1];exact hqt),List.getElem?_eq_getElem _⟩
        obtain ⟨a3,ha3,hab3,Al,cal,e0,e1,e2,hxr,hxp,hll,rxl⟩:=HR.out.1.at_ hx
        simp only at e0 e1 e2 hxr hxp hll rxl
        rw [ha3] at x20
        have c2 : wr.cell? ⟨(a3.add (q * 3)).block,(a3.add (q * 3)).off + 2,none⟩ = some (.slice Al xl.length cal):=(HJ.out.cell (p:=(a3.add (q * 3)).add 2) (by rw [block_adds,block_adds];exact hab3)).trans e2
        have HK:=Lib.hid (left_exprs _ xl (Nat.lt_succ_self _) r1 Al cal wr hr2 hr3 (rxl.on HJ.out) hll)
        have HQT:=Lib.hid (And.intro trivial hqt)
        clear e0 e1 e2 hxr hxp hll rxl hx ha3
        go_wp2_with (go_at_call 24;refine HK.out.mono ?_;rintro e w6 ⟨r6,rfl,q0,q1,hb⟩;have HB6:=Lib.hid (HJ.out.chain hb);clear hb)
        go_roundg (nc - (q + 1))
        case measure => have := HQT.out.2;omega
        case rel => exact ⟨q + 1,r6,rfl,(by have := HQT.out.2;omega),by go_num,rfl,q0,q1,HB6⟩
       ·obtain rfl : q = nc:=by omega
        obtain ⟨_,_,_,_,x22,_⟩:=HF.out _ HJ.out
        go_wp2_with (first
         | (go_at_call 6;with_reducible refine (HS1.out _ _ HJ.out hr2 hr3).mono ?_;rintro e w6 ⟨r6,rfl,p6,p7,hb6⟩;have HB6:=Lib.hid (HJ.out.chain hb6);clear hb6;obtain ⟨_,_,_,_,_,x23⟩:=HF.out _ HB6.out)
         | (go_at_call 6;refine (HS2.out _ _ HB6.out p6 p7).mono ?_;rintro e w7 ⟨r7,rfl,p8,p9,hb7⟩;have HB7:=Lib.hid (HB6.out.chain hb7);clear hb7))
        go_roundg (n - (k + 1))
        case measure => have := HR.out.2.2.2;omega
        case rel => exact ⟨k + 1,r7,rfl,(by have := HR.out.2.2.2;omega),by go_num,rfl,p8,p9,HB7⟩
     ·have hki : (k : Int) < n:=by omega
      go_wp2
      go_ret
      exact ⟨r,rfl,hr0,hr1,HI.out⟩
    ·obtain rfl : k = n:=by omega
     go_wp2
     go_ret
     exact ⟨r,rfl,hr0,hr1,HI.out⟩
end Go.Proofs.YtnkpgpmaiicdeaaGreatDoor
