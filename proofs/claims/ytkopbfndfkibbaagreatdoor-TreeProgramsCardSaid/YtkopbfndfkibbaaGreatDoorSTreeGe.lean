/-
  Rows of expressions by validList with the rules' method, and by the reference's Exprs; cells of formulas.
-/
import Derived.Test.YtkopbfndfkibbaaGreatDoorSTreeF
set_option linter.unusedVariables false
set_option linter.unusedSimpArgs false
namespace Go.Proofs.YtkopbfndfkibbaaGreatDoor
set_option maxRecDepth 100000
set_option maxHeartbeats 4000000
open Go.RowKit
theorem vlr_expr (fv : Nat) (var : List UInt8 → Bool) (hv : VarOk fv var) (nu ex : Int) (h0 : 0 ≤ nu) (h1 : nu ≤ 4611686018427387904) (es : List Ex) (A : Option Addr) (c : Nat) (least most : Int) (w : World) (hn : es.length ≤ maxLen) (hr : ExRow w w.heap.size es A) :
 Calls Tryz.prog 101 #[.slice A es.length c,.int .i64 least,.int .i64 most,.func (.func 27) #[rulesV fv nu ex] #[]] w fun e w' =>
  e = .returned (.bool (decide (least ≤ es.length) && decide ((es.length : Int) ≤ most) && es.all (vE var nu 30))) ∧ Below w.heap.size w w':=by
 refine vl_expr (vE var nu 30) 27 #[rulesV fv nu ex] #[] (enters_of Tryz.func27 (by kernel_rfl) rfl) es A c least most w hn hr (fun k n s l A' c' W _ hb hrow hs hl => ?_)
 exact rexpr_any fv var hv nu ex h0 h1 k n s l A' c' W (hrow.more hb.size) hs hl
theorem sexprs_any (es : List Ex) (A : Option Addr) (c : Nat) (w : World) (hn : es.length ≤ maxLen) (hr : ExRow w w.heap.size es A) :
 Calls Tryz.prog 126 #[.slice A es.length c] w fun e w' => e = .returned (.bool (es.all (vE varR nuP 30))) ∧ Below w.heap.size w w':=by
 obtain ⟨ok,hok⟩ : ∃ ok,ok = vE varR nuP 30:=⟨_,rfl⟩
 have HS : Hid (∀ k n s l A c w,ExRow w w.heap.size l A → s.length ≤ maxLen → l.length ≤ maxLen → Calls Tryz.prog 125 #[exprV k n ⟨s.toArray⟩ (.slice A l.length c)] w fun e w' => e = .returned (.bool (ok (.mk k n s l))) ∧ Below w.heap.size w w'):=Lib.hid (by rw [hok];exact sexpr_any)
 rw [← hok]
 clear hok
 obtain ⟨n,hnn⟩ : ∃ n,n = es.length:=⟨_,rfl⟩
 have HH:=Lib.hid (And.intro hr hnn)
 have HB0:=Lib.hid (Below.refl w.heap.size w)
 rw [← hnn] at hn ⊢
 clear hr hnn
 unfold maxLen at hn
 go_enter Tryz.func126,Tryz.ntmps126
 go_wp2
 go_loopg [3] n (fun m j wr => ∃ k : Nat,m = n - k ∧ k ≤ n ∧ j = .int .i64 k ∧ Hid (Below w.heap.size w wr ∧ (es.take k).all ok = true))
 case atStart => exact ⟨0,rfl,Nat.zero_le _,rfl,Lib.hid ⟨HB0.out,rfl⟩⟩
 case round =>
  obtain ⟨k,rfl,hk,rfl,HI⟩:=hrel
  by_cases hlt : k < n
  ·have hki : (k : Int) < n:=by omega
   obtain ⟨⟨k0,n0,s,l⟩,hi⟩ : ∃ x,es[k]? = some x:=⟨es[k]'(by rw [← HH.out.2];exact hlt),List.getElem?_eq_getElem _⟩
   obtain ⟨a,A',c',rfl,hab,d0,d1,d2,d3,hs,hll,hrow⟩:=(HH.out.1.stay HI.out.1 (Nat.le_refl _)).at_ hi
   have c0:=d0
   have c1 : wr.cell? ⟨(a.add (k * 4)).block,(a.add (k * 4)).off + 1,none⟩ = some (.int .i64 n0):=d1
   have c2 : wr.cell? ⟨(a.add (k * 4)).block,(a.add (k * 4)).off + 2,none⟩ = some (.string ⟨s.toArray⟩):=d2
   have c3 : wr.cell? ⟨(a.add (k * 4)).block,(a.add (k * 4)).off + 3,none⟩ = some (.slice A' l.length c'):=d3
   have HC2:=Lib.hid (HS.out k0 n0 s l A' c' wr (hrow.more HI.out.1.size) hs hll)
   have HX:=Lib.hid (And.intro hi (all_take_succ ok es k _ hi))
   obtain ⟨okx,hokx⟩ : ∃ b,b = ok (.mk k0 n0 s l):=⟨_,rfl⟩
   rw [← hokx] at HC2 HX
   have HO:=Lib.hid hokx
   clear d0 d1 d2 d3 hrow hs hll hi hokx
   go_wp2_with (go_at_call 125;refine HC2.out.mono ?_;rintro e w3 ⟨rfl,hb⟩;have HB3:=Lib.hid (HI.out.1.chain hb);clear hb)
   ·rename_i hf
    have hf' : ok (.mk k0 n0 s l) = false:=by rw [← HO.out];simpa using hf
    go_ret
    exact ⟨by rw [all_of_false ok es k _ HX.out.1 hf'];rfl,HB3.out⟩
   ·rename_i hf
    have hf' : okx = true:=by simpa using hf
    go_roundg (n - (k + 1))
    case measure => omega
    case rel => exact ⟨k + 1,rfl,by omega,by go_num,Lib.hid ⟨HB3.out,by rw [HX.out.2,HI.out.2,hf'];rfl⟩⟩
  ·obtain rfl : k = n:=by omega
   go_wp2
   go_ret
   refine ⟨?_,HI.out.1⟩
   have := HI.out.2
   rw [List.take_of_length_le (by rw [HH.out.2];exact Nat.le_refl _)] at this
   rw [this]
   rfl
theorem cell_lt2 {w : World} {a : Addr} {v : Value} (h : w.cell? a = some v) : a.block < w.heap.size:=World.block_lt_of_cell? w a h
theorem box3c {W : World} {be : Nat} {k : Int} {nm : ByteArray} {l : Value} (h : W.heap[be]? = some (cellC k nm l)) :
 W.cell? ⟨be,0,none⟩ = some (.int .i64 k) ∧ W.cell? ⟨be,1,none⟩ = some (.string nm) ∧ W.cell? ⟨be,2,none⟩ = some l :=
 ⟨cell_of_block h 0 rfl,cell_of_block h 1 rfl,cell_of_block h 2 rfl⟩
theorem cell_any (fv : Nat) (var : List UInt8 → Bool) (hv : VarOk fv var) (nu ex : Int) (h0 : 0 ≤ nu) (h1 : nu ≤ 4611686018427387904) (k : Int) (nm : List UInt8) (l : List Ex) (A : Option Addr) (c : Nat) (w : World) (hr : ExRow w w.heap.size l A) (hs : nm.length ≤ maxLen) (hl : l.length ≤ maxLen) :
 Calls Tryz.prog 120 #[rulesV fv nu ex,cellV k ⟨nm.toArray⟩ (.slice A l.length c)] w fun e w' => e = .returned (.bool (vCl var nu ⟨k,nm,l⟩)) ∧ Below w.heap.size w w':=by
 have HN : Hid (∀ w,Calls Tryz.prog 33 #[.string ⟨nm.toArray⟩] w fun e w' => e = .returned (.bool (nameL nm)) ∧ Below w.heap.size w w'):=Lib.hid (fun w => name_any nm w hs)
 have HV : Hid (∀ (least most : Int) W,Below w.heap.size w W → Calls Tryz.prog 101 #[.slice A l.length c,.int .i64 least,.int .i64 most,.func (.func 27) #[rulesV fv nu ex] #[]] W fun e w' =>
  e = .returned (.bool (decide (least ≤ l.length) && decide ((l.length : Int) ≤ most) && l.all (vE var nu 30))) ∧ Below W.heap.size W w'):=Lib.hid (fun least most W hb => vlr_expr fv var hv nu ex h0 h1 l A c least most W hl (hr.on hb))
 have HV1:=Lib.hid (HV.out 2 9)
 have HV2:=Lib.hid (HV.out 1 8)
 obtain ⟨W1,hW1⟩ : ∃ W1,W1 = (w.alloc (rulesC fv nu ex)).alloc (cellC k ⟨nm.toArray⟩ (.slice A l.length c)):=⟨_,rfl⟩
 have HB : Hid (Below w.heap.size w W1):=Lib.hid (by rw [hW1];exact (below_alloc w _).chain (below_alloc _ _))
 have q1:=heap_keep (o:=cellC k ⟨nm.toArray⟩ (.slice A l.length c)) (heap_of_alloc w (rulesC fv nu ex))
 have q2:=heap_of_alloc (w.alloc (rulesC fv nu ex)) (cellC k ⟨nm.toArray⟩ (.slice A l.length c))
 rw [size_of_alloc] at q2
 rw [← hW1] at q1 q2
 have HQ:=Lib.hid (And.intro q1 q2)
 have he:=enters_of Tryz.func27 (by kernel_rfl) rfl
 unfold vCl
 simp only
 generalize nameL nm = nl at *
 generalize (decide ((2 : Int) ≤ l.length) && decide ((l.length : Int) ≤ 9) && l.all (vE var nu 30)) = v1 at *
 generalize (decide ((1 : Int) ≤ l.length) && decide ((l.length : Int) ≤ 8) && l.all (vE var nu 30)) = v2 at *
 obtain ⟨res,hres⟩ : ∃ res,res = (nl && if k = 1 then v1 else if k = 2 then v2 else false):=⟨_,rfl⟩
 rw [← hres]
 unfold maxLen at hl hs
 clear q1 q2 hv hr HV h0 h1
 cases nl with
 | false =>
   have e : res = false:=hres
   clear hres
   subst e
   go_enter Tryz.func120,Tryz.ntmps120
   go_wp2_with (go_at_call 33;rw [← hW1];clear hW1;refine (HN.out _).mono ?_;rintro e w2 ⟨rfl,hb⟩;have HB2:=Lib.hid (HB.out.chain hb);clear hb)
   go_ret
   exact ⟨rfl,HB2.out⟩
 | true =>
   by_cases k1 : k = 1
   ·subst k1
    have e : res = v1:=by rw [hres,if_pos rfl];rfl
    clear hres
    subst e
    go_enter Tryz.func120,Tryz.ntmps120
    go_wp2_with (first
     | (go_at_call 33;rw [← hW1];clear hW1;refine (HN.out _).mono ?_;rintro e w2 ⟨rfl,hb⟩;have HB2:=Lib.hid (HB.out.chain hb);obtain ⟨g0,g1,g2⟩:=box3 (kept_box hb HQ.out.1);obtain ⟨y0,y1,y2⟩:=box3c (kept_box hb HQ.out.2);clear hb)
     | (go_at_call 101;refine (HV1.out _ HB2.out).mono ?_;rintro e w3 ⟨rfl,hb3⟩;have HB3:=Lib.hid (HB2.out.chain hb3);clear hb3))
    go_ret
    exact ⟨rfl,HB3.out⟩
   by_cases k2 : k = 2
   ·subst k2
    have e : res = v2:=by rw [hres,if_neg (by decide),if_pos rfl];rfl
    clear hres
    subst e
    go_enter Tryz.func120,Tryz.ntmps120
    go_wp2_with (first
     | (go_at_call 33;rw [← hW1];clear hW1;refine (HN.out _).mono ?_;rintro e w2 ⟨rfl,hb⟩;have HB2:=Lib.hid (HB.out.chain hb);obtain ⟨g0,g1,g2⟩:=box3 (kept_box hb HQ.out.1);obtain ⟨y0,y1,y2⟩:=box3c (kept_box hb HQ.out.2);clear hb)
     | (go_at_call 101;refine (HV2.out _ HB2.out).mono ?_;rintro e w3 ⟨rfl,hb3⟩;have HB3:=Lib.hid (HB2.out.chain hb3);clear hb3))
    go_ret
    exact ⟨rfl,HB3.out⟩
   have e : res = false:=by rw [hres,if_neg k1,if_neg k2];rfl
   clear hres
   subst e
   go_enter Tryz.func120,Tryz.ntmps120
   go_wp2_with (go_at_call 33;rw [← hW1];clear hW1;refine (HN.out _).mono ?_;rintro e w2 ⟨rfl,hb⟩;have HB2:=Lib.hid (HB.out.chain hb);obtain ⟨g0,g1,g2⟩:=box3 (kept_box hb HQ.out.1);obtain ⟨y0,y1,y2⟩:=box3c (kept_box hb HQ.out.2);clear hb)
   go_ret
   exact ⟨rfl,HB2.out⟩
theorem scell_any (k : Int) (nm : List UInt8) (l : List Ex) (A : Option Addr) (c : Nat) (w : World) (hr : ExRow w w.heap.size l A) (hs : nm.length ≤ maxLen) (hl : l.length ≤ maxLen) :
 Calls Tryz.prog 84 #[cellV k ⟨nm.toArray⟩ (.slice A l.length c)] w fun e w' => e = .returned (.bool (vCl varR nuP ⟨k,nm,l⟩)) ∧ Below w.heap.size w w':=by
 have HN : Hid (∀ w,Calls Tryz.prog 18 #[.string ⟨nm.toArray⟩] w fun e w' => e = .returned (.bool (nameL nm)) ∧ Below w.heap.size w w'):=Lib.hid (fun w => by rw [name_eq];exact sname_any nm w hs)
 have HV : Hid (BC w 126 #[.slice A l.length c] (l.all (vE varR nuP 30))):=Lib.hid (fun W hb => sexprs_any l A c W hl (hr.on hb))
 have HB:=Lib.hid (below_alloc w (cellC k ⟨nm.toArray⟩ (.slice A l.length c)))
 have HQ:=Lib.hid (heap_of_alloc w (cellC k ⟨nm.toArray⟩ (.slice A l.length c)))
 unfold vCl
 simp only
 generalize nameL nm = nl at *
 generalize l.all (vE varR nuP 30) = v1 at *
 generalize l.length = n at *
 obtain ⟨res,hres⟩ : ∃ res,res = (nl && if k = 1 then decide ((2 : Int) ≤ n) && decide ((n : Int) ≤ 9) && v1 else if k = 2 then decide ((1 : Int) ≤ n) && decide ((n : Int) ≤ 8) && v1 else false):=⟨_,rfl⟩
 rw [← hres]
 unfold maxLen at hl hs
 clear hr
 cases nl with
 | false =>
   have e : res = false:=hres
   clear hres
   subst e
   go_enter Tryz.func84,Tryz.ntmps84
   go_wp2_with (go_at_call 18;refine (HN.out _).mono ?_;rintro e w2 ⟨rfl,hb⟩;have HB2:=Lib.hid (HB.out.chain hb);clear hb)
   go_ret
   exact ⟨rfl,HB2.out⟩
 | true =>
   by_cases hn9 : 9 < (n : Int)
   ·have e : res = false:=by
     rw [hres,show decide ((n : Int) ≤ 9) = false by simp;omega,show decide ((n : Int) ≤ 8) = false by simp;omega]
     simp
    clear hres
    subst e
    go_enter Tryz.func84,Tryz.ntmps84
    go_wp2_with (go_at_call 18;refine (HN.out _).mono ?_;rintro e w2 ⟨rfl,hb⟩;have HB2:=Lib.hid (HB.out.chain hb);clear hb)
    go_ret
    exact ⟨rfl,HB2.out⟩
   cases v1 with
   | false =>
     have e : res = false:=by rw [hres];simp
     clear hres
     subst e
     go_enter Tryz.func84,Tryz.ntmps84
     go_wp2_with (first
      | (go_at_call 18;refine (HN.out _).mono ?_;rintro e w2 ⟨rfl,hb⟩;have HB2:=Lib.hid (HB.out.chain hb);obtain ⟨y0,y1,y2⟩:=box3c (kept_box hb HQ.out);clear hb;have HQ2:=Lib.hid y0)
      | (go_at_call 126;refine (HV.out _ HB2.out).mono ?_;rintro e w3 ⟨rfl,hb3⟩;have HB3:=Lib.hid (HB2.out.chain hb3);have z0:=(hb3.cell (p:=⟨w.heap.size,0,none⟩) (cell_lt2 HQ2.out)).trans HQ2.out;clear hb3))
     go_ret
     exact ⟨by first | rfl | (simp;done) | (simp;omega) | (simp;intros;omega),HB3.out⟩
   | true =>
     by_cases k1 : k = 1
     ·subst k1
      by_cases h2 : (2 : Int) ≤ n
      ·have e : res = true:=by rw [hres];rw [if_pos rfl,decide_eq_true h2,show decide ((n : Int) ≤ 9) = true by simp;omega];rfl
       clear hres
       subst e
       go_enter Tryz.func84,Tryz.ntmps84
       go_wp2_with (first
        | (go_at_call 18;refine (HN.out _).mono ?_;rintro e w2 ⟨rfl,hb⟩;have HB2:=Lib.hid (HB.out.chain hb);obtain ⟨y0,y1,y2⟩:=box3c (kept_box hb HQ.out);clear hb;have HQ2:=Lib.hid y0)
        | (go_at_call 126;refine (HV.out _ HB2.out).mono ?_;rintro e w3 ⟨rfl,hb3⟩;have HB3:=Lib.hid (HB2.out.chain hb3);have z0:=(hb3.cell (p:=⟨w.heap.size,0,none⟩) (cell_lt2 HQ2.out)).trans HQ2.out;clear hb3))
       go_ret
       exact ⟨by first | rfl | (simp;done) | (simp;omega) | (simp;intros;omega),HB3.out⟩
      ·have e : res = false:=by rw [hres];rw [if_pos rfl,decide_eq_false h2];simp
       clear hres
       subst e
       go_enter Tryz.func84,Tryz.ntmps84
       go_wp2_with (first
        | (go_at_call 18;refine (HN.out _).mono ?_;rintro e w2 ⟨rfl,hb⟩;have HB2:=Lib.hid (HB.out.chain hb);obtain ⟨y0,y1,y2⟩:=box3c (kept_box hb HQ.out);clear hb;have HQ2:=Lib.hid y0)
        | (go_at_call 126;refine (HV.out _ HB2.out).mono ?_;rintro e w3 ⟨rfl,hb3⟩;have HB3:=Lib.hid (HB2.out.chain hb3);have z0:=(hb3.cell (p:=⟨w.heap.size,0,none⟩) (cell_lt2 HQ2.out)).trans HQ2.out;clear hb3))
       go_ret
       exact ⟨by first | rfl | (simp;done) | (simp;omega) | (simp;intros;omega),HB3.out⟩
     by_cases k2 : k = 2
     ·subst k2
      by_cases h2 : (1 : Int) ≤ n
      ·by_cases h8 : (n : Int) ≤ 8
       ·have e : res = true:=by rw [hres];rw [if_neg (by decide),if_pos rfl,decide_eq_true h2,decide_eq_true h8];rfl
        clear hres
        subst e
        go_enter Tryz.func84,Tryz.ntmps84
        go_wp2_with (first
         | (go_at_call 18;refine (HN.out _).mono ?_;rintro e w2 ⟨rfl,hb⟩;have HB2:=Lib.hid (HB.out.chain hb);obtain ⟨y0,y1,y2⟩:=box3c (kept_box hb HQ.out);clear hb;have HQ2:=Lib.hid y0)
         | (go_at_call 126;refine (HV.out _ HB2.out).mono ?_;rintro e w3 ⟨rfl,hb3⟩;have HB3:=Lib.hid (HB2.out.chain hb3);have z0:=(hb3.cell (p:=⟨w.heap.size,0,none⟩) (cell_lt2 HQ2.out)).trans HQ2.out;clear hb3))
        go_ret
        exact ⟨by first | rfl | (simp;done) | (simp;omega) | (simp;intros;omega),HB3.out⟩
       ·have e : res = false:=by rw [hres];rw [if_neg (by decide),if_pos rfl,decide_eq_false h8];simp
        clear hres
        subst e
        go_enter Tryz.func84,Tryz.ntmps84
        go_wp2_with (first
         | (go_at_call 18;refine (HN.out _).mono ?_;rintro e w2 ⟨rfl,hb⟩;have HB2:=Lib.hid (HB.out.chain hb);obtain ⟨y0,y1,y2⟩:=box3c (kept_box hb HQ.out);clear hb;have HQ2:=Lib.hid y0)
         | (go_at_call 126;refine (HV.out _ HB2.out).mono ?_;rintro e w3 ⟨rfl,hb3⟩;have HB3:=Lib.hid (HB2.out.chain hb3);have z0:=(hb3.cell (p:=⟨w.heap.size,0,none⟩) (cell_lt2 HQ2.out)).trans HQ2.out;clear hb3))
        go_ret
        exact ⟨by first | rfl | (simp;done) | (simp;omega) | (simp;intros;omega),HB3.out⟩
      ·have e : res = false:=by rw [hres];rw [if_neg (by decide),if_pos rfl,decide_eq_false h2];simp
       clear hres
       subst e
       go_enter Tryz.func84,Tryz.ntmps84
       go_wp2_with (first
        | (go_at_call 18;refine (HN.out _).mono ?_;rintro e w2 ⟨rfl,hb⟩;have HB2:=Lib.hid (HB.out.chain hb);obtain ⟨y0,y1,y2⟩:=box3c (kept_box hb HQ.out);clear hb;have HQ2:=Lib.hid y0)
        | (go_at_call 126;refine (HV.out _ HB2.out).mono ?_;rintro e w3 ⟨rfl,hb3⟩;have HB3:=Lib.hid (HB2.out.chain hb3);have z0:=(hb3.cell (p:=⟨w.heap.size,0,none⟩) (cell_lt2 HQ2.out)).trans HQ2.out;clear hb3))
       go_ret
       exact ⟨by first | rfl | (simp;done) | (simp;omega) | (simp;intros;omega),HB3.out⟩
     ·have e : res = false:=by rw [hres];rw [if_neg k1,if_neg k2];simp
      clear hres
      subst e
      go_enter Tryz.func84,Tryz.ntmps84
      go_wp2_with (first
       | (go_at_call 18;refine (HN.out _).mono ?_;rintro e w2 ⟨rfl,hb⟩;have HB2:=Lib.hid (HB.out.chain hb);obtain ⟨y0,y1,y2⟩:=box3c (kept_box hb HQ.out);clear hb;have HQ2:=Lib.hid y0)
       | (go_at_call 126;refine (HV.out _ HB2.out).mono ?_;rintro e w3 ⟨rfl,hb3⟩;have HB3:=Lib.hid (HB2.out.chain hb3);have z0:=(hb3.cell (p:=⟨w.heap.size,0,none⟩) (cell_lt2 HQ2.out)).trans HQ2.out;clear hb3))
      go_ret
      exact ⟨by first | rfl | (simp;done) | (simp;omega) | (simp;intros;omega),HB3.out⟩
end Go.Proofs.YtkopbfndfkibbaaGreatDoor
