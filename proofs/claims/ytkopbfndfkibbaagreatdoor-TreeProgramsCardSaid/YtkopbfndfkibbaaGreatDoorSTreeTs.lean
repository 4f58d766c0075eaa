/-
  Small functions of the reference for statements.
-/
import Derived.Test.YtkopbfndfkibbaaGreatDoorSTreeGl
import Derived.Test.YtkopbfndfkibbaaGreatDoorSTreeKs
import Derived.Test.YtkopbfndfkibbaaGreatDoorSTreeSv
set_option linter.unusedVariables false
set_option linter.unusedSimpArgs false
namespace Go.Proofs.YtkopbfndfkibbaaGreatDoor
set_option maxRecDepth 100000
set_option maxHeartbeats 4000000
open Go.RowKit
theorem beq_nilU (l : List UInt8) : (l == ([] : List UInt8)) = l.isEmpty:=by cases l <;> rfl
theorem splace_any (ln co : Int) (w : World) : Calls Tryz.prog 51 #[posV ln co] w fun e w' => e = .returned (.bool (vPos ln co)) ∧ Below w.heap.size w w':=by
 have HB:=Lib.hid (below_alloc w (.cells #[.int .i64 ln,.int .i64 co] 37))
 obtain ⟨res,hres⟩ : ∃ res,res = vPos ln co:=⟨_,rfl⟩
 rw [← hres]
 unfold vPos at hres
 by_cases h1 : 0 ≤ ln
 ·by_cases h3 : 0 ≤ co
  ·by_cases h2 : ln ≤ 65537
   ·by_cases h4 : co ≤ 65537
    ·have e : res = true:=by rw [hres];rw [decide_eq_true h1,decide_eq_true h2,decide_eq_true h3,decide_eq_true h4];rfl
     clear hres
     subst e
     go_enter Tryz.func51,Tryz.ntmps51
     go_wp2
     go_ret
     exact ⟨by first | rfl | (simp;done) | (simp;omega),HB.out⟩
    ·have e : res = false:=by rw [hres];rw [decide_eq_false h4];simp
     clear hres
     subst e
     go_enter Tryz.func51,Tryz.ntmps51
     go_wp2
     go_ret
     exact ⟨by first | rfl | (simp;done) | (simp;omega),HB.out⟩
   ·have e : res = false:=by rw [hres];rw [decide_eq_false h2];simp
    clear hres
    subst e
    go_enter Tryz.func51,Tryz.ntmps51
    go_wp2
    go_ret
    exact ⟨by first | rfl | (simp;done) | (simp;omega),HB.out⟩
  ·have e : res = false:=by rw [hres];rw [decide_eq_false h3];simp
   clear hres
   subst e
   go_enter Tryz.func51,Tryz.ntmps51
   go_wp2
   go_ret
   exact ⟨by first | rfl | (simp;done) | (simp;omega),HB.out⟩
 ·have e : res = false:=by rw [hres];rw [decide_eq_false h1];simp
  clear hres
  subst e
  go_enter Tryz.func51,Tryz.ntmps51
  go_wp2
  go_ret
  exact ⟨by first | rfl | (simp;done) | (simp;omega),HB.out⟩
theorem size_listT (s : ByteArray) : s.data.toList.length = s.size:=rfl
theorem shas_any (s : ByteArray) (x : UInt8) (w : World) (hs : s.size ≤ 1000) : Calls Tryz.prog 159 #[.string s,.int .u8 x.toNat] w fun e w' => e = .returned (.bool (!(s.data.toList.all fun y => y != x))) ∧ w = w':=by
 generalize hr : (s.data.toList.all fun y => y != x) = r
 have HR:=Lib.hid hr
 clear hr
 go_enter Tryz.func159,Tryz.ntmps159
 go_wp2
 go_loop [5] (fun j => ∃ k : Nat,k ≤ s.size ∧ j = .int .i64 k ∧ Hid ((s.data.toList.take k).all (fun y => y != x) = true)) (fun j => s.size - (intOf j).toNat)
 case atStart => exact ⟨0,Nat.zero_le _,rfl,rfl⟩
 case round =>
  obtain ⟨k,hk,rfl,HA⟩:=hrel
  by_cases hlt : k < s.size
  ·have hi : s.data.toList[k]? = some s[k]:=by rw [List.getElem?_eq_getElem (by rw [size_listT];exact hlt)];rfl
   by_cases hd : s[k] = x
   ·have HF : Hid (r = false):=Lib.hid (by rw [← HR.out];exact all_of_false _ _ k _ hi (by rw [hd];simp))
    have hd2 : (s[k].toNat : Int) = x.toNat:=by rw [hd]
    clear hd hi
    go_wp2
    go_ret
    exact ⟨by rw [HF.out] <;> rfl,rfl⟩
   ·have HT : Hid ((s.data.toList.take (k + 1)).all (fun y => y != x) = true):=Lib.hid (by rw [all_take_succ _ _ k _ hi,HA.out];simpa using hd)
    have hd2 : ¬ ((s[k].toNat : Int) = x.toNat):=fun h => hd (UInt8.toNat_inj.1 (by omega))
    clear hd hi
    go_wp2
    go_round
    case rel => exact ⟨k + 1,by omega,by go_num,HT⟩
    case measure => simp [intOf];omega
  ·have HF : Hid (r = true):=Lib.hid (by rw [← HR.out,← HA.out,List.take_of_length_le (by rw [size_listT];omega)])
   go_wp2
   go_ret
   exact ⟨by rw [HF.out] <;> rfl,rfl⟩
def usesL (k : Int) : List UInt8 :=
 if k = 1 then [110,69,48] else if k = 2 then [110,102,114,48] else if k = 3 then [110,102,69,48] else if k = 4 then [110,114,48] else if k = 5 then [110,48] else if k = 6 then [110,48] else if k = 7 then [49]
 else if k = 8 then [67,48,98,101] else if k = 9 then [67,48,105,98] else if k = 10 then [67,48] else if k = 11 then [110,48,98] else if k = 12 then [50] else []
theorem suses_any (k : Int) (w : World) : Calls Tryz.prog 158 #[.int .i64 k] w fun e w' => e = .returned (.string ⟨(usesL k).toArray⟩) ∧ w = w':=by
 obtain ⟨u,hu⟩ : ∃ u,u = usesL k:=⟨_,rfl⟩
 rw [← hu]
 unfold usesL at hu
 by_cases k1 : k = 1
 ·subst k1
  have e : u = [110,69,48]:=hu
  clear hu
  subst e
  go_enter Tryz.func158,Tryz.ntmps158
  go_wp2
  go_ret
  exact ⟨rfl,rfl⟩
 by_cases k2 : k = 2
 ·subst k2
  have e : u = [110,102,114,48]:=hu
  clear hu
  subst e
  go_enter Tryz.func158,Tryz.ntmps158
  go_wp2
  go_ret
  exact ⟨rfl,rfl⟩
 by_cases k3 : k = 3
 ·subst k3
  have e : u = [110,102,69,48]:=hu
  clear hu
  subst e
  go_enter Tryz.func158,Tryz.ntmps158
  go_wp2
  go_ret
  exact ⟨rfl,rfl⟩
 by_cases k4 : k = 4
 ·subst k4
  have e : u = [110,114,48]:=hu
  clear hu
  subst e
  go_enter Tryz.func158,Tryz.ntmps158
  go_wp2
  go_ret
  exact ⟨rfl,rfl⟩
 by_cases k5 : k = 5
 ·subst k5
  have e : u = [110,48]:=hu
  clear hu
  subst e
  go_enter Tryz.func158,Tryz.ntmps158
  go_wp2
  go_ret
  exact ⟨rfl,rfl⟩
 by_cases k6 : k = 6
 ·subst k6
  have e : u = [110,48]:=hu
  clear hu
  subst e
  go_enter Tryz.func158,Tryz.ntmps158
  go_wp2
  go_ret
  exact ⟨rfl,rfl⟩
 by_cases k7 : k = 7
 ·subst k7
  have e : u = [49]:=hu
  clear hu
  subst e
  go_enter Tryz.func158,Tryz.ntmps158
  go_wp2
  go_ret
  exact ⟨rfl,rfl⟩
 by_cases k8 : k = 8
 ·subst k8
  have e : u = [67,48,98,101]:=hu
  clear hu
  subst e
  go_enter Tryz.func158,Tryz.ntmps158
  go_wp2
  go_ret
  exact ⟨rfl,rfl⟩
 by_cases k9 : k = 9
 ·subst k9
  have e : u = [67,48,105,98]:=hu
  clear hu
  subst e
  go_enter Tryz.func158,Tryz.ntmps158
  go_wp2
  go_ret
  exact ⟨rfl,rfl⟩
 by_cases k10 : k = 10
 ·subst k10
  have e : u = [67,48]:=hu
  clear hu
  subst e
  go_enter Tryz.func158,Tryz.ntmps158
  go_wp2
  go_ret
  exact ⟨rfl,rfl⟩
 by_cases k11 : k = 11
 ·subst k11
  have e : u = [110,48,98]:=hu
  clear hu
  subst e
  go_enter Tryz.func158,Tryz.ntmps158
  go_wp2
  go_ret
  exact ⟨rfl,rfl⟩
 by_cases k12 : k = 12
 ·subst k12
  have e : u = [50]:=hu
  clear hu
  subst e
  go_enter Tryz.func158,Tryz.ntmps158
  go_wp2
  go_ret
  exact ⟨rfl,rfl⟩
 have e : u = []:=by rw [hu,if_neg k1,if_neg k2,if_neg k3,if_neg k4,if_neg k5,if_neg k6,if_neg k7,if_neg k8,if_neg k9,if_neg k10,if_neg k11,if_neg k12]
 clear hu
 subst e
 go_enter Tryz.func158,Tryz.ntmps158
 go_wp2
 go_ret
 exact ⟨rfl,rfl⟩
theorem isEmpty_lenC {α : Type} (l : List α) : l.isEmpty = ((l.length : Int) == 0):=by
 cases l with
 | nil => rfl
 | cons x l =>
   have : (((x :: l).length : Int) == 0) = false:=by rw [beq_eq_false_iff_ne,List.length_cons];omega
   rw [this]
   rfl
theorem snothing_any (k ak an : Int) (sa : List UInt8) (al : List Ex) (bk bn : Int) (sb : List UInt8) (bl : List Ex) (l : List Cn) (Aa : Option Addr) (ca : Nat) (Ab : Option Addr) (cb : Nat) (Al : Option Addr) (cl : Nat) (w : World) (b2 : al.length ≤ maxLen) (b4 : bl.length ≤ maxLen) (_b5 : l.length ≤ maxLen) :
 Calls Tryz.prog 162 #[condV2 k ak an ⟨sa.toArray⟩ (.slice Aa al.length ca) bk bn ⟨sb.toArray⟩ (.slice Ab bl.length cb) (.slice Al l.length cl)] w
  fun e w' => e = .returned (.bool (zC (.mk k (.mk ak an sa al) (.mk bk bn sb bl) l))) ∧ Below w.heap.size w w':=by
 have HA : Hid (∀ w,Calls Tryz.prog 160 #[exprV ak an ⟨sa.toArray⟩ (.slice Aa al.length ca)] w fun e w' => e = .returned (.bool (zX (.mk ak an sa al))) ∧ Below w.heap.size w w'):=Lib.hid (fun w => szero_any ak an sa al Aa ca w b2)
 have HE : Hid (∀ w,Calls Tryz.prog 160 #[exprV bk bn ⟨sb.toArray⟩ (.slice Ab bl.length cb)] w fun e w' => e = .returned (.bool (zX (.mk bk bn sb bl))) ∧ Below w.heap.size w w'):=Lib.hid (fun w => szero_any bk bn sb bl Ab cb w b4)
 obtain ⟨res,hres⟩ : ∃ res,res = zC (.mk k (.mk ak an sa al) (.mk bk bn sb bl) l):=⟨_,rfl⟩
 rw [← hres]
 rw [zC_eq,isEmpty_lenC] at hres
 generalize zX (.mk ak an sa al) = za at *
 generalize zX (.mk bk bn sb bl) = zb at *
 have HB:=Lib.hid (below_alloc w (condC2 k ak an ⟨sa.toArray⟩ (.slice Aa al.length ca) bk bn ⟨sb.toArray⟩ (.slice Ab bl.length cb) (.slice Al l.length cl)))
 have HQ:=Lib.hid (heap_of_alloc w (condC2 k ak an ⟨sa.toArray⟩ (.slice Aa al.length ca) bk bn ⟨sb.toArray⟩ (.slice Ab bl.length cb) (.slice Al l.length cl)))
 unfold maxLen at b2 b4 _b5
 generalize l.length = nl at *
 by_cases hk : k = 0
 ·subst hk
  cases za with
  | false =>
    have e : res = false:=hres
    clear hres
    subst e
    go_enter Tryz.func162,Tryz.ntmps162
    go_wp2_with (go_at_call 160;refine (HA.out _).mono ?_;rintro e w2 ⟨rfl,hb⟩;have HB2:=Lib.hid (HB.out.chain hb);clear hb)
    go_ret
    exact ⟨rfl,HB2.out⟩
  | true =>
    cases zb with
    | false =>
      have e : res = false:=hres
      clear hres
      subst e
      go_enter Tryz.func162,Tryz.ntmps162
      go_wp2_with (first
       | (go_at_call 160;with_reducible refine (HA.out _).mono ?_;rintro e w2 ⟨rfl,hb⟩;have HB2:=Lib.hid (HB.out.chain hb);obtain ⟨g1,g2,g3,g4,g5,g6,g7,g8,g9⟩:=box10 (kept_box hb HQ.out);clear hb)
       | (go_at_call 160;refine (HE.out _).mono ?_;rintro e w3 ⟨rfl,hb3⟩;have HB3:=Lib.hid (HB2.out.chain hb3);clear hb3))
      go_ret
      exact ⟨rfl,HB3.out⟩
    | true =>
      have e : res = ((nl : Int) == 0):=hres
      clear hres
      subst e
      go_enter Tryz.func162,Tryz.ntmps162
      go_wp2_with (first
       | (go_at_call 160;with_reducible refine (HA.out _).mono ?_;rintro e w2 ⟨rfl,hb⟩;have HB2:=Lib.hid (HB.out.chain hb);have HQ2:=Lib.hid (kept_box hb HQ.out);obtain ⟨g1,g2,g3,g4,g5,g6,g7,g8,g9⟩:=box10 HQ2.out;clear hb)
       | (go_at_call 160;refine (HE.out _).mono ?_;rintro e w3 ⟨rfl,hb3⟩;have HB3:=Lib.hid (HB2.out.chain hb3);obtain ⟨i1,i2,i3,i4,i5,i6,i7,i8,i9⟩:=box10 (kept_box hb3 HQ2.out);clear hb3))
      go_ret
      exact ⟨by first | rfl | (simp;done),HB3.out⟩
 ·have hkb : (k == 0) = false:=by simpa using hk
  have e : res = false:=by rw [hres,hkb];rfl
  clear hres hkb
  subst e
  go_enter Tryz.func162,Tryz.ntmps162
  go_wp2
  go_ret
  exact ⟨rfl,HB.out⟩
theorem scall_any (r p : List UInt8) (l : List Ex) (A : Option Addr) (c : Nat) (w : World) (hr : ExRow w w.heap.size l A) (hrl : r.length ≤ maxLen) (hp : p.length ≤ maxLen) (hl : l.length ≤ maxLen) :
 Calls Tryz.prog 163 #[callV ⟨r.toArray⟩ ⟨p.toArray⟩ (.slice A l.length c)] w fun e w' => e = .returned (.bool (vCal varR nuP ⟨r,p,l⟩)) ∧ Below w.heap.size w w':=by
 have HN : Hid (∀ w,Calls Tryz.prog 18 #[.string ⟨p.toArray⟩] w fun e w' => e = .returned (.bool (nameL p)) ∧ Below w.heap.size w w'):=Lib.hid (fun w => by rw [name_eq];exact sname_any p w hp)
 have HR : Hid (∀ w,Calls Tryz.prog 79 #[.string ⟨r.toArray⟩] w fun e w' => e = .returned (.bool (varR r)) ∧ Below w.heap.size w w'):=Lib.hid (fun w => svariable_any r w hrl)
 have HV : Hid (BC w 126 #[.slice A l.length c] (l.all (vE varR nuP 30))):=Lib.hid (fun W hb => sexprs_any l A c W hl (hr.on hb))
 have HB:=Lib.hid (below_alloc w (callC ⟨r.toArray⟩ ⟨p.toArray⟩ (.slice A l.length c)))
 have HQ:=Lib.hid (heap_of_alloc w (callC ⟨r.toArray⟩ ⟨p.toArray⟩ (.slice A l.length c)))
 obtain ⟨res,hres⟩ : ∃ res,res = vCal varR nuP ⟨r,p,l⟩:=⟨_,rfl⟩
 rw [← hres]
 unfold vCal at hres
 simp only at hres
 generalize nameL p = np at *
 generalize varR r = vr at *
 generalize l.all (vE varR nuP 30) = v1 at *
 generalize l.length = n at *
 unfold maxLen at hl hrl hp
 clear hr
 rcases r with _ | ⟨x,r⟩
 ·cases np with
  | false =>
    have e : res = false:=by rw [hres];simp
    clear hres
    subst e
    go_enter Tryz.func163,Tryz.ntmps163
    go_wp2_with (first
     | (go_at_call 18;refine (HN.out _).mono ?_;rintro e w2 ⟨rfl,hb⟩;have HB2:=Lib.hid (HB.out.chain hb);have hq0:=kept_box hb HQ.out;obtain ⟨a00,a01,a02⟩:=box3l hq0;have HQ1:=Lib.hid hq0;clear hb hq0))
    go_ret
    exact ⟨by first | rfl | (simp;done) | (simp;omega),HB2.out⟩
  | true =>
    by_cases h8 : (n : Int) ≤ 8
    ·cases v1 with
     | false =>
       have e : res = false:=by rw [hres];simp
       clear hres
       subst e
       go_enter Tryz.func163,Tryz.ntmps163
       go_wp2_with (first
        | (go_at_call 18;refine (HN.out _).mono ?_;rintro e w2 ⟨rfl,hb⟩;have HB2:=Lib.hid (HB.out.chain hb);have hq0:=kept_box hb HQ.out;obtain ⟨a00,a01,a02⟩:=box3l hq0;have HQ1:=Lib.hid hq0;clear hb hq0)
        | (go_at_call 126;refine (HV.out _ HB2.out).mono ?_;rintro e w3 ⟨rfl,hb⟩;have HB3:=Lib.hid (HB2.out.chain hb);have hq1:=kept_box hb HQ1.out;obtain ⟨a10,a11,a12⟩:=box3l hq1;have HQ2:=Lib.hid hq1;clear hb hq1))
       go_ret
       exact ⟨by first | rfl | (simp;done) | (simp;omega),HB3.out⟩
     | true =>
       have e : res = true:=by rw [hres];rw [decide_eq_true h8];simp
       clear hres
       subst e
       go_enter Tryz.func163,Tryz.ntmps163
       go_wp2_with (first
        | (go_at_call 18;refine (HN.out _).mono ?_;rintro e w2 ⟨rfl,hb⟩;have HB2:=Lib.hid (HB.out.chain hb);have hq0:=kept_box hb HQ.out;obtain ⟨a00,a01,a02⟩:=box3l hq0;have HQ1:=Lib.hid hq0;clear hb hq0)
        | (go_at_call 126;refine (HV.out _ HB2.out).mono ?_;rintro e w3 ⟨rfl,hb⟩;have HB3:=Lib.hid (HB2.out.chain hb);have hq1:=kept_box hb HQ1.out;obtain ⟨a10,a11,a12⟩:=box3l hq1;have HQ2:=Lib.hid hq1;clear hb hq1))
       go_ret
       exact ⟨by first | rfl | (simp;done) | (simp;omega),HB3.out⟩
    ·have e : res = false:=by rw [hres];rw [decide_eq_false h8];simp
     clear hres
     subst e
     go_enter Tryz.func163,Tryz.ntmps163
     go_wp2_with (first
      | (go_at_call 18;refine (HN.out _).mono ?_;rintro e w2 ⟨rfl,hb⟩;have HB2:=Lib.hid (HB.out.chain hb);have hq0:=kept_box hb HQ.out;obtain ⟨a00,a01,a02⟩:=box3l hq0;have HQ1:=Lib.hid hq0;clear hb hq0))
     go_ret
     exact ⟨by first | rfl | (simp;done) | (simp;omega),HB2.out⟩
 ·cases vr with
  | false =>
    have e : res = false:=by rw [hres];simp
    clear hres
    subst e
    go_enter Tryz.func163,Tryz.ntmps163
    go_wp2_with (first
     | (go_at_call 79;refine (HR.out _).mono ?_;rintro e w2 ⟨rfl,hb⟩;have HB2:=Lib.hid (HB.out.chain hb);have hq0:=kept_box hb HQ.out;obtain ⟨a00,a01,a02⟩:=box3l hq0;have HQ1:=Lib.hid hq0;clear hb hq0))
    go_ret
    exact ⟨by first | rfl | (simp;done) | (simp;omega),HB2.out⟩
  | true =>
    cases np with
    | false =>
      have e : res = false:=by rw [hres];simp
      clear hres
      subst e
      go_enter Tryz.func163,Tryz.ntmps163
      go_wp2_with (first
       | (go_at_call 79;refine (HR.out _).mono ?_;rintro e w2 ⟨rfl,hb⟩;have HB2:=Lib.hid (HB.out.chain hb);have hq0:=kept_box hb HQ.out;obtain ⟨a00,a01,a02⟩:=box3l hq0;have HQ1:=Lib.hid hq0;clear hb hq0)
       | (go_at_call 18;refine (HN.out _).mono ?_;rintro e w3 ⟨rfl,hb⟩;have HB3:=Lib.hid (HB2.out.chain hb);have hq1:=kept_box hb HQ1.out;obtain ⟨a10,a11,a12⟩:=box3l hq1;have HQ2:=Lib.hid hq1;clear hb hq1))
      go_ret
      exact ⟨by first | rfl | (simp;done) | (simp;omega),HB3.out⟩
    | true =>
      by_cases h8 : (n : Int) ≤ 8
      ·cases v1 with
       | false =>
         have e : res = false:=by rw [hres];simp
         clear hres
         subst e
         go_enter Tryz.func163,Tryz.ntmps163
         go_wp2_with (first
          | (go_at_call 79;refine (HR.out _).mono ?_;rintro e w2 ⟨rfl,hb⟩;have HB2:=Lib.hid (HB.out.chain hb);have hq0:=kept_box hb HQ.out;obtain ⟨a00,a01,a02⟩:=box3l hq0;have HQ1:=Lib.hid hq0;clear hb hq0)
          | (go_at_call 18;refine (HN.out _).mono ?_;rintro e w3 ⟨rfl,hb⟩;have HB3:=Lib.hid (HB2.out.chain hb);have hq1:=kept_box hb HQ1.out;obtain ⟨a10,a11,a12⟩:=box3l hq1;have HQ2:=Lib.hid hq1;clear hb hq1)
          | (go_at_call 126;refine (HV.out _ HB3.out).mono ?_;rintro e w4 ⟨rfl,hb⟩;have HB4:=Lib.hid (HB3.out.chain hb);have hq2:=kept_box hb HQ2.out;obtain ⟨a20,a21,a22⟩:=box3l hq2;have HQ3:=Lib.hid hq2;clear hb hq2))
         go_ret
         exact ⟨by first | rfl | (simp;done) | (simp;omega),HB4.out⟩
       | true =>
         have e : res = true:=by rw [hres];rw [decide_eq_true h8];simp
         clear hres
         subst e
         go_enter Tryz.func163,Tryz.ntmps163
         go_wp2_with (first
          | (go_at_call 79;refine (HR.out _).mono ?_;rintro e w2 ⟨rfl,hb⟩;have HB2:=Lib.hid (HB.out.chain hb);have hq0:=kept_box hb HQ.out;obtain ⟨a00,a01,a02⟩:=box3l hq0;have HQ1:=Lib.hid hq0;clear hb hq0)
          | (go_at_call 18;refine (HN.out _).mono ?_;rintro e w3 ⟨rfl,hb⟩;have HB3:=Lib.hid (HB2.out.chain hb);have hq1:=kept_box hb HQ1.out;obtain ⟨a10,a11,a12⟩:=box3l hq1;have HQ2:=Lib.hid hq1;clear hb hq1)
          | (go_at_call 126;refine (HV.out _ HB3.out).mono ?_;rintro e w4 ⟨rfl,hb⟩;have HB4:=Lib.hid (HB3.out.chain hb);have hq2:=kept_box hb HQ2.out;obtain ⟨a20,a21,a22⟩:=box3l hq2;have HQ3:=Lib.hid hq2;clear hb hq2))
         go_ret
         exact ⟨by first | rfl | (simp;done) | (simp;omega),HB4.out⟩
      ·have e : res = false:=by rw [hres];rw [decide_eq_false h8];simp
       clear hres
       subst e
       go_enter Tryz.func163,Tryz.ntmps163
       go_wp2_with (first
        | (go_at_call 79;refine (HR.out _).mono ?_;rintro e w2 ⟨rfl,hb⟩;have HB2:=Lib.hid (HB.out.chain hb);have hq0:=kept_box hb HQ.out;obtain ⟨a00,a01,a02⟩:=box3l hq0;have HQ1:=Lib.hid hq0;clear hb hq0)
        | (go_at_call 18;refine (HN.out _).mono ?_;rintro e w3 ⟨rfl,hb⟩;have HB3:=Lib.hid (HB2.out.chain hb);have hq1:=kept_box hb HQ1.out;obtain ⟨a10,a11,a12⟩:=box3l hq1;have HQ2:=Lib.hid hq1;clear hb hq1))
       go_ret
       exact ⟨by first | rfl | (simp;done) | (simp;omega),HB3.out⟩
theorem sformulas_any (fs : List Fm) (A : Option Addr) (c : Nat) (w : World) (hn : fs.length ≤ maxLen) (hr : FmRow w w.heap.size fs A) :
 Calls Tryz.prog 19 #[.slice A fs.length c,.int .i64 0] w fun e w' => e = .returned (.bool (decide ((fs.length : Int) ≤ 100) && fs.all (vF varR nuP 100))) ∧ Below w.heap.size w w':=by
 obtain ⟨ok,hok⟩ : ∃ ok,ok = vF varR nuP 100:=⟨_,rfl⟩
 have HS : Hid (∀ (f : Fm) Ap cp Aa ca Ac cc w,f.ps.length ≤ maxLen → f.ats.length ≤ maxLen → f.cls.length ≤ maxLen → PmRow w w.heap.size f.ps Ap → AtRow w w.heap.size f.ats Aa → ClRow w w.heap.size f.cls Ac →
  Calls Tryz.prog 48 #[formulaV (.slice Ap f.ps.length cp) (.slice Aa f.ats.length ca) (.slice Ac f.cls.length cc)] w fun e w' => e = .returned (.bool (ok f)) ∧ Below w.heap.size w w'):=Lib.hid (by rw [hok];exact sformula_any)
 rw [← hok]
 clear hok
 obtain ⟨n,hnn⟩ : ∃ n,n = fs.length:=⟨_,rfl⟩
 have HH:=Lib.hid (And.intro hr hnn)
 have HB0:=Lib.hid (Below.refl w.heap.size w)
 rw [← hnn] at hn ⊢
 clear hr hnn
 unfold maxLen at hn
 go_enter Tryz.func19,Tryz.ntmps19
 by_cases hm : (n : Int) > 100
 ·go_wp2
  go_ret
  exact ⟨by rw [show decide ((n : Int) ≤ 100) = false by simp;omega];rfl,HB0.out⟩
 go_wp2
 go_loopg [5] n (fun m j wr => ∃ k : Nat,m = n - k ∧ k ≤ n ∧ j = .int .i64 k ∧ Hid (Below w.heap.size w wr ∧ (fs.take k).all ok = true))
 case atStart => exact ⟨0,rfl,Nat.zero_le _,rfl,Lib.hid ⟨HB0.out,rfl⟩⟩
 case round =>
  obtain ⟨k,rfl,hk,rfl,HI⟩:=hrel
  by_cases hlt : k < n
  ·have hki : (k : Int) < n:=by omega
   obtain ⟨x,hi⟩ : ∃ x,fs[k]? = some x:=⟨fs[k]'(by rw [← HH.out.2];exact hlt),List.getElem?_eq_getElem _⟩
   obtain ⟨a,rfl,hab,Ap,cp,Aa,ca,Ac,cc,d0,d1,d2,⟨b0,b1,b2⟩,rp,ra,rc⟩:=(HH.out.1.on fm_keeps HI.out.1).at_ hi
   have c0 : wr.cell? (a.add (k * 3)) = some (.slice Ap x.ps.length cp):=d0
   have c1 : wr.cell? ⟨(a.add (k * 3)).block,(a.add (k * 3)).off + 1,none⟩ = some (.slice Aa x.ats.length ca):=d1
   have c2 : wr.cell? ⟨(a.add (k * 3)).block,(a.add (k * 3)).off + 2,none⟩ = some (.slice Ac x.cls.length cc):=d2
   have HC2:=Lib.hid (HS.out x Ap cp Aa ca Ac cc wr b0 b1 b2 rp ra rc)
   have HX:=Lib.hid (And.intro hi (all_take_succ ok fs k _ hi))
   obtain ⟨okx,hokx⟩ : ∃ b,b = ok x:=⟨_,rfl⟩
   rw [← hokx] at HC2 HX
   have HO:=Lib.hid hokx
   clear d0 d1 d2 rp ra rc b0 b1 b2 hi hokx
   go_wp2_with (go_at_call 48;refine HC2.out.mono ?_;rintro e w3 ⟨rfl,hb⟩;have HB3:=Lib.hid (HI.out.1.chain hb);clear hb)
   ·rename_i hf
    have hf' : ok x = false:=by rw [← HO.out];simpa using hf
    go_ret
    exact ⟨by rw [all_of_false ok fs k _ HX.out.1 hf',Bool.and_false];rfl,HB3.out⟩
   ·rename_i hf
    have hf' : okx = true:=by simpa using hf
    go_roundg (n - (k + 1))
    case measure => omega
    case rel => exact ⟨k + 1,rfl,by omega,by go_num,Lib.hid ⟨HB3.out,by rw [HX.out.2,HI.out.2,hf'];rfl⟩⟩
  ·obtain rfl : k = n:=by omega
   go_wp2
   go_ret
   refine ⟨?_,HI.out.1⟩
   have := HI.out.2
   rw [List.take_of_length_le (by rw [HH.out.2];exact Nat.le_refl _)] at this
   rw [this,Bool.and_true,show decide ((k : Int) ≤ 100) = true by simp;omega]
   rfl
end Go.Proofs.YtkopbfndfkibbaaGreatDoor
