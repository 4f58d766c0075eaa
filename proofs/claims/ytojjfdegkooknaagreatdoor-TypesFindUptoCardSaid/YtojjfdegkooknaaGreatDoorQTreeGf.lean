import Derived.Maps.Views
import Derived.Test.YtojjfdegkooknaaGreatDoorQTreeGp
import Derived.Maps.OwnSet
import Derived.Test.YtojjfdegkooknaaGreatDoorQTreeV
set_option linter.unusedVariables false
set_option linter.unusedSimpArgs false
namespace Go.Proofs.YtojjfdegkooknaaGreatDoor
set_option maxRecDepth 100000
set_option maxHeartbeats 4000000
open Go.Maps (addKey setOf)
theorem any_sameKey {x : Lit} (hx : Go.WideAt.IsKeyLit x) (L : List Lit) : L.any (fun y => y.sameKey x) = true ↔ x ∈ L:=by
 rw [List.any_eq_true]
 constructor
 ·rintro ⟨y,hy,h⟩
  by_cases e : y = x
  ·rw [← e];exact hy
  ·rw [Go.Maps.sameKey_ne e] at h;cases h
 ·intro h
  exact ⟨x,h,Go.WideAt.sameKey_self hx⟩
theorem addKey_len : ∀ (xs L : List Lit),(∀ x ∈ xs,Go.WideAt.IsKeyLit x) → (xs.foldl addKey L).length ≤ L.length + xs.length ∧ ((xs.foldl addKey L).length = L.length + xs.length ↔ xs.Nodup ∧ ∀ x ∈ xs,x ∉ L)
 | [],L,_ => by simp
 | x :: r,L,h => by
   have hx:=any_sameKey (h x (by simp)) L
   by_cases e : x ∈ L
   ·have e1 : addKey L x = L:=by unfold addKey;rw [hx.2 e];rfl
    obtain ⟨i1,i2⟩:=addKey_len r L (fun y hy => h y (by simp [hy]))
    rw [List.foldl_cons,e1]
    refine ⟨by simp;omega,?_⟩
    constructor
    ·intro h2;simp at h2;omega
    ·rintro ⟨_,h2⟩;exact absurd e (h2 x (by simp))
   ·have e1 : addKey L x = L ++ [x]:=by unfold addKey;rw [if_neg (fun h => e (hx.1 h))]
    obtain ⟨i1,i2⟩:=addKey_len r (L ++ [x]) (fun y hy => h y (by simp [hy]))
    rw [List.foldl_cons,e1]
    have hl : (L ++ [x]).length = L.length + 1:=by simp
    rw [hl] at i1 i2
    refine ⟨by simp;omega,?_⟩
    rw [show L.length + (x :: r).length = L.length + 1 + r.length by simp;omega,i2,List.nodup_cons]
    constructor
    ·rintro ⟨h1,h2⟩
     refine ⟨⟨fun h3 => h2 x h3 (by simp),h1⟩,fun y hy => ?_⟩
     rcases List.mem_cons.1 hy with rfl | hy
     ·exact e
     ·intro h4;exact h2 y hy (by simp [h4])
    ·rintro ⟨⟨h1,h2⟩,h3⟩
     refine ⟨h2,fun y hy h4 => ?_⟩
     rcases List.mem_append.1 h4 with h4 | h4
     ·exact h3 y (by simp [hy]) h4
     ·obtain rfl : y = x:=by simpa using h4
      exact h1 hy
theorem size_names (ns : List (List UInt8)) : (Go.Maps.size (setOf (DataW.lit (H:=Unit) (.bool true)) (ns.map Lit.string)) = ns.length) ↔ ns.Nodup:=by
 have hk : ∀ x ∈ ns.map Lit.string,Go.WideAt.IsKeyLit x:=by
  intro x hx
  obtain ⟨s,_,rfl⟩:=List.mem_map.1 hx
  trivial
 rw [Go.Maps.size_setOf _ _ hk]
 have h:=(addKey_len (ns.map Lit.string) [] hk).2
 simp only [List.length_nil,Nat.zero_add,List.length_map,List.not_mem_nil,not_false_eq_true,implies_true,and_true] at h
 rw [h]
 unfold List.Nodup
 rw [List.pairwise_map]
 simp
end Go.Proofs.YtojjfdegkooknaaGreatDoor
namespace Go.Proofs.YtojjfdegkooknaaGreatDoor
set_option maxRecDepth 100000
set_option maxHeartbeats 4000000
open Go.RowKit
open Go.Maps (Keyed setOf)
theorem below_grownF {B b : Nat} {W W' : World} (hg : W.grownBy W' (some b)) (hb : B ≤ b) (hB : B ≤ W.heap.size) : Below B W W' :=
 ⟨hg.os,hg.tape,hg.output,hg.size,fun k hk => hg.block k (by omega) (fun e => by have := Option.some.inj e;omega)⟩
abbrev namesD (ps : List Pm) : DataW Unit:=setOf (DataW.lit (.bool true)) (ps.map fun x => Lit.string x.nm)
theorem namesD_succ (ps : List Pm) (k : Nat) (t nm : List UInt8) (hi : ps[k]? = some ⟨t,nm⟩) : namesD (ps.take (k + 1)) = (namesD (ps.take k)).put (.string nm) (.lit (.bool true)):=by
 unfold namesD
 rw [List.take_add_one,hi,List.map_append,show (Option.some (⟨t,nm⟩ : Pm)).toList.map (fun x => Lit.string x.nm) = [Lit.string nm] from rfl,Go.Maps.setOf_snoc]
theorem size_namesD (ps : List Pm) : decide (((Go.Maps.size (namesD ps) : Nat) : Int) = (ps.length : Int)) = decide ((ps.map (·.nm)).Nodup):=by
 have h:=size_names (ps.map (·.nm))
 rw [List.map_map,List.length_map] at h
 have h2 : Go.Maps.size (namesD ps) = ps.length ↔ (ps.map (·.nm)).Nodup:=h
 exact decide_eq_decide.2 ⟨fun e => h2.1 (by omega),fun e => by have := h2.2 e;omega⟩
theorem names_any (ps : List Pm) (A : Option Addr) (c : Nat) (w : World) (hn : ps.length ≤ maxLen) (hr : PmRow w w.heap.size ps A) :
 Calls Tryz.prog 108 #[.slice A ps.length c] w fun e w' => e = .returned (.bool (decide ((ps.map (·.nm)).Nodup))) ∧ Below w.heap.size w w':=by
 obtain ⟨n,hnn⟩ : ∃ n,n = ps.length:=⟨_,rfl⟩
 have hn':=hn
 have HE:=Lib.hid (size_namesD ps)
 rw [← hnn] at hn hn' HE ⊢
 have HH:=Lib.hid (And.intro hr (And.intro hnn hn'))
 have hmm:=@run_makeMap Tryz.prog
 have HO0:=Lib.hid (World.ownsMap_made w Tryz.prog 9 (plainElem (H:=Unit) Tryz.prog 4))
 have HB0:=Lib.hid (below_alloc w (.map #[] 0))
 clear hr hnn hn'
 unfold maxLen at hn
 go_enter Tryz.func108,Tryz.ntmps108
 go_wp2
 go_loopg [9] n (fun m j wr => ∃ k : Nat,m = n - k ∧ k ≤ n ∧ j = .int .i64 k ∧ Hid (NamesAt wr w.heap.size k (namesD (ps.take k)) ∧ Below w.heap.size w wr))
 case atStart => exact ⟨0,rfl,Nat.zero_le _,rfl,Lib.hid ⟨HO0.out,HB0.out⟩⟩
 case round =>
  obtain ⟨k,rfl,hk,rfl,HI⟩:=hrel
  by_cases hlt : k < n
  ·have hki : (k : Int) < n:=by omega
   obtain ⟨⟨t,nm⟩,hi⟩ : ∃ x,ps[k]? = some x:=⟨ps[k]'(by rw [← HH.out.2.1];exact hlt),List.getElem?_eq_getElem _⟩
   obtain ⟨a,rfl,hab,d0,d1,ht,hnm⟩:=(HH.out.1.stay pm_keeps HI.out.2 (Nat.le_refl _)).at_ hi
   have c0 : wr.cell? (a.add (k * 2)) = some (.string ⟨t.toArray⟩):=d0
   have c1 : wr.cell? ⟨(a.add (k * 2)).block,(a.add (k * 2)).off + 1,none⟩ = some (.string ⟨nm.toArray⟩):=d1
   have HO:=Lib.hid (HI.out.1.alloc (paramC ⟨t.toArray⟩ ⟨nm.toArray⟩))
   have HK:=Lib.hid (Go.WideMaps.keyOf_string_mk Tryz.underlying9 (s:=⟨nm.toArray⟩) hnm)
   have HG:=Lib.hid (HI.out.2.alloc HI.out.2.size (paramC ⟨t.toArray⟩ ⟨nm.toArray⟩))
   have HKN:=Lib.hid (And.intro (Nat.lt_of_lt_of_le hlt HH.out.2.2) (namesD_succ ps k t nm hi))
   clear d0 d1 ht hnm hi
   go_wp2_with (at_mapUpdate;refine wpList_mapUpdate_own _ rfl _ _ _ 183 rfl 9 4 (Keyed.of_law (Go.WideMaps.string_law Tryz.underlying9)) Tryz.underlying183 _ w.heap.size _ _ rfl HO.out HKN.out.1 _ _ _ rfl rfl HK.out _ _ (Go.plainElem_bool Tryz.underlying4 true) ?_;intro wk hown hgr;have HO2:=Lib.hid hown;have HG2:=Lib.hid (HG.out.trans (below_grownF hgr (Nat.le_refl _) HG.out.size));clear hown hgr)
   go_roundg (n - (k + 1))
   case measure => omega
   case rel => exact ⟨k + 1,rfl,by omega,by go_num,Lib.hid ⟨by rw [HKN.out.2];exact HO2.out,HG2.out⟩⟩
  ·obtain rfl : k = n:=by omega
   go_wp2_with (at_len;refine wpList_len_own _ rfl _ 183 rfl 9 4 Tryz.underlying183 _ w.heap.size _ _ rfl HI.out.1 ?_)
   go_ret
   refine ⟨?_,HI.out.2⟩
   have e : ps.take k = ps:=List.take_of_length_le (by rw [HH.out.2.1];exact Nat.le_refl _)
   rw [e]
   have := HE.out
   simp only at this ⊢
   first
    | exact congrArg (fun b => Outcome.returned (.bool b)) this
    | (rw [← this];rfl)
    | (rw [← this];simp)
end Go.Proofs.YtojjfdegkooknaaGreatDoor
namespace Go.Proofs.YtojjfdegkooknaaGreatDoor
set_option maxRecDepth 100000
set_option maxHeartbeats 4000000
open Go.RowKit
theorem vlr_param (fv : Nat) (var : List UInt8 → Bool) (hv : VarOk fv var) (nu ex : Int) (ps : List Pm) (A : Option Addr) (c : Nat) (least most : Int) (w : World) (hn : ps.length ≤ maxLen) (hr : PmRow w w.heap.size ps A) :
 Calls Tryz.prog 106 #[.slice A ps.length c,.int .i64 least,.int .i64 most,.func (.func 107) #[rulesV fv nu ex] #[]] w fun e w' =>
  e = .returned (.bool (decide (least ≤ ps.length) && decide ((ps.length : Int) ≤ most) && ps.all (vP var))) ∧ Below w.heap.size w w':=by
 refine vl_param (vP var) 107 #[rulesV fv nu ex] #[] (enters_of Tryz.func107 (by kernel_rfl) rfl) ps A c least most w hn hr (fun t nm W _ hb ht hnm => ?_)
 exact param_any fv var hv nu ex t nm W ht hnm
theorem vlr_atom (fv : Nat) (var : List UInt8 → Bool) (hv : VarOk fv var) (nu ex : Int) (h0 : 0 ≤ nu) (h1 : nu ≤ 4611686018427387904) (es : List At) (A : Option Addr) (c : Nat) (least most : Int) (w : World) (hn : es.length ≤ maxLen) (hr : AtRow w w.heap.size es A) :
 Calls Tryz.prog 109 #[.slice A es.length c,.int .i64 least,.int .i64 most,.func (.func 110) #[rulesV fv nu ex] #[]] w fun e w' =>
  e = .returned (.bool (decide (least ≤ es.length) && decide ((es.length : Int) ≤ most) && es.all (vAt var nu))) ∧ Below w.heap.size w w':=by
 refine vl_atom (vAt var nu) 110 #[rulesV fv nu ex] #[] (enters_of Tryz.func110 (by kernel_rfl) rfl) es A c least most w hn hr (fun k ak an sa al bk bn sb bl Aa ca Ab cb W _ hb ra rb b1 b2 b3 b4 => ?_)
 exact atom_any fv var hv nu ex h0 h1 k ak an sa al bk bn sb bl Aa ca Ab cb W ra rb b1 b2 b3 b4
theorem vlr_cell (fv : Nat) (var : List UInt8 → Bool) (hv : VarOk fv var) (nu ex : Int) (h0 : 0 ≤ nu) (h1 : nu ≤ 4611686018427387904) (es : List Cl) (A : Option Addr) (c : Nat) (least most : Int) (w : World) (hn : es.length ≤ maxLen) (hr : ClRow w w.heap.size es A) :
 Calls Tryz.prog 111 #[.slice A es.length c,.int .i64 least,.int .i64 most,.func (.func 112) #[rulesV fv nu ex] #[]] w fun e w' =>
  e = .returned (.bool (decide (least ≤ es.length) && decide ((es.length : Int) ≤ most) && es.all (vCl var nu))) ∧ Below w.heap.size w w':=by
 refine vl_cell (vCl var nu) 112 #[rulesV fv nu ex] #[] (enters_of Tryz.func112 (by kernel_rfl) rfl) es A c least most w hn hr (fun k nm l A' c' W _ hb rl hnm hl => ?_)
 exact cell_any fv var hv nu ex h0 h1 k nm l A' c' W rl hnm hl
theorem box3f {W : World} {be : Nat} {p a c : Value} (h : W.heap[be]? = some (formulaC p a c)) :
 W.cell? ⟨be,0,none⟩ = some p ∧ W.cell? ⟨be,1,none⟩ = some a ∧ W.cell? ⟨be,2,none⟩ = some c :=
 ⟨cell_of_block h 0 rfl,cell_of_block h 1 rfl,cell_of_block h 2 rfl⟩
theorem formula_any (fv : Nat) (var : List UInt8 → Bool) (hv : VarOk fv var) (nu ex : Int) (h0 : 0 ≤ nu) (h1 : nu ≤ 4611686018427387904) (f : Fm) (Ap : Option Addr) (cp : Nat) (Aa : Option Addr) (ca : Nat) (Ac : Option Addr) (cc : Nat) (w : World)
 (b0 : f.ps.length ≤ maxLen) (b1 : f.ats.length ≤ maxLen) (b2 : f.cls.length ≤ maxLen) (rp : PmRow w w.heap.size f.ps Ap) (ra : AtRow w w.heap.size f.ats Aa) (rc : ClRow w w.heap.size f.cls Ac) :
 Calls Tryz.prog 79 #[rulesV fv nu ex,formulaV (.slice Ap f.ps.length cp) (.slice Aa f.ats.length ca) (.slice Ac f.cls.length cc)] w fun e w' => e = .returned (.bool (vF var nu ex f)) ∧ Below w.heap.size w w':=by
 obtain ⟨v0,hv0⟩ : ∃ v,v = (decide ((0 : Int) ≤ f.ps.length) && decide ((f.ps.length : Int) ≤ ex) && f.ps.all (vP var)):=⟨_,rfl⟩
 obtain ⟨vd,hvd⟩ : ∃ v,v = decide ((f.ps.map (·.nm)).Nodup):=⟨_,rfl⟩
 obtain ⟨v1,hv1⟩ : ∃ v,v = (decide ((0 : Int) ≤ f.ats.length) && decide ((f.ats.length : Int) ≤ 100) && f.ats.all (vAt var nu)):=⟨_,rfl⟩
 obtain ⟨v2,hv2⟩ : ∃ v,v = (decide ((0 : Int) ≤ f.cls.length) && decide ((f.cls.length : Int) ≤ 100) && f.cls.all (vCl var nu)):=⟨_,rfl⟩
 have hres : vF var nu ex f = (v0 && vd && v1 && v2):=by
  rw [hv0,hvd,hv1,hv2]
  unfold vF
  have e : ∀ n : Nat,decide ((0 : Int) ≤ n) = true:=fun n => by simp
  rw [e,e,e]
  simp only [Bool.true_and,Bool.and_assoc]
 rw [hres]
 have HP : Hid (BC w 106 #[.slice Ap f.ps.length cp,.int .i64 0,.int .i64 ex,.func (.func 107) #[rulesV fv nu ex] #[]] v0):=Lib.hid (fun W hb => by rw [hv0];exact vlr_param fv var hv nu ex f.ps Ap cp 0 ex W b0 (rp.on pm_keeps hb))
 have HD : Hid (BC w 108 #[.slice Ap f.ps.length cp] vd):=Lib.hid (fun W hb => by rw [hvd];exact names_any f.ps Ap cp W b0 (rp.on pm_keeps hb))
 have HA : Hid (BC w 109 #[.slice Aa f.ats.length ca,.int .i64 0,.int .i64 100,.func (.func 110) #[rulesV fv nu ex] #[]] v1):=Lib.hid (fun W hb => by rw [hv1];exact vlr_atom fv var hv nu ex h0 h1 f.ats Aa ca 0 100 W b1 (ra.on at_keeps hb))
 have HC : Hid (BC w 111 #[.slice Ac f.cls.length cc,.int .i64 0,.int .i64 100,.func (.func 112) #[rulesV fv nu ex] #[]] v2):=Lib.hid (fun W hb => by rw [hv2];exact vlr_cell fv var hv nu ex h0 h1 f.cls Ac cc 0 100 W b2 (rc.on cl_keeps hb))
 generalize f.ps.length = n0 at *
 generalize f.ats.length = n1 at *
 generalize f.cls.length = n2 at *
 obtain ⟨W1,hW1⟩ : ∃ W1,W1 = (w.alloc (rulesC fv nu ex)).alloc (formulaC (.slice Ap n0 cp) (.slice Aa n1 ca) (.slice Ac n2 cc)):=⟨_,rfl⟩
 have HB : Hid (Below w.heap.size w W1):=Lib.hid (by rw [hW1];exact (below_alloc w _).chain (below_alloc _ _))
 have q1:=heap_keep (o:=formulaC (.slice Ap n0 cp) (.slice Aa n1 ca) (.slice Ac n2 cc)) (heap_of_alloc w (rulesC fv nu ex))
 have q2:=heap_of_alloc (w.alloc (rulesC fv nu ex)) (formulaC (.slice Ap n0 cp) (.slice Aa n1 ca) (.slice Ac n2 cc))
 rw [size_of_alloc] at q2
 rw [← hW1] at q1 q2
 have HQ:=Lib.hid (And.intro q1 q2)
 unfold maxLen at b0 b1 b2
 have he1:=enters_of Tryz.func107 (by kernel_rfl) rfl
 clear q1 q2 hv rp ra rc hres hv0 hvd hv1 hv2 h0 h1
 cases v0 with
 | false =>
   go_enter Tryz.func79,Tryz.ntmps79
   go_wp2_with (go_at_call 106;rw [← hW1];clear hW1;refine (HP.out _ HB.out).mono ?_;rintro e w2 ⟨rfl,hb2⟩;have HB2:=Lib.hid (HB.out.chain hb2);clear hb2)
   go_ret
   exact ⟨rfl,HB2.out⟩
 | true =>
   cases vd with
   | false =>
     go_enter Tryz.func79,Tryz.ntmps79
     go_wp2_with (first
      | (go_at_call 106;rw [← hW1];clear hW1;refine (HP.out _ HB.out).mono ?_;rintro e w2 ⟨rfl,hb2⟩;have HB2:=Lib.hid (HB.out.chain hb2);have HQ2:=Lib.hid (And.intro (kept_box hb2 HQ.out.1) (kept_box hb2 HQ.out.2));obtain ⟨g0,g1,g2⟩:=box3 HQ2.out.1;obtain ⟨y0,y1,y2⟩:=box3f HQ2.out.2;clear hb2)
      | (go_at_call 108;refine (HD.out _ HB2.out).mono ?_;rintro e w3 ⟨rfl,hb3⟩;have HB3:=Lib.hid (HB2.out.chain hb3);clear hb3))
     go_ret
     exact ⟨rfl,HB3.out⟩
   | true =>
     cases v1 with
     | false =>
       go_enter Tryz.func79,Tryz.ntmps79
       go_wp2_with (first
        | (go_at_call 106;rw [← hW1];clear hW1;refine (HP.out _ HB.out).mono ?_;rintro e w2 ⟨rfl,hb2⟩;have HB2:=Lib.hid (HB.out.chain hb2);have HQ2:=Lib.hid (And.intro (kept_box hb2 HQ.out.1) (kept_box hb2 HQ.out.2));obtain ⟨g0,g1,g2⟩:=box3 HQ2.out.1;obtain ⟨y0,y1,y2⟩:=box3f HQ2.out.2;clear hb2)
        | (go_at_call 108;refine (HD.out _ HB2.out).mono ?_;rintro e w3 ⟨rfl,hb3⟩;have HB3:=Lib.hid (HB2.out.chain hb3);have HQ3:=Lib.hid (And.intro (kept_box hb3 HQ2.out.1) (kept_box hb3 HQ2.out.2));obtain ⟨i0,i1,i2⟩:=box3 HQ3.out.1;obtain ⟨x0,x1,x2⟩:=box3f HQ3.out.2;clear hb3)
        | (go_at_call 109;refine (HA.out _ HB3.out).mono ?_;rintro e w4 ⟨rfl,hb4⟩;have HB4:=Lib.hid (HB3.out.chain hb4);clear hb4))
       go_ret
       exact ⟨rfl,HB4.out⟩
     | true =>
       go_enter Tryz.func79,Tryz.ntmps79
       go_wp2_with (first
        | (go_at_call 106;rw [← hW1];clear hW1;refine (HP.out _ HB.out).mono ?_;rintro e w2 ⟨rfl,hb2⟩;have HB2:=Lib.hid (HB.out.chain hb2);have HQ2:=Lib.hid (And.intro (kept_box hb2 HQ.out.1) (kept_box hb2 HQ.out.2));obtain ⟨g0,g1,g2⟩:=box3 HQ2.out.1;obtain ⟨y0,y1,y2⟩:=box3f HQ2.out.2;clear hb2)
        | (go_at_call 108;refine (HD.out _ HB2.out).mono ?_;rintro e w3 ⟨rfl,hb3⟩;have HB3:=Lib.hid (HB2.out.chain hb3);have HQ3:=Lib.hid (And.intro (kept_box hb3 HQ2.out.1) (kept_box hb3 HQ2.out.2));obtain ⟨i0,i1,i2⟩:=box3 HQ3.out.1;obtain ⟨x0,x1,x2⟩:=box3f HQ3.out.2;clear hb3)
        | (go_at_call 109;refine (HA.out _ HB3.out).mono ?_;rintro e w4 ⟨rfl,hb4⟩;have HB4:=Lib.hid (HB3.out.chain hb4);have HQ4:=Lib.hid (And.intro (kept_box hb4 HQ3.out.1) (kept_box hb4 HQ3.out.2));obtain ⟨j0,j1,j2⟩:=box3 HQ4.out.1;obtain ⟨z0,z1,z2⟩:=box3f HQ4.out.2;clear hb4)
        | (go_at_call 111;refine (HC.out _ HB4.out).mono ?_;rintro e w5 ⟨rfl,hb5⟩;have HB5:=Lib.hid (HB4.out.chain hb5);clear hb5))
       go_ret
       exact ⟨rfl,HB5.out⟩
end Go.Proofs.YtojjfdegkooknaaGreatDoor
