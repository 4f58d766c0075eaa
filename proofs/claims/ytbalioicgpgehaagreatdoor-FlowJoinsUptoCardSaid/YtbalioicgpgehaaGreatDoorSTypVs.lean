import Derived.Test.YtbalioicgpgehaaGreatDoorSTreeO
import Derived.Test.YtbalioicgpgehaaGreatDoorSTreeV
set_option linter.unusedVariables false
set_option linter.unusedSimpArgs false
namespace Go.Proofs.YtbalioicgpgehaaGreatDoor
mutual
def exVars : Ex → List (List UInt8)
 | .mk k _ s l => (if k = 2 then [s] else []) ++ exsVars l
def exsVars : List Ex → List (List UInt8)
 | [] => []
 | x :: l => exVars x ++ exsVars l
end
theorem exsVars_append : ∀ l m : List Ex,exsVars (l ++ m) = exsVars l ++ exsVars m
 | [],_ => by rw [exsVars];rfl
 | x :: l,m => by rw [List.cons_append,exsVars,exsVars,exsVars_append l m,List.append_assoc]
theorem exsVars_take (l : List Ex) (k : Nat) (x : Ex) (h : l[k]? = some x) : exsVars (l.take (k + 1)) = exsVars (l.take k) ++ exVars x:=by
 rw [List.take_add_one,h,exsVars_append]
 show _ ++ exsVars [x] = _
 rw [exsVars,exsVars,List.append_nil]
end Go.Proofs.YtbalioicgpgehaaGreatDoor
namespace Go.Proofs.YtbalioicgpgehaaGreatDoor
set_option maxRecDepth 100000
set_option maxHeartbeats 8000000
open Go.RowKit
open Go.Maps (Keyed)
def putN (D : DataW Unit) (l : List (List UInt8)) : DataW Unit:=l.foldl (fun D s => D.put (.string s) (.lit (.bool true))) D
theorem putN_append (D : DataW Unit) (l m : List (List UInt8)) : putN D (l ++ m) = putN (putN D l) m:=by
 unfold putN
 rw [List.foldl_append]
theorem exsVars_le (l : List Ex) (i : Nat) (x : Ex) (h : l[i]? = some x) : (exsVars (l.take i)).length + (exVars x).length ≤ (exsVars l).length:=by
 have e : l = l.take (i + 1) ++ l.drop (i + 1):=(List.take_append_drop ..).symm
 have h2 : (exsVars l).length = (exsVars (l.take (i + 1))).length + (exsVars (l.drop (i + 1))).length:=by
  conv => lhs;rw [e,exsVars_append,List.length_append]
 rw [h2,exsVars_take l i x h,List.length_append]
 omega
theorem grownq {w W : World} {b B : Nat} (h : w.grownBy W (some b)) {q : Addr} (hq : q.block < B) (hB : B ≤ b) (hb : b < w.heap.size) : W.cell? q = w.cell? q :=
 World.cell?_of_block (w:=w) (h.block _ (by omega) (by intro h2;injection h2 with h2;omega))
theorem cell_allocq {w : World} {o : Obj} {q : Addr} (h : q.block < w.heap.size) : (w.alloc o).cell? q = w.cell? q:=(below_alloc w o).cell h
theorem collect_at : ∀ (M : Nat) (l : List Ex),SizeOf.sizeOf l < M → ∀ (k nn : Int) (s : List UInt8) (A : Option Addr) (c b n B : Nat) (D : DataW Unit) (w : World),ExRow w B l A → B ≤ b → NamesAt w b n D → s.length ≤ maxLen → l.length ≤ maxLen → n + (exVars (.mk k nn s l)).length < maxLen →
 Calls Tryz.prog 123 #[exprV k nn ⟨s.toArray⟩ (.slice A l.length c),.map (some b)] w fun e w' => e = .returned (.tuple #[]) ∧ NamesAt w' b (n + (exVars (.mk k nn s l)).length) (putN D (exVars (.mk k nn s l))) ∧ w.grownBy w' (some b):=by
 intro M
 induction M with
 | zero => intro l h;omega
 | succ M ih =>
   intro l hM k nn s A c b n B D w hr hBb hO hs hl hcnt
   obtain ⟨z,hz⟩ : ∃ z,z = l.length:=⟨_,rfl⟩
   rw [← hz] at hl ⊢
   have hlt:=hO.lt
   have ih2 : ∀ l0 : List Ex,SizeOf.sizeOf l0 < M → ∀ (k nn : Int) (s : List UInt8) (A : Option Addr) (c b n B : Nat) (D : DataW Unit) (w : World),ExRow w B l0 A → B ≤ b → NamesAt w b n D → s.length ≤ maxLen → l0.length ≤ maxLen → n + (exVars (.mk k nn s l0)).length < maxLen →
    Calls Tryz.prog 123 #[exprV k nn ⟨s.toArray⟩ (.slice A l0.length c),.map (some b)] w fun e w' => e = .returned (.tuple #[]) ∧ NamesAt w' b (n + (exVars (.mk k nn s l0)).length) (putN D (exVars (.mk k nn s l0))) ∧ w.grownBy w' (some b):=ih
   have HO:=Lib.hid (hO.alloc (exprC k nn ⟨s.toArray⟩ (.slice A z c)))
   have HG:=Lib.hid (World.grownBy_alloc w (exprC k nn ⟨s.toArray⟩ (.slice A z c)) (some b))
   have HB:=Lib.hid (heap_of_alloc w (exprC k nn ⟨s.toArray⟩ (.slice A z c)))
   have hne : w.heap.size ≠ b:=by omega
   unfold maxLen at hl
   by_cases h2 : k = 2
   ·subst h2
    have hv : exVars (.mk 2 nn s l) = s :: exsVars l:=by rw [exVars,if_pos rfl];rfl
    rw [hv] at hcnt ⊢
    have HK:=Lib.hid (Go.WideMaps.keyOf_string_mk Tryz.underlying9 (s:=⟨s.toArray⟩) hs)
    have hnm : n < maxLen:=by omega
    obtain ⟨n1,hn1⟩ : ∃ n1,n1 = n + 1:=⟨_,rfl⟩
    obtain ⟨D1,hD1⟩ : ∃ D1 : DataW Unit,D1 = D.put (.string s) (.lit (.bool true)):=⟨_,rfl⟩
    have HD1:=Lib.hid hD1
    have HF : Hid (∀ (w' : World),NamesAt w' b (n1 + (exsVars l).length) (putN D1 (exsVars l)) = NamesAt w' b (n + (s :: exsVars l).length) (putN D (s :: exsVars l))):=Lib.hid (fun w' => by rw [hn1,hD1,List.length_cons,show n + 1 + (exsVars l).length = n + ((exsVars l).length + 1) by omega];rfl)
    have hcnt1 : n1 + (exsVars l).length < maxLen:=by rw [List.length_cons] at hcnt;omega
    have HH:=Lib.hid (And.intro hr (And.intro hz (And.intro (show SizeOf.sizeOf l < M + 1 from hM) (And.intro ih2 (And.intro hcnt1 (And.intro hBb (And.intro hlt trivial)))))))
    have HN1:=Lib.hid hn1
    clear hr hBb hO hs hcnt hM ih ih2 hz hv hcnt1 hD1 hn1 hlt
    go_enter Tryz.func123,Tryz.ntmps123
    go_wp2_with (at_mapUpdate;refine wpList_mapUpdate_own _ rfl _ _ _ 102 rfl 9 4 (Keyed.of_law (Go.WideMaps.string_law Tryz.underlying9)) Tryz.underlying102 _ b _ _ rfl HO.out hnm _ _ _ rfl rfl HK.out _ _ (Go.plainElem_bool Tryz.underlying4 true) ?_;intro wk hown hgr;have HO2:=Lib.hid hown;have HG2:=Lib.hid (HG.out.trans hgr);have hB2:=(hgr.block w.heap.size (Array.getElem?_eq_some_iff.1 HB.out).1 (by simpa using hne)).trans HB.out;have c3:=cell_of_block hB2 3 (v:=.slice A z c) rfl;have f3:=frozen_at hB2 3;clear hown hgr)
    have HS : Hid (w.grownBy wk (some b) ∧ NamesAt wk b (n1 + (exsVars (l.take 0)).length) (putN D1 (exsVars (l.take 0)))):=Lib.hid ⟨HG2.out,by
     rw [HN1.out,HD1.out,List.take_zero]
     exact HO2.out⟩
    clear hB2 hne hnm
    go_loopg [15] z (fun mm j wr => ∃ i : Nat,mm = z - i ∧ i ≤ z ∧ j = .int .i64 i ∧ Hid (w.grownBy wr (some b) ∧ NamesAt wr b (n1 + (exsVars (l.take i)).length) (putN D1 (exsVars (l.take i)))))
    case atStart => exact ⟨0,rfl,Nat.zero_le _,rfl,HS⟩
    case round =>
     obtain ⟨i,rfl,hi,rfl,HI⟩:=hrel
     have hi0 : (0 : Int) ≤ i:=by omega
     by_cases hlt : i < z
     ·have hii : (i : Int) < z:=by omega
      obtain ⟨⟨k0,n0,s0,l0⟩,hg⟩ : ∃ x,l[i]? = some x:=⟨l[i]'(by rw [← HH.out.2.1];exact hlt),List.getElem?_eq_getElem _⟩
      have hkeep : ∀ q : Addr,q.block < B → wr.cell? q = w.cell? q:=fun q hq => grownq HI.out.1 hq HH.out.2.2.2.2.2.1 HH.out.2.2.2.2.2.2.1
      obtain ⟨a,A',c',rfl,hab,d0,d1,d2,d3,hs0,hl0,hrow⟩:=(HH.out.1.keep hkeep (Nat.le_refl B)).at_ hg
      have e0 : wr.cell? (a.add (i * 4)) = some (.int .i64 k0):=d0
      have e1 : wr.cell? ⟨(a.add (i * 4)).block,(a.add (i * 4)).off + 1,none⟩ = some (.int .i64 n0):=d1
      have e2 : wr.cell? ⟨(a.add (i * 4)).block,(a.add (i * 4)).off + 2,none⟩ = some (.string ⟨s0.toArray⟩):=d2
      have e3 : wr.cell? ⟨(a.add (i * 4)).block,(a.add (i * 4)).off + 3,none⟩ = some (.slice A' l0.length c'):=d3
      obtain ⟨W6,hW6⟩ : ∃ W6,W6 = wr.alloc (exprC k0 n0 ⟨s0.toArray⟩ (.slice A' l0.length c')):=⟨_,rfl⟩
      have hsz : SizeOf.sizeOf l0 < M:=by
       have q1:=List.sizeOf_lt_of_mem (List.mem_of_getElem? hg)
       have q2 : SizeOf.sizeOf l0 < SizeOf.sizeOf (Ex.mk k0 n0 s0 l0):=by simp;omega
       have q3:=HH.out.2.2.1
       omega
      have hcount : n1 + (exsVars (l.take i)).length + (exVars (.mk k0 n0 s0 l0)).length < maxLen:=by
       have q1:=exsVars_le l i _ hg
       have q2:=HH.out.2.2.2.2.1
       omega
      have hN6 : NamesAt W6 b (n1 + (exsVars (l.take i)).length) (putN D1 (exsVars (l.take i))):=by rw [hW6];exact HI.out.2.alloc _
      have hrow6 : ExRow W6 B l0 A':=hrow.keep (fun q hq => by rw [hW6];exact cell_allocq (Nat.lt_trans (Nat.lt_of_lt_of_le hq HH.out.2.2.2.2.2.1) (Nat.lt_of_lt_of_le HH.out.2.2.2.2.2.2.1 HI.out.1.size))) (Nat.le_refl B)
      have HC:=Lib.hid (HH.out.2.2.2.1 l0 hsz k0 n0 s0 A' c' b _ B _ W6 hrow6 HH.out.2.2.2.2.2.1 hN6 hs0 hl0 hcount)
      have HJ : Hid (w.grownBy W6 (some b)):=Lib.hid (by rw [hW6];exact HI.out.1.trans (World.grownBy_alloc wr _ (some b)))
      have HX:=Lib.hid hg
      clear hg hab d0 d1 d2 d3 hs0 hl0 hrow hsz hcount hN6 hrow6 hkeep
      go_wp2_with fail
      rw [← hW6]
      clear hW6
      (with_reducible refine HC.out.mono ?_)
      rintro e w3 ⟨rfl,hN3,hg3⟩
      have H3 : Hid (w.grownBy w3 (some b) ∧ NamesAt w3 b (n1 + (exsVars (l.take (i + 1))).length) (putN D1 (exsVars (l.take (i + 1))))):=Lib.hid ⟨HJ.out.trans hg3,by
       rw [exsVars_take l i _ HX.out,List.length_append,putN_append,← Nat.add_assoc]
       exact hN3⟩
      clear hN3 hg3
      go_wp2
      go_roundg (z - (i + 1))
      case measure => omega
      case rel => exact ⟨i + 1,rfl,by omega,by go_num,H3⟩
     ·have hlt' : ¬ (i : Int) < z:=by omega
      obtain rfl : i = z:=by omega
      have h:=HI.out.2
      rw [List.take_of_length_le (by rw [HH.out.2.1];exact Nat.le_refl _)] at h
      have HE:=Lib.hid h
      clear h
      go_wp2
      refine bodyPost_end (results_none rfl _ _ _) rfl ⟨rfl,?_,HI.out.1⟩
      exact (HF.out _) ▸ HE.out
   ·have hv : exVars (.mk k nn s l) = exsVars l:=by rw [exVars,if_neg h2];rfl
    rw [hv] at hcnt ⊢
    have h2' : (k == 2) = false:=beq_eq_false_iff_ne.2 h2
    obtain ⟨n1,hn1⟩ : ∃ n1,n1 = n:=⟨_,rfl⟩
    obtain ⟨D1,hD1⟩ : ∃ D1 : DataW Unit,D1 = D:=⟨_,rfl⟩
    have HF : Hid (∀ (w' : World),NamesAt w' b (n1 + (exsVars l).length) (putN D1 (exsVars l)) = NamesAt w' b (n + (exsVars l).length) (putN D (exsVars l))):=Lib.hid (fun w' => by rw [hn1,hD1])
    have hcnt1 : n1 + (exsVars l).length < maxLen:=by omega
    have HH:=Lib.hid (And.intro hr (And.intro hz (And.intro (show SizeOf.sizeOf l < M + 1 from hM) (And.intro ih2 (And.intro hcnt1 (And.intro hBb (And.intro hlt trivial)))))))
    have HS : Hid (w.grownBy (w.alloc (exprC k nn ⟨s.toArray⟩ (.slice A z c))) (some b) ∧ NamesAt (w.alloc (exprC k nn ⟨s.toArray⟩ (.slice A z c))) b (n1 + (exsVars (l.take 0)).length) (putN D1 (exsVars (l.take 0)))):=Lib.hid ⟨HG.out,by
     rw [hn1,hD1,List.take_zero]
     exact HO.out⟩
    clear hr hBb hO hs hcnt hM ih ih2 hz hv hcnt1 hD1 hn1 hlt h2 hne
    go_enter Tryz.func123,Tryz.ntmps123
    go_wp2
    go_loopg [15] z (fun mm j wr => ∃ i : Nat,mm = z - i ∧ i ≤ z ∧ j = .int .i64 i ∧ Hid (w.grownBy wr (some b) ∧ NamesAt wr b (n1 + (exsVars (l.take i)).length) (putN D1 (exsVars (l.take i)))))
    case atStart => exact ⟨0,rfl,Nat.zero_le _,rfl,HS⟩
    case round =>
     obtain ⟨i,rfl,hi,rfl,HI⟩:=hrel
     have hi0 : (0 : Int) ≤ i:=by omega
     by_cases hlt : i < z
     ·have hii : (i : Int) < z:=by omega
      obtain ⟨⟨k0,n0,s0,l0⟩,hg⟩ : ∃ x,l[i]? = some x:=⟨l[i]'(by rw [← HH.out.2.1];exact hlt),List.getElem?_eq_getElem _⟩
      have hkeep : ∀ q : Addr,q.block < B → wr.cell? q = w.cell? q:=fun q hq => grownq HI.out.1 hq HH.out.2.2.2.2.2.1 HH.out.2.2.2.2.2.2.1
      obtain ⟨a,A',c',rfl,hab,d0,d1,d2,d3,hs0,hl0,hrow⟩:=(HH.out.1.keep hkeep (Nat.le_refl B)).at_ hg
      have e0 : wr.cell? (a.add (i * 4)) = some (.int .i64 k0):=d0
      have e1 : wr.cell? ⟨(a.add (i * 4)).block,(a.add (i * 4)).off + 1,none⟩ = some (.int .i64 n0):=d1
      have e2 : wr.cell? ⟨(a.add (i * 4)).block,(a.add (i * 4)).off + 2,none⟩ = some (.string ⟨s0.toArray⟩):=d2
      have e3 : wr.cell? ⟨(a.add (i * 4)).block,(a.add (i * 4)).off + 3,none⟩ = some (.slice A' l0.length c'):=d3
      obtain ⟨W6,hW6⟩ : ∃ W6,W6 = wr.alloc (exprC k0 n0 ⟨s0.toArray⟩ (.slice A' l0.length c')):=⟨_,rfl⟩
      have hsz : SizeOf.sizeOf l0 < M:=by
       have q1:=List.sizeOf_lt_of_mem (List.mem_of_getElem? hg)
       have q2 : SizeOf.sizeOf l0 < SizeOf.sizeOf (Ex.mk k0 n0 s0 l0):=by simp;omega
       have q3:=HH.out.2.2.1
       omega
      have hcount : n1 + (exsVars (l.take i)).length + (exVars (.mk k0 n0 s0 l0)).length < maxLen:=by
       have q1:=exsVars_le l i _ hg
       have q2:=HH.out.2.2.2.2.1
       omega
      have hN6 : NamesAt W6 b (n1 + (exsVars (l.take i)).length) (putN D1 (exsVars (l.take i))):=by rw [hW6];exact HI.out.2.alloc _
      have hrow6 : ExRow W6 B l0 A':=hrow.keep (fun q hq => by rw [hW6];exact cell_allocq (Nat.lt_trans (Nat.lt_of_lt_of_le hq HH.out.2.2.2.2.2.1) (Nat.lt_of_lt_of_le HH.out.2.2.2.2.2.2.1 HI.out.1.size))) (Nat.le_refl B)
      have HC:=Lib.hid (HH.out.2.2.2.1 l0 hsz k0 n0 s0 A' c' b _ B _ W6 hrow6 HH.out.2.2.2.2.2.1 hN6 hs0 hl0 hcount)
      have HJ : Hid (w.grownBy W6 (some b)):=Lib.hid (by rw [hW6];exact HI.out.1.trans (World.grownBy_alloc wr _ (some b)))
      have HX:=Lib.hid hg
      clear hg hab d0 d1 d2 d3 hs0 hl0 hrow hsz hcount hN6 hrow6 hkeep
      go_wp2_with fail
      rw [← hW6]
      clear hW6
      (with_reducible refine HC.out.mono ?_)
      rintro e w3 ⟨rfl,hN3,hg3⟩
      have H3 : Hid (w.grownBy w3 (some b) ∧ NamesAt w3 b (n1 + (exsVars (l.take (i + 1))).length) (putN D1 (exsVars (l.take (i + 1))))):=Lib.hid ⟨HJ.out.trans hg3,by
       rw [exsVars_take l i _ HX.out,List.length_append,putN_append,← Nat.add_assoc]
       exact hN3⟩
      clear hN3 hg3
      go_wp2
      go_roundg (z - (i + 1))
      case measure => omega
      case rel => exact ⟨i + 1,rfl,by omega,by go_num,H3⟩
     ·have hlt' : ¬ (i : Int) < z:=by omega
      obtain rfl : i = z:=by omega
      have h:=HI.out.2
      rw [List.take_of_length_le (by rw [HH.out.2.1];exact Nat.le_refl _)] at h
      have HE:=Lib.hid h
      clear h
      go_wp2
      refine bodyPost_end (results_none rfl _ _ _) rfl ⟨rfl,?_,HI.out.1⟩
      exact (HF.out _) ▸ HE.out
end Go.Proofs.YtbalioicgpgehaaGreatDoor
namespace Go.Proofs.YtbalioicgpgehaaGreatDoor
open Go.RowKit Go.Lib Go.Maps
open Go.Sort
theorem putN_setOf (l : List (List UInt8)) : putN (.map []) l = setOf (.lit (.bool true)) (l.map Lit.string):=by
 unfold putN setOf
 rw [List.foldl_map]
theorem strLits (l : List (List UInt8)) : ∀ x ∈ l.map Lit.string,WideAt.IsKeyLit x:=by
 intro x hx
 obtain ⟨y,_,rfl⟩:=List.mem_map.1 hx
 trivial
theorem putN_has (l : List (List UInt8)) (x : List UInt8) : Maps.has (putN (.map []) l) (.string x) = true ↔ x ∈ l:=by
 rw [putN_setOf,has_setOf _ _ _ (strLits l),List.any_eq_true]
 constructor
 ·rintro ⟨y,hy,hs⟩
  obtain ⟨z,hz,rfl⟩:=List.mem_map.1 hy
  have e : z = x:=by simpa [Lit.sameKey] using hs
  exact e ▸ hz
 ·intro hx
  exact ⟨.string x,List.mem_map_of_mem hx,by simp [Lit.sameKey]⟩
theorem putN_size (l : List (List UInt8)) : Maps.size (putN (.map []) l) ≤ l.length:=by
 have : ∀ (l : List (List UInt8)) (D : DataW Unit),Tidy D → Maps.size (putN D l) ≤ Maps.size D + l.length:=by
  intro l
  induction l with
  | nil => exact fun D _ => Nat.le_refl _
  | cons x l ih =>
    intro D hD
    have h1:=ih (D.put (.string x) (.lit (.bool true))) (hD.put (show WideAt.IsKeyLit (.string x) from trivial) _)
    have h2:=size_put (k:=.string x) hD (.lit (.bool true))
    show Maps.size (putN (D.put (.string x) (.lit (.bool true))) l) ≤ _
    rw [List.length_cons]
    split at h2 <;> omega
 have h:=this l (.map []) tidy_empty
 simpa [Maps.size] using h
theorem mem_ins {x p : Lit × DataW Unit} : ∀ {l : List (Lit × DataW Unit)},p ∈ DataW.insert x l → p = x ∨ p ∈ l
 | [],h => by
   unfold DataW.insert at h
   simpa using h
 | y :: l,h => by
   unfold DataW.insert at h
   split at h
   ·simpa using h
   ·rcases List.mem_cons.1 h with rfl | h
    ·exact .inr (List.mem_cons_self ..)
    ·rcases mem_ins h with h | h
     ·exact .inl h
     ·exact .inr (List.mem_cons_of_mem _ h)
theorem putN_strs (l : List (List UInt8)) : ∃ es,putN (.map []) l = .map es ∧ ∀ p ∈ es,∃ x,p.1 = Lit.string x:=by
 have : ∀ (l : List (List UInt8)) (es : List (Lit × DataW Unit)),(∀ p ∈ es,∃ x,p.1 = Lit.string x) → ∃ es',putN (.map es) l = .map es' ∧ ∀ p ∈ es',∃ x,p.1 = Lit.string x:=by
  intro l
  induction l with
  | nil => exact fun es h => ⟨es,rfl,h⟩
  | cons x l ih =>
    intro es h
    refine ih (DataW.insert (.string x,.lit (.bool true)) (es.filter fun p => !p.1.sameKey (.string x))) fun p hp => ?_
    rcases mem_ins hp with rfl | hp
    ·exact ⟨x,rfl⟩
    ·exact h p (List.mem_filter.1 hp).1
 exact this l [] (by simp)
theorem putN_keys (l : List (List UInt8)) (x : List UInt8) : x ∈ strKeys (putN (.map []) l) ↔ x ∈ l:=by
 obtain ⟨es,he,hk⟩:=putN_strs l
 rw [← putN_has l x,he,has_eq,List.any_eq_true]
 show x ∈ es.map (fun p => strOf p.1) ↔ _
 rw [List.mem_map]
 constructor
 ·rintro ⟨p,hp,rfl⟩
  obtain ⟨a,ha⟩:=hk p hp
  exact ⟨p,hp,by rw [ha];simp [Lit.sameKey,strOf]⟩
 ·rintro ⟨p,hp,hs⟩
  obtain ⟨a,ha⟩:=hk p hp
  rw [ha] at hs
  exact ⟨p,hp,by rw [ha];simpa [Lit.sameKey,strOf] using hs⟩
theorem exs_lens {w : World} {B : Nat} {l : List Ex} {A : Option Addr} (h : ExRow w B l A) : ∀ x ∈ exsVars l,x.length ≤ maxLen:=by
 induction h with
 | nil A => intro x hx;rw [exsVars] at hx;simp at hx
 | row a es Ad C hb cells sub ih =>
   have : ∀ (m : List Ex),(∀ y ∈ m,∃ i : Nat,es[i]? = some y) → ∀ x ∈ exsVars m,x.length ≤ maxLen:=by
    intro m
    induction m with
    | nil => intro _ x hx;rw [exsVars] at hx;simp at hx
    | cons y m ihm =>
      intro hm x hx
      rw [exsVars,List.mem_append] at hx
      rcases hx with hx | hx
      ·obtain ⟨i,hi⟩:=hm y (List.mem_cons_self ..)
       obtain ⟨k,n,s,l⟩:=y
       rw [exVars,List.mem_append] at hx
       rcases hx with hx | hx
       ·split at hx
        ·obtain rfl : x = s:=by simpa using hx
         exact (cells i k n x l hi).2.2.2.2.1
        ·simp at hx
       ·exact ih i k n s l hi x hx
      ·exact ihm (fun z hz => hm z (List.mem_cons_of_mem _ hz)) x hx
   exact this es fun y hy => by
    obtain ⟨i,hi,he⟩:=List.getElem_of_mem hy
    exact ⟨i,by rw [List.getElem?_eq_getElem hi,he]⟩
theorem ex_lens {w : World} {B : Nat} {k n : Int} {s : List UInt8} {l : List Ex} {A : Option Addr} (h : ExRow w B l A) (hs : s.length ≤ maxLen) : ∀ x ∈ exVars (.mk k n s l),x.length ≤ maxLen:=by
 intro x hx
 rw [exVars,List.mem_append] at hx
 rcases hx with hx | hx
 ·split at hx
  ·obtain rfl : x = s:=by simpa using hx
   exact hs
  ·simp at hx
 ·exact exs_lens h x hx
end Go.Proofs.YtbalioicgpgehaaGreatDoor
