import Derived.Test.YthenbbpagbdbeaaGreatDoorSTypSt
import Derived.Maps.OwnSet
import Derived.Test.YthenbbpagbdbeaaGreatDoorSTypK
import Derived.Test.YthenbbpagbdbeaaGreatDoorSTreeQ
import Derived.Test.YthenbbpagbdbeaaGreatDoorSTypTg
set_option linter.unusedVariables false
set_option linter.unusedSimpArgs false
namespace Go.Proofs.YthenbbpagbdbeaaGreatDoor
open Go.RowKit Go.Lib
open Go.Maps (Tidy IsMap)
structure UMap (D : DataW Unit) (U : Unk) : Prop where
 tidy : Tidy D
 has : ∀ n,Maps.has D (.string n) = U n
 val : ∀ n,D.atKey (.string n) (.lit (.bool false)) = .lit (.bool (U n))
theorem str_key (x : List UInt8) : Go.WideAt.IsKeyLit (.string x):=trivial
theorem umap_empty : UMap (.map []) fun _ => false:=⟨Maps.tidy_empty,fun _ => rfl,fun _ => rfl⟩
theorem umap_put {D : DataW Unit} {U : Unk} (h : UMap D U) (x : List UInt8) : UMap (D.put (.string x) (.lit (.bool true))) fun n => U n || n == x:=by
 refine ⟨h.tidy.put (str_key x) _,fun n => ?_,fun n => ?_⟩
 ·by_cases hn : n = x
  ·subst hn
   rw [Maps.has_put_same h.tidy.isMap (str_key n)]
   simp
  ·rw [Maps.has_put_other (fun e => hn (by injection e)),h.has n]
   simp [hn]
 ·by_cases hn : n = x
  ·subst hn
   rw [Maps.atKey_put_same h.tidy.isMap (str_key n)]
   simp
  ·rw [Maps.atKey_put_other (fun e => hn (by injection e)),h.val n]
   simp [hn]
theorem umap_del {D : DataW Unit} {U : Unk} (h : UMap D U) (x : List UInt8) : UMap (D.del (.string x)) fun n => U n && !(n == x):=by
 refine ⟨h.tidy.del _,fun n => ?_,fun n => ?_⟩
 ·by_cases hn : n = x
  ·subst hn
   rw [Maps.has_del_same]
   simp
  ·rw [Maps.has_del_other (fun e => hn (by injection e)),h.has n]
   simp [hn]
 ·by_cases hn : n = x
  ·subst hn
   rw [Maps.atKey_del_same]
   simp
  ·rw [Maps.atKey_del_other (fun e => hn (by injection e)),h.val n]
   simp [hn]
structure ULeft (s : Nat) (U0 : Unk) (D : DataW Unit) (U : Unk) : Prop where
 map : UMap D U
 le : Maps.size D ≤ s
 same : Maps.size D = s → U = U0
theorem uleft_start {D : DataW Unit} {U : Unk} (h : UMap D U) : ULeft (Maps.size D) U D U:=⟨h,Nat.le_refl _,fun _ => rfl⟩
theorem uleft_del {s : Nat} {U0 : Unk} {D : DataW Unit} {U : Unk} (h : ULeft s U0 D U) (x : List UInt8) : ULeft s U0 (D.del (.string x)) fun n => U n && !(n == x):=by
 have hs:=Maps.size_del (k:=.string x) h.map.tidy
 refine ⟨umap_del h.map x,by have := h.le;omega,fun e => ?_⟩
 have hle:=h.le
 cases hh : Maps.has D (.string x) with
 | true =>
   rw [hh] at hs
   simp only [if_true] at hs
   omega
 | false =>
   rw [hh] at hs
   simp only [Bool.false_eq_true,if_false,Nat.add_zero] at hs
   rw [← h.same (by omega)]
   funext n
   by_cases hn : n = x
   ·subst hn
    have := h.map.has n
    rw [hh] at this
    rw [← this]
    rfl
   ·simp [hn]
def delsU (U : Unk) (l : List (List UInt8)) : Unk:=fun n => U n && !l.contains n
theorem delsU_nil (U : Unk) : delsU U [] = U:=by
 funext n
 simp [delsU]
theorem delsU_take (U : Unk) (l : List (List UInt8)) (k : Nat) (x : List UInt8) (h : l[k]? = some x) : delsU U (l.take (k + 1)) = fun n => delsU U (l.take k) n && !(n == x):=by
 funext n
 have e : l.take (k + 1) = l.take k ++ [x]:=by rw [List.take_add_one,h];rfl
 rw [e]
 unfold delsU
 by_cases hn : n = x
 ·subst hn
  simp
 ·simp [hn]
theorem stepU_some {U : Unk} {s : Stp} (h : s.nd.any U = true) : stepU U s = U:=if_pos h
theorem stepU_none {U : Unk} {s : Stp} (h : s.nd.any U = false) : stepU U s = delsU U s.ms:=by
 unfold stepU
 rw [if_neg (by rw [h];exact Bool.false_ne_true)]
 rfl
theorem passU_take (l : List Stp) (U : Unk) (k : Nat) (s : Stp) (h : l[k]? = some s) : passU (l.take (k + 1)) U = stepU (passU (l.take k) U) s:=by
 have e : l.take (k + 1) = l.take k ++ [s]:=by rw [List.take_add_one,h];rfl
 rw [e]
 unfold passU
 rw [List.foldl_append]
 rfl
theorem iterU_snoc (l : List Stp) : ∀ (n : Nat) (U : Unk),iterU l (n + 1) U = passU l (iterU l n U)
 | 0,_ => rfl
 | n + 1,U => by
   have h:=iterU_snoc l n (passU l U)
   exact h
theorem iterU_add (l : List Stp) (a : Nat) : ∀ (b : Nat) (U : Unk),iterU l (a + b) U = iterU l b (iterU l a U)
 | 0,_ => rfl
 | b + 1,U => by rw [← Nat.add_assoc,iterU_snoc,iterU_add l a b U,← iterU_snoc]
theorem iterU_fix (l : List Stp) (U : Unk) (h : passU l U = U) : ∀ n : Nat,iterU l n U = U
 | 0 => rfl
 | n + 1 => by rw [iterU_snoc,iterU_fix l U h n,h]
theorem unk0_take (l : List Pm) (k : Nat) (x : Pm) (h : l[k]? = some x) : unk0 (l.take (k + 1)) = fun n => unk0 (l.take k) n || (x.t == intB && n == x.nm):=by
 funext n
 have e : l.take (k + 1) = l.take k ++ [x]:=by rw [List.take_add_one,h];rfl
 rw [e]
 unfold unk0
 rw [List.any_append]
 congr 1
 simp only [List.any_cons,List.any_nil,Bool.or_false]
 congr 1
 by_cases hn : n = x.nm
 ·subst hn;rfl
 ·rw [beq_eq_false_iff_ne.2 hn,beq_eq_false_iff_ne.2 (Ne.symm hn)]
theorem unk0_int {l : List Pm} {k : Nat} {x : Pm} (h : l[k]? = some x) (ht : (x.t == intB) = true) : unk0 (l.take (k + 1)) = fun n => unk0 (l.take k) n || n == x.nm:=by
 rw [unk0_take l k x h,ht]
 rfl
theorem unk0_not {l : List Pm} {k : Nat} {x : Pm} (h : l[k]? = some x) (ht : (x.t == intB) = false) : unk0 (l.take (k + 1)) = unk0 (l.take k):=by
 rw [unk0_take l k x h,ht]
 funext n
 simp
structure UPass (l : List Stp) (n : Nat) (U0 : Unk) (r : Nat) (bf : Int) (D : DataW Unit) (U : Unk) : Prop where
 map : UMap D U
 it : U = iterU l r U0
 sz : Maps.size D ≤ n
 more : r ≠ 0 → ∃ s : Nat,bf = s ∧ s + r ≤ n + 1 ∧ Maps.size D ≤ s ∧ (Maps.size D = s → passU l U = U)
 none : r = 0 → bf = -1
theorem upass_start {l : List Stp} {n : Nat} {U0 : Unk} {D : DataW Unit} (h : UMap D U0) (hs : Maps.size D ≤ n) : UPass l n U0 0 (-1) D U0:=⟨h,rfl,hs,fun h => absurd rfl h,fun _ => rfl⟩
theorem upass_le {l : List Stp} {n : Nat} {U0 : Unk} {r : Nat} {bf : Int} {D : DataW Unit} {U : Unk} (h : UPass l n U0 r bf D U) (hne : bf ≠ (Maps.size D : Nat)) : r ≤ n:=by
 by_cases hr : r = 0
 ·omega
 ·obtain ⟨s,h1,h2,h3,_⟩:=h.more hr
  omega
theorem upass_next {l : List Stp} {n : Nat} {U0 : Unk} {r : Nat} {bf : Int} {D D' : DataW Unit} {U : Unk} (h : UPass l n U0 r bf D U) (hne : bf ≠ (Maps.size D : Nat)) (h' : ULeft (Maps.size D) U D' (passU l U)) : UPass l n U0 (r + 1) (Maps.size D : Nat) D' (passU l U):=by
 refine ⟨h'.map,by rw [iterU_snoc,h.it],Nat.le_trans h'.le h.sz,fun _ => ⟨_,rfl,?_,h'.le,fun e => ?_⟩,fun e => by omega⟩
 ·by_cases hr : r = 0
  ·have := h.sz;omega
  ·obtain ⟨s,h1,h2,h3,_⟩:=h.more hr
   omega
 ·have := h'.same e
  rw [this,this]
theorem upass_end {l : List Stp} {n : Nat} {U0 : Unk} {r : Nat} {bf : Int} {D : DataW Unit} {U : Unk} (h : UPass l n U0 r bf D U) (he : bf = (Maps.size D : Nat)) : U = iterU l (n + 1) U0:=by
 by_cases hr : r = 0
 ·have := h.none hr
  omega
 ·obtain ⟨s,h1,h2,h3,h4⟩:=h.more hr
  have hs : Maps.size D = s:=by omega
  have hr1 : r ≤ n + 1:=by omega
  have e : n + 1 = r + (n + 1 - r):=by omega
  rw [e,iterU_add,← h.it,iterU_fix l U (h4 hs)]
end Go.Proofs.YthenbbpagbdbeaaGreatDoor
namespace Go.Proofs.YthenbbpagbdbeaaGreatDoor
set_option maxRecDepth 100000
set_option maxHeartbeats 4000000
open Go.RowKit Go.Lib
open Go.Maps (Keyed)
theorem keyS {x : List UInt8} (h : x.length ≤ maxLen) : keyOf Tryz.prog 9 (.string ⟨x.toArray⟩) = some (.string x):=Go.WideMaps.keyOf_string_mk Tryz.underlying9 (s:=⟨x.toArray⟩) h
theorem isunk_any (M n b : Nat) (D : DataW Unit) (U : Unk) (s : List UInt8) (hs : s.length ≤ maxLen) (w : World) (hm : NamesAt w M n D) (hU : UMap D U) (hc : w.cell? ⟨b,0,none⟩ = some (.map (some M))) :
 Calls Tryz.prog 101 #[.string ⟨s.toArray⟩,.pointer (some ⟨b,0,none⟩)] w fun e w' => e = .returned (.bool (U s)) ∧ w' = w:=by
 have HO:=Lib.hid hm
 have HK:=Lib.hid (keyS hs)
 obtain ⟨r,hr⟩ : ∃ r,r = U s:=⟨_,rfl⟩
 have HA : Hid (D.atKey (.string s) (.lit (.bool false)) = .lit (.bool r)):=Lib.hid (by rw [hr];exact hU.val s)
 have HZ : Hid (∀ w : World,(zeroValue 4).run Tryz.prog w = .ok (.bool false) w):=Lib.hid (fun w => by kernel_rfl)
 rw [← hr]
 clear hm hU hs hr
 go_enter Tryz.func101,Tryz.ntmps101
 go_wp2_with (refine wpList_lookup_bool _ rfl _ _ 168 rfl 9 4 (Keyed.of_law (Go.WideMaps.string_law Tryz.underlying9)) Tryz.underlying168 Tryz.underlying4 (HZ.out _) M n _ rfl HO.out _ _ rfl HK.out r HA.out ?_)
 go_ret
 exact ⟨rfl,rfl⟩
theorem idxs_any (F : Nat) (hF : ∀ args w,(callFunc F args).run Tryz.prog w = .ok (.enter F args) w) (b : Nat) (U : Unk) (l : List (List UInt8)) (A : Option Addr) (c n : Nat) (hn : n = l.length) (hm : n ≤ maxLen) (w : World) (hA : Reads w w.heap.size 1 A n (l.map encS))
 (HC : ∀ x ∈ l,Calls Tryz.prog F #[.string ⟨x.toArray⟩,.pointer (some ⟨b,0,none⟩)] w fun e w' => e = .returned (.bool (U x)) ∧ w' = w) :
 Calls Tryz.prog 132 #[.slice A n c,.func (.func F) #[] #[.pointer (some ⟨b,0,none⟩)]] w fun e w' => (∃ q : Int,e = .returned (.int .i64 q) ∧ Ixd U l q) ∧ w' = w:=by
 have HH:=Lib.hid (And.intro hA (And.intro hn HC))
 have HG : Hid (∀ args w,(callFunc F args).run Tryz.prog w = .ok (.enter F args) w):=Lib.hid hF
 have hcl:=HG.out
 clear hA hn HC hF
 unfold maxLen at hm
 go_enter Tryz.func132,Tryz.ntmps132
 go_wp2
 go_loopg [8] n (fun m j wr => ∃ k : Nat,m = n - k ∧ k ≤ n ∧ j = .int .i64 k ∧ wr = w ∧ Hid ((l.take k).all (fun y => !U y) = true))
 case atStart => exact ⟨0,rfl,Nat.zero_le _,rfl,rfl,Lib.hid (by rw [List.take_zero];rfl)⟩
 case round =>
  obtain ⟨k,rfl,hk,rfl,rfl,HI⟩:=hrel
  have hk0 : (0 : Int) ≤ k:=by omega
  by_cases hlt : k < n
  ·have hki : (k : Int) < n:=by omega
   obtain ⟨x,hx⟩ : ∃ x,l[k]? = some x:=⟨l[k]'(by rw [← HH.out.2.1];exact hlt),List.getElem?_eq_getElem _⟩
   obtain ⟨a,rfl,hab,hca⟩:=HH.out.1.2 (by omega)
   have e0 : wr.cell? (a.add k) = some (.string ⟨x.toArray⟩):=hca k _ (by rw [List.getElem?_map,hx];rfl)
   have HC:=Lib.hid (HH.out.2.2 x (List.mem_of_getElem? hx))
   obtain ⟨r,hr⟩ : ∃ r,r = U x:=⟨_,rfl⟩
   rw [← hr] at HC
   have HX:=Lib.hid (And.intro hx hr)
   clear hx hr hca hab
   go_wp2_with fail
   refine HC.out.mono ?_
   rintro e w3 ⟨rfl,rfl⟩
   cases r
   ·go_wp2
    go_roundg (n - (k + 1))
    case measure => omega
    case rel => exact ⟨k + 1,rfl,by omega,by go_num,rfl,Lib.hid (by rw [all_take_succ (fun y => !U y) l k x HX.out.1,HI.out,← HX.out.2];rfl)⟩
   ·go_wp2
    go_ret
    exact ⟨⟨k,rfl,.inr ⟨k,x,rfl,HX.out.1,find_take _ l k x HX.out.1 HI.out HX.out.2.symm⟩⟩,rfl⟩
  ·have hlt' : ¬ (k : Int) < n:=by omega
   obtain rfl : k = n:=by omega
   go_wp2
   go_ret
   refine ⟨⟨-1,rfl,.inl ⟨rfl,find_none _ l ?_⟩⟩,rfl⟩
   have h:=HI.out
   rw [List.take_of_length_le (by rw [HH.out.2.1];exact Nat.le_refl _)] at h
   exact h
theorem ixd_any {α : Type} {p : α → Bool} {l : List α} {q : Int} (h : Ixd p l q) : decide (0 ≤ q) = l.any p:=by
 rcases h with ⟨rfl,h⟩ | ⟨i,x,rfl,h1,h2⟩
 ·have : l.any p = false:=List.any_eq_false.2 fun x hx => by simpa using List.find?_eq_none.1 h x hx
  rw [this]
  rfl
 ·have : l.any p = true:=List.any_eq_true.2 ⟨x,List.mem_of_find?_eq_some h2,List.find?_some h2⟩
  rw [this]
  exact decide_eq_true (by omega)
theorem conts_any (F : Nat) (hF : ∀ args w,(callFunc F args).run Tryz.prog w = .ok (.enter F args) w) (b : Nat) (U : Unk) (l : List (List UInt8)) (A : Option Addr) (c n : Nat) (hn : n = l.length) (hm : n ≤ maxLen) (w : World) (hA : Reads w w.heap.size 1 A n (l.map encS))
 (HC : ∀ x ∈ l,Calls Tryz.prog F #[.string ⟨x.toArray⟩,.pointer (some ⟨b,0,none⟩)] w fun e w' => e = .returned (.bool (U x)) ∧ w' = w) :
 Calls Tryz.prog 103 #[.slice A n c,.func (.func F) #[] #[.pointer (some ⟨b,0,none⟩)]] w fun e w' => e = .returned (.bool (l.any U)) ∧ w' = w:=by
 have HI:=Lib.hid (idxs_any F hF b U l A c n hn hm w hA HC)
 obtain ⟨r,hr⟩ : ∃ r,r = l.any U:=⟨_,rfl⟩
 have HR:=Lib.hid hr
 rw [← hr]
 clear hF hn hm hA HC hr
 go_enter Tryz.func103,Tryz.ntmps103
 go_wp2_with fail
 refine HI.out.mono ?_
 rintro e w3 ⟨⟨q,rfl,hq⟩,rfl⟩
 have hb : decide (0 ≤ q) = r:=(ixd_any hq).trans HR.out.symm
 clear hq
 go_wp2
 go_ret
 exact ⟨rfl,rfl⟩
end Go.Proofs.YthenbbpagbdbeaaGreatDoor
namespace Go.Proofs.YthenbbpagbdbeaaGreatDoor
set_option maxRecDepth 100000
set_option maxHeartbeats 16000000
open Go.RowKit Go.Lib
open Go.Maps (Keyed)
theorem near_grown {M : Nat} {w w' : World} (h : w.grownBy w' (some M)) : Near M w w' :=
 ⟨h.os,h.tape,h.output,h.size,fun b hb hne => h.block b hb (fun e => hne (Option.some.inj e))⟩
theorem near_refl (M : Nat) (w : World) : Near M w w:=⟨rfl,rfl,rfl,Nat.le_refl _,fun _ _ _ => rfl⟩
theorem nearb {B M : Nat} {a w w' : World} (hb : Below B a w) (hB : B ≤ w.heap.size) (h : Near M w w') (hc : B ≤ M) : Below B a w' :=
 ⟨h.os.trans hb.os,h.tape.trans hb.tape,h.output.trans hb.output,Nat.le_trans hb.size h.size,fun b hlt => (h.block b (Nat.lt_of_lt_of_le hlt hB) (by omega)).trans (hb.block b hlt)⟩
theorem names_lt {W : World} {b n : Nat} {D : DataW Unit} (h : NamesAt W b n D) : b < W.heap.size:=by
 obtain ⟨es,ck,h1,h2⟩:=h
 exact (Array.getElem?_eq_some_iff.1 h1).1
theorem reads_near {M : Nat} {w w' : World} (h : Near M w w') {B size n : Nat} {A : Option Addr} {xs : List Value} (hr : Reads w B size A n xs) (hB : B ≤ w.heap.size) (hne : 0 < n → ∀ a,A = some a → a.block ≠ M) : Reads w' B size A n xs :=
 ⟨hr.1,fun hn => by
   obtain ⟨a,h1,h2,h3⟩:=hr.2 hn
   exact ⟨a,h1,h2,fun j u hu => (near_cell h (by rw [block_of_add];exact Nat.lt_of_lt_of_le h2 hB) (by rw [block_of_add];exact hne hn a h1)).trans (h3 j u hu)⟩⟩
theorem any_same {l m : List (List UInt8)} (h : ∀ x,x ∈ l ↔ x ∈ m) (U : Unk) : l.any U = m.any U:=by
 rw [Bool.eq_iff_iff,List.any_eq_true,List.any_eq_true]
 exact ⟨fun ⟨x,h1,h2⟩ => ⟨x,(h x).1 h1,h2⟩,fun ⟨x,h1,h2⟩ => ⟨x,(h x).2 h1,h2⟩⟩
theorem determined_any (f : Fm) (Ap : Option Addr) (np cp : Nat) (Aa : Option Addr) (na ca : Nat) (Ac : Option Addr) (nc cc : Nat) (hnp : np = f.ps.length) (hna : na = f.ats.length) (hnc : nc = f.cls.length) (hf : FmFew f) (w : World) (hP : RowV VPm 2 w w.heap.size f.ps Ap) (hA : AtRow w w.heap.size f.ats Aa) (hC : ClRow w w.heap.size f.cls Ac) :
 Calls Tryz.prog 69 #[formulaV (.slice Ap np cp) (.slice Aa na ca) (.slice Ac nc cc)] w (CkPost (detC f) w):=by
 have hnp6 : np ≤ 1000000:=by rw [hnp];exact hf.1
 obtain ⟨W2,hW2⟩ : ∃ W2,W2 = ((w.alloc (formulaC (.slice Ap np cp) (.slice Aa na ca) (.slice Ac nc cc))).alloc (.map #[] 0)).alloc (.cells #[.map (some (w.heap.size + 1))] 168):=⟨_,rfl⟩
 have hb2 : Below w.heap.size w W2:=by rw [hW2];exact ((below_alloc w _).chain (below_alloc _ _)).chain (below_alloc _ _)
 have hz2 : W2.heap.size = w.heap.size + 1 + 1 + 1:=by rw [hW2];simp only [size_of_alloc]
 have q0 : W2.heap[w.heap.size]? = some (formulaC (.slice Ap np cp) (.slice Aa na ca) (.slice Ac nc cc)):=by rw [hW2];exact heap_keep (heap_keep (heap_of_alloc w _))
 have q1 : NamesAt W2 (w.heap.size + 1) 0 (.map []):=by
  have h:=World.ownsMap_made (w.alloc (formulaC (.slice Ap np cp) (.slice Aa na ca) (.slice Ac nc cc))) Tryz.prog 9 (plainElem (H:=Unit) Tryz.prog 4)
  rw [size_of_alloc] at h
  rw [hW2]
  exact h.alloc _
 have q2 : W2.heap[w.heap.size + 1 + 1]? = some (.cells #[.map (some (w.heap.size + 1))] 168):=by
  have h:=heap_of_alloc ((w.alloc (formulaC (.slice Ap np cp) (.slice Aa na ca) (.slice Ac nc cc))).alloc (.map #[] 0)) (.cells #[.map (some (w.heap.size + 1))] 168)
  simp only [size_of_alloc] at h
  rw [hW2]
  exact h
 -- what the boxes hold,while only the map turns
 have HK : Hid (∀ W,Near (w.heap.size + 1) W2 W → W.cell? ⟨w.heap.size,0,none⟩ = some (.slice Ap np cp) ∧ W.cell? ⟨w.heap.size,1,none⟩ = some (.slice Aa na ca) ∧ W.cell? ⟨w.heap.size,2,none⟩ = some (.slice Ac nc cc) ∧ W.cell? ⟨w.heap.size + 1 + 1,0,none⟩ = some (.map (some (w.heap.size + 1)))):=Lib.hid (fun W hn => by
  have p0:=(hn.block w.heap.size (by omega) (by omega)).trans q0
  have p2:=(hn.block (w.heap.size + 1 + 1) (by omega) (by omega)).trans q2
  exact ⟨cell_of_block p0 0 rfl,cell_of_block p0 1 rfl,cell_of_block p0 2 rfl,cell_of_block p2 0 rfl⟩)
 -- the memory that came in
 have HM : Hid (∀ W,Near (w.heap.size + 1) W2 W → ∀ q : Addr,q.block < w.heap.size → W.cell? q = w.cell? q):=Lib.hid (fun W hn q hq => (near_cell hn (by omega) (by omega)).trans (hb2.cell hq))
 have HP:=Lib.hid (And.intro hP hnp)
 have HS : Hid (∀ W,Near (w.heap.size + 1) W2 W → Calls Tryz.prog 102 #[formulaV (.slice Ap np cp) (.slice Aa na ca) (.slice Ac nc cc)] W (StepsPost f W)):=Lib.hid (fun W hn => by
  have hk:=HM.out W hn
  have hsz : w.heap.size ≤ W.heap.size:=Nat.le_trans (by omega) hn.size
  exact steps_any f Ap np cp Aa na ca Ac nc cc hna hnc hf W (hA.keep at_keeps hk hsz) (hC.keep cl_keeps hk hsz))
 have HB2:=Lib.hid (And.intro hb2 hz2)
 have HO:=Lib.hid q1
 have HE : Hid (∀ W,Near (w.heap.size + 1) W2 W → Below w.heap.size w W):=Lib.hid (fun W hn => nearb hb2 (by omega) hn (by omega))
 have HZ : Hid (∀ w : World,(zeroValue 4).run Tryz.prog w = .ok (.bool false) w):=Lib.hid (fun w => by kernel_rfl)
 obtain ⟨a0,-,-,a3⟩:=HK.out _ (near_refl _ _)
 obtain ⟨R,hR⟩ : ∃ R : Ck,R = detC f:=⟨_,rfl⟩
 have HR:=Lib.hid hR
 rw [← hR]
 have hmm:=@run_makeMap Tryz.prog
 have hmf : ∀ (fn : Fn) (first cap : Array Value) (w : World),(Instr.makeFunc fn first cap).run Tryz.prog w = .ok (.func fn first cap) w:=fun _ _ _ _ => rfl
 clear hP hA hC hf hna hnc hnp hb2 hz2 q0 q1 q2 hR
 rw [hW2] at a0
 go_enter Tryz.func69,Tryz.ntmps69
 go_wp2
 rw [← hW2]
 clear a0 a3 hmm
 go_loopg [18] np (fun m j wr => ∃ (k : Nat) (D : DataW Unit),m = np - k ∧ k ≤ np ∧ j = .int .i64 k ∧ Hid (NamesAt wr (w.heap.size + 1) k D ∧ UMap D (unk0 (f.ps.take k)) ∧ Near (w.heap.size + 1) W2 wr))
 case atStart => exact ⟨0,.map [],rfl,Nat.zero_le _,rfl,Lib.hid ⟨HO.out,umap_empty,near_refl _ _⟩⟩
 case round =>
  obtain ⟨k,D,rfl,hk,rfl,HI⟩:=hrel
  have hk0 : (0 : Int) ≤ k:=by omega
  by_cases hlt : k < np
  ·have hki : (k : Int) < np:=by omega
   obtain ⟨x,hx⟩ : ∃ x,f.ps[k]? = some x:=⟨f.ps[k]'(by rw [← HP.out.2];exact hlt),List.getElem?_eq_getElem _⟩
   obtain ⟨a,cs,rfl,hab,hcs,hca,hv⟩:=HP.out.1 k x hx
   obtain ⟨hv0,hv1,hv2⟩:=hv
   have e0 : wr.cell? (a.add (k * 2)) = some (.string ⟨x.t.toArray⟩):=by
    have h:=(HM.out wr HI.out.2.2 ((a.add (k * 2)).add 0) (by rw [block_adds,block_adds];exact hab)).trans (hca 0 _ (by rw [hv0];rfl))
    rwa [add_add_plain,Nat.add_zero] at h
   have e1 : wr.cell? ⟨(a.add (k * 2)).block,(a.add (k * 2)).off + 1,none⟩ = some (.string ⟨x.nm.toArray⟩):=(HM.out wr HI.out.2.2 ((a.add (k * 2)).add 1) (by rw [block_adds,block_adds];exact hab)).trans (hca 1 _ (by rw [hv0];rfl))
   obtain ⟨u,hu⟩ : ∃ u,u = x.t:=⟨_,rfl⟩
   obtain ⟨y,hy⟩ : ∃ y,y = x.nm:=⟨_,rfl⟩
   have hyl : y.length ≤ maxLen:=by rw [hy];exact hv2
   rw [← hu] at e0
   rw [← hy] at e1
   have HX:=Lib.hid (And.intro hx (And.intro hu hy))
   obtain ⟨W6,hW6⟩ : ∃ W6,W6 = wr.alloc (.cells #[.string ⟨u.toArray⟩,.string ⟨y.toArray⟩] 35):=⟨_,rfl⟩
   have hn6 : Near (w.heap.size + 1) W2 W6:=by rw [hW6];exact near_end HI.out.2.2 (Below.mono (below_alloc wr _) HI.out.2.2.size)
   clear hca hab hcs hv0 hv1 hv2 hx hy
   by_cases hint : u = [105,110,116]
   ·have hb : (u == [105,110,116]) = true:=by rw [hint];rfl
    have hN6 : NamesAt W6 (w.heap.size + 1) k D:=by rw [hW6];exact HI.out.1.alloc _
    have c1 : W6.cell? ⟨wr.heap.size,1,none⟩ = some (.string ⟨y.toArray⟩):=by rw [hW6];exact cell_of_block (heap_of_alloc wr _) 1 rfl
    have H6:=Lib.hid (And.intro hn6 hN6)
    have HKy:=Lib.hid (keyS hyl)
    have HU : Hid (UMap (D.put (.string y) (.lit (.bool true))) (unk0 (f.ps.take (k + 1)))):=Lib.hid (by
     rw [unk0_int HX.out.1 (by rw [← HX.out.2.1];exact hb),← HX.out.2.2]
     exact umap_put HI.out.2.1 y)
    have hkl : k < maxLen:=by unfold maxLen;omega
    obtain ⟨-,-,-,c2⟩:=HK.out _ hn6
    clear hint hu hn6 hN6 hyl
    go_upto_region 6 with fail
    rw [← hW6]
    clear hW6 e0 e1
    go_wp2_with (at_mapUpdate;refine wpList_mapUpdate_own _ rfl _ _ _ 168 rfl 9 4 (Keyed.of_law (Go.WideMaps.string_law Tryz.underlying9)) Tryz.underlying168 _ (w.heap.size + 1) _ _ rfl H6.out.2 hkl _ _ _ rfl rfl HKy.out _ _ (Go.plainElem_bool Tryz.underlying4 true) ?_;intro wk hown hgr;have HO2:=Lib.hid hown;have HG2:=Lib.hid (H6.out.1.trans (near_grown hgr));clear hown hgr)
    go_roundg (np - (k + 1))
    case measure => omega
    case rel => exact ⟨k + 1,_,rfl,by omega,by go_num,Lib.hid ⟨HO2.out,HU.out,HG2.out⟩⟩
   ·have hb : (u == [105,110,116]) = false:=beq_eq_false_iff_ne.2 hint
    have H6:=Lib.hid hn6
    have HO6 : Hid (NamesAt W6 (w.heap.size + 1) (k + 1) D):=Lib.hid (by
     obtain ⟨es,ck,h1,h2,h3,h4⟩:=HI.out.1
     rw [hW6]
     exact World.ownsMap.alloc ⟨es,ck,h1,h2,Nat.le_succ_of_le h3,h4⟩ _)
    have HU : Hid (UMap D (unk0 (f.ps.take (k + 1)))):=Lib.hid (by
     rw [unk0_not HX.out.1 (by rw [← HX.out.2.1];exact hb)]
     exact HI.out.2.1)
    clear hint hu hn6 hyl
    go_wp2
    rw [← hW6]
    clear hW6
    go_roundg (np - (k + 1))
    case measure => omega
    case rel => exact ⟨k + 1,_,rfl,by omega,by go_num,Lib.hid ⟨HO6.out,HU.out,H6.out⟩⟩
  ·obtain rfl : np = k:=by omega
   have HU0 : Hid (UMap D (unk0 f.ps)):=Lib.hid (by
    have h:=HI.out.2.1
    rwa [List.take_of_length_le (by rw [← HP.out.2];exact Nat.le_refl _)] at h)
   have HSt:=Lib.hid (HS.out wr HI.out.2.2)
   obtain ⟨b0,b1,b2,b3⟩:=HK.out _ HI.out.2.2
   go_wp2_with fail
   clear b0 b1 b2 b3
   (with_reducible refine HSt.out.mono ?_)
   rintro e w3 ⟨v,xs,B,rfl,hB,hown,hst,hb3⟩
   obtain ⟨As,cs,rfl⟩:=own_sliceM hown
   obtain ⟨ns,hns⟩ : ∃ ns,ns = (stepsF f).length:=⟨_,rfl⟩
   have hMB : w.heap.size + 1 < B:=Nat.lt_of_lt_of_le (names_lt HI.out.1) hB
   have HN3 : Hid (NamesAt w3 (w.heap.size + 1) np D):=Lib.hid (own_on HI.out.1 hb3)
   have H3 : Hid (Near (w.heap.size + 1) W2 w3):=Lib.hid (near_end HI.out.2.2 (hb3.mono HI.out.2.2.size))
   have HX : Hid (∀ W,Near (w.heap.size + 1) w3 W → ∀ i s,(stepsF f)[i]? = some s → ∃ (a : Addr) (A : Option Addr) (n c : Nat) (A2 : Option Addr) (n2 c2 : Nat) (l : List (List UInt8)),As = some a ∧ W.cell? (a.add (i * 2)) = some (.slice A n c) ∧ W.cell? ⟨(a.add (i * 2)).block,(a.add (i * 2)).off + 1,none⟩ = some (.slice A2 n2 c2) ∧ (n = l.length ∧ n ≤ maxLen) ∧ (∀ x ∈ l,x.length ≤ maxLen) ∧ (∀ W',Near (w.heap.size + 1) W W' → Reads W' W'.heap.size 1 A n (l.map encS)) ∧ (∀ x,x ∈ l ↔ x ∈ s.nd) ∧ (n2 = s.ms.length ∧ n2 ≤ maxLen) ∧ (∀ x ∈ s.ms,x.length ≤ maxLen) ∧ (∀ W',Near (w.heap.size + 1) W W' → Reads W' W'.heap.size 1 A2 n2 (s.ms.map encS))):=Lib.hid (fun W hn i s hs => by
    obtain ⟨u,v,hu,hv,A,n,c,A2,n2,c2,l,rfl,rfl,⟨m1,m2,m3,m4⟩,hl,p1,p2,p3,p4⟩:=hst.2 i s hs
    have hi : i < ns:=by rw [hns];exact (List.getElem?_eq_some_iff.1 hs).1
    have hrd:=Reads.of_own hown
    rw [← hns] at hrd
    obtain ⟨a,ha,hab,hca⟩:=hrd.2 (by omega)
    have hne : a.block ≠ w.heap.size + 1:=fun e => by have := own_addr hown a ha;omega
    have rr : ∀ {A : Option Addr} {n : Nat} {ys : List Value},Reads w3 w3.heap.size 1 A n ys → (0 < n → ∀ a,A = some a → B ≤ a.block ∧ (Value.slice As (stepsF f).length cs).ownBlock ≠ some a.block) → ∀ W',Near (w.heap.size + 1) W W' → Reads W' W'.heap.size 1 A n ys:=fun hr hq W' hn' =>
     (reads_near (hn.trans hn') hr (Nat.le_refl _) (fun h0 a ha e => by have := (hq h0 a ha).1;omega)).more (hn.trans hn').size
    refine ⟨a,A,n,c,A2,n2,c2,l,ha,?_,?_,m1,m2,rr m3 m4,hl,p1,p2,rr p3 p4⟩
    ·exact (near_cell hn (by rw [block_adds];exact hab) (by rw [block_adds];exact hne)).trans (hca _ _ hu)
    ·exact (near_cell (q:=(a.add (i * 2)).add 1) hn (by rw [block_adds,block_adds];exact hab) (by rw [block_adds,block_adds];exact hne)).trans (by rw [add_add_plain];exact hca _ _ hv))
   have hnsl : ns ≤ maxLen:=by
    rw [hns]
    rcases hown.2 with ⟨_,h0⟩ | ⟨g,cap,cur,_,_,_,h1,h2,_⟩
    ·rw [h0];exact Nat.zero_le _
    ·exact Nat.le_trans h1 h2
   have HNS:=Lib.hid hns
   rw [← hns]
   clear hst hown hb3 hns hMB hB
   unfold maxLen at hnsl
   go_wp2
   go_loopg [7] (np + 2) (fun m bv wq => ∃ (r : Nat) (bf : Int) (D : DataW Unit) (U : Unk),m = np + 2 - r ∧ r ≤ np + 1 ∧ bv = .int .i64 bf ∧ Hid (UPass (stepsF f) np (unk0 f.ps) r bf D U ∧ NamesAt wq (w.heap.size + 1) np D ∧ Near (w.heap.size + 1) w3 wq))
   case atStart => exact ⟨0,-1,D,_,rfl,Nat.zero_le _,rfl,Lib.hid ⟨upass_start HU0.out (World.ownsMap.size_le HN3.out),HN3.out,near_refl _ _⟩⟩
   case round =>
    obtain ⟨r,bf,D2,U2,rfl,hr,rfl,HJ⟩:=hrel
    have HJ3:=Lib.hid (H3.out.trans HJ.out.2.2)
    obtain ⟨b0,b1,b2,b3⟩:=HK.out _ HJ3.out
    obtain ⟨sz,hsz⟩ : ∃ sz,sz = Maps.size D2:=⟨_,rfl⟩
    have HSz:=Lib.hid hsz
    have hszl : sz ≤ np:=by rw [hsz];exact World.ownsMap.size_le HJ.out.2.1
    clear hsz
    by_cases hbs : bf = (sz : Int)
    ·have hbb : (bf == (sz : Int)) = true:=by rw [hbs];exact beq_self_eq_true _
     have HD : Hid (U2 = detU f):=Lib.hid (by
      rw [upass_end HJ.out.1 (by rw [hbs,HSz.out]),HP.out.2]
      rfl)
     subst hbs
     clear hbb
     go_wp2_with (at_len;refine wpList_len_own _ rfl _ 168 rfl 9 4 Tryz.underlying168 _ (w.heap.size + 1) np _ rfl HJ.out.2.1 ?_;rw [← HSz.out])
     go_loopg [62] np (fun m j wx => ∃ k : Nat,m = np - k ∧ k ≤ np ∧ j = .int .i64 k ∧ Hid (NamesAt wx (w.heap.size + 1) np D2 ∧ Near (w.heap.size + 1) W2 wx ∧ allC (fun x : Pm => demC (!detU f x.nm) 11 x.nm) (f.ps.take k) = none))
     case atStart => exact ⟨0,rfl,Nat.zero_le _,rfl,Lib.hid ⟨HJ.out.2.1,HJ3.out,rfl⟩⟩
     case round =>
      obtain ⟨k,rfl,hk,rfl,HI5⟩:=hrel
      have hk0 : (0 : Int) ≤ k:=by omega
      by_cases hlt : k < np
      ·have hki : (k : Int) < np:=by omega
       obtain ⟨x,hx⟩ : ∃ x,f.ps[k]? = some x:=⟨f.ps[k]'(by rw [← HP.out.2];exact hlt),List.getElem?_eq_getElem _⟩
       obtain ⟨a,cs5,rfl,hab,hcs,hca,hv⟩:=HP.out.1 k x hx
       obtain ⟨hv0,hv1,hv2⟩:=hv
       have e0 : wr.cell? (a.add (k * 2)) = some (.string ⟨x.t.toArray⟩):=by
        have h:=(HM.out wr HI5.out.2.1 ((a.add (k * 2)).add 0) (by rw [block_adds,block_adds];exact hab)).trans (hca 0 _ (by rw [hv0];rfl))
        rwa [add_add_plain,Nat.add_zero] at h
       have e1 : wr.cell? ⟨(a.add (k * 2)).block,(a.add (k * 2)).off + 1,none⟩ = some (.string ⟨x.nm.toArray⟩):=(HM.out wr HI5.out.2.1 ((a.add (k * 2)).add 1) (by rw [block_adds,block_adds];exact hab)).trans (hca 1 _ (by rw [hv0];rfl))
       obtain ⟨u,hu⟩ : ∃ u,u = x.t:=⟨_,rfl⟩
       obtain ⟨y,hy⟩ : ∃ y,y = x.nm:=⟨_,rfl⟩
       have HKy:=Lib.hid (keyS (by rw [hy];exact hv2 : y.length ≤ maxLen))
       rw [← hu] at e0
       rw [← hy] at e1
       have HX5:=Lib.hid (And.intro hx hy)
       obtain ⟨W6,hW6⟩ : ∃ W6,W6 = wr.alloc (.cells #[.string ⟨u.toArray⟩,.string ⟨y.toArray⟩] 35):=⟨_,rfl⟩
       have hn6 : Near (w.heap.size + 1) W2 W6:=by rw [hW6];exact near_end HI5.out.2.1 (Below.mono (below_alloc wr _) HI5.out.2.1.size)
       have hN6 : NamesAt W6 (w.heap.size + 1) np D2:=by rw [hW6];exact HI5.out.1.alloc _
       have c1 : W6.cell? ⟨wr.heap.size,1,none⟩ = some (.string ⟨y.toArray⟩):=by rw [hW6];exact cell_of_block (heap_of_alloc wr _) 1 rfl
       have H6:=Lib.hid (And.intro hn6 hN6)
       obtain ⟨q,hq⟩ : ∃ q,q = detU f y:=⟨_,rfl⟩
       have HAt : Hid (D2.atKey (.string y) (.lit (.bool false)) = .lit (.bool q)):=Lib.hid (by rw [hq,← HD.out];exact HJ.out.1.map.val y)
       have HQ:=Lib.hid hq
       obtain ⟨-,-,-,c2⟩:=HK.out _ hn6
       clear hca hab hcs hv0 hv1 hv2 hx hy hu hn6 hN6 hq b0 b1 b2 b3
       go_upto_region 26 with fail
       rw [← hW6]
       clear hW6 e0 e1
       go_wp2_with (refine wpList_lookup_bool _ rfl _ _ 168 rfl 9 4 (Keyed.of_law (Go.WideMaps.string_law Tryz.underlying9)) Tryz.underlying168 Tryz.underlying4 (HZ.out _) (w.heap.size + 1) np _ rfl H6.out.2 _ _ rfl HKy.out q HAt.out ?_)
       refine (demand_any (!q) 11 y W6).mono ?_
       rintro e w4 ⟨he,rfl⟩
       have HT : Hid (demC (!detU f x.nm) 11 x.nm = demC (!q) 11 y):=Lib.hid (by rw [← HX5.out.2,← HQ.out])
       cases q
       ·obtain rfl : e = _:=he
        go_wp2
        go_roundg (np - (k + 1))
        case measure => omega
        case rel => exact ⟨k + 1,rfl,by omega,by go_num,Lib.hid ⟨H6.out.2,H6.out.1,by rw [allC_take_succ _ _ k x HX5.out.1,HI5.out.2.2,seqC_none,HT.out];rfl⟩⟩
       ·obtain rfl : e = _:=he
        refine ⟨rfl,?_,HE.out _ H6.out.1⟩
        rw [HR.out]
        have h:=allC_some (fun x : Pm => demC (!detU f x.nm) 11 x.nm) f.ps k x (y,11) HX5.out.1 HI5.out.2.2 (by rw [HT.out];rfl)
        rw [show detC f = some (y,11) from h]
        rfl
      ·obtain rfl : np = k:=by omega
       go_wp2
       refine bodyPost_end (results_none rfl _ _ _) rfl ⟨?_,HE.out _ HI5.out.2.1⟩
       have h:=HI5.out.2.2
       rw [List.take_of_length_le (by rw [← HP.out.2];exact Nat.le_refl _)] at h
       rw [HR.out]
       show CkEnd (detC f) _
       rw [show detC f = none from h]
       rfl
    ·have hbb : (bf == (sz : Int)) = false:=beq_eq_false_iff_ne.2 hbs
     have hrn : r ≤ np:=upass_le HJ.out.1 (by rw [← HSz.out];exact hbs)
     have HNe : Hid (bf ≠ (Maps.size D2 : Nat)):=Lib.hid (by rw [← HSz.out];exact hbs)
     go_wp2_with (at_len;refine wpList_len_own _ rfl _ 168 rfl 9 4 Tryz.underlying168 _ (w.heap.size + 1) np _ rfl HJ.out.2.1 ?_;rw [← HSz.out])
     clear b0 b1 b2 b3 hbs hbb
     go_loopg [40] ns (fun m j wx => ∃ (k : Nat) (D3 : DataW Unit),m = ns - k ∧ k ≤ ns ∧ j = .int .i64 k ∧ Hid (ULeft (Maps.size D2) U2 D3 (passU ((stepsF f).take k) U2) ∧ NamesAt wx (w.heap.size + 1) np D3 ∧ Near (w.heap.size + 1) w3 wx))
     case atStart => exact ⟨0,D2,rfl,Nat.zero_le _,rfl,Lib.hid ⟨uleft_start HJ.out.1.map,HJ.out.2.1,HJ.out.2.2⟩⟩
     case round =>
      obtain ⟨k,D3,rfl,hk,rfl,HI3⟩:=hrel
      have hk0 : (0 : Int) ≤ k:=by omega
      by_cases hlt : k < ns
      ·have hki : (k : Int) < ns:=by omega
       obtain ⟨s,hs⟩ : ∃ s,(stepsF f)[k]? = some s:=⟨(stepsF f)[k]'(by rw [← HNS.out];exact hlt),List.getElem?_eq_getElem _⟩
       obtain ⟨a,A,n,c,A2,n2,c2,l,rfl,e0,e1,⟨hnl,hnm⟩,hll,hrd,hmem,⟨hn2,hnm2⟩,hml,hrd2⟩:=HX.out wr HI3.out.2.2 k s hs
       obtain ⟨W15,hW15⟩ : ∃ W15,W15 = wr.alloc (.cells #[.slice A n c,.slice A2 n2 c2] 172):=⟨_,rfl⟩
       have hnr : Near (w.heap.size + 1) wr W15:=by rw [hW15];exact near_of (below_alloc wr _)
       have hn15 : Near (w.heap.size + 1) w3 W15:=HI3.out.2.2.trans hnr
       have hN15 : NamesAt W15 (w.heap.size + 1) np D3:=by rw [hW15];exact HI3.out.2.1.alloc _
       have HCF:=Lib.hid (conts_any 101 (enters_of Tryz.func101 (by kernel_rfl) rfl) (w.heap.size + 1 + 1) (passU ((stepsF f).take k) U2) l A c n hnl hnm W15 (hrd W15 hnr) (fun x hx => isunk_any (w.heap.size + 1) np (w.heap.size + 1 + 1) D3 (passU ((stepsF f).take k) U2) x (hll x hx) W15 hN15 HI3.out.1.map (HK.out _ (H3.out.trans hn15)).2.2.2))
       obtain ⟨q,hq⟩ : ∃ q,q = l.any (passU ((stepsF f).take k) U2):=⟨_,rfl⟩
       rw [← hq] at HCF
       have HSt3 : Hid (passU ((stepsF f).take (k + 1)) U2 = if q = true then passU ((stepsF f).take k) U2 else delsU (passU ((stepsF f).take k) U2) s.ms):=Lib.hid (by
        rw [passU_take _ _ k s hs]
        rw [any_same hmem] at hq
        cases q with
        | true => rw [stepU_some hq.symm];rfl
        | false => rw [stepU_none hq.symm];rfl)
       have hk1 : W15.cell? ⟨wr.heap.size,1,none⟩ = some (.slice A2 n2 c2):=by rw [hW15];exact cell_of_block (heap_of_alloc wr _) 1 rfl
       have H15:=Lib.hid (And.intro hn15 (And.intro hN15 hnr))
       have HY:=Lib.hid (And.intro hn2 (And.intro hml hrd2))
       have hnm2':=hnm2
       unfold maxLen at hnm2'
       clear hq hs hnl hnm hll hrd hmem hn2 hnm2 hml hrd2 hn15 hN15 hnr
       go_wp2_with fail
       rw [← hW15]
       clear hW15 e0 e1
       (with_reducible refine HCF.out.mono ?_)
       rintro e w5 ⟨rfl,rfl⟩
       cases q
       ·go_wp2
        clear hk1
        go_loopg [51] n2 (fun m j wx => ∃ (i : Nat) (D4 : DataW Unit),m = n2 - i ∧ i ≤ n2 ∧ j = .int .i64 i ∧ Hid (ULeft (Maps.size D2) U2 D4 (delsU (passU ((stepsF f).take k) U2) (s.ms.take i)) ∧ NamesAt wx (w.heap.size + 1) np D4 ∧ Near (w.heap.size + 1) w5 wx))
        case atStart => exact ⟨0,D3,rfl,Nat.zero_le _,rfl,Lib.hid ⟨by rw [List.take_zero,delsU_nil];exact HI3.out.1,H15.out.2.1,near_refl _ _⟩⟩
        case round =>
         obtain ⟨i,D4,rfl,hi,rfl,HI4⟩:=hrel
         have hi0 : (0 : Int) ≤ i:=by omega
         by_cases hlt4 : i < n2
         ·have hii : (i : Int) < n2:=by omega
          obtain ⟨y,hy⟩ : ∃ y,s.ms[i]? = some y:=⟨s.ms[i]'(by rw [← HY.out.1];exact hlt4),List.getElem?_eq_getElem _⟩
          obtain ⟨a2,rfl,hab2,hca2⟩:=(HY.out.2.2 wr (H15.out.2.2.trans HI4.out.2.2)).2 (by omega)
          have e0 : wr.cell? (a2.add i) = some (.string ⟨y.toArray⟩):=hca2 i _ (by rw [List.getElem?_map,hy];rfl)
          have HKy:=Lib.hid (keyS (HY.out.2.1 y (List.mem_of_getElem? hy)))
          have HYy:=Lib.hid hy
          obtain ⟨-,-,-,c2⟩:=HK.out _ (H3.out.trans (H15.out.1.trans HI4.out.2.2))
          clear hy hab2 hca2
          go_wp2_with (at_delete;refine wpList_delete_own _ rfl _ _ 168 9 rfl 4 (Keyed.of_law (Go.WideMaps.string_law Tryz.underlying9)) Tryz.underlying168 _ (w.heap.size + 1) np D4 rfl HI4.out.2.1 _ _ rfl HKy.out ?_;intro wk hown hturn;have HO2:=Lib.hid hown;have HG2:=Lib.hid (HI4.out.2.2.trans (near_grown hturn.grown));clear hown hturn)
          go_roundg (n2 - (i + 1))
          case measure => omega
          case rel => exact ⟨i + 1,_,rfl,by omega,by go_num,Lib.hid ⟨by rw [delsU_take _ _ i y HYy.out];exact uleft_del HI4.out.1 y,HO2.out,HG2.out⟩⟩
         ·obtain rfl : n2 = i:=by omega
          go_wp2
          go_roundg (ns - (k + 1))
          case measure => omega
          case rel => exact ⟨k + 1,D4,rfl,by omega,by go_num,Lib.hid ⟨by
           rw [HSt3.out,if_neg Bool.false_ne_true]
           have h:=HI4.out.1
           rwa [List.take_of_length_le (l:=s.ms) (by rw [← HY.out.1];exact Nat.le_refl _)] at h,HI4.out.2.1,H15.out.1.trans HI4.out.2.2⟩⟩
       ·go_wp2
        go_roundg (ns - (k + 1))
        case measure => omega
        case rel => exact ⟨k + 1,D3,rfl,by omega,by go_num,Lib.hid ⟨by rw [HSt3.out];first | (rw [if_pos rfl];exact HI3.out.1) | (rw [if_pos True.intro];exact HI3.out.1),H15.out.2.1,H15.out.1⟩⟩
      ·obtain rfl : ns = k:=by omega
       go_wp2
       go_roundg (np + 2 - (r + 1))
       case measure => omega
       case rel => exact ⟨r + 1,_,D3,_,rfl,by omega,rfl,Lib.hid ⟨by
        have h:=HI3.out.1
        rw [List.take_of_length_le (by rw [← HNS.out];exact Nat.le_refl _)] at h
        rw [HSz.out]
        exact upass_next HJ.out.1 HNe.out h,HI3.out.2.1,HI3.out.2.2⟩⟩
end Go.Proofs.YthenbbpagbdbeaaGreatDoor
