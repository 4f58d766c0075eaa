import Derived.Test.YtojjfdegkooknaaGreatDoorSTypSt
import Derived.Maps.OwnSet
import Derived.Test.YtojjfdegkooknaaGreatDoorSTypK
import Derived.Test.YtojjfdegkooknaaGreatDoorSTreeQ
import Derived.Test.YtojjfdegkooknaaGreatDoorSTypTg
set_option linter.unusedVariables false
set_option linter.unusedSimpArgs false
namespace Go.Proofs.YtojjfdegkooknaaGreatDoor
section
open Go.RowKit Go.Lib
open Go.Maps (Tidy IsMap)
structure UMap (D : DataW Unit) (U : xC) : Prop where
 tidy : Tidy D
 has : ∀ n,Maps.has D (.string n) = U n
 val : ∀ n,D.atKey (.string n) (.lit (.bool false)) = .lit (.bool (U n))
theorem qiv (x : List UInt8) : Go.WideAt.IsKeyLit (.string x):=trivial
theorem qmy : UMap (.map []) fun _ => false:=⟨Maps.tidy_empty,fun _ => rfl,fun _ => rfl⟩
theorem qpL {D : DataW Unit} {U : xC} (h : UMap D U) (x : List UInt8) : UMap (D.put (.string x) (.lit (.bool true))) fun n => U n || n == x:=by
 refine ⟨h.tidy.put (qiv x) _,fun n => ?_,fun n => ?_⟩
 ·by_cases hn : n = x
  ·subst hn
   rw [Maps.has_put_same h.tidy.isMap (qiv n)]
   simp
  ·rw [Maps.has_put_other (fun e => hn (by injection e)),h.has n]
   simp [hn]
 ·by_cases hn : n = x
  ·subst hn
   rw [Maps.atKey_put_same h.tidy.isMap (qiv n)]
   simp
  ·rw [Maps.atKey_put_other (fun e => hn (by injection e)),h.val n]
   simp [hn]
theorem qpM {D : DataW Unit} {U : xC} (h : UMap D U) (x : List UInt8) : UMap (D.del (.string x)) fun n => U n && !(n == x):=by
 refine ⟨h.tidy.del _,fun n => ?_,fun n => ?_⟩
 ·by_cases hn : n = x
  ·subst hn
   rw [Maps.has_del_same]
   simp
  ·rw [Maps.has_del_other (fun e => hn (by injection e)),h.has n]
   simp [hn]
 ·by_cases hn : n = x
  ·subst hn
   rw [Maps.atKey_del_same]
   simp
  ·rw [Maps.atKey_del_other (fun e => hn (by injection e)),h.val n]
   simp [hn]
structure ULeft (s : Nat) (U0 : xC) (D : DataW Unit) (U : xC) : Prop where
 map : UMap D U
 le : Maps.size D <= s
 same : Maps.size D = s -> U = U0
theorem qld {D : DataW Unit} {U : xC} (h : UMap D U) : ULeft (Maps.size D) U D U:=⟨h,Nat.le_refl _,fun _ => rfl⟩
theorem qnL {s : Nat} {U0 : xC} {D : DataW Unit} {U : xC} (h : ULeft s U0 D U) (x : List UInt8) : ULeft s U0 (D.del (.string x)) fun n => U n && !(n == x):=by
 have hs:=Maps.size_del (k:=.string x) h.map.tidy
 refine ⟨qpM h.map x,by have := h.le;omega,fun e => ?_⟩
 have zL:=h.le
 cases hh : Maps.has D (.string x) with
 | true =>
   rw [hh] at hs
   simp only [if_true] at hs
   omega
 | false =>
   rw [hh] at hs
   simp only [Bool.false_eq_true,if_false,Nat.add_zero] at hs
   rw [<- h.same (by omega)]
   funext n
   by_cases hn : n = x
   ·subst hn
    have := h.map.has n
    rw [hh] at this
    rw [<- this]
    rfl
   ·simp [hn]
def qd9 (U : xC) (l : List (List UInt8)) : xC:=fun n => U n && !l.contains n
theorem qoR (U : xC) : qd9 U [] = U:=by
 funext n
 simp [qd9]
theorem qnn (U : xC) (l : List (List UInt8)) (k : Nat) (x : List UInt8) (h : l[k]? = some x) : qd9 U (l.take (k + 1)) = fun n => qd9 U (l.take k) n && !(n == x):=by
 funext n
 have e : l.take (k + 1) = l.take k ++ [x]:=by rw [List.take_add_one,h];rfl
 rw [e]
 unfold qd9
 by_cases hn : n = x
 ·subst hn
  simp
 ·simp [hn]
theorem qmG {U : xC} {s : Stp} (h : s.nd.any U = true) : qhD U s = U:=if_pos h
theorem qmH {U : xC} {s : Stp} (h : s.nd.any U = false) : qhD U s = qd9 U s.ms:=by
 unfold qhD
 rw [if_neg (by rw [h];exact Bool.false_ne_true)]
 rfl
theorem qmQ (l : List Stp) (U : xC) (k : Nat) (s : Stp) (h : l[k]? = some s) : jO (l.take (k + 1)) U = qhD (jO (l.take k) U) s:=by
 have e : l.take (k + 1) = l.take k ++ [s]:=by rw [List.take_add_one,h];rfl
 rw [e]
 unfold jO
 rw [List.foldl_append]
 rfl
theorem qbG (l : List Stp) : ∀ (n : Nat) (U : xC),qct l (n + 1) U = jO l (qct l n U)
 | 0,_ => rfl
 | n + 1,U => by
   have h:=qbG l n (jO l U)
   exact h
theorem qja (l : List Stp) (a : Nat) : ∀ (b : Nat) (U : xC),qct l (a + b) U = qct l b (qct l a U)
 | 0,_ => rfl
 | b + 1,U => by rw [<- Nat.add_assoc,qbG,qja l a b U,<- qbG]
theorem qi9 (l : List Stp) (U : xC) (h : jO l U = U) : ∀ n : Nat,qct l n U = U
 | 0 => rfl
 | n + 1 => by rw [qbG,qi9 l U h n,h]
theorem qiQ (l : List Pm) (k : Nat) (x : Pm) (h : l[k]? = some x) : qce (l.take (k + 1)) = fun n => qce (l.take k) n || (x.t == jy && n == x.nm):=by
 funext n
 have e : l.take (k + 1) = l.take k ++ [x]:=by rw [List.take_add_one,h];rfl
 rw [e]
 unfold qce
 rw [List.any_append]
 congr 1
 simp only [List.any_cons,List.any_nil,Bool.or_false]
 congr 1
 by_cases hn : n = x.nm
 ·subst hn;rfl
 ·rw [beq_eq_false_iff_ne.2 hn,beq_eq_false_iff_ne.2 (Ne.symm hn)]
theorem qpK {l : List Pm} {k : Nat} {x : Pm} (h : l[k]? = some x) (ht : (x.t == jy) = true) : qce (l.take (k + 1)) = fun n => qce (l.take k) n || n == x.nm:=by
 rw [qiQ l k x h,ht]
 rfl
theorem qpJ {l : List Pm} {k : Nat} {x : Pm} (h : l[k]? = some x) (ht : (x.t == jy) = false) : qce (l.take (k + 1)) = qce (l.take k):=by
 rw [qiQ l k x h,ht]
 funext n
 simp
structure UPass (l : List Stp) (n : Nat) (U0 : xC) (r : Nat) (bf : Int) (D : DataW Unit) (U : xC) : Prop where
 map : UMap D U
 it : U = qct l r U0
 sz : Maps.size D <= n
 more : r ≠ 0 -> ∃ s : Nat,bf = s /\ s + r <= n + 1 /\ Maps.size D <= s /\ (Maps.size D = s -> jO l U = U)
 none : r = 0 -> bf = -1
theorem qlc {l : List Stp} {n : Nat} {U0 : xC} {D : DataW Unit} (h : UMap D U0) (hs : Maps.size D <= n) : UPass l n U0 0 (-1) D U0:=⟨h,rfl,hs,fun h => absurd rfl h,fun _ => rfl⟩
theorem qpI {l : List Stp} {n : Nat} {U0 : xC} {r : Nat} {bf : Int} {D : DataW Unit} {U : xC} (h : UPass l n U0 r bf D U) (zN : bf ≠ (Maps.size D : Nat)) : r <= n:=by
 by_cases hr : r = 0
 ·omega
 ·obtain ⟨s,h1,h2,h3,_⟩:=h.more hr
  omega
theorem qmx {l : List Stp} {n : Nat} {U0 : xC} {r : Nat} {bf : Int} {D D' : DataW Unit} {U : xC} (h : UPass l n U0 r bf D U) (zN : bf ≠ (Maps.size D : Nat)) (h' : ULeft (Maps.size D) U D' (jO l U)) : UPass l n U0 (r + 1) (Maps.size D : Nat) D' (jO l U):=by
 refine ⟨h'.map,by rw [qbG,h.it],Nat.le_trans h'.le h.sz,fun _ => ⟨_,rfl,?_,h'.le,fun e => ?_⟩,fun e => by omega⟩
 ·by_cases hr : r = 0
  ·have := h.sz;omega
  ·obtain ⟨s,h1,h2,h3,_⟩:=h.more hr
   omega
 ·have := h'.same e
  rw [this,this]
theorem qnK {l : List Stp} {n : Nat} {U0 : xC} {r : Nat} {bf : Int} {D : DataW Unit} {U : xC} (h : UPass l n U0 r bf D U) (he : bf = (Maps.size D : Nat)) : U = qct l (n + 1) U0:=by
 by_cases hr : r = 0
 ·have := h.none hr
  omega
 ·obtain ⟨s,h1,h2,h3,h4⟩:=h.more hr
  have hs : Maps.size D = s:=by omega
  have yO : r <= n + 1:=by omega
  have e : n + 1 = r + (n + 1 - r):=by omega
  rw [e,qja,<- h.it,qi9 l U (h4 hs)]
end
section
set_option maxRecDepth 100000
set_option maxHeartbeats 4000000
open Go.RowKit Go.Lib
open Go.Maps (Keyed)
theorem qm1 {x : List UInt8} (h : x.length <= maxLen) : keyOf Tryz.prog 9 (.string ⟨x.toArray⟩) = some (.string x):=Go.WideMaps.keyOf_string_mk Tryz.underlying9 (s:=⟨x.toArray⟩) h
theorem qoj (M n b : Nat) (D : DataW Unit) (U : xC) (s : List UInt8) (hs : s.length <= maxLen) (w : World) (hm : zn w M n D) (hU : UMap D U) (hc : w.cell? ⟨b,0,none⟩ = some (.map (some M))) :
 Calls Tryz.prog 117 #[.string ⟨s.toArray⟩,.pointer (some ⟨b,0,none⟩)] w fun e w' => e = .returned (.bool (U s)) /\ w' = w:=by
 have HO:=hZ hm
 have HK:=hZ (qm1 hs)
 obtain ⟨r,hr⟩ : ∃ r,r = U s:=⟨_,rfl⟩
 have HA : Hid (D.atKey (.string s) (.lit (.bool false)) = .lit (.bool r)):=hZ (by rw [hr];exact hU.val s)
 have HZ : Hid (∀ w : World,(zeroValue 4).run Tryz.prog w = .ok (.bool false) w):=hZ (fun w => by kernel_rfl)
 rw [<- hr]
 clear hm hU hs hr
 go_enter Tryz.func117,Tryz.ntmps117
 go_wp2_with (refine ym _ rfl _ _ 183 rfl 9 4 (Keyed.of_law (Go.WideMaps.string_law Tryz.underlying9)) Tryz.underlying183 Tryz.underlying4 (HZ.out _) M n _ rfl HO.out _ _ rfl HK.out r HA.out ?_)
 go_ret
 exact ⟨rfl,rfl⟩
theorem qqm (F : Nat) (hF : ∀ args w,(callFunc F args).run Tryz.prog w = .ok (.enter F args) w) (b : Nat) (U : xC) (l : List (List UInt8)) (A : Option Addr) (c n : Nat) (hn : n = l.length) (hm : n <= maxLen) (w : World) (hA : qI w w.heap.size 1 A n (l.map qaN))
 (HC : ∀ x ∈ l,Calls Tryz.prog F #[.string ⟨x.toArray⟩,.pointer (some ⟨b,0,none⟩)] w fun e w' => e = .returned (.bool (U x)) /\ w' = w) :
 Calls Tryz.prog 148 #[.slice A n c,.func (.func F) #[] #[.pointer (some ⟨b,0,none⟩)]] w fun e w' => (∃ q : Int,e = .returned (.int .i64 q) /\ Ixd U l q) /\ w' = w:=by
 have HH:=hZ (aZ hA (aZ hn HC))
 have HG : Hid (∀ args w,(callFunc F args).run Tryz.prog w = .ok (.enter F args) w):=hZ hF
 have hcl:=HG.out
 clear hA hn HC hF
 unfold maxLen at hm
 go_enter Tryz.func148,Tryz.ntmps148
 go_wp2
 go_loopg [8] n (fun m j wr => ∃ k : Nat,m = n - k /\ k <= n /\ j = .int .i64 k /\ wr = w /\ Hid ((l.take k).all (fun y => !U y) = true))
 case atStart => exact ⟨0,rfl,Nat.zero_le _,rfl,rfl,hZ (by rw [List.take_zero];rfl)⟩
 case round =>
  obtain ⟨k,rfl,hk,rfl,rfl,HI⟩:=hrel
  have hk0 : (0 : Int) <= k:=by omega
  by_cases qB : k < n
  ·have jD : (k : Int) < n:=by omega
   obtain ⟨x,hx⟩ : ∃ x,l[k]? = some x:=⟨l[k]'(by rw [<- HH.out.2.1];exact qB),List.getElem?_eq_getElem _⟩
   obtain ⟨a,rfl,qx,qP⟩:=HH.out.1.2 (by omega)
   have e0 : wr.cell? (a.add k) = some (.string ⟨x.toArray⟩):=qP k _ (by rw [List.getElem?_map,hx];rfl)
   have HC:=hZ (HH.out.2.2 x (List.mem_of_getElem? hx))
   obtain ⟨r,hr⟩ : ∃ r,r = U x:=⟨_,rfl⟩
   rw [<- hr] at HC
   have HX:=hZ (aZ hx hr)
   clear hx hr qP qx
   go_wp2_with fail
   refine HC.out.mono ?_
   rintro e w3 ⟨rfl,rfl⟩
   cases r
   ·go_wp2
    go_roundg (n - (k + 1))
    case measure => omega
    case rel => exact ⟨k + 1,rfl,by omega,by go_num,rfl,hZ (by rw [zB (fun y => !U y) l k x HX.out.1,HI.out,<- HX.out.2];rfl)⟩
   ·go_wp2
    go_ret
    exact ⟨⟨k,rfl,.inr ⟨k,x,rfl,HX.out.1,qaM _ l k x HX.out.1 HI.out HX.out.2.symm⟩⟩,rfl⟩
  ·have hlt' : ¬ (k : Int) < n:=by omega
   obtain rfl : k = n:=by omega
   go_wp2
   go_ret
   refine ⟨⟨-1,rfl,.inl ⟨rfl,qbv _ l ?_⟩⟩,rfl⟩
   have h:=HI.out
   rw [List.take_of_length_le (by rw [HH.out.2.1];exact Nat.le_refl _)] at h
   exact h
theorem qsL {α : Type} {p : α -> Bool} {l : List α} {q : Int} (h : Ixd p l q) : decide (0 <= q) = l.any p:=by
 rcases h with ⟨rfl,h⟩ | ⟨i,x,rfl,h1,h2⟩
 ·have : l.any p = false:=List.any_eq_false.2 fun x hx => by simpa using List.find?_eq_none.1 h x hx
  rw [this]
  rfl
 ·have : l.any p = true:=List.any_eq_true.2 ⟨x,List.mem_of_find?_eq_some h2,List.find?_some h2⟩
  rw [this]
  exact decide_eq_true (by omega)
theorem qoS (F : Nat) (hF : ∀ args w,(callFunc F args).run Tryz.prog w = .ok (.enter F args) w) (b : Nat) (U : xC) (l : List (List UInt8)) (A : Option Addr) (c n : Nat) (hn : n = l.length) (hm : n <= maxLen) (w : World) (hA : qI w w.heap.size 1 A n (l.map qaN))
 (HC : ∀ x ∈ l,Calls Tryz.prog F #[.string ⟨x.toArray⟩,.pointer (some ⟨b,0,none⟩)] w fun e w' => e = .returned (.bool (U x)) /\ w' = w) :
 Calls Tryz.prog 119 #[.slice A n c,.func (.func F) #[] #[.pointer (some ⟨b,0,none⟩)]] w fun e w' => e = .returned (.bool (l.any U)) /\ w' = w:=by
 have HI:=hZ (qqm F hF b U l A c n hn hm w hA HC)
 obtain ⟨r,hr⟩ : ∃ r,r = l.any U:=⟨_,rfl⟩
 have HR:=hZ hr
 rw [<- hr]
 clear hF hn hm hA HC hr
 go_enter Tryz.func119,Tryz.ntmps119
 go_wp2_with fail
 refine HI.out.mono ?_
 rintro e w3 ⟨⟨q,rfl,hq⟩,rfl⟩
 have hb : decide (0 <= q) = r:=(qsL hq).trans HR.out.symm
 clear hq
 go_wp2
 go_ret
 exact ⟨rfl,rfl⟩
end
section
set_option maxRecDepth 100000
set_option maxHeartbeats 16000000
open Go.RowKit Go.Lib
open Go.Maps (Keyed)
theorem qhN {M : Nat} {w w' : World} (h : w.grownBy w' (some M)) : Near M w w' :=
 ⟨h.os,h.tape,h.output,h.size,fun b hb zN => h.block b hb (fun e => zN (Option.some.inj e))⟩
theorem qdX (M : Nat) (w : World) : Near M w w:=⟨rfl,rfl,rfl,Nat.le_refl _,fun _ _ _ => rfl⟩
theorem qve {B M : Nat} {a w w' : World} (hb : Below B a w) (hB : B <= w.heap.size) (h : Near M w w') (hc : B <= M) : Below B a w' :=
 ⟨h.os.trans hb.os,h.tape.trans hb.tape,h.output.trans hb.output,Nat.le_trans hb.size h.size,fun b qB => (h.block b (Nat.lt_of_lt_of_le qB hB) (by omega)).trans (hb.block b qB)⟩
theorem qqa {W : World} {b n : Nat} {D : DataW Unit} (h : zn W b n D) : b < W.heap.size:=by
 obtain ⟨es,ck,h1,h2⟩:=h
 exact (Array.getElem?_eq_some_iff.1 h1).1
theorem qmN {M : Nat} {w w' : World} (h : Near M w w') {B size n : Nat} {A : Option Addr} {xs : List Value} (hr : qI w B size A n xs) (hB : B <= w.heap.size) (zN : 0 < n -> ∀ a,A = some a -> a.block ≠ M) : qI w' B size A n xs :=
 ⟨hr.1,fun hn => by
   obtain ⟨a,h1,h2,h3⟩:=hr.2 hn
   exact ⟨a,h1,h2,fun j u hu => (xt h (by rw [qbR];exact Nat.lt_of_lt_of_le h2 hB) (by rw [qbR];exact zN hn a h1)).trans (h3 j u hu)⟩⟩
theorem qq8 {l m : List (List UInt8)} (h : ∀ x,x ∈ l ↔ x ∈ m) (U : xC) : l.any U = m.any U:=by
 rw [Bool.eq_iff_iff,List.any_eq_true,List.any_eq_true]
 exact ⟨fun ⟨x,h1,h2⟩ => ⟨x,(h x).1 h1,h2⟩,fun ⟨x,h1,h2⟩ => ⟨x,(h x).2 h1,h2⟩⟩
theorem qiG (f : Fm) (Ap : Option Addr) (np cp : Nat) (Aa : Option Addr) (na ca : Nat) (Ac : Option Addr) (nc cc : Nat) (jS : np = f.ps.length) (hna : na = f.ats.length) (jk : nc = f.cls.length) (hf : qjO f) (w : World) (hP : qD zp 2 w w.heap.size f.ps Ap) (hA : qdc w w.heap.size f.ats Aa) (hC : qdb w w.heap.size f.cls Ac) :
 Calls Tryz.prog 84 #[vv (.slice Ap np cp) (.slice Aa na ca) (.slice Ac nc cc)] w (qV (qhi f) w):=by
 have hnp6 : np <= 1000000:=by rw [jS];exact hf.1
 obtain ⟨W2,xB⟩ : ∃ W2,W2 = ((w.alloc (jb (.slice Ap np cp) (.slice Aa na ca) (.slice Ac nc cc))).alloc (.map #[] 0)).alloc (.cells #[.map (some (w.heap.size + 1))] 183):=⟨_,rfl⟩
 have zF : Below w.heap.size w W2:=by rw [xB];exact ((qd w _).chain (qd _ _)).chain (qd _ _)
 have hz2 : W2.heap.size = w.heap.size + 1 + 1 + 1:=by rw [xB];simp only [qj]
 have q0 : W2.heap[w.heap.size]? = some (jb (.slice Ap np cp) (.slice Aa na ca) (.slice Ac nc cc)):=by rw [xB];exact qr (qr (qe w _))
 have q1 : zn W2 (w.heap.size + 1) 0 (.map []):=by
  have h:=World.ownsMap_made (w.alloc (jb (.slice Ap np cp) (.slice Aa na ca) (.slice Ac nc cc))) Tryz.prog 9 (plainElem (H:=Unit) Tryz.prog 4)
  rw [qj] at h
  rw [xB]
  exact h.alloc _
 have q2 : W2.heap[w.heap.size + 1 + 1]? = some (.cells #[.map (some (w.heap.size + 1))] 183):=by
  have h:=qe ((w.alloc (jb (.slice Ap np cp) (.slice Aa na ca) (.slice Ac nc cc))).alloc (.map #[] 0)) (.cells #[.map (some (w.heap.size + 1))] 183)
  simp only [qj] at h
  rw [xB]
  exact h
 -- what the boxes qiB,while only the map turns
 have HK : Hid (∀ W,Near (w.heap.size + 1) W2 W -> W.cell? ⟨w.heap.size,0,none⟩ = some (.slice Ap np cp) /\ W.cell? ⟨w.heap.size,1,none⟩ = some (.slice Aa na ca) /\ W.cell? ⟨w.heap.size,2,none⟩ = some (.slice Ac nc cc) /\ W.cell? ⟨w.heap.size + 1 + 1,0,none⟩ = some (.map (some (w.heap.size + 1)))):=hZ (fun W hn => by
  have p0:=(hn.block w.heap.size (by omega) (by omega)).trans q0
  have p2:=(hn.block (w.heap.size + 1 + 1) (by omega) (by omega)).trans q2
  exact ⟨qc p0 0 rfl,qc p0 1 rfl,qc p0 2 rfl,qc p2 0 rfl⟩)
 -- the memory that came in
 have HM : Hid (∀ W,Near (w.heap.size + 1) W2 W -> ∀ q : Addr,q.block < w.heap.size -> W.cell? q = w.cell? q):=hZ (fun W hn q hq => (xt hn (by omega) (by omega)).trans (zF.cell hq))
 have HP:=hZ (aZ hP jS)
 have HS : Hid (∀ W,Near (w.heap.size + 1) W2 W -> Calls Tryz.prog 118 #[vv (.slice Ap np cp) (.slice Aa na ca) (.slice Ac nc cc)] W (qjv f W)):=hZ (fun W hn => by
  have hk:=HM.out W hn
  have qK : w.heap.size <= W.heap.size:=Nat.le_trans (by omega) hn.size
  exact qnU f Ap np cp Aa na ca Ac nc cc hna jk hf W (hA.keep jd hk qK) (hC.keep jc hk qK))
 have zq:=hZ (aZ zF hz2)
 have HO:=hZ q1
 have HE : Hid (∀ W,Near (w.heap.size + 1) W2 W -> Below w.heap.size w W):=hZ (fun W hn => qve zF (by omega) hn (by omega))
 have HZ : Hid (∀ w : World,(zeroValue 4).run Tryz.prog w = .ok (.bool false) w):=hZ (fun w => by kernel_rfl)
 obtain ⟨a0,-,-,a3⟩:=HK.out _ (qdX _ _)
 obtain ⟨R,hR⟩ : ∃ R : Ck,R = qhi f:=⟨_,rfl⟩
 have HR:=hZ hR
 rw [<- hR]
 have hmm:=@run_makeMap Tryz.prog
 have hmf : ∀ (fn : Fn) (first cap : Array Value) (w : World),(Instr.makeFunc fn first cap).run Tryz.prog w = .ok (.func fn first cap) w:=fun _ _ _ _ => rfl
 clear hP hA hC hf hna jk jS zF hz2 q0 q1 q2 hR
 rw [xB] at a0
 go_enter Tryz.func84,Tryz.ntmps84
 go_wp2
 rw [<- xB]
 clear a0 a3 hmm
 go_loopg [18] np (fun m j wr => ∃ (k : Nat) (D : DataW Unit),m = np - k /\ k <= np /\ j = .int .i64 k /\ Hid (zn wr (w.heap.size + 1) k D /\ UMap D (qce (f.ps.take k)) /\ Near (w.heap.size + 1) W2 wr))
 case atStart => exact ⟨0,.map [],rfl,Nat.zero_le _,rfl,hZ ⟨HO.out,qmy,qdX _ _⟩⟩
 case round =>
  obtain ⟨k,D,rfl,hk,rfl,HI⟩:=hrel
  have hk0 : (0 : Int) <= k:=by omega
  by_cases qB : k < np
  ·have jD : (k : Int) < np:=by omega
   obtain ⟨x,hx⟩ : ∃ x,f.ps[k]? = some x:=⟨f.ps[k]'(by rw [<- HP.out.2];exact qB),List.getElem?_eq_getElem _⟩
   obtain ⟨a,cs,rfl,qx,qn,qP,hv⟩:=HP.out.1 k x hx
   obtain ⟨xh,jo,je⟩:=hv
   have e0 : wr.cell? (a.add (k * 2)) = some (.string ⟨x.t.toArray⟩):=by
    have h:=(HM.out wr HI.out.2.2 ((a.add (k * 2)).add 0) (by rw [qm,qm];exact qx)).trans (qP 0 _ (by rw [xh];rfl))
    rwa [yl,Nat.add_zero] at h
   have e1 : wr.cell? ⟨(a.add (k * 2)).block,(a.add (k * 2)).off + 1,none⟩ = some (.string ⟨x.nm.toArray⟩):=(HM.out wr HI.out.2.2 ((a.add (k * 2)).add 1) (by rw [qm,qm];exact qx)).trans (qP 1 _ (by rw [xh];rfl))
   obtain ⟨u,hu⟩ : ∃ u,u = x.t:=⟨_,rfl⟩
   obtain ⟨y,hy⟩ : ∃ y,y = x.nm:=⟨_,rfl⟩
   have jj : y.length <= maxLen:=by rw [hy];exact je
   rw [<- hu] at e0
   rw [<- hy] at e1
   have HX:=hZ (aZ hx (aZ hu hy))
   obtain ⟨W6,qW⟩ : ∃ W6,W6 = wr.alloc (.cells #[.string ⟨u.toArray⟩,.string ⟨y.toArray⟩] 42):=⟨_,rfl⟩
   have hn6 : Near (w.heap.size + 1) W2 W6:=by rw [qW];exact qdv HI.out.2.2 (Below.mono (qd wr _) HI.out.2.2.size)
   clear qP qx qn xh jo je hx hy
   by_cases hint : u = [105,110,116]
   ·have hb : (u == [105,110,116]) = true:=by rw [hint];rfl
    have hN6 : zn W6 (w.heap.size + 1) k D:=by rw [qW];exact HI.out.1.alloc _
    have c1 : W6.cell? ⟨wr.heap.size,1,none⟩ = some (.string ⟨y.toArray⟩):=by rw [qW];exact qc (qe wr _) 1 rfl
    have H6:=hZ (aZ hn6 hN6)
    have vh:=hZ (qm1 jj)
    have HU : Hid (UMap (D.put (.string y) (.lit (.bool true))) (qce (f.ps.take (k + 1)))):=hZ (by
     rw [qpK HX.out.1 (by rw [<- HX.out.2.1];exact hb),<- HX.out.2.2]
     exact qpL HI.out.2.1 y)
    have hkl : k < maxLen:=by unfold maxLen;omega
    obtain ⟨-,-,-,c2⟩:=HK.out _ hn6
    clear hint hu hn6 hN6 jj
    go_upto_region 6 with fail
    rw [<- qW]
    clear qW e0 e1
    go_wp2_with (at_mapUpdate;refine wpList_mapUpdate_own _ rfl _ _ _ 183 rfl 9 4 (Keyed.of_law (Go.WideMaps.string_law Tryz.underlying9)) Tryz.underlying183 _ (w.heap.size + 1) _ _ rfl H6.out.2 hkl _ _ _ rfl rfl vh.out _ _ (Go.plainElem_bool Tryz.underlying4 true) ?_;intro wk qA hgr;have jm:=hZ qA;have HG2:=hZ (H6.out.1.trans (qhN hgr));clear qA hgr)
    go_roundg (np - (k + 1))
    case measure => omega
    case rel => exact ⟨k + 1,_,rfl,by omega,by go_num,hZ ⟨jm.out,HU.out,HG2.out⟩⟩
   ·have hb : (u == [105,110,116]) = false:=beq_eq_false_iff_ne.2 hint
    have H6:=hZ hn6
    have HO6 : Hid (zn W6 (w.heap.size + 1) (k + 1) D):=hZ (by
     obtain ⟨es,ck,h1,h2,h3,h4⟩:=HI.out.1
     rw [qW]
     exact World.ownsMap.alloc ⟨es,ck,h1,h2,Nat.le_succ_of_le h3,h4⟩ _)
    have HU : Hid (UMap D (qce (f.ps.take (k + 1)))):=hZ (by
     rw [qpJ HX.out.1 (by rw [<- HX.out.2.1];exact hb)]
     exact HI.out.2.1)
    clear hint hu hn6 jj
    go_wp2
    rw [<- qW]
    clear qW
    go_roundg (np - (k + 1))
    case measure => omega
    case rel => exact ⟨k + 1,_,rfl,by omega,by go_num,hZ ⟨HO6.out,HU.out,H6.out⟩⟩
  ·obtain rfl : np = k:=by omega
   have HU0 : Hid (UMap D (qce f.ps)):=hZ (by
    have h:=HI.out.2.1
    rwa [List.take_of_length_le (by rw [<- HP.out.2];exact Nat.le_refl _)] at h)
   have HSt:=hZ (HS.out wr HI.out.2.2)
   obtain ⟨b0,b1,b2,b3⟩:=HK.out _ HI.out.2.2
   go_wp2_with fail
   clear b0 b1 b2 b3
   (with_reducible refine HSt.out.mono ?_)
   rintro e w3 ⟨v,xs,B,rfl,hB,qA,zv,qt⟩
   obtain ⟨As,cs,rfl⟩:=yq qA
   obtain ⟨ns,hns⟩ : ∃ ns,ns = (xE f).length:=⟨_,rfl⟩
   have hMB : w.heap.size + 1 < B:=Nat.lt_of_lt_of_le (qqa HI.out.1) hB
   have HN3 : Hid (zn w3 (w.heap.size + 1) np D):=hZ (qds HI.out.1 qt)
   have H3 : Hid (Near (w.heap.size + 1) W2 w3):=hZ (qdv HI.out.2.2 (qt.mono HI.out.2.2.size))
   have HX : Hid (∀ W,Near (w.heap.size + 1) w3 W -> ∀ i s,(xE f)[i]? = some s -> ∃ (a : Addr) (A : Option Addr) (n c : Nat) (A2 : Option Addr) (n2 c2 : Nat) (l : List (List UInt8)),As = some a /\ W.cell? (a.add (i * 2)) = some (.slice A n c) /\ W.cell? ⟨(a.add (i * 2)).block,(a.add (i * 2)).off + 1,none⟩ = some (.slice A2 n2 c2) /\ (n = l.length /\ n <= maxLen) /\ (∀ x ∈ l,x.length <= maxLen) /\ (∀ W',Near (w.heap.size + 1) W W' -> qI W' W'.heap.size 1 A n (l.map qaN)) /\ (∀ x,x ∈ l ↔ x ∈ s.nd) /\ (n2 = s.ms.length /\ n2 <= maxLen) /\ (∀ x ∈ s.ms,x.length <= maxLen) /\ (∀ W',Near (w.heap.size + 1) W W' -> qI W' W'.heap.size 1 A2 n2 (s.ms.map qaN))):=hZ (fun W hn i s hs => by
    obtain ⟨u,v,hu,hv,A,n,c,A2,n2,c2,l,rfl,rfl,⟨m1,m2,m3,m4⟩,hl,p1,p2,p3,p4⟩:=zv.2 i s hs
    have hi : i < ns:=by rw [hns];exact (List.getElem?_eq_some_iff.1 hs).1
    have hrd:=qI.of_own qA
    rw [<- hns] at hrd
    obtain ⟨a,ha,qx,qP⟩:=hrd.2 (by omega)
    have zN : a.block ≠ w.heap.size + 1:=fun e => by have := qg7 qA a ha;omega
    have rr : ∀ {A : Option Addr} {n : Nat} {ys : List Value},qI w3 w3.heap.size 1 A n ys -> (0 < n -> ∀ a,A = some a -> B <= a.block /\ (Value.slice As (xE f).length cs).ownBlock ≠ some a.block) -> ∀ W',Near (w.heap.size + 1) W W' -> qI W' W'.heap.size 1 A n ys:=fun hr hq W' hn' =>
     (qmN (hn.trans hn') hr (Nat.le_refl _) (fun h0 a ha e => by have := (hq h0 a ha).1;omega)).more (hn.trans hn').size
    refine ⟨a,A,n,c,A2,n2,c2,l,ha,?_,?_,m1,m2,rr m3 m4,hl,p1,p2,rr p3 p4⟩
    ·exact (xt hn (by rw [qm];exact qx) (by rw [qm];exact zN)).trans (qP _ _ hu)
    ·exact (xt (q:=(a.add (i * 2)).add 1) hn (by rw [qm,qm];exact qx) (by rw [qm,qm];exact zN)).trans (by rw [yl];exact qP _ _ hv))
   have hnsl : ns <= maxLen:=by
    rw [hns]
    rcases qA.2 with ⟨_,h0⟩ | ⟨g,cap,cur,_,_,_,h1,h2,_⟩
    ·rw [h0];exact Nat.zero_le _
    ·exact Nat.le_trans h1 h2
   have HNS:=hZ hns
   rw [<- hns]
   clear zv qA qt hns hMB hB
   unfold maxLen at hnsl
   go_wp2
   go_loopg [7] (np + 2) (fun m bv wq => ∃ (r : Nat) (bf : Int) (D : DataW Unit) (U : xC),m = np + 2 - r /\ r <= np + 1 /\ bv = .int .i64 bf /\ Hid (UPass (xE f) np (qce f.ps) r bf D U /\ zn wq (w.heap.size + 1) np D /\ Near (w.heap.size + 1) w3 wq))
   case atStart => exact ⟨0,-1,D,_,rfl,Nat.zero_le _,rfl,hZ ⟨qlc HU0.out (World.ownsMap.size_le HN3.out),HN3.out,qdX _ _⟩⟩
   case round =>
    obtain ⟨r,bf,D2,U2,rfl,hr,rfl,HJ⟩:=hrel
    have HJ3:=hZ (H3.out.trans HJ.out.2.2)
    obtain ⟨b0,b1,b2,b3⟩:=HK.out _ HJ3.out
    obtain ⟨sz,qK⟩ : ∃ sz,sz = Maps.size D2:=⟨_,rfl⟩
    have HSz:=hZ qK
    have xw : sz <= np:=by rw [qK];exact World.ownsMap.size_le HJ.out.2.1
    clear qK
    by_cases yV : bf = (sz : Int)
    ·have qi : (bf == (sz : Int)) = true:=by rw [yV];exact beq_self_eq_true _
     have HD : Hid (U2 = detU f):=hZ (by
      rw [qnK HJ.out.1 (by rw [yV,HSz.out]),HP.out.2]
      rfl)
     subst yV
     clear qi
     go_wp2_with (at_len;refine wpList_len_own _ rfl _ 183 rfl 9 4 Tryz.underlying183 _ (w.heap.size + 1) np _ rfl HJ.out.2.1 ?_;rw [<- HSz.out])
     go_loopg [62] np (fun m j wx => ∃ k : Nat,m = np - k /\ k <= np /\ j = .int .i64 k /\ Hid (zn wx (w.heap.size + 1) np D2 /\ Near (w.heap.size + 1) W2 wx /\ zJ (fun x : Pm => zQ (!detU f x.nm) 11 x.nm) (f.ps.take k) = none))
     case atStart => exact ⟨0,rfl,Nat.zero_le _,rfl,hZ ⟨HJ.out.2.1,HJ3.out,rfl⟩⟩
     case round =>
      obtain ⟨k,rfl,hk,rfl,HI5⟩:=hrel
      have hk0 : (0 : Int) <= k:=by omega
      by_cases qB : k < np
      ·have jD : (k : Int) < np:=by omega
       obtain ⟨x,hx⟩ : ∃ x,f.ps[k]? = some x:=⟨f.ps[k]'(by rw [<- HP.out.2];exact qB),List.getElem?_eq_getElem _⟩
       obtain ⟨a,cs5,rfl,qx,qn,qP,hv⟩:=HP.out.1 k x hx
       obtain ⟨xh,jo,je⟩:=hv
       have e0 : wr.cell? (a.add (k * 2)) = some (.string ⟨x.t.toArray⟩):=by
        have h:=(HM.out wr HI5.out.2.1 ((a.add (k * 2)).add 0) (by rw [qm,qm];exact qx)).trans (qP 0 _ (by rw [xh];rfl))
        rwa [yl,Nat.add_zero] at h
       have e1 : wr.cell? ⟨(a.add (k * 2)).block,(a.add (k * 2)).off + 1,none⟩ = some (.string ⟨x.nm.toArray⟩):=(HM.out wr HI5.out.2.1 ((a.add (k * 2)).add 1) (by rw [qm,qm];exact qx)).trans (qP 1 _ (by rw [xh];rfl))
       obtain ⟨u,hu⟩ : ∃ u,u = x.t:=⟨_,rfl⟩
       obtain ⟨y,hy⟩ : ∃ y,y = x.nm:=⟨_,rfl⟩
       have vh:=hZ (qm1 (by rw [hy];exact je : y.length <= maxLen))
       rw [<- hu] at e0
       rw [<- hy] at e1
       have HX5:=hZ (aZ hx hy)
       obtain ⟨W6,qW⟩ : ∃ W6,W6 = wr.alloc (.cells #[.string ⟨u.toArray⟩,.string ⟨y.toArray⟩] 42):=⟨_,rfl⟩
       have hn6 : Near (w.heap.size + 1) W2 W6:=by rw [qW];exact qdv HI5.out.2.1 (Below.mono (qd wr _) HI5.out.2.1.size)
       have hN6 : zn W6 (w.heap.size + 1) np D2:=by rw [qW];exact HI5.out.1.alloc _
       have c1 : W6.cell? ⟨wr.heap.size,1,none⟩ = some (.string ⟨y.toArray⟩):=by rw [qW];exact qc (qe wr _) 1 rfl
       have H6:=hZ (aZ hn6 hN6)
       obtain ⟨q,hq⟩ : ∃ q,q = detU f y:=⟨_,rfl⟩
       have HAt : Hid (D2.atKey (.string y) (.lit (.bool false)) = .lit (.bool q)):=hZ (by rw [hq,<- HD.out];exact HJ.out.1.map.val y)
       have HQ:=hZ hq
       obtain ⟨-,-,-,c2⟩:=HK.out _ hn6
       clear qP qx qn xh jo je hx hy hu hn6 hN6 hq b0 b1 b2 b3
       go_upto_region 26 with fail
       rw [<- qW]
       clear qW e0 e1
       go_wp2_with (refine ym _ rfl _ _ 183 rfl 9 4 (Keyed.of_law (Go.WideMaps.string_law Tryz.underlying9)) Tryz.underlying183 Tryz.underlying4 (HZ.out _) (w.heap.size + 1) np _ rfl H6.out.2 _ _ rfl vh.out q HAt.out ?_)
       refine (qU (!q) 11 y W6).mono ?_
       rintro e w4 ⟨he,rfl⟩
       have HT : Hid (zQ (!detU f x.nm) 11 x.nm = zQ (!q) 11 y):=hZ (by rw [<- HX5.out.2,<- HQ.out])
       cases q
       ·obtain rfl : e = _:=he
        go_wp2
        go_roundg (np - (k + 1))
        case measure => omega
        case rel => exact ⟨k + 1,rfl,by omega,by go_num,hZ ⟨H6.out.2,H6.out.1,by rw [zR _ _ k x HX5.out.1,HI5.out.2.2,yD,HT.out];rfl⟩⟩
       ·obtain rfl : e = _:=he
        refine ⟨rfl,?_,HE.out _ H6.out.1⟩
        rw [HR.out]
        have h:=yP (fun x : Pm => zQ (!detU f x.nm) 11 x.nm) f.ps k x (y,11) HX5.out.1 HI5.out.2.2 (by rw [HT.out];rfl)
        rw [show qhi f = some (y,11) from h]
        rfl
      ·obtain rfl : np = k:=by omega
       go_wp2
       refine bodyPost_end (results_none rfl _ _ _) rfl ⟨?_,HE.out _ HI5.out.2.1⟩
       have h:=HI5.out.2.2
       rw [List.take_of_length_le (by rw [<- HP.out.2];exact Nat.le_refl _)] at h
       rw [HR.out]
       show qbe (qhi f) _
       rw [show qhi f = none from h]
       rfl
    ·have qi : (bf == (sz : Int)) = false:=beq_eq_false_iff_ne.2 yV
     have hrn : r <= np:=qpI HJ.out.1 (by rw [<- HSz.out];exact yV)
     have HNe : Hid (bf ≠ (Maps.size D2 : Nat)):=hZ (by rw [<- HSz.out];exact yV)
     go_wp2_with (at_len;refine wpList_len_own _ rfl _ 183 rfl 9 4 Tryz.underlying183 _ (w.heap.size + 1) np _ rfl HJ.out.2.1 ?_;rw [<- HSz.out])
     clear b0 b1 b2 b3 yV qi
     go_loopg [40] ns (fun m j wx => ∃ (k : Nat) (D3 : DataW Unit),m = ns - k /\ k <= ns /\ j = .int .i64 k /\ Hid (ULeft (Maps.size D2) U2 D3 (jO ((xE f).take k) U2) /\ zn wx (w.heap.size + 1) np D3 /\ Near (w.heap.size + 1) w3 wx))
     case atStart => exact ⟨0,D2,rfl,Nat.zero_le _,rfl,hZ ⟨qld HJ.out.1.map,HJ.out.2.1,HJ.out.2.2⟩⟩
     case round =>
      obtain ⟨k,D3,rfl,hk,rfl,HI3⟩:=hrel
      have hk0 : (0 : Int) <= k:=by omega
      by_cases qB : k < ns
      ·have jD : (k : Int) < ns:=by omega
       obtain ⟨s,hs⟩ : ∃ s,(xE f)[k]? = some s:=⟨(xE f)[k]'(by rw [<- HNS.out];exact qB),List.getElem?_eq_getElem _⟩
       obtain ⟨a,A,n,c,A2,n2,c2,l,rfl,e0,e1,⟨yL,yS⟩,hll,hrd,qf0,⟨hn2,hnm2⟩,hml,hrd2⟩:=HX.out wr HI3.out.2.2 k s hs
       obtain ⟨W15,qkw⟩ : ∃ W15,W15 = wr.alloc (.cells #[.slice A n c,.slice A2 n2 c2] 187):=⟨_,rfl⟩
       have xU : Near (w.heap.size + 1) wr W15:=by rw [qkw];exact yH (qd wr _)
       have qqr : Near (w.heap.size + 1) w3 W15:=HI3.out.2.2.trans xU
       have qqB : zn W15 (w.heap.size + 1) np D3:=by rw [qkw];exact HI3.out.2.1.alloc _
       have HCF:=hZ (qoS 117 (enters_of Tryz.func117 (by kernel_rfl) rfl) (w.heap.size + 1 + 1) (jO ((xE f).take k) U2) l A c n yL yS W15 (hrd W15 xU) (fun x hx => qoj (w.heap.size + 1) np (w.heap.size + 1 + 1) D3 (jO ((xE f).take k) U2) x (hll x hx) W15 qqB HI3.out.1.map (HK.out _ (H3.out.trans qqr)).2.2.2))
       obtain ⟨q,hq⟩ : ∃ q,q = l.any (jO ((xE f).take k) U2):=⟨_,rfl⟩
       rw [<- hq] at HCF
       have HSt3 : Hid (jO ((xE f).take (k + 1)) U2 = if q = true then jO ((xE f).take k) U2 else qd9 (jO ((xE f).take k) U2) s.ms):=hZ (by
        rw [qmQ _ _ k s hs]
        rw [qq8 qf0] at hq
        cases q with
        | true => rw [qmG hq.symm];rfl
        | false => rw [qmH hq.symm];rfl)
       have hk1 : W15.cell? ⟨wr.heap.size,1,none⟩ = some (.slice A2 n2 c2):=by rw [qkw];exact qc (qe wr _) 1 rfl
       have H15:=hZ (aZ qqr (aZ qqB xU))
       have HY:=hZ (aZ hn2 (aZ hml hrd2))
       have hnm2':=hnm2
       unfold maxLen at hnm2'
       clear hq hs yL yS hll hrd qf0 hn2 hnm2 hml hrd2 qqr qqB xU
       go_wp2_with fail
       rw [<- qkw]
       clear qkw e0 e1
       (with_reducible refine HCF.out.mono ?_)
       rintro e w5 ⟨rfl,rfl⟩
       cases q
       ·go_wp2
        clear hk1
        go_loopg [51] n2 (fun m j wx => ∃ (i : Nat) (D4 : DataW Unit),m = n2 - i /\ i <= n2 /\ j = .int .i64 i /\ Hid (ULeft (Maps.size D2) U2 D4 (qd9 (jO ((xE f).take k) U2) (s.ms.take i)) /\ zn wx (w.heap.size + 1) np D4 /\ Near (w.heap.size + 1) w5 wx))
        case atStart => exact ⟨0,D3,rfl,Nat.zero_le _,rfl,hZ ⟨by rw [List.take_zero,qoR];exact HI3.out.1,H15.out.2.1,qdX _ _⟩⟩
        case round =>
         obtain ⟨i,D4,rfl,hi,rfl,HI4⟩:=hrel
         have xj : (0 : Int) <= i:=by omega
         by_cases hlt4 : i < n2
         ·have hii : (i : Int) < n2:=by omega
          obtain ⟨y,hy⟩ : ∃ y,s.ms[i]? = some y:=⟨s.ms[i]'(by rw [<- HY.out.1];exact hlt4),List.getElem?_eq_getElem _⟩
          obtain ⟨a2,rfl,qni,hca2⟩:=(HY.out.2.2 wr (H15.out.2.2.trans HI4.out.2.2)).2 (by omega)
          have e0 : wr.cell? (a2.add i) = some (.string ⟨y.toArray⟩):=hca2 i _ (by rw [List.getElem?_map,hy];rfl)
          have vh:=hZ (qm1 (HY.out.2.1 y (List.mem_of_getElem? hy)))
          have HYy:=hZ hy
          obtain ⟨-,-,-,c2⟩:=HK.out _ (H3.out.trans (H15.out.1.trans HI4.out.2.2))
          clear hy qni hca2
          go_wp2_with (at_delete;refine wpList_delete_own _ rfl _ _ 183 9 rfl 4 (Keyed.of_law (Go.WideMaps.string_law Tryz.underlying9)) Tryz.underlying183 _ (w.heap.size + 1) np D4 rfl HI4.out.2.1 _ _ rfl vh.out ?_;intro wk qA hturn;have jm:=hZ qA;have HG2:=hZ (HI4.out.2.2.trans (qhN hturn.grown));clear qA hturn)
          go_roundg (n2 - (i + 1))
          case measure => omega
          case rel => exact ⟨i + 1,_,rfl,by omega,by go_num,hZ ⟨by rw [qnn _ _ i y HYy.out];exact qnL HI4.out.1 y,jm.out,HG2.out⟩⟩
         ·obtain rfl : n2 = i:=by omega
          go_wp2
          go_roundg (ns - (k + 1))
          case measure => omega
          case rel => exact ⟨k + 1,D4,rfl,by omega,by go_num,hZ ⟨by
           rw [HSt3.out,if_neg Bool.false_ne_true]
           have h:=HI4.out.1
           rwa [List.take_of_length_le (l:=s.ms) (by rw [<- HY.out.1];exact Nat.le_refl _)] at h,HI4.out.2.1,H15.out.1.trans HI4.out.2.2⟩⟩
       ·go_wp2
        go_roundg (ns - (k + 1))
        case measure => omega
        case rel => exact ⟨k + 1,D3,rfl,by omega,by go_num,hZ ⟨by rw [HSt3.out];first | (rw [if_pos rfl];exact HI3.out.1) | (rw [if_pos True.intro];exact HI3.out.1),H15.out.2.1,H15.out.1⟩⟩
      ·obtain rfl : ns = k:=by omega
       go_wp2
       go_roundg (np + 2 - (r + 1))
       case measure => omega
       case rel => exact ⟨r + 1,_,D3,_,rfl,by omega,rfl,hZ ⟨by
        have h:=HI3.out.1
        rw [List.take_of_length_le (by rw [<- HNS.out];exact Nat.le_refl _)] at h
        rw [HSz.out]
        exact qmx HJ.out.1 HNe.out h,HI3.out.2.1,HI3.out.2.2⟩⟩
end
end Go.Proofs.YtojjfdegkooknaaGreatDoor
