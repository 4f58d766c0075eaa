/-
  tree.collectVars at a leaf. tree.Vars.
-/
import Derived.Maps.OwnOps
import Derived.Maps.Views
import Derived.Maps.Ext
import Derived.Test.YtnkpgpmaiicdeaaGreatDoorSTreeB
import Derived.Test.YtnkpgpmaiicdeaaGreatDoorSIter
import Derived.OwnWalkIn
import Derived.TacticsInMore
set_option linter.unusedVariables false
set_option linter.unusedSimpArgs false
namespace Go.Proofs.YtnkpgpmaiicdeaaGreatDoor
set_option maxRecDepth 100000
set_option maxHeartbeats 2000000
open Go.RowKit
open Go.Maps (Keyed)
abbrev NamesAt (w : World) (b n : Nat) (D : DataW Unit) : Prop:=w.ownsMap Tryz.prog 9 (plainElem (H:=Unit) Tryz.prog 4) b n D
theorem collect_var (s : ByteArray) (hs : s.size ≤ maxLen) (b n : Nat) (D : DataW Unit) (w : World) (hO : NamesAt w b n D) (hn : n < maxLen) :
 Calls Tryz.prog 42 #[exprV 2 0 s (.slice none 0 0),.map (some b)] w fun e w' => e = .returned (.tuple #[]) ∧ NamesAt w' b (n + 1) (D.put (.string s.data.toList) (.lit (.bool true))) ∧ w.grownBy w' (some b):=by
 have HO:=Lib.hid (hO.alloc (.cells #[.int .i64 2,.int .i64 0,.string s,.slice none 0 0] 33))
 have HK:=Lib.hid (Go.WideMaps.keyOf_string_mk Tryz.underlying9 hs)
 have HG:=Lib.hid (World.grownBy_alloc w (.cells #[.int .i64 2,.int .i64 0,.string s,.slice none 0 0] 33) (some b))
 have HB:=Lib.hid (heap_of_alloc w (.cells #[.int .i64 2,.int .i64 0,.string s,.slice none 0 0] 33))
 have hlt:=hO.lt
 have hne : w.heap.size ≠ b:=by omega
 clear hO
 go_enter Tryz.func42,Tryz.ntmps42
 go_wp2_with (at_mapUpdate;refine wpList_mapUpdate_own _ rfl _ _ _ 95 rfl 9 4 (Keyed.of_law (Go.WideMaps.string_law Tryz.underlying9)) Tryz.underlying95 _ b _ _ rfl HO.out hn _ _ _ rfl rfl HK.out _ _ (Go.plainElem_bool Tryz.underlying4 true) ?_;intro wk hown hgr;have HO2:=Lib.hid hown;have HG2:=Lib.hid (HG.out.trans hgr);have hB2:=(hgr.block w.heap.size (Array.getElem?_eq_some_iff.1 HB.out).1 (by simpa using hne)).trans HB.out;have c3:=cell_of_block hB2 3 (v:=.slice none 0 0) rfl;have f3:=frozen_at hB2 3;clear hown hgr)
 go_loop [15] (fun j => j = .int .i64 0) (fun _ => 0)
 case atStart => rfl
 case round =>
  subst hrel
  go_wp2
  exact bodyPost_end (results_none rfl _ _ _) rfl ⟨rfl,HO2.out,HG2.out⟩
theorem grown_cell {w W : World} {b : Nat} (h : w.grownBy W (some b)) {a : Addr} (ha : a.block < w.heap.size) (hab : a.block ≠ b) (i j : Nat) : W.cell? ((a.add i).add j) = w.cell? ((a.add i).add j):=by
 refine World.cell?_of_block (w:=w) ?_
 have e : ((a.add i).add j).block = a.block:=by unfold Addr.add;split <;> split <;> rfl
 rw [e]
 exact h.block _ ha (by intro h2;injection h2 with h2;exact hab h2)
theorem grown_cell0 {w W : World} {b : Nat} (h : w.grownBy W (some b)) {a : Addr} (ha : a.block < w.heap.size) (hab : a.block ≠ b) (i : Nat) : W.cell? (a.add i) = w.cell? (a.add i):=by
 have := grown_cell h ha hab i 0
 rwa [show (a.add i).add 0 = a.add i by simp [Addr.add]] at this
theorem collect_row (R : Nat → World → Prop) (k0 m0 : Int) (h2 : k0 ≠ 2) (s0 : ByteArray) (K M : Nat → Int) (S : Nat → ByteArray) (La : Nat → Option Addr) (Ln Lc : Nat → Nat) (a : Addr) (n c b : Nat) (w : World) (hn : n ≤ 1000000) (ha : a.block < w.heap.size) (hab : a.block ≠ b) (_hb : b < w.heap.size)
 (hrow : ∀ i,i < n → w.cell? (a.add (i * 4)) = some (.int .i64 (K i)) ∧ w.cell? ((a.add (i * 4)).add 1) = some (.int .i64 (M i)) ∧ w.cell? ((a.add (i * 4)).add 2) = some (.string (S i)) ∧ w.cell? ((a.add (i * 4)).add 3) = some (.slice (La i) (Ln i) (Lc i)))
 (hR : ∀ i W W',R i W → W.grownBy W' none → R i W') (h0 : R 0 w)
 (hC : ∀ i W,i < n → w.grownBy W (some b) → R i W → Calls Tryz.prog 42 #[exprV (K i) (M i) (S i) (.slice (La i) (Ln i) (Lc i)),.map (some b)] W fun e w' => e = .returned (.tuple #[]) ∧ R (i + 1) w' ∧ W.grownBy w' (some b)) :
 Calls Tryz.prog 42 #[exprV k0 m0 s0 (.slice (some a) n c),.map (some b)] w fun e w' => e = .returned (.tuple #[]) ∧ R n w' ∧ w.grownBy w' (some b):=by
 have HB:=Lib.hid (heap_of_alloc w (.cells #[.int .i64 k0,.int .i64 m0,.string s0,.slice (some a) n c] 33))
 have HG:=Lib.hid (World.grownBy_alloc w (.cells #[.int .i64 k0,.int .i64 m0,.string s0,.slice (some a) n c] 33) (some b))
 have HR0:=Lib.hid (hR _ _ _ h0 (World.grownBy_alloc w (.cells #[.int .i64 k0,.int .i64 m0,.string s0,.slice (some a) n c] 33) none))
 have HH:=Lib.hid (And.intro hrow (And.intro hR hC))
 have h2' : (k0 == 2) = false:=by simpa using h2
 clear hrow hR hC h0 h2
 go_enter Tryz.func42,Tryz.ntmps42
 go_wp2
 go_loopg [15] n (fun m j wr => ∃ k : Nat,m = n - k ∧ k ≤ n ∧ j = .int .i64 k ∧ Hid (w.grownBy wr (some b) ∧ R k wr))
 case atStart => exact ⟨0,rfl,Nat.zero_le _,rfl,Lib.hid ⟨HG.out,HR0.out⟩⟩
 case round =>
  obtain ⟨k,rfl,hk,rfl,HI⟩:=hrel
  by_cases hlt : k < n
  ·have hki : (k : Int) < n:=by omega
   have c0:=(grown_cell0 HI.out.1 ha hab (k * 4)).trans (HH.out.1 k hlt).1
   have c1 : wr.cell? ⟨(a.add (k * 4)).block,(a.add (k * 4)).off + 1,none⟩ = some (.int .i64 (M k)):=(grown_cell HI.out.1 ha hab (k * 4) 1).trans (HH.out.1 k hlt).2.1
   have c2 : wr.cell? ⟨(a.add (k * 4)).block,(a.add (k * 4)).off + 2,none⟩ = some (.string (S k)):=(grown_cell HI.out.1 ha hab (k * 4) 2).trans (HH.out.1 k hlt).2.2.1
   have c3 : wr.cell? ⟨(a.add (k * 4)).block,(a.add (k * 4)).off + 3,none⟩ = some (.slice (La k) (Ln k) (Lc k)):=(grown_cell HI.out.1 ha hab (k * 4) 3).trans (HH.out.1 k hlt).2.2.2
   have HC2:=Lib.hid (HH.out.2.2 k (wr.alloc (.cells #[.int .i64 (K k),.int .i64 (M k),.string (S k),.slice (La k) (Ln k) (Lc k)] 33)) hlt (HI.out.1.trans (World.grownBy_alloc wr _ (some b))) (HH.out.2.1 _ _ _ HI.out.2 (World.grownBy_alloc wr _ none)))
   have HJ:=Lib.hid (HI.out.1.trans (World.grownBy_alloc wr (.cells #[.int .i64 (K k),.int .i64 (M k),.string (S k),.slice (La k) (Ln k) (Lc k)] 33) (some b)))
   go_wp2_with (go_at_call 42;refine HC2.out.mono ?_;rintro e w3 ⟨rfl,hr,hg⟩;have HR3:=Lib.hid (And.intro (HJ.out.trans hg) hr);clear hr hg)
   go_roundg (n - (k + 1))
   case measure => omega
   case rel => exact ⟨k + 1,rfl,by omega,by go_num,HR3⟩
  ·obtain rfl : k = n:=by omega
   go_wp2
   exact bodyPost_end (results_none rfl _ _ _) rfl ⟨rfl,HI.out.2,HI.out.1⟩
theorem collect_pair (k0 m0 : Int) (h2 : k0 ≠ 2) (z s0 s1 : ByteArray) (hs0 : s0.size ≤ maxLen) (hs1 : s1.size ≤ maxLen) (a : Addr) (c b n : Nat) (D : DataW Unit) (w : World) (ha : a.block < w.heap.size) (hab : a.block ≠ b) (hO : NamesAt w b n D) (hn : n + 1 < maxLen)
 (h0 : w.cell? (a.add (0 * 4)) = some (.int .i64 2) ∧ w.cell? ((a.add (0 * 4)).add 1) = some (.int .i64 0) ∧ w.cell? ((a.add (0 * 4)).add 2) = some (.string s0) ∧ w.cell? ((a.add (0 * 4)).add 3) = some (.slice none 0 0))
 (h1 : w.cell? (a.add (1 * 4)) = some (.int .i64 2) ∧ w.cell? ((a.add (1 * 4)).add 1) = some (.int .i64 0) ∧ w.cell? ((a.add (1 * 4)).add 2) = some (.string s1) ∧ w.cell? ((a.add (1 * 4)).add 3) = some (.slice none 0 0)) :
 Calls Tryz.prog 42 #[exprV k0 m0 z (.slice (some a) 2 c),.map (some b)] w fun e w' => e = .returned (.tuple #[]) ∧ NamesAt w' b (n + 2) ((D.put (.string s0.data.toList) (.lit (.bool true))).put (.string s1.data.toList) (.lit (.bool true))) ∧ w.grownBy w' (some b):=by
 refine collect_row (fun i W => NamesAt W b (n + i) (match i with | 0 => D | 1 => D.put (.string s0.data.toList) (.lit (.bool true)) | _ => (D.put (.string s0.data.toList) (.lit (.bool true))).put (.string s1.data.toList) (.lit (.bool true))))
  k0 m0 h2 z (fun _ => 2) (fun _ => 0) (fun i => match i with | 0 => s0 | _ => s1) (fun _ => none) (fun _ => 0) (fun _ => 0) a 2 c b w (by omega) ha hab hO.lt (fun i hi => ?_) (fun i W W' hN hg => hN.kept hg (by simp)) hO (fun i W hi hg hN => ?_)
 ·match i,hi with
  | 0,_ => exact h0
  | 1,_ => exact h1
 ·match i,hi with
  | 0,_ => exact collect_var s0 hs0 b n D W hN (by omega)
  | 1,_ => exact collect_var s1 hs1 b (n + 1) _ W hN hn
theorem collect_nest (k0 m0 k1 m1 : Int) (h2 : k0 ≠ 2) (h3 : k1 ≠ 2) (z z1 s0 s1 : ByteArray) (hs0 : s0.size ≤ maxLen) (hs1 : s1.size ≤ maxLen) (a a1 : Addr) (c c1 b n : Nat) (D : DataW Unit) (w : World) (ha : a.block < w.heap.size) (hab : a.block ≠ b) (ha1 : a1.block < w.heap.size) (hab1 : a1.block ≠ b) (hO : NamesAt w b n D) (hn : n + 1 < maxLen)
 (h : w.cell? (a.add (0 * 4)) = some (.int .i64 k1) ∧ w.cell? ((a.add (0 * 4)).add 1) = some (.int .i64 m1) ∧ w.cell? ((a.add (0 * 4)).add 2) = some (.string z1) ∧ w.cell? ((a.add (0 * 4)).add 3) = some (.slice (some a1) 2 c1))
 (h0 : w.cell? (a1.add (0 * 4)) = some (.int .i64 2) ∧ w.cell? ((a1.add (0 * 4)).add 1) = some (.int .i64 0) ∧ w.cell? ((a1.add (0 * 4)).add 2) = some (.string s0) ∧ w.cell? ((a1.add (0 * 4)).add 3) = some (.slice none 0 0))
 (h1 : w.cell? (a1.add (1 * 4)) = some (.int .i64 2) ∧ w.cell? ((a1.add (1 * 4)).add 1) = some (.int .i64 0) ∧ w.cell? ((a1.add (1 * 4)).add 2) = some (.string s1) ∧ w.cell? ((a1.add (1 * 4)).add 3) = some (.slice none 0 0)) :
 Calls Tryz.prog 42 #[exprV k0 m0 z (.slice (some a) 1 c),.map (some b)] w fun e w' => e = .returned (.tuple #[]) ∧ NamesAt w' b (n + 2) ((D.put (.string s0.data.toList) (.lit (.bool true))).put (.string s1.data.toList) (.lit (.bool true))) ∧ w.grownBy w' (some b):=by
 refine collect_row (fun i W => NamesAt W b (match i with | 0 => n | _ => n + 2) (match i with | 0 => D | _ => (D.put (.string s0.data.toList) (.lit (.bool true))).put (.string s1.data.toList) (.lit (.bool true))))
  k0 m0 h2 z (fun _ => k1) (fun _ => m1) (fun _ => z1) (fun _ => some a1) (fun _ => 2) (fun _ => c1) a 1 c b w (by omega) ha hab hO.lt (fun i hi => ?_) (fun i W W' hN hg => hN.kept hg (by simp)) hO (fun i W hi hg hN => ?_)
 ·match i,hi with
  | 0,_ => exact h
 ·match i,hi with
  | 0,_ =>
    refine collect_pair k1 m1 h3 z1 s0 s1 hs0 hs1 a1 c1 b n D W (Nat.lt_of_lt_of_le ha1 hg.size) hab1 hN hn ?_ ?_
    ·exact ⟨(grown_cell0 hg ha1 hab1 _).trans h0.1,(grown_cell hg ha1 hab1 _ _).trans h0.2.1,(grown_cell hg ha1 hab1 _ _).trans h0.2.2.1,(grown_cell hg ha1 hab1 _ _).trans h0.2.2.2⟩
    ·exact ⟨(grown_cell0 hg ha1 hab1 _).trans h1.1,(grown_cell hg ha1 hab1 _ _).trans h1.2.1,(grown_cell hg ha1 hab1 _ _).trans h1.2.2.1,(grown_cell hg ha1 hab1 _ _).trans h1.2.2.2⟩
end Go.Proofs.YtnkpgpmaiicdeaaGreatDoor
namespace Go.Proofs.YtnkpgpmaiicdeaaGreatDoor
set_option maxRecDepth 100000
set_option maxHeartbeats 2000000
open Go.RowKit
open Go.Maps (Keyed)
open Go.Sort
theorem below_grown2v {B b : Nat} {W W' : World} (hg : W.grownBy W' (some b)) (hb : B ≤ b) (hB : B ≤ W.heap.size) : Below B W W' :=
 ⟨hg.os,hg.tape,hg.output,hg.size,fun k hk => hg.block k (by omega) (fun e => by have := Option.some.inj e;omega)⟩
theorem vars_any (k m : Int) (s : ByteArray) (A : Option Addr) (ln c n : Nat) (D : DataW Unit) (w : World) (hmax : Maps.size D ≤ maxLen) (hbytes : Maps.size D * 16 ≤ 140737488355328)
 (hC : ∀ (W : World) (b : Nat),Below w.heap.size w W → w.heap.size ≤ b → NamesAt W b 0 (.map []) → Calls Tryz.prog 42 #[exprV k m s (.slice A ln c),.map (some b)] W fun e w' => e = .returned (.tuple #[]) ∧ NamesAt w' b n D ∧ W.grownBy w' (some b)) :
 Calls Tryz.prog 23 #[exprV k m s (.slice A ln c)] w fun e w' => ∃ (v : Value) (ss : List (List UInt8)) (B : Nat),e = .returned v ∧ ss.Perm (strKeys D) ∧ w.heap.size ≤ B ∧ w'.ownsRow B 9 1 v ss.length ((ss.mergeSort (fun x y => decide (x ≤ y))).map encStr) ∧ (v = .slice none 0 0 ↔ ss = []) ∧ Below w.heap.size w w':=by
 have hs1:=size_of_alloc w (.cells #[.int .i64 k,.int .i64 m,.string s,.slice A ln c] 33)
 have HB1:=Lib.hid (below_alloc w (.cells #[.int .i64 k,.int .i64 m,.string s,.slice A ln c] 33))
 have HO:=Lib.hid (World.ownsMap_made (w.alloc (.cells #[.int .i64 k,.int .i64 m,.string s,.slice A ln c] 33)) Tryz.prog 9 (plainElem (H:=Unit) Tryz.prog 4))
 have HB:=Lib.hid (HB1.out.alloc HB1.out.size (.map #[] 0))
 have hO:=HO.out
 rw [hs1] at hO
 have HC:=Lib.hid (hC _ _ HB.out (Nat.le_succ _) hO)
 clear hO HO
 have hmm:=@run_makeMap Tryz.prog
 have hfC : Fence.wide.fn 42:=trivial
 have hfK : Fence.wide.fn 44:=trivial
 have hfS : Fence.wide.fn 43:=trivial
 clear hC
 refine (callsIn_wide (n:=6)).1 ?_
 refine callsIn_of_wp Tryz.func23 rfl trivial ?_
 simp only [Tryz.ntmps23,List.size_toArray,List.length_cons,List.length_nil,Nat.reduceAdd,Nat.reduceSub,Array.replicate_succ,Array.replicate_zero,List.push_toArray,List.append_toArray,List.nil_append,List.cons_append]
 gi_wp2_with (first
  | (gi_at_call 42;refine (callsIn_wide.2 HC.out).mono ?_;rintro e w2 ⟨rfl,ho,hg⟩;have hown:=ho;have HG:=Lib.hid hg;clear ho hg)
  | (gi_at_call 44;refine (Tryz.maps_Keys_44 _ _).mono ?_;rintro e w' ⟨rfl,rfl⟩)
  | (gi_at_call 43;refine (Tryz.slices_Sorted_keys_43_44 _ _ _ _ _ hown hmax hbytes).mono ?_;rintro e w' ⟨v,ss,rfl,hS,hrow,hnil,hb⟩))
 go_ret
 have hb2:=(HB.out.trans ((below_grown2v HG.out (Nat.le_succ _) HB.out.size))).alloc (Nat.le_trans HB.out.size HG.out.size) (.cells #[.map (some (w.heap.size + 1))] 95)
 exact ⟨v,ss,_,rfl,hS,hb2.size,hrow,hnil,hb2.chain hb⟩
end Go.Proofs.YtnkpgpmaiicdeaaGreatDoor
