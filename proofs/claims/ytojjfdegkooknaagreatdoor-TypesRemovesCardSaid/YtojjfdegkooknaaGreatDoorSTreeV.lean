import Derived.Maps.OwnOps
import Derived.Maps.Views
import Derived.Maps.Ext
import Derived.Test.YtojjfdegkooknaaGreatDoorSTreeB
import Derived.Test.YtojjfdegkooknaaGreatDoorSIter
import Derived.OwnWalkIn
import Derived.TacticsInMore
set_option linter.unusedVariables false
set_option linter.unusedSimpArgs false
namespace Go.Proofs.YtojjfdegkooknaaGreatDoor
section
set_option maxRecDepth 100000
set_option maxHeartbeats 2000000
open Go.RowKit
open Go.Maps (Keyed)
abbrev zn (w : World) (b n : Nat) (D : DataW Unit) : Prop:=w.ownsMap Tryz.prog 9 (plainElem (H:=Unit) Tryz.prog 4) b n D
end
section
set_option maxRecDepth 100000
set_option maxHeartbeats 2000000
open Go.RowKit
open Go.Maps (Keyed)
open Go.Sort
theorem qjH {B b : Nat} {W W' : World} (hg : W.grownBy W' (some b)) (hb : B <= b) (hB : B <= W.heap.size) : Below B W W' :=
 ⟨hg.os,hg.tape,hg.output,hg.size,fun k hk => hg.block k (by omega) (fun e => by have := Option.some.inj e;omega)⟩
theorem qpF (k m : Int) (s : ByteArray) (A : Option Addr) (ln c n : Nat) (D : DataW Unit) (w : World) (hmax : Maps.size D <= maxLen) (hbytes : Maps.size D * 16 <= 140737488355328)
 (hC : ∀ (W : World) (b : Nat),Below w.heap.size w W -> w.heap.size <= b -> zn W b 0 (.map []) -> Calls Tryz.prog 181 #[zG k m s (.slice A ln c),.map (some b)] W fun e w' => e = .returned (.tuple #[]) /\ zn w' b n D /\ W.grownBy w' (some b)) :
 Calls Tryz.prog 146 #[zG k m s (.slice A ln c)] w fun e w' => ∃ (v : Value) (ss : List (List UInt8)) (B : Nat),e = .returned v /\ ss.Perm (strKeys D) /\ w.heap.size <= B /\ w'.ownsRow B 9 1 v ss.length ((ss.mergeSort (fun x y => decide (x <= y))).map encStr) /\ (v = .slice none 0 0 ↔ ss = []) /\ Below w.heap.size w w':=by
 have hs1:=qj w (.cells #[.int .i64 k,.int .i64 m,.string s,.slice A ln c] 84)
 have qw:=hZ (qd w (.cells #[.int .i64 k,.int .i64 m,.string s,.slice A ln c] 84))
 have HO:=hZ (World.ownsMap_made (w.alloc (.cells #[.int .i64 k,.int .i64 m,.string s,.slice A ln c] 84)) Tryz.prog 9 (plainElem (H:=Unit) Tryz.prog 4))
 have HB:=hZ (qw.out.alloc qw.out.size (.map #[] 0))
 have hO:=HO.out
 rw [hs1] at hO
 have HC:=hZ (hC _ _ HB.out (Nat.le_succ _) hO)
 clear hO HO
 have hmm:=@run_makeMap Tryz.prog
 have hfC : Fence.wide.fn 181:=trivial
 have hfK : Fence.wide.fn 183:=trivial
 have hfS : Fence.wide.fn 182:=trivial
 clear hC
 refine (callsIn_wide (n:=6)).1 ?_
 refine callsIn_of_wp Tryz.func146 rfl trivial ?_
 simp only [Tryz.ntmps146,List.size_toArray,List.length_cons,List.length_nil,Nat.reduceAdd,Nat.reduceSub,Array.replicate_succ,Array.replicate_zero,List.push_toArray,List.append_toArray,List.nil_append,List.cons_append]
 gi_wp2_with (first
  | (gi_at_call 181;refine (callsIn_wide.2 HC.out).mono ?_;rintro e w2 ⟨rfl,ho,hg⟩;have qA:=ho;have HG:=hZ hg;clear ho hg)
  | (gi_at_call 183;refine (Tryz.maps_Keys_183 _ _).mono ?_;rintro e w' ⟨rfl,rfl⟩)
  | (gi_at_call 182;refine (Tryz.slices_Sorted_keys_182_183 _ _ _ _ _ qA hmax hbytes).mono ?_;rintro e w' ⟨v,ss,rfl,hS,qL,hnil,hb⟩))
 go_ret
 have zF:=(HB.out.trans ((qjH HG.out (Nat.le_succ _) HB.out.size))).alloc (Nat.le_trans HB.out.size HG.out.size) (.cells #[.map (some (w.heap.size + 1))] 183)
 exact ⟨v,ss,_,rfl,hS,zF.size,qL,hnil,zF.chain hb⟩
end
end Go.Proofs.YtojjfdegkooknaaGreatDoor
