import Derived.Test.YtojjfdegkooknaaGreatDoorQLexMZ
import Derived.Test.YtojjfdegkooknaaGreatDoorQLexA
import Derived.Maps.OwnOps
import Derived.Maps.Views
import Derived.Maps.Ext
set_option linter.unusedVariables false
set_option linter.unusedSimpArgs false
namespace Go.Proofs.YtojjfdegkooknaaGreatDoor
open Go.RowKit
open Go.Maps (Keyed)
def kws : List (List UInt8):=[[114,101,99,111,114,100],[103,108,111,98,97,108],[108,111,99,107],[105,110,118,97,114,105,97,110,116],[112,114,101,100,105,99,97,116,101],[108,101,109,109,97],[112,114,111,99,101,100,117,114,101],[114,101,116,117,114,110,115],[108,111,103,105,99,97,108],[114,101,113,117,105,114,101,115],[101,110,115,117,114,101,115],[101,120,105,115,116,115],[101,109,112],[110,117,108,108],[110,101,119],[102,114,101,101],[105,110,112,117,116],[105,102],[101,108,115,101],[119,104,105,108,101],[97,115,115,101,114,116],[119,105,116,104],[112,97,114],[105,110,116]]
def kwPut (D : DataW Unit) (k : List UInt8) : DataW Unit:=D.put (.string k) (.lit (.bool true))
def kwD (l : List (List UInt8)) : DataW Unit:=l.foldl kwPut (.map [])
theorem kwD_at (x : List UInt8) (l : List (List UInt8)) : (kwD l).atKey (.string x) (.lit (.bool false)) = .lit (.bool (l.contains x)):=by
 unfold kwD
 have : ∀ (l : List (List UInt8)) (D : DataW Unit) (b : Bool),Go.Maps.IsMap D → D.atKey (.string x) (.lit (.bool false)) = .lit (.bool b) → (l.foldl kwPut D).atKey (.string x) (.lit (.bool false)) = .lit (.bool (b || l.contains x)):=by
  intro l
  induction l with
  | nil => intro D b _ h;simp [h]
  | cons y l ih =>
    intro D b hD h
    have h2 : (kwPut D y).atKey (.string x) (.lit (.bool false)) = .lit (.bool (b || x == y)):=by
     unfold kwPut
     by_cases e : x = y
     ·subst e
      rw [Go.Maps.atKey_put_same hD (by trivial)]
      simp
     ·rw [Go.Maps.atKey_put_other (by intro h;cases h;exact e rfl),h,beq_eq_false_iff_ne.2 e,Bool.or_false]
    rw [List.foldl_cons,ih (kwPut D y) _ (hD.put _ _) h2,List.contains_cons,Bool.or_assoc]
 have h:=this l (.map []) false Go.Maps.isMap_empty rfl
 rw [Bool.false_or] at h
 exact h
theorem wpList_insert_own {H : Type} {P : Program} (w : World) {ops : Array Oper} {rest : List Oper} {o : Oper} {a : Act} {Q : Exit → Act → World → Prop}
 (hg : o.guard = none) (m x v : Operand) (t : TypeId) (hop : o.op = Op.insert t m x v)
 (k e : TypeId) (K : Keyed P k) (ht : P.underlying t = some (.map k e)) (R : Value → Option (DataW H × List MemPlace)) (b n : Nat) (D : DataW H)
 (hm : a.eval m = .map (some b)) (hown : w.ownsMap P k R b n D) (hn : n < maxLen) (key val : Value) (kl : Lit) (hx : a.eval x = key) (hv : a.eval v = val) (hkey : keyOf P k key = some kl)
 (d : DataW H) (ps : List MemPlace) (hval : R val = some (d,ps))
 (hK : ∀ w',w'.ownsMap P k R b (n + 1) (D.put kl d) → w.grownBy w' (some b) → wpList P ops Q rest (a.put o.dst undef) w') :
 wpList P ops Q (o :: rest) a w:=by
 refine wpList_plain hg fun K' hK' => ?_
 obtain ⟨w',hrun,r1,r2⟩:=hown.update K ht hn hkey hval
 unfold Oper.wp
 simp [execOp,hop,hm,hx,hv,hrun,Result.andThen]
 exact hK' _ _ (hK w' r1 r2)
theorem below_grown2 {B b : Nat} {W W' : World} (hg : W.grownBy W' (some b)) (hb : B ≤ b) (hB : B ≤ W.heap.size) : Below B W W' :=
 ⟨hg.os,hg.tape,hg.output,hg.size,fun k hk => hg.block k (by omega) (fun e => by have := Option.some.inj e;omega)⟩
theorem below_grown3 {b : Nat} {w W W' : World} (h : Below b w W) (hs : b ≤ W.heap.size) (hg : W.grownBy W' (some b)) : Below b w W' ∧ b ≤ W'.heap.size :=
 ⟨h.trans (below_grown2 hg (Nat.le_refl _) hs),Nat.le_trans hs hg.size⟩
set_option maxRecDepth 100000 in
set_option maxHeartbeats 2000000 in
theorem keywords_any (w : World) :
 Calls Tryz.prog 193 #[] w fun e w' => e = .returned (.map (some w.heap.size)) ∧ w'.ownsMap Tryz.prog 9 (plainElem (H:=Unit) Tryz.prog 4) w.heap.size 24 (kwD kws) ∧ Below w.heap.size w w':=by
 have hmm:=@run_makeMap Tryz.prog
 have HO:=Lib.hid (World.ownsMap_made w Tryz.prog 9 (plainElem (H:=Unit) Tryz.prog 4))
 have HB:=Lib.hid (And.intro (below_alloc w (.map #[] 0)) (show w.heap.size ≤ (w.alloc (.map #[] 0)).heap.size by rw [size_of_alloc];omega))
 go_enter Tryz.func193,Tryz.ntmps193
 go_wp2_with (first
  | (refine wpList_insert_own _ rfl _ _ _ 183 rfl 9 4 (Keyed.of_law (Go.WideMaps.string_law Tryz.underlying9)) Tryz.underlying183 _ w.heap.size _ _ rfl HO.out (by unfold maxLen;omega) _ _ _ rfl rfl (Go.WideMaps.keyOf_string_mk Tryz.underlying9 (by decide)) _ _ (Go.plainElem_bool Tryz.underlying4 true) ?_;intro wk hown hgr;replace HB:=Lib.hid (below_grown3 HB.out.1 HB.out.2 hgr);replace HO:=Lib.hid hown;clear hown hgr))
 go_ret
 exact ⟨rfl,HO.out,HB.out.1⟩
theorem plainElem_bool_inv {H : Type} {P : Program} {e : TypeId} (he : P.underlying e = some .bool) {v : Value} {b : Bool} {ps : List MemPlace} (h : plainElem (H:=H) P e v = some (.lit (.bool b),ps)) : v = .bool b:=by
 unfold plainElem at h
 rw [he] at h
 cases v <;> simp at h
 rw [h.1]
theorem wpList_lookup_bool {H : Type} {P : Program} (w : World) {ops : Array Oper} {rest : List Oper} {o : Oper} {a : Act} {Q : Exit → Act → World → Prop}
 (hg : o.guard = none) (m x : Operand) (t : TypeId) (hop : o.op = Op.lookup t m x false)
 (k e : TypeId) (K : Keyed P k) (ht : P.underlying t = some (.map k e)) (he : P.underlying e = some .bool) (hz : (zeroValue e).run P w = .ok (.bool false) w) (b n : Nat) (D : DataW H)
 (hm : a.eval m = .map (some b)) (hown : w.ownsMap P k (plainElem P e) b n D) (key : Value) (kl : Lit) (hx : a.eval x = key) (hkey : keyOf P k key = some kl) (r : Bool) (hat : D.atKey kl (.lit (.bool false)) = .lit (.bool r))
 (hK : wpList P ops Q rest (a.put o.dst (.bool r)) w) :
 wpList P ops Q (o :: rest) a w:=by
 refine wpList_plain hg fun K' hK' => ?_
 obtain ⟨v,ps,hrun,hv⟩:=hown.lookup K ht hz (plainElem_bool he false) hkey
 rw [hat] at hv
 obtain rfl:=plainElem_bool_inv he hv
 unfold Oper.wp
 simp [execOp,hop,hm,hx,hrun,Result.andThen]
 exact hK' _ _ hK
set_option maxRecDepth 100000 in
set_option maxHeartbeats 1000000 in
theorem keyword_any (s : ByteArray) (w : World) (hs : s.size ≤ maxLen) :
 Calls Tryz.prog 153 #[.string s] w fun e w' => e = .returned (.bool (kws.contains s.data.toList)) ∧ Below w.heap.size w w':=by
 have HC:=Lib.hid (keywords_any w)
 have HK:=Lib.hid (Go.WideMaps.keyOf_string_mk Tryz.underlying9 hs)
 have HA:=Lib.hid (kwD_at s.data.toList kws)
 have zero : ∀ w : World,(zeroValue 4).run Tryz.prog w = .ok (.bool false) w:=fun _ => by kernel_rfl
 have HZ:=Lib.hid zero
 clear zero
 generalize kws.contains s.data.toList = r at *
 go_enter Tryz.func153,Tryz.ntmps153
 go_wp2_with (first
  | (go_at_call 193;refine HC.out.mono ?_;rintro e w1 ⟨rfl,ho,hb⟩;have HO:=Lib.hid ho;have HB:=Lib.hid hb;clear ho hb)
  | (refine wpList_lookup_bool _ rfl _ _ 183 rfl 9 4 (Keyed.of_law (Go.WideMaps.string_law Tryz.underlying9)) Tryz.underlying183 Tryz.underlying4 (HZ.out _) w.heap.size 24 _ rfl HO.out _ _ rfl HK.out r HA.out ?_))
 go_ret
 exact ⟨rfl,HB.out⟩
end Go.Proofs.YtojjfdegkooknaaGreatDoor
namespace Go.Proofs.YtojjfdegkooknaaGreatDoor
open Go.RowKit
def StrRow (W : World) (n : Nat) (l : List (List UInt8)) : Prop:=∀ k,k < l.length → W.cell? ⟨n,k,none⟩ = some (.string ⟨(l.getD k []).toArray⟩)
theorem StrRow.later {W W' : World} {n B : Nat} {l : List (List UInt8)} (h : StrRow W n l) (hn : n < B) (hb : Below B W W') : StrRow W' n l :=
 fun k hk => (hb.cell (p:=⟨n,k,none⟩) hn).trans (h k hk)
end Go.Proofs.YtojjfdegkooknaaGreatDoor
namespace Go.Proofs.YtojjfdegkooknaaGreatDoor
open Go.RowKit
def nameL (l : List UInt8) : Bool:=takeE l == 0 && takeK l == 1 && takeT l == l && !kws.contains l
set_option maxRecDepth 100000 in
set_option maxHeartbeats 2000000 in
theorem name_any (l : List UInt8) (w : World) (hl : l.length ≤ maxLen) :
 Calls Tryz.prog 125 #[.string ⟨l.toArray⟩] w fun e w' => e = .returned (.bool (nameL l)) ∧ Below w.heap.size w w':=by
 have HK : Hid (∀ W,Calls Tryz.prog 153 #[.string ⟨l.toArray⟩] W fun e w' => e = .returned (.bool (kws.contains l)) ∧ Below W.heap.size W w'):=Lib.hid (fun W => keyword_any ⟨l.toArray⟩ W hl)
 have HF : Hid (∀ W n,TakerAt W n → Calls Tryz.prog 209 #[.string ⟨l.toArray⟩,.pointer (some ⟨n + 9,0,none⟩)] W (Hit (takeK l) (takeT l) (takeE l) W)):=Lib.hid (fun W n h => first_any ⟨l.toArray⟩ W n h hl)
 unfold nameL
 generalize takeK l = tk at *
 generalize takeT l = tt at *
 generalize takeE l = te at *
 generalize kws.contains l = kb at *
 generalize hr : (te == 0 && tk == 1 && tt == l && !kb) = r
 have HQ:=Lib.hid hr
 clear hr
 cases h1 : (te == 0) <;> cases h2 : (tk == 1) <;> cases h3 : (tt == l)
 all_goals
  have HE:=Lib.hid (And.intro h1 (And.intro h2 h3))
  go_enter Tryz.func125,Tryz.ntmps125
  go_wp2_with (first
   | (go_at_call 152;refine (takeToken_any _).mono ?_;rintro e w1 ⟨rfl,hT,hb,hz⟩;have HT:=Lib.hid (And.intro hT hb);clear hT hb hz)
   | (go_at_call 209;refine (HF.out _ _ HT.out.1).mono ?_;rintro e w2 ⟨rfl,nq,rfl⟩)
   | (go_at_call 153;refine (HK.out _).mono ?_;rintro e w3 ⟨rfl,hb3⟩;have HB3:=Lib.hid hb3;clear hb3))
  go_ret
  refine ⟨by rw [← HQ.out,HE.out.1,HE.out.2.1,HE.out.2.2] <;> rfl,?_⟩
  first
   | exact below_drewN HT.out.2 _
   | exact (below_drewN HT.out.2 _).trans (HB3.out.mono (by have := HT.out.2.size;show _ ≤ w1.heap.size;omega))
end Go.Proofs.YtojjfdegkooknaaGreatDoor
