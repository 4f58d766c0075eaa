import Derived.Test.YtbalioicgpgehaaGreatDoorSLexMZ
import Derived.Test.YtbalioicgpgehaaGreatDoorSLexA
import Derived.Maps.OwnOps
import Derived.Maps.Views
import Derived.Maps.Ext
set_option linter.unusedVariables false
set_option linter.unusedSimpArgs false
namespace Go.Proofs.YtbalioicgpgehaaGreatDoor
open Go.RowKit
open Go.Maps (Keyed)
def kws : List (List UInt8):=[[114,101,99,111,114,100],[103,108,111,98,97,108],[108,111,99,107],[105,110,118,97,114,105,97,110,116],[112,114,101,100,105,99,97,116,101],[108,101,109,109,97],[112,114,111,99,101,100,117,114,101],[114,101,116,117,114,110,115],[108,111,103,105,99,97,108],[114,101,113,117,105,114,101,115],[101,110,115,117,114,101,115],[101,120,105,115,116,115],[101,109,112],[110,117,108,108],[110,101,119],[102,114,101,101],[105,110,112,117,116],[105,102],[101,108,115,101],[119,104,105,108,101],[97,115,115,101,114,116],[119,105,116,104],[112,97,114],[105,110,116]]
def kwPut (D : DataW Unit) (k : List UInt8) : DataW Unit:=D.put (.string k) (.lit (.bool true))
def kwD (l : List (List UInt8)) : DataW Unit:=l.foldl kwPut (.map [])
theorem kwD_at (x : List UInt8) (l : List (List UInt8)) : (kwD l).atKey (.string x) (.lit (.bool false)) = .lit (.bool (l.contains x)):=by
 unfold kwD
 have : ∀ (l : List (List UInt8)) (D : DataW Unit) (b : Bool),Go.Maps.IsMap D → D.atKey (.string x) (.lit (.bool false)) = .lit (.bool b) → (l.foldl kwPut D).atKey (.string x) (.lit (.bool false)) = .lit (.bool (b || l.contains x)):=by
  intro l
  induction l with
  | nil => intro D b _ h;simp [h]
  | cons y l ih =>
    intro D b hD h
    have h2 : (kwPut D y).atKey (.string x) (.lit (.bool false)) = .lit (.bool (b || x == y)):=by
     unfold kwPut
     by_cases e : x = y
     ·subst e
      rw [Go.Maps.atKey_put_same hD (by trivial)]
      simp
     ·rw [Go.Maps.atKey_put_other (by intro h;cases h;exact e rfl),h,beq_eq_false_iff_ne.2 e,Bool.or_false]
    rw [List.foldl_cons,ih (kwPut D y) _ (hD.put _ _) h2,List.contains_cons,Bool.or_assoc]
 have h:=this l (.map []) false Go.Maps.isMap_empty rfl
 rw [Bool.false_or] at h
 exact h
theorem wpList_insert_own {H : Type} {P : Program} (w : World) {ops : Array Oper} {rest : List Oper} {o : Oper} {a : Act} {Q : Exit → Act → World → Prop}
 (hg : o.guard = none) (m x v : Operand) (t : TypeId) (hop : o.op = Op.insert t m x v)
 (k e : TypeId) (K : Keyed P k) (ht : P.underlying t = some (.map k e)) (R : Value → Option (DataW H × List MemPlace)) (b n : Nat) (D : DataW H)
 (hm : a.eval m = .map (some b)) (hown : w.ownsMap P k R b n D) (hn : n < maxLen) (key val : Value) (kl : Lit) (hx : a.eval x = key) (hv : a.eval v = val) (hkey : keyOf P k key = some kl)
 (d : DataW H) (ps : List MemPlace) (hval : R val = some (d,ps))
 (hK : ∀ w',w'.ownsMap P k R b (n + 1) (D.put kl d) → w.grownBy w' (some b) → wpList P ops Q rest (a.put o.dst undef) w') :
 wpList P ops Q (o :: rest) a w:=by
 refine wpList_plain hg fun K' hK' => ?_
 obtain ⟨w',hrun,r1,r2⟩:=hown.update K ht hn hkey hval
 unfold Oper.wp
 simp [execOp,hop,hm,hx,hv,hrun,Result.andThen]
 exact hK' _ _ (hK w' r1 r2)
theorem below_grown2 {B b : Nat} {W W' : World} (hg : W.grownBy W' (some b)) (hb : B ≤ b) (hB : B ≤ W.heap.size) : Below B W W' :=
 ⟨hg.os,hg.tape,hg.output,hg.size,fun k hk => hg.block k (by omega) (fun e => by have := Option.some.inj e;omega)⟩
theorem below_grown3 {b : Nat} {w W W' : World} (h : Below b w W) (hs : b ≤ W.heap.size) (hg : W.grownBy W' (some b)) : Below b w W' ∧ b ≤ W'.heap.size :=
 ⟨h.trans (below_grown2 hg (Nat.le_refl _) hs),Nat.le_trans hs hg.size⟩
set_option maxRecDepth 100000 in
set_option maxHeartbeats 2000000 in
theorem keywords_any (w : World) :
 Calls Tryz.prog 188 #[] w fun e w' => e = .returned (.map (some w.heap.size)) ∧ w'.ownsMap Tryz.prog 9 (plainElem (H:=Unit) Tryz.prog 4) w.heap.size 24 (kwD kws) ∧ Below w.heap.size w w':=by
 have hmm:=@run_makeMap Tryz.prog
 have HO:=Lib.hid (World.ownsMap_made w Tryz.prog 9 (plainElem (H:=Unit) Tryz.prog 4))
 have HB:=Lib.hid (And.intro (below_alloc w (.map #[] 0)) (show w.heap.size ≤ (w.alloc (.map #[] 0)).heap.size by rw [size_of_alloc];omega))
 go_enter Tryz.func188,Tryz.ntmps188
 go_wp2_with (first
  | (refine wpList_insert_own _ rfl _ _ _ 102 rfl 9 4 (Keyed.of_law (Go.WideMaps.string_law Tryz.underlying9)) Tryz.underlying102 _ w.heap.size _ _ rfl HO.out (by unfold maxLen;omega) _ _ _ rfl rfl (Go.WideMaps.keyOf_string_mk Tryz.underlying9 (by decide)) _ _ (Go.plainElem_bool Tryz.underlying4 true) ?_;intro wk hown hgr;replace HB:=Lib.hid (below_grown3 HB.out.1 HB.out.2 hgr);replace HO:=Lib.hid hown;clear hown hgr))
 go_ret
 exact ⟨rfl,HO.out,HB.out.1⟩
theorem plainElem_bool_inv {H : Type} {P : Program} {e : TypeId} (he : P.underlying e = some .bool) {v : Value} {b : Bool} {ps : List MemPlace} (h : plainElem (H:=H) P e v = some (.lit (.bool b),ps)) : v = .bool b:=by
 unfold plainElem at h
 rw [he] at h
 cases v <;> simp at h
 rw [h.1]
theorem wpList_lookup_bool {H : Type} {P : Program} (w : World) {ops : Array Oper} {rest : List Oper} {o : Oper} {a : Act} {Q : Exit → Act → World → Prop}
 (hg : o.guard = none) (m x : Operand) (t : TypeId) (hop : o.op = Op.lookup t m x false)
 (k e : TypeId) (K : Keyed P k) (ht : P.underlying t = some (.map k e)) (he : P.underlying e = some .bool) (hz : (zeroValue e).run P w = .ok (.bool false) w) (b n : Nat) (D : DataW H)
 (hm : a.eval m = .map (some b)) (hown : w.ownsMap P k (plainElem P e) b n D) (key : Value) (kl : Lit) (hx : a.eval x = key) (hkey : keyOf P k key = some kl) (r : Bool) (hat : D.atKey kl (.lit (.bool false)) = .lit (.bool r))
 (hK : wpList P ops Q rest (a.put o.dst (.bool r)) w) :
 wpList P ops Q (o :: rest) a w:=by
 refine wpList_plain hg fun K' hK' => ?_
 obtain ⟨v,ps,hrun,hv⟩:=hown.lookup K ht hz (plainElem_bool he false) hkey
 rw [hat] at hv
 obtain rfl:=plainElem_bool_inv he hv
 unfold Oper.wp
 simp [execOp,hop,hm,hx,hrun,Result.andThen]
 exact hK' _ _ hK
set_option maxRecDepth 100000 in
set_option maxHeartbeats 1000000 in
theorem keyword_any (s : ByteArray) (w : World) (hs : s.size ≤ maxLen) :
 Calls Tryz.prog 147 #[.string s] w fun e w' => e = .returned (.bool (kws.contains s.data.toList)) ∧ Below w.heap.size w w':=by
 have HC:=Lib.hid (keywords_any w)
 have HK:=Lib.hid (Go.WideMaps.keyOf_string_mk Tryz.underlying9 hs)
 have HA:=Lib.hid (kwD_at s.data.toList kws)
 have zero : ∀ w : World,(zeroValue 4).run Tryz.prog w = .ok (.bool false) w:=fun _ => by kernel_rfl
 have HZ:=Lib.hid zero
 clear zero
 generalize kws.contains s.data.toList = r at *
 go_enter Tryz.func147,Tryz.ntmps147
 go_wp2_with (first
  | (go_at_call 188;refine HC.out.mono ?_;rintro e w1 ⟨rfl,ho,hb⟩;have HO:=Lib.hid ho;have HB:=Lib.hid hb;clear ho hb)
  | (refine wpList_lookup_bool _ rfl _ _ 102 rfl 9 4 (Keyed.of_law (Go.WideMaps.string_law Tryz.underlying9)) Tryz.underlying102 Tryz.underlying4 (HZ.out _) w.heap.size 24 _ rfl HO.out _ _ rfl HK.out r HA.out ?_))
 go_ret
 exact ⟨rfl,HB.out⟩
end Go.Proofs.YtbalioicgpgehaaGreatDoor
namespace Go.Proofs.YtbalioicgpgehaaGreatDoor
open Go.RowKit
def strVals (l : List (List UInt8)) : Array Value:=(l.map fun x => Value.string ⟨x.toArray⟩).toArray
def StrRow (W : World) (n : Nat) (l : List (List UInt8)) : Prop:=∀ k,k < l.length → W.cell? ⟨n,k,none⟩ = some (.string ⟨(l.getD k []).toArray⟩)
theorem strRow_alloc (w : World) (l : List (List UInt8)) (t : TypeId) : StrRow (w.alloc (.cells (strVals l) t)) w.heap.size l:=by
 intro k hk
 have hb:=heap_of_alloc w (.cells (strVals l) t)
 have e1 : (w.alloc (.cells (strVals l) t)).cell? ⟨w.heap.size,k,none⟩ = (strVals l)[k]?:=by
  unfold World.cell?
  simp only [hb]
  simp
 rw [e1]
 unfold strVals
 rw [List.getElem?_toArray,List.getElem?_map,List.getD_eq_getElem?_getD,List.getElem?_eq_getElem hk]
 rfl
theorem StrRow.later {W W' : World} {n B : Nat} {l : List (List UInt8)} (h : StrRow W n l) (hn : n < B) (hb : Below B W W') : StrRow W' n l :=
 fun k hk => (hb.cell (p:=⟨n,k,none⟩) hn).trans (h k hk)
def RowOf (l : List (List UInt8)) (w : World) (e : Ending) (w' : World) : Prop:=∃ n,n = w.heap.size ∧ e = .returned (.slice (some ⟨n,0,none⟩) l.length l.length) ∧ StrRow w' n l ∧ Below w.heap.size w w' ∧ n < w'.heap.size
theorem rowOf_alloc (l : List (List UInt8)) (w : World) (t : TypeId) : RowOf l w (.returned (.slice (some ⟨w.heap.size,0,none⟩) l.length l.length)) (w.alloc (.cells (strVals l) t)) :=
 ⟨w.heap.size,rfl,rfl,strRow_alloc w l t,below_alloc _ _,by rw [size_of_alloc];omega⟩
theorem not_contains_take {l : List (List UInt8)} {s : List UInt8} {k : Nat} (h : k < l.length) (h1 : (l.take k).contains s = false) (h2 : l.getD k [] ≠ s) : (l.take (k + 1)).contains s = false:=by
 rw [List.take_succ_eq_append_getElem h,List.contains_eq_any_beq,List.any_append,← List.contains_eq_any_beq,h1]
 rw [List.getD_eq_getElem?_getD,List.getElem?_eq_getElem h] at h2
 simp only [Option.getD_some] at h2
 simp only [List.any_cons,List.any_nil,Bool.or_false,Bool.false_or]
 rw [beq_eq_false_iff_ne]
 exact fun e => h2 e.symm
theorem contains_at {l : List (List UInt8)} {s : List UInt8} {k : Nat} (h : k < l.length) (h2 : l.getD k [] = s) : l.contains s = true:=by
 rw [List.contains_iff_mem,← h2,List.getD_eq_getElem?_getD,List.getElem?_eq_getElem h]
 exact List.getElem_mem h
set_option maxHeartbeats 1000000 in
theorem has_any (n c : Nat) (l : List (List UInt8)) (s : List UInt8) (w : World) (hl : l.length ≤ 1000) (hr : StrRow w n l) :
 Calls Tryz.prog 171 #[.slice (some ⟨n,0,none⟩) l.length c,.string ⟨s.toArray⟩] w fun e w' => e = .returned (.bool (l.contains s)) ∧ w = w':=by
 have HR:=Lib.hid hr
 clear hr
 generalize hq : l.contains s = q
 have HQ:=Lib.hid hq
 clear hq
 go_enter Tryz.func171,Tryz.ntmps171
 go_wp2
 go_loop [5] (fun j => ∃ k : Nat,k ≤ l.length ∧ j = .int .i64 k ∧ Hid ((l.take k).contains s = false)) (fun j => l.length - (intOf j).toNat)
 case atStart => exact ⟨0,Nat.zero_le _,rfl,rfl⟩
 case round =>
  obtain ⟨k,hk,rfl,HA⟩:=hrel
  by_cases hlt : k < l.length
  ·have hcell:=HR.out k hlt
   by_cases he : l.getD k [] = s
   ·have HF : Hid (q = true):=Lib.hid (HQ.out ▸ contains_at hlt he)
    rw [he] at hcell
    clear he
    go_wp2
    go_ret
    exact ⟨by rw [HF.out] <;> rfl,rfl⟩
   ·have HT:=Lib.hid (not_contains_take hlt HA.out he)
    generalize l.getD k [] = t at *
    have hne : (t == s) = false:=beq_eq_false_iff_ne.2 he
    clear he
    go_wp2
    go_round
    case rel => exact ⟨k + 1,by omega,by go_num,HT⟩
    case measure => simp [intOf];omega
  ·have hke : k = l.length:=by omega
   have HF : Hid (q = false):=Lib.hid (by rw [← HQ.out,← HA.out,List.take_of_length_le (by omega)])
   clear hke
   go_wp2
   go_ret
   exact ⟨by rw [HF.out] <;> rfl,rfl⟩
end Go.Proofs.YtbalioicgpgehaaGreatDoor
namespace Go.Proofs.YtbalioicgpgehaaGreatDoor
open Go.RowKit
set_option maxHeartbeats 400000 in
theorem rkeywords_any (w : World) :
 Calls Tryz.prog 172 #[] w fun e w' => e = .returned (.slice (some ⟨w.heap.size,0,none⟩) 24 24) ∧ w' = w.alloc (.cells (strVals kws) 9):=by
 go_enter Tryz.func172,Tryz.ntmps172
 go_wp2
 go_ret
 exact ⟨rfl,rfl⟩
theorem rkeywords_rowOf (w : World) : Calls Tryz.prog 172 #[] w (RowOf kws w):=(rkeywords_any w).mono fun _ _ ⟨he,hw⟩ => by subst he hw;exact rowOf_alloc kws w _
def nameL (l : List UInt8) : Bool:=takeE l == 0 && takeK l == 1 && takeT l == l && !kws.contains l
def nameR (l : List UInt8) : Bool:=wordB l && decide (l.length ≤ 20) && !kws.contains l
theorem takeK_one {l : List UInt8} (h : takeK l = 1) : headIs ltr l = true:=by
 unfold takeK at h
 cases hl : headIs ltr l with
 | true => rfl
 | false =>
   rw [hl] at h
   simp only [Bool.false_eq_true,if_false] at h
   split at h
   ·exact absurd h (by decide)
   ·unfold symKind at h;split at h <;> exact absurd h (by decide)
theorem name_eq (l : List UInt8) : nameL l = nameR l:=by
 unfold nameL nameR
 congr 1
 rw [Bool.eq_iff_iff]
 simp only [Bool.and_eq_true,beq_iff_eq,decide_eq_true_eq]
 unfold wordB
 rw [Bool.and_eq_true]
 constructor
 ·rintro ⟨⟨hE,hK⟩,hT⟩
  have hl:=takeK_one hK
  unfold takeT takeE at *
  rw [hl] at hT hE
  simp only [if_true] at hT hE
  refine ⟨⟨hl,?_⟩,?_⟩
  ·rw [List.all_eq_true]
   intro c hc
   rw [← hT] at hc
   exact mem_run l c hc
  ·rw [hT] at hE
   unfold checkLen at hE
   split at hE
   ·assumption
   ·exact absurd hE (by decide)
 ·rintro ⟨⟨h1,h2⟩,h3⟩
  have := take_word h1 h2
  exact ⟨⟨this.2.2.trans (if_pos h3),this.1⟩,this.2.1⟩
set_option maxHeartbeats 1000000 in
theorem rname_any (l : List UInt8) (w : World) (hl : l.length ≤ maxLen) :
 Calls Tryz.prog 131 #[.string ⟨l.toArray⟩] w fun e w' => e = .returned (.bool (nameR l)) ∧ Below w.heap.size w w':=by
 have HW : Hid (∀ w,Calls Tryz.prog 170 #[.string ⟨l.toArray⟩] w fun e w' => e = .returned (.bool (wordB l)) ∧ w = w'):=Lib.hid (fun w => rword_any ⟨l.toArray⟩ w hl)
 unfold nameR
 generalize wordB l = wb at *
 have HH : Hid (∀ n W,StrRow W n kws → Calls Tryz.prog 171 #[.slice (some ⟨n,0,none⟩) 24 24,.string ⟨l.toArray⟩] W fun e w' => e = .returned (.bool (kws.contains l)) ∧ W = w'):=Lib.hid (fun n W h => has_any n 24 kws l W (by decide) h)
 generalize kws.contains l = kb at *
 cases wb with
 | false =>
   go_enter Tryz.func131,Tryz.ntmps131
   go_wp2_with (go_at_call 170;refine (HW.out _).mono ?_;rintro e w2 ⟨rfl,rfl⟩)
   go_ret
   exact ⟨rfl,Below.refl _ _⟩
 | true =>
   by_cases h : l.length ≤ 20
   ·have h2 : (l.length : Int) ≤ 20:=by omega
    have hd : Hid (decide (l.length ≤ 20) = true):=decide_eq_true h
    rw [hd.out]
    go_enter Tryz.func131,Tryz.ntmps131
    go_wp2_with (first
     | (go_at_call 170;refine (HW.out _).mono ?_;rintro e w2 ⟨rfl,rfl⟩)
     | (go_at_call 172;refine (rkeywords_rowOf _).mono ?_;rintro e w1 ⟨n,hn,rfl,hr,hb,hlt⟩;have HR:=Lib.hid (And.intro hr hb);clear hn hr hb hlt)
     | (go_at_call 171;refine (HH.out _ _ HR.out.1).mono ?_;rintro e w2 ⟨rfl,rfl⟩))
    go_ret
    exact ⟨by cases kb <;> rfl,HR.out.2⟩
   ·have h2 : ¬ (l.length : Int) ≤ 20:=by omega
    have hd : Hid (decide (l.length ≤ 20) = false):=decide_eq_false h
    rw [hd.out]
    go_enter Tryz.func131,Tryz.ntmps131
    go_wp2_with (first
     | (go_at_call 170;refine (HW.out _).mono ?_;rintro e w2 ⟨rfl,rfl⟩))
    go_ret
    exact ⟨rfl,Below.refl _ _⟩
set_option maxRecDepth 100000 in
set_option maxHeartbeats 2000000 in
theorem name_any (l : List UInt8) (w : World) (hl : l.length ≤ maxLen) :
 Calls Tryz.prog 125 #[.string ⟨l.toArray⟩] w fun e w' => e = .returned (.bool (nameL l)) ∧ Below w.heap.size w w':=by
 have HK : Hid (∀ W,Calls Tryz.prog 147 #[.string ⟨l.toArray⟩] W fun e w' => e = .returned (.bool (kws.contains l)) ∧ Below W.heap.size W w'):=Lib.hid (fun W => keyword_any ⟨l.toArray⟩ W hl)
 have HF : Hid (∀ W n,TakerAt W n → Calls Tryz.prog 210 #[.string ⟨l.toArray⟩,.pointer (some ⟨n + 9,0,none⟩)] W (Hit (takeK l) (takeT l) (takeE l) W)):=Lib.hid (fun W n h => first_any ⟨l.toArray⟩ W n h hl)
 unfold nameL
 generalize takeK l = tk at *
 generalize takeT l = tt at *
 generalize takeE l = te at *
 generalize kws.contains l = kb at *
 generalize hr : (te == 0 && tk == 1 && tt == l && !kb) = r
 have HQ:=Lib.hid hr
 clear hr
 cases h1 : (te == 0) <;> cases h2 : (tk == 1) <;> cases h3 : (tt == l)
 all_goals
  have HE:=Lib.hid (And.intro h1 (And.intro h2 h3))
  go_enter Tryz.func125,Tryz.ntmps125
  go_wp2_with (first
   | (go_at_call 146;refine (takeToken_any _).mono ?_;rintro e w1 ⟨rfl,hT,hb,hz⟩;have HT:=Lib.hid (And.intro hT hb);clear hT hb hz)
   | (go_at_call 210;refine (HF.out _ _ HT.out.1).mono ?_;rintro e w2 ⟨rfl,nq,rfl⟩)
   | (go_at_call 147;refine (HK.out _).mono ?_;rintro e w3 ⟨rfl,hb3⟩;have HB3:=Lib.hid hb3;clear hb3))
  go_ret
  refine ⟨by rw [← HQ.out,HE.out.1,HE.out.2.1,HE.out.2.2] <;> rfl,?_⟩
  first
   | exact below_drewN HT.out.2 _
   | exact (below_drewN HT.out.2 _).trans (HB3.out.mono (by have := HT.out.2.size;show _ ≤ w1.heap.size;omega))
end Go.Proofs.YtbalioicgpgehaaGreatDoor
