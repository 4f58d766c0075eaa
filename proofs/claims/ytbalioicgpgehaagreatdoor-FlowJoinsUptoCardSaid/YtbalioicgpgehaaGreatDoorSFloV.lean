import Derived.Test.YtbalioicgpgehaaGreatDoorSTypVs
import Derived.Test.YtbalioicgpgehaaGreatDoorSTreeMo
import Derived.Test.YtbalioicgpgehaaGreatDoorSFloM
import Derived.Deep.Onto
import Derived.BigQuiet
set_option linter.unusedVariables false
set_option linter.unusedSimpArgs false
namespace Go.Proofs.YtbalioicgpgehaaGreatDoor
set_option maxRecDepth 100000
set_option maxHeartbeats 2000000
open Go.RowKit Go.Lib Go.Maps
open Go.Sort
abbrev encF (s : List UInt8) : Value:=.string ⟨s.toArray⟩
def NmPost (ns : List (List UInt8)) (w : World) (e : Ending) (w' : World) : Prop :=
 ∃ (A : Option Addr) (c : Nat) (m : List (List UInt8)),e = .returned (.slice A m.length c) ∧ w'.ownsRow w.heap.size 9 1 (.slice A m.length c) m.length (m.map encF) ∧ (∀ x,x ∈ m ↔ x ∈ ns) ∧ (∀ x ∈ m,x.length ≤ maxLen) ∧ m.length ≤ ns.length ∧ Below w.heap.size w w'
def Asc (l : List (List UInt8)) : Prop:=l.Nodup ∧ l.Pairwise (fun x y => x ≤ y)
theorem asc_eq {l m : List (List UInt8)} (hl : Asc l) (hm : Asc m) (h : ∀ x,x ∈ l ↔ x ∈ m) : l = m :=
 List.Perm.eq_of_pairwise (le:=fun x y => x ≤ y) (fun a b _ _ h1 h2 => List.le_antisymm h1 h2) hl.2 hm.2 ((List.perm_ext_iff_of_nodup hl.1 hm.1).2 h)
theorem strKeys_nodup {es : List (Lit × DataW Unit)} (hp : es.Pairwise (fun p q => p.1 ≠ q.1)) (hk : ∀ p ∈ es,∃ x,p.1 = .string x) : (strKeys (.map es)).Nodup:=by
 show (es.map fun p => strOf p.1).Nodup
 refine List.pairwise_map.2 (hp.imp_of_mem fun {p q} hp' hq' hne e => hne ?_)
 obtain ⟨a,ha⟩:=hk p hp'
 obtain ⟨b,hb⟩:=hk q hq'
 rw [ha,hb] at e ⊢
 exact congrArg _ e
theorem asc_sorted {ss : List (List UInt8)} (h : ss.Nodup) : Asc (ss.mergeSort (fun x y => decide (x ≤ y))):=by
 have tr : ∀ a b c : List UInt8,decide (a ≤ b) = true → decide (b ≤ c) = true → decide (a ≤ c) = true:=fun a b c h1 h2 => by simp only [decide_eq_true_eq] at *;exact List.le_trans h1 h2
 have tt : ∀ a b : List UInt8,(decide (a ≤ b) || decide (b ≤ a)) = true:=fun a b => by simp only [Bool.or_eq_true,decide_eq_true_eq];exact List.le_total a b
 refine ⟨((List.mergeSort_perm ss _).nodup_iff).2 h,?_⟩
 exact (List.pairwise_mergeSort tr tt ss).imp fun h => by simpa using h
theorem strKeys_len (D : DataW Unit) (es : List (Lit × DataW Unit)) (h : D = .map es) : (strKeys D).length = Maps.size D:=by
 subst h
 show (es.map fun p => strOf p.1).length = _
 rw [List.length_map]
 rfl
theorem vars_allF (k nn : Int) (s : List UInt8) (l : List Ex) (A : Option Addr) (c : Nat) (w : World) (hr : ExRow w w.heap.size l A) (hs : s.length ≤ maxLen) (hl : l.length ≤ maxLen) (hcnt : (exVars (.mk k nn s l)).length ≤ 8000000000000) :
 Calls Tryz.prog 76 #[exprV k nn ⟨s.toArray⟩ (.slice A l.length c)] w (NmPost (exVars (.mk k nn s l)) w):=by
 have hsz:=putN_size (exVars (.mk k nn s l))
 refine (vars_any k nn ⟨s.toArray⟩ A l.length c (0 + (exVars (.mk k nn s l)).length) (putN (.map []) (exVars (.mk k nn s l))) w (by unfold maxLen;omega) (by omega) (fun W b hb hbb hO => ?_)).mono ?_
 ·exact collect_at _ l (Nat.lt_succ_self _) k nn s A c b 0 w.heap.size (.map []) W (hr.keep (fun q hq => hb.cell hq) (Nat.le_refl _)) hbb hO hs hl (by unfold maxLen;omega)
 ·rintro e w' ⟨v,ss,B,rfl,hp,hB,hrow,_,hbl⟩
  have hm : ∀ x,x ∈ ss.mergeSort (fun x y => decide (x ≤ y)) ↔ x ∈ exVars (.mk k nn s l):=fun x => by rw [List.mem_mergeSort,hp.mem_iff,putN_keys]
  obtain ⟨es,he,_⟩:=putN_strs (exVars (.mk k nn s l))
  have hlen : ss.length ≤ (exVars (.mk k nn s l)).length:=by rw [hp.length_eq,strKeys_len _ es he];exact hsz
  have hrow2 : w'.ownsRow B 9 1 v (ss.mergeSort (fun x y => decide (x ≤ y))).length ((ss.mergeSort (fun x y => decide (x ≤ y))).map encF):=by
   rw [List.length_mergeSort]
   exact hrow
  obtain ⟨A',c',rfl⟩:=own_sliceM hrow2
  exact ⟨A',c',ss.mergeSort (fun x y => decide (x ≤ y)),rfl,hrow2.mono hB,hm,fun x hx => ex_lens hr hs x ((hm x).1 hx),by rw [List.length_mergeSort];exact hlen,hbl⟩
theorem equalStr_same (A B : Option Addr) (c d n : Nat) (l : List (List UInt8)) (hn : n = l.length) (hl : n ≤ maxLen) (B0 B1 : Nat) (w : World) (hA : Reads w B0 1 A n (l.map encF)) (hB : Reads w B1 1 B n (l.map encF)) :
 Calls Tryz.prog 22 #[.slice A n c,.slice B n d] w fun e w' => e = .returned (.bool true) ∧ Below w.heap.size w w':=by
 have HH:=Lib.hid (And.intro hA (And.intro hB hn))
 unfold maxLen at hl
 clear hA hB hn
 go_enter Tryz.func22,Tryz.ntmps22
 go_wp2
 go_loopg [13] n (fun mm j wr => ∃ k : Nat,mm = n - k ∧ k ≤ n ∧ j = .int .i64 k ∧ Hid (∃ q,wr = w.drewN q))
 case atStart => exact ⟨0,rfl,Nat.zero_le _,rfl,Lib.hid ⟨0,rfl⟩⟩
 case round =>
  obtain ⟨k,rfl,hk,rfl,HI⟩:=hrel
  obtain ⟨q,rfl⟩:=HI.out
  by_cases hlt : k < n
  ·have hlt' : (k : Int) < n:=by omega
   obtain ⟨x,hx⟩ : ∃ x,l[k]? = some x:=⟨l[k]'(by rw [← HH.out.2.2];exact hlt),List.getElem?_eq_getElem _⟩
   have hxe : (l.map encF)[k]? = some (encF x):=by rw [List.getElem?_map,hx];rfl
   obtain ⟨a,u,rfl,_,hu,c0⟩:=HH.out.1.at_ hlt
   obtain ⟨b,v,rfl,_,hv,d0⟩:=HH.out.2.1.at_ hlt
   obtain rfl : u = encF x:=Option.some.inj (hu.symm.trans hxe)
   obtain rfl : v = encF x:=Option.some.inj (hv.symm.trans hxe)
   clear hx hu hv hxe
   have hk0 : (0 : Int) ≤ k:=by omega
   go_wp2
   go_quiet (fail)
   go_wp2
   go_roundg (n - (k + 1))
   case measure => omega
   case rel => exact ⟨k + 1,rfl,by omega,by go_num,Lib.hid ⟨_,rfl⟩⟩
  ·have hlt' : ¬ (k : Int) < n:=by omega
   go_wp2
   go_ret
   exact ⟨rfl,below_dn (Below.refl _ _) _⟩
end Go.Proofs.YtbalioicgpgehaaGreatDoor
namespace Go.Proofs.YtbalioicgpgehaaGreatDoor
set_option maxRecDepth 100000
set_option maxHeartbeats 8000000
open Go.RowKit Go.Lib
mutual
def cnVars : Cn → List (List UInt8)
 | .mk _ a b l => exVars a ++ exVars b ++ cnsVars l
def cnsVars : List Cn → List (List UInt8)
 | [] => []
 | x :: l => cnVars x ++ cnsVars l
end
theorem cnsVars_append : ∀ l m : List Cn,cnsVars (l ++ m) = cnsVars l ++ cnsVars m
 | [],_ => by rw [cnsVars];rfl
 | x :: l,m => by rw [List.cons_append,cnsVars,cnsVars,cnsVars_append l m,List.append_assoc]
theorem cnsVars_take (l : List Cn) (k : Nat) (x : Cn) (h : l[k]? = some x) : cnsVars (l.take (k + 1)) = cnsVars (l.take k) ++ cnVars x:=by
 rw [List.take_add_one,h,cnsVars_append]
 show _ ++ cnsVars [x] = _
 rw [cnsVars,cnsVars,List.append_nil]
theorem cnsVars_le (l : List Cn) (i : Nat) (x : Cn) (h : l[i]? = some x) : (cnsVars (l.take i)).length + (cnVars x).length ≤ (cnsVars l).length:=by
 have e : l = l.take (i + 1) ++ l.drop (i + 1):=(List.take_append_drop ..).symm
 have h2 : (cnsVars l).length = (cnsVars (l.take (i + 1))).length + (cnsVars (l.drop (i + 1))).length:=by
  conv => lhs;rw [e,cnsVars_append,List.length_append]
 rw [h2,cnsVars_take l i x h,List.length_append]
 omega
theorem encF_one (m : List (List UInt8)) : ∀ u ∈ m.map encF,u.oneCell' = true:=by
 intro u hu
 obtain ⟨s,_,rfl⟩:=List.mem_map.1 hu
 rfl
def NmRow (ns : List (List UInt8)) (B : Nat) (W : World) (A : Option Addr) (n c : Nat) : Prop :=
 ∃ m : List (List UInt8),n = m.length ∧ W.ownsRow B 9 1 (.slice A n c) n (m.map encF) ∧ (∀ x,x ∈ m ↔ x ∈ ns) ∧ (∀ x ∈ m,x.length ≤ maxLen) ∧ n ≤ ns.length
theorem NmRow.on {ns : List (List UInt8)} {B : Nat} {W W' : World} {A : Option Addr} {n c : Nat} (h : NmRow ns B W A n c) (hb : Below W.heap.size W W') : NmRow ns B W' A n c:=by
 obtain ⟨m,h1,h2,h3⟩:=h
 exact ⟨m,h1,own_below h2 hb (fun g hg => (own_lt h2 g hg).2),h3⟩
theorem NmRow.mono {ns : List (List UInt8)} {B B' : Nat} {W : World} {A : Option Addr} {n c : Nat} (h : NmRow ns B W A n c) (hb : B' ≤ B) : NmRow ns B' W A n c:=by
 obtain ⟨m,h1,h2,h3⟩:=h
 exact ⟨m,h1,h2.mono hb,h3⟩
theorem NmPost.row {ns : List (List UInt8)} {w w' : World} {e : Ending} (h : NmPost ns w e w') : ∃ (A : Option Addr) (n c : Nat),e = .returned (.slice A n c) ∧ NmRow ns w.heap.size w' A n c ∧ Below w.heap.size w w':=by
 obtain ⟨A,c,m,h1,h2,h3,h4,h5,h6⟩:=h
 exact ⟨A,m.length,c,h1,⟨m,rfl,h2,h3,h4,h5⟩,h6⟩
theorem NmRow.post {ns : List (List UInt8)} {w w' : World} {A : Option Addr} {n c : Nat} (h : NmRow ns w.heap.size w' A n c) (hb : Below w.heap.size w w') : NmPost ns w (.returned (.slice A n c)) w':=by
 obtain ⟨m,rfl,h2,h3,h4,h5⟩:=h
 exact ⟨A,c,m,rfl,h2,h3,h4,h5,hb⟩
theorem nm_append {o : Oper} {a : Act} {K : Act → World → Prop} {Q : Exit → Act → World → Prop} (w : World) (s x : Operand)
 (ho : o.op = .call { callee:=.builtin .append,args:=#[s,x],argTypes:=#[55,55] })
 {ns ms : List (List UInt8)} {B0 B : Nat} {A A2 : Option Addr} {n c n2 c2 : Nat} (hs : a.eval s = .slice A n c) (hx : a.eval x = .slice A2 n2 c2) (h1 : NmRow ns B0 w A n c) (h2 : NmRow ms B w A2 n2 c2) (hlen : ns.length + ms.length ≤ 8000000000000) (hB : B0 ≤ w.heap.size)
 (h : ∀ A' n' c' w',NmRow (ns ++ ms) B0 w' A' n' c' → Below B0 w w' → K (a.put o.dst (.slice A' n' c')) w') : o.wp Tryz.prog a w K Q:=by
 obtain ⟨i0,hi0,hiz,his,hib⟩:=info_parts infoStrA
 obtain ⟨m,rfl,o1,q1,q2,q3⟩:=h1
 obtain ⟨m2,rfl,o2,q4,q5,q6⟩:=h2
 refine wp_append_any w s x 55 ho B0 9 i0 _ 1 16 Tryz.underlying55 hi0 hiz his hib rfl (by decide) _ m.length (m.map encF) hs o1 _ A2 m2.length c2 (m2.map encF) hx (Reads.of_own o2) (encF_one m2) (by unfold maxLen;omega) (by omega) hB ?_
 intro v1 w1 o3 g1 _
 obtain ⟨A9,c9,rfl⟩:=own_sliceM o3
 refine h A9 _ c9 w1 ⟨m ++ m2,by rw [List.length_append],by rw [List.map_append];exact o3,fun y => by rw [List.mem_append,List.mem_append,q1,q4],fun y hy => ?_,by rw [List.length_append];omega⟩ (below_grown o1 g1 hB)
 rcases List.mem_append.1 hy with hy | hy
 ·exact q2 y hy
 ·exact q5 y hy
theorem nmL_append {ops : Array Oper} {rest : List Oper} {o : Oper} {a : Act} {Q : Exit → Act → World → Prop} (w : World) (hgd : o.guard = none) (s x : Operand)
 (ho : o.op = .call { callee:=.builtin .append,args:=#[s,x],argTypes:=#[55,55] })
 {ns ms : List (List UInt8)} {B0 B : Nat} {A A2 : Option Addr} {n c n2 c2 : Nat} (hs : a.eval s = .slice A n c) (hx : a.eval x = .slice A2 n2 c2) (h1 : NmRow ns B0 w A n c) (h2 : NmRow ms B w A2 n2 c2) (hlen : ns.length + ms.length ≤ 8000000000000) (hB : B0 ≤ w.heap.size)
 (h : ∀ A' n' c' w',NmRow (ns ++ ms) B0 w' A' n' c' → Below B0 w w' → wpList Tryz.prog ops Q rest (a.put o.dst (.slice A' n' c')) w') : wpList Tryz.prog ops Q (o :: rest) a w :=
 wpList_plain hgd fun _ hK => nm_append w s x ho hs hx h1 h2 hlen hB fun A' n' c' w' h3 h4 => hK _ _ (h A' n' c' w' h3 h4)
theorem cvars_any : ∀ (M : Nat) (l : List Cn),SizeOf.sizeOf l < M → ∀ (k ak an : Int) (sa : List UInt8) (al : List Ex) (bk bn : Int) (sb : List UInt8) (bl : List Ex) (Aa : Option Addr) (ca : Nat) (Ab : Option Addr) (cb : Nat) (Al : Option Addr) (cl : Nat) (w : World),
 ExRow w w.heap.size al Aa → ExRow w w.heap.size bl Ab → CnRow w w.heap.size l Al → sa.length ≤ maxLen → al.length ≤ maxLen → sb.length ≤ maxLen → bl.length ≤ maxLen → l.length ≤ maxLen → (cnVars (.mk k (.mk ak an sa al) (.mk bk bn sb bl) l)).length ≤ 8000000000000 →
 Calls Tryz.prog 77 #[condV2 k ak an ⟨sa.toArray⟩ (.slice Aa al.length ca) bk bn ⟨sb.toArray⟩ (.slice Ab bl.length cb) (.slice Al l.length cl)] w (NmPost (cnVars (.mk k (.mk ak an sa al) (.mk bk bn sb bl) l)) w):=by
 intro M
 induction M with
 | zero => intro l h;omega
 | succ M ih =>
   intro l hM k ak an sa al bk bn sb bl Aa ca Ab cb Al cl w ra rb rl m1 m2 m3 m4 m5 hcnt
   rw [cnVars] at hcnt ⊢
   rw [List.length_append,List.length_append] at hcnt
   have hmx : Tryz.prog.follows .mixedOrders = true:=by kernel_rfl
   obtain ⟨nl,hnl⟩ : ∃ n,n = l.length:=⟨_,rfl⟩
   obtain ⟨W1,hW1⟩ : ∃ W1,W1 = w.alloc (condC2 k ak an ⟨sa.toArray⟩ (.slice Aa al.length ca) bk bn ⟨sb.toArray⟩ (.slice Ab bl.length cb) (.slice Al nl cl)):=⟨_,rfl⟩
   have hb1 : Below w.heap.size w W1:=by rw [hW1];exact below_alloc w _
   have hp1 : W1.heap[w.heap.size]? = some (condC2 k ak an ⟨sa.toArray⟩ (.slice Aa al.length ca) bk bn ⟨sb.toArray⟩ (.slice Ab bl.length cb) (.slice Al nl cl)):=by rw [hW1];exact heap_of_alloc w _
   have HV1 : Hid (∀ W,Below W1.heap.size W1 W → Calls Tryz.prog 76 #[exprV ak an ⟨sa.toArray⟩ (.slice Aa al.length ca)] W (NmPost (exVars (.mk ak an sa al)) W)):=Lib.hid (fun W hb => vars_allF ak an sa al Aa ca W (ra.on (hb1.chain hb)) m1 m2 (by omega))
   have HV2 : Hid (∀ W,Below W1.heap.size W1 W → Calls Tryz.prog 76 #[exprV bk bn ⟨sb.toArray⟩ (.slice Ab bl.length cb)] W (NmPost (exVars (.mk bk bn sb bl)) W)):=Lib.hid (fun W hb => vars_allF bk bn sb bl Ab cb W (rb.on (hb1.chain hb)) m3 m4 (by omega))
   obtain ⟨S,hS⟩ : ∃ S : World → Prop,S = fun W => Below W1.heap.size W1 W:=⟨_,rfl⟩
   have HS2 : Hid (∀ W,Below W1.heap.size W1 W → S W):=Lib.hid (fun W hb => by rw [hS];exact hb)
   obtain ⟨na,hna⟩ : ∃ n,n = al.length:=⟨_,rfl⟩
   obtain ⟨nb,hnb⟩ : ∃ n,n = bl.length:=⟨_,rfl⟩
   rw [← hna] at HV1 hp1 hW1 ⊢
   rw [← hnb] at HV2 hp1 hW1 ⊢
   have HLD : Hid (∀ W,S W → (W.cell? ⟨w.heap.size,1,none⟩ = some (.int .i64 ak) ∧ W.cell? ⟨w.heap.size,2,none⟩ = some (.int .i64 an) ∧ W.cell? ⟨w.heap.size,3,none⟩ = some (.string ⟨sa.toArray⟩) ∧ W.cell? ⟨w.heap.size,4,none⟩ = some (.slice Aa na ca)) ∧
    (W.cell? ⟨w.heap.size,5,none⟩ = some (.int .i64 bk) ∧ W.cell? ⟨w.heap.size,6,none⟩ = some (.int .i64 bn) ∧ W.cell? ⟨w.heap.size,7,none⟩ = some (.string ⟨sb.toArray⟩) ∧ W.cell? ⟨w.heap.size,8,none⟩ = some (.slice Ab nb cb)) ∧ W.cell? ⟨w.heap.size,9,none⟩ = some (.slice Al nl cl)):=Lib.hid (fun W hs => by
    rw [hS] at hs
    have q:=kept_box hs hp1
    exact ⟨⟨cell_of_block q 1 rfl,cell_of_block q 2 rfl,cell_of_block q 3 rfl,cell_of_block q 4 rfl⟩,⟨cell_of_block q 5 rfl,cell_of_block q 6 rfl,cell_of_block q 7 rfl,cell_of_block q 8 rfl⟩,cell_of_block q 9 rfl⟩)
   obtain ⟨Va,hVa⟩ : ∃ v,v = exVars (.mk ak an sa al):=⟨_,rfl⟩
   obtain ⟨Vb,hVb⟩ : ∃ v,v = exVars (.mk bk bn sb bl):=⟨_,rfl⟩
   rw [← hVa] at HV1 hcnt ⊢
   rw [← hVb] at HV2 hcnt ⊢
   have ih2 : ∀ l : List Cn,SizeOf.sizeOf l < M → ∀ (k ak an : Int) (sa : List UInt8) (al : List Ex) (bk bn : Int) (sb : List UInt8) (bl : List Ex) (Aa : Option Addr) (ca : Nat) (Ab : Option Addr) (cb : Nat) (Al : Option Addr) (cl : Nat) (w : World),
    ExRow w w.heap.size al Aa → ExRow w w.heap.size bl Ab → CnRow w w.heap.size l Al → sa.length ≤ maxLen → al.length ≤ maxLen → sb.length ≤ maxLen → bl.length ≤ maxLen → l.length ≤ maxLen → (cnVars (.mk k (.mk ak an sa al) (.mk bk bn sb bl) l)).length ≤ 8000000000000 →
    Calls Tryz.prog 77 #[condV2 k ak an ⟨sa.toArray⟩ (.slice Aa al.length ca) bk bn ⟨sb.toArray⟩ (.slice Ab bl.length cb) (.slice Al l.length cl)] w (NmPost (cnVars (.mk k (.mk ak an sa al) (.mk bk bn sb bl) l)) w):=ih
   have HH:=Lib.hid (And.intro rl (And.intro hM (And.intro ih2 (And.intro hcnt (And.intro hnl hb1)))))
   have HX0:=Lib.hid (Below.refl W1.heap.size W1).drew
   have g0:=HS2.out _ HX0.out
   rw [← hnl] at m5 ⊢
   unfold maxLen at m5
   clear ra rb rl m1 m2 m3 m4 hcnt hnl hb1 hp1 hS hVa hVb ih ih2 hM hna hnb
   go_enter Tryz.func77,Tryz.ntmps77
   go_wp2
   rw [← hW1]
   clear hW1
   refine wp_region_held (S:=S) hmx ?_
   change wpAnyH _ _ _ _ _ 8 #[false,false,false,false,false,false,false,false] _ W1.drew
   refine tk 0 6 (.pointer (some ⟨w.heap.size,1,none⟩)) g0 ?v ?_
   case v => intro Wx hSx;go_simp
   refine tk 1 7 (exprV ak an ⟨sa.toArray⟩ (.slice Aa na ca)) g0 ?v ?_
   case v => intro Wx hSx;obtain ⟨⟨z1,z2,z3,z4⟩,⟨z5,z6,z7,z8⟩,z9⟩:=HLD.out Wx hSx;go_simp
   refine tk 3 9 (.pointer (some ⟨w.heap.size,5,none⟩)) g0 ?v ?_
   case v => intro Wx hSx;go_simp
   refine tk 4 10 (exprV bk bn ⟨sb.toArray⟩ (.slice Ab nb cb)) g0 ?v ?_
   case v => intro Wx hSx;obtain ⟨⟨z1,z2,z3,z4⟩,⟨z5,z6,z7,z8⟩,z9⟩:=HLD.out Wx hSx;go_simp
   try simp only [Act.put,List.setIfInBounds_toArray,List.set_cons_zero,List.set_cons_succ]
   try simp only [Act.put,List.setIfInBounds_toArray,List.set_cons_zero,List.set_cons_succ]
   refine o1 2 (fun K hK => ?_)
   go_simp
   (with_reducible refine (HV1.out _ HX0.out).mono ?_)
   rintro e w3 hp
   obtain ⟨A1,n1,c1,rfl,q1,hb3⟩:=hp.row
   have H3:=Lib.hid (HX0.out.chain hb3)
   have hs3:=HS2.out _ H3.out
   have HN1 : Hid (NmRow Va W1.heap.size w3 A1 n1 c1):=Lib.hid q1
   clear hb3 q1 hp
   refine hK _ _ hs3 ?_
   clear hK K
   try simp only [Act.put,List.setIfInBounds_toArray,List.set_cons_zero,List.set_cons_succ]
   refine o1 5 (fun K hK => ?_)
   go_simp
   (with_reducible refine (HV2.out _ H3.out).mono ?_)
   rintro e w4 hp
   obtain ⟨A2,n2,c2,rfl,q2,hb4⟩:=hp.row
   have H4:=Lib.hid (H3.out.chain hb4)
   have hs4:=HS2.out _ H4.out
   have HN2:=Lib.hid (And.intro (HN1.out.on hb4) q2)
   clear hb4 q2 hp
   refine hK _ _ hs4 ?_
   clear hK K
   try simp only [Act.put,List.setIfInBounds_toArray,List.set_cons_zero,List.set_cons_succ]
   refine o1 6 (fun K hK => ?_)
   refine nm_append w4 _ _ rfl rfl rfl HN2.out.1 HN2.out.2 (by have := HH.out.2.2.2.1;omega) H4.out.size ?_
   intro A3 n3 c3 w5 q3 hb5
   have H5:=Lib.hid (H4.out.trans hb5)
   have hs5:=HS2.out _ H5.out
   have HN3:=Lib.hid q3
   clear hb5 q3
   refine hK _ _ hs5 ?_
   clear hK K
   try simp only [Act.put,List.setIfInBounds_toArray,List.set_cons_zero,List.set_cons_succ]
   refine tk 7 3 (.slice A3 n3 c3) hs5 ?v ?_
   case v => intro Wx hSx;go_simp
   try simp only [Act.put,List.setIfInBounds_toArray,List.set_cons_zero,List.set_cons_succ]
   refine wpAnyH_done (by kernel_rfl) ?_ _
   obtain ⟨⟨z1,z2,z3,z4⟩,⟨z5,z6,z7,z8⟩,z9⟩:=HLD.out w5 hs5
   clear z1 z2 z3 z4 z5 z6 z7 z8
   go_wp2
   go_loopg [3,16] nl (fun mm v j wr => ∃ (i n c : Nat) (A : Option Addr),mm = nl - i ∧ i ≤ nl ∧ j = .int .i64 i ∧ v = .slice A n c ∧ Hid (NmRow (Va ++ Vb ++ cnsVars (l.take i)) W1.heap.size wr A n c ∧ Below W1.heap.size W1 wr))
   case atStart => exact ⟨0,n3,c3,A3,rfl,Nat.zero_le _,rfl,rfl,Lib.hid ⟨by rw [List.take_zero,cnsVars,List.append_nil];exact HN3.out,H5.out⟩⟩
   case round =>
    obtain ⟨i,n,c,A,rfl,hi,rfl,rfl,HI⟩:=hrel
    have hi0 : (0 : Int) ≤ i:=by omega
    by_cases hlt : i < nl
    ·have hii : (i : Int) < nl:=by omega
     obtain ⟨x,hg⟩ : ∃ x,l[i]? = some x:=⟨l[i]'(by rw [← HH.out.2.2.2.2.1];exact hlt),List.getElem?_eq_getElem _⟩
     obtain ⟨k0,⟨ak0,an0,sa0,al0⟩,⟨bk0,bn0,sb0,bl0⟩,l0⟩:=x
     have hbw : Below w.heap.size w wr:=HH.out.2.2.2.2.2.chain HI.out.2
     obtain ⟨a,Aa0,Ca0,Ab0,Cb0,Al0,Cl0,rfl,hab,hcc,p1,p2,p3,p4,p5,xa,xb,xl⟩:=(HH.out.1.on hbw).at_ hg
     obtain ⟨y0,y1,y2,y3,y4,y5,y6,y7,y8,y9⟩:=hcc
     have d0 : wr.cell? (a.add (i * 10)) = some (.int .i64 k0):=y0
     have d1 : wr.cell? ⟨(a.add (i * 10)).block,(a.add (i * 10)).off + 1,none⟩ = some (.int .i64 ak0):=y1
     have d2 : wr.cell? ⟨(a.add (i * 10)).block,(a.add (i * 10)).off + 2,none⟩ = some (.int .i64 an0):=y2
     have d3 : wr.cell? ⟨(a.add (i * 10)).block,(a.add (i * 10)).off + 3,none⟩ = some (.string ⟨sa0.toArray⟩):=y3
     have d4 : wr.cell? ⟨(a.add (i * 10)).block,(a.add (i * 10)).off + 4,none⟩ = some (.slice Aa0 al0.length Ca0):=y4
     have d5 : wr.cell? ⟨(a.add (i * 10)).block,(a.add (i * 10)).off + 5,none⟩ = some (.int .i64 bk0):=y5
     have d6 : wr.cell? ⟨(a.add (i * 10)).block,(a.add (i * 10)).off + 6,none⟩ = some (.int .i64 bn0):=y6
     have d7 : wr.cell? ⟨(a.add (i * 10)).block,(a.add (i * 10)).off + 7,none⟩ = some (.string ⟨sb0.toArray⟩):=y7
     have d8 : wr.cell? ⟨(a.add (i * 10)).block,(a.add (i * 10)).off + 8,none⟩ = some (.slice Ab0 bl0.length Cb0):=y8
     have d9 : wr.cell? ⟨(a.add (i * 10)).block,(a.add (i * 10)).off + 9,none⟩ = some (.slice Al0 l0.length Cl0):=y9
     have hle:=cnsVars_le l i _ hg
     obtain ⟨Vx,hVx⟩ : ∃ v,v = cnVars (.mk k0 (.mk ak0 an0 sa0 al0) (.mk bk0 bn0 sb0 bl0) l0):=⟨_,rfl⟩
     rw [← hVx] at hle
     have htk:=cnsVars_take l i _ hg
     rw [← hVx] at htk
     obtain ⟨W6,hW6⟩ : ∃ W6,W6 = wr.alloc (condC2 k0 ak0 an0 ⟨sa0.toArray⟩ (.slice Aa0 al0.length Ca0) bk0 bn0 ⟨sb0.toArray⟩ (.slice Ab0 bl0.length Cb0) (.slice Al0 l0.length Cl0)):=⟨_,rfl⟩
     have hb6 : Below wr.heap.size wr W6:=by rw [hW6];exact below_alloc wr _
     have HC : Hid (Calls Tryz.prog 77 #[condV2 k0 ak0 an0 ⟨sa0.toArray⟩ (.slice Aa0 al0.length Ca0) bk0 bn0 ⟨sb0.toArray⟩ (.slice Ab0 bl0.length Cb0) (.slice Al0 l0.length Cl0)] W6 (NmPost Vx W6)):=Lib.hid (by
      rw [hVx]
      refine HH.out.2.2.1 l0 ?_ k0 ak0 an0 sa0 al0 bk0 bn0 sb0 bl0 Aa0 Ca0 Ab0 Cb0 Al0 Cl0 W6 (xa.on hb6) (xb.on hb6) (xl.on hb6) p1 p2 p3 p4 p5 ?_
      ·have h1:=HH.out.2.1
       have h2:=List.sizeOf_lt_of_mem (List.mem_of_getElem? hg)
       have h3 : SizeOf.sizeOf l0 < SizeOf.sizeOf (Cn.mk k0 (.mk ak0 an0 sa0 al0) (.mk bk0 bn0 sb0 bl0) l0):=by simp;omega
       omega
      ·have := HH.out.2.2.2.1
       rw [← hVx]
       omega)
     have H6 : Hid (Below W1.heap.size W1 W6 ∧ NmRow (Va ++ Vb ++ cnsVars (l.take i)) W1.heap.size W6 A n c):=Lib.hid ⟨HI.out.2.chain hb6,HI.out.1.on hb6⟩
     rw [hW6] at HC H6
     have HG:=Lib.hid (And.intro htk (And.intro hle hlt))
     clear hg hbw hab p1 p2 p3 p4 p5 xa xb xl y0 y1 y2 y3 y4 y5 y6 y7 y8 y9 hle hVx htk hb6 hW6
     generalize al0.length = na0 at *
     generalize bl0.length = nb0 at *
     generalize l0.length = nl0 at *
     go_wp2_with (first
      | (go_at_call 77;(with_reducible refine HC.out.mono ?_);rintro e w7 hp;obtain ⟨A7,n7,c7,rfl,q7,hb7⟩:=hp.row;have H7:=Lib.hid (And.intro (H6.out.1.chain hb7) (And.intro (H6.out.2.on hb7) q7));clear hb7 q7 hp)
      | (at_builtin;refine nmL_append (o:=⟨some 23,_,_,_,_,_⟩) _ rfl _ _ rfl rfl rfl H7.out.2.1 H7.out.2.2 (by have h1:=HH.out.2.2.2.1;have h2:=HG.out.2.1;simp only [List.length_append];omega) H7.out.1.size ?_;intro A8 n8 c8 w8 q8 hb8;have H8:=Lib.hid (And.intro (H7.out.1.trans hb8) q8);clear q8 hb8))
     go_roundg (nl - (i + 1))
     case measure => have := HG.out.2.2;omega
     case rel => exact ⟨i + 1,n8,c8,A8,rfl,(by have := HG.out.2.2;omega),by go_num,rfl,Lib.hid ⟨by rw [HG.out.1,← List.append_assoc];exact H8.out.2,H8.out.1⟩⟩
    ·obtain rfl : i = nl:=by omega
     go_wp2
     go_ret
     have h1:=HI.out.1
     rw [List.take_of_length_le (by rw [← HH.out.2.2.2.2.1];exact Nat.le_refl _)] at h1
     exact (h1.mono (HH.out.2.2.2.2.2.size)).post (HH.out.2.2.2.2.2.chain HI.out.2)
end Go.Proofs.YtbalioicgpgehaaGreatDoor
