import Derived.Test.YtbalioicgpgehaaGreatDoorSTreeGl
import Derived.Test.YtbalioicgpgehaaGreatDoorSTreeL
import Derived.Test.YtbalioicgpgehaaGreatDoorSTreeSz
import Derived.MakeChecks
import Derived.OpenShut
import Derived.Test.YtbalioicgpgehaaGreatDoorSTreeUa
import Derived.Test.YtbalioicgpgehaaGreatDoorSTreeUb
import Derived.Test.YtbalioicgpgehaaGreatDoorSTreeUc
import Derived.Test.YtbalioicgpgehaaGreatDoorSTreeUd
import Derived.Test.YtbalioicgpgehaaGreatDoorSTreeUe
import Derived.Test.YtbalioicgpgehaaGreatDoorSTreeUf
import Derived.Test.YtbalioicgpgehaaGreatDoorSTreeO
import Derived.Test.YtbalioicgpgehaaGreatDoorSTreeAx
set_option linter.unusedVariables false
set_option linter.unusedSimpArgs false
namespace Go.Proofs.YtbalioicgpgehaaGreatDoor
set_option maxRecDepth 100000
set_option maxHeartbeats 4000000
open Go.RowKit
theorem lenU {α : Type} (l : List α) (f : α → Bool) : (decide ((0 : Int) ≤ l.length) && decide ((l.length : Int) ≤ 0) && l.all f) = decide ((l.length : Int) = 0):=by
 cases l with
 | nil => rfl
 | cons x l =>
   have h1 : decide (((x :: l).length : Int) ≤ 0) = false:=decide_eq_false (by rw [List.length_cons];omega)
   have h2 : decide (((x :: l).length : Int) = 0) = false:=decide_eq_false (by rw [List.length_cons];omega)
   rw [h1,h2]
   simp
theorem emptyU {α : Type} (l : List α) : l.isEmpty = decide ((l.length : Int) = 0):=by
 cases l with
 | nil => rfl
 | cons x l =>
   rw [decide_eq_false (by rw [List.length_cons];omega)]
   rfl
theorem lenU1 {α : Type} (l : List α) (d : α) (f : α → Bool) : (decide ((1 : Int) ≤ l.length) && decide ((l.length : Int) ≤ 1) && l.all f) = (decide ((l.length : Int) = 1) && (List.range 1).all fun q => f (l.getD q d)):=by
 match l with
 | [] => rfl
 | [x] => simp
 | x :: y :: l =>
   have h1 : decide (((x :: y :: l).length : Int) ≤ 1) = false:=decide_eq_false (by simp only [List.length_cons];omega)
   have h2 : decide (((x :: y :: l).length : Int) = 1) = false:=decide_eq_false (by simp only [List.length_cons];omega)
   rw [h1,h2]
   simp
theorem lenU2 {α : Type} (l : List α) (d : α) (f : α → Bool) : (decide ((2 : Int) ≤ l.length) && decide ((l.length : Int) ≤ 2) && l.all f) = (decide ((l.length : Int) = 2) && (List.range 2).all fun q => f (l.getD q d)):=by
 match l with
 | [] => rfl
 | [x] => rfl
 | [x,y] => simp [List.range_succ]
 | x :: y :: z :: l =>
   have h1 : decide (((x :: y :: z :: l).length : Int) ≤ 2) = false:=decide_eq_false (by simp only [List.length_cons];omega)
   have h2 : decide (((x :: y :: z :: l).length : Int) = 2) = false:=decide_eq_false (by simp only [List.length_cons];omega)
   rw [h1,h2]
   simp
theorem leastU {α : Type} (l : List α) (f : α → Bool) : (decide ((0 : Int) ≤ l.length) && decide ((l.length : Int) ≤ 100) && l.all f) = (decide ((l.length : Int) ≤ 100) && l.all f):=by
 rw [decide_eq_true (by omega : (0 : Int) ≤ l.length),Bool.true_and]
abbrev calD : Cal:=⟨[],[],[]⟩
theorem veq_1 (sub : List St → Bool) (ln co : Int) (nm fd fr : List UInt8) (e : Ex) (c : Cn) (cl : List Cal) (iv : List Fm) (b o : List St) :
 vSt varR nuP 100 sub (.mk 1 ln co nm fd fr e c cl iv b o) = (vPos ln co && (varR nm && fd.isEmpty && fr.isEmpty && vE varR nuP 30 e && zC c && decide ((cl.length : Int) = 0)) && (decide ((iv.length : Int) = 0) && decide ((b.length : Int) = 0) && decide ((o.length : Int) = 0))):=by
 have h : vSt varR nuP 100 sub (.mk 1 ln co nm fd fr e c cl iv b o) = (vPos ln co && (varR nm && fr.isEmpty && fd.isEmpty) && vE varR nuP 30 e && zC c && (decide ((0 : Int) ≤ cl.length) && decide ((cl.length : Int) ≤ 0) && cl.all (vCal varR nuP)) && (decide ((0 : Int) ≤ iv.length) && decide ((iv.length : Int) ≤ 0) && iv.all (vF varR nuP 100)) && b.isEmpty && o.isEmpty):=rfl
 rw [h,lenU cl,lenU iv,emptyU b,emptyU o]
 ac_rfl
theorem veq_2 (sub : List St → Bool) (ln co : Int) (nm fd fr : List UInt8) (e : Ex) (c : Cn) (cl : List Cal) (iv : List Fm) (b o : List St) :
 vSt varR nuP 100 sub (.mk 2 ln co nm fd fr e c cl iv b o) = (vPos ln co && (varR nm && nameL fd && varR fr && zX e && zC c && decide ((cl.length : Int) = 0)) && (decide ((iv.length : Int) = 0) && decide ((b.length : Int) = 0) && decide ((o.length : Int) = 0))):=by
 have h : vSt varR nuP 100 sub (.mk 2 ln co nm fd fr e c cl iv b o) = (vPos ln co && (varR nm && varR fr && nameL fd) && zX e && zC c && (decide ((0 : Int) ≤ cl.length) && decide ((cl.length : Int) ≤ 0) && cl.all (vCal varR nuP)) && (decide ((0 : Int) ≤ iv.length) && decide ((iv.length : Int) ≤ 0) && iv.all (vF varR nuP 100)) && b.isEmpty && o.isEmpty):=rfl
 rw [h,lenU cl,lenU iv,emptyU b,emptyU o]
 ac_rfl
theorem veq_3 (sub : List St → Bool) (ln co : Int) (nm fd fr : List UInt8) (e : Ex) (c : Cn) (cl : List Cal) (iv : List Fm) (b o : List St) :
 vSt varR nuP 100 sub (.mk 3 ln co nm fd fr e c cl iv b o) = (vPos ln co && (varR nm && nameL fd && fr.isEmpty && vE varR nuP 30 e && zC c && decide ((cl.length : Int) = 0)) && (decide ((iv.length : Int) = 0) && decide ((b.length : Int) = 0) && decide ((o.length : Int) = 0))):=by
 have h : vSt varR nuP 100 sub (.mk 3 ln co nm fd fr e c cl iv b o) = (vPos ln co && (varR nm && fr.isEmpty && nameL fd) && vE varR nuP 30 e && zC c && (decide ((0 : Int) ≤ cl.length) && decide ((cl.length : Int) ≤ 0) && cl.all (vCal varR nuP)) && (decide ((0 : Int) ≤ iv.length) && decide ((iv.length : Int) ≤ 0) && iv.all (vF varR nuP 100)) && b.isEmpty && o.isEmpty):=rfl
 rw [h,lenU cl,lenU iv,emptyU b,emptyU o]
 ac_rfl
theorem veq_4 (sub : List St → Bool) (ln co : Int) (nm fd fr : List UInt8) (e : Ex) (c : Cn) (cl : List Cal) (iv : List Fm) (b o : List St) :
 vSt varR nuP 100 sub (.mk 4 ln co nm fd fr e c cl iv b o) = (vPos ln co && (varR nm && fd.isEmpty && nameL fr && zX e && zC c && decide ((cl.length : Int) = 0)) && (decide ((iv.length : Int) = 0) && decide ((b.length : Int) = 0) && decide ((o.length : Int) = 0))):=by
 have h : vSt varR nuP 100 sub (.mk 4 ln co nm fd fr e c cl iv b o) = (vPos ln co && (varR nm && nameL fr && fd.isEmpty) && zX e && zC c && (decide ((0 : Int) ≤ cl.length) && decide ((cl.length : Int) ≤ 0) && cl.all (vCal varR nuP)) && (decide ((0 : Int) ≤ iv.length) && decide ((iv.length : Int) ≤ 0) && iv.all (vF varR nuP 100)) && b.isEmpty && o.isEmpty):=rfl
 rw [h,lenU cl,lenU iv,emptyU b,emptyU o]
 ac_rfl
theorem veq_5 (sub : List St → Bool) (ln co : Int) (nm fd fr : List UInt8) (e : Ex) (c : Cn) (cl : List Cal) (iv : List Fm) (b o : List St) :
 vSt varR nuP 100 sub (.mk 5 ln co nm fd fr e c cl iv b o) = (vPos ln co && (varR nm && fd.isEmpty && fr.isEmpty && zX e && zC c && decide ((cl.length : Int) = 0)) && (decide ((iv.length : Int) = 0) && decide ((b.length : Int) = 0) && decide ((o.length : Int) = 0))):=by
 have h : vSt varR nuP 100 sub (.mk 5 ln co nm fd fr e c cl iv b o) = (vPos ln co && (varR nm && fr.isEmpty && fd.isEmpty) && zX e && zC c && (decide ((0 : Int) ≤ cl.length) && decide ((cl.length : Int) ≤ 0) && cl.all (vCal varR nuP)) && (decide ((0 : Int) ≤ iv.length) && decide ((iv.length : Int) ≤ 0) && iv.all (vF varR nuP 100)) && b.isEmpty && o.isEmpty):=rfl
 rw [h,lenU cl,lenU iv,emptyU b,emptyU o]
 ac_rfl
theorem veq_6 (sub : List St → Bool) (ln co : Int) (nm fd fr : List UInt8) (e : Ex) (c : Cn) (cl : List Cal) (iv : List Fm) (b o : List St) :
 vSt varR nuP 100 sub (.mk 6 ln co nm fd fr e c cl iv b o) = (vPos ln co && (varR nm && fd.isEmpty && fr.isEmpty && zX e && zC c && decide ((cl.length : Int) = 0)) && (decide ((iv.length : Int) = 0) && decide ((b.length : Int) = 0) && decide ((o.length : Int) = 0))):=by
 have h : vSt varR nuP 100 sub (.mk 6 ln co nm fd fr e c cl iv b o) = (vPos ln co && (varR nm && fr.isEmpty && fd.isEmpty) && zX e && zC c && (decide ((0 : Int) ≤ cl.length) && decide ((cl.length : Int) ≤ 0) && cl.all (vCal varR nuP)) && (decide ((0 : Int) ≤ iv.length) && decide ((iv.length : Int) ≤ 0) && iv.all (vF varR nuP 100)) && b.isEmpty && o.isEmpty):=rfl
 rw [h,lenU cl,lenU iv,emptyU b,emptyU o]
 ac_rfl
theorem veq_7 (sub : List St → Bool) (ln co : Int) (nm fd fr : List UInt8) (e : Ex) (c : Cn) (cl : List Cal) (iv : List Fm) (b o : List St) :
 vSt varR nuP 100 sub (.mk 7 ln co nm fd fr e c cl iv b o) = (vPos ln co && (nm.isEmpty && fd.isEmpty && fr.isEmpty && zX e && zC c && decide ((cl.length : Int) = 1)) && (((List.range 1).all fun q => vCal varR nuP (cl.getD q calD)) && decide ((iv.length : Int) = 0) && decide ((b.length : Int) = 0) && decide ((o.length : Int) = 0))):=by
 have h : vSt varR nuP 100 sub (.mk 7 ln co nm fd fr e c cl iv b o) = (vPos ln co && (nm.isEmpty && fr.isEmpty && fd.isEmpty) && zX e && zC c && (decide ((1 : Int) ≤ cl.length) && decide ((cl.length : Int) ≤ 1) && cl.all (vCal varR nuP)) && (decide ((0 : Int) ≤ iv.length) && decide ((iv.length : Int) ≤ 0) && iv.all (vF varR nuP 100)) && b.isEmpty && o.isEmpty):=rfl
 rw [h,lenU1 cl calD,lenU iv,emptyU b,emptyU o]
 ac_rfl
theorem veq_8 (sub : List St → Bool) (ln co : Int) (nm fd fr : List UInt8) (e : Ex) (c : Cn) (cl : List Cal) (iv : List Fm) (b o : List St) :
 vSt varR nuP 100 sub (.mk 8 ln co nm fd fr e c cl iv b o) = (vPos ln co && (nm.isEmpty && fd.isEmpty && fr.isEmpty && zX e && vC varR nuP 30 c && decide ((cl.length : Int) = 0)) && (decide ((iv.length : Int) = 0) && sub b && sub o)):=by
 have h : vSt varR nuP 100 sub (.mk 8 ln co nm fd fr e c cl iv b o) = (vPos ln co && (nm.isEmpty && fr.isEmpty && fd.isEmpty) && zX e && vC varR nuP 30 c && (decide ((0 : Int) ≤ cl.length) && decide ((cl.length : Int) ≤ 0) && cl.all (vCal varR nuP)) && (decide ((0 : Int) ≤ iv.length) && decide ((iv.length : Int) ≤ 0) && iv.all (vF varR nuP 100)) && sub b && sub o):=rfl
 rw [h,lenU cl,lenU iv]
 ac_rfl
theorem veq_9 (sub : List St → Bool) (ln co : Int) (nm fd fr : List UInt8) (e : Ex) (c : Cn) (cl : List Cal) (iv : List Fm) (b o : List St) :
 vSt varR nuP 100 sub (.mk 9 ln co nm fd fr e c cl iv b o) = (vPos ln co && (nm.isEmpty && fd.isEmpty && fr.isEmpty && zX e && vC varR nuP 30 c && decide ((cl.length : Int) = 0)) && (decide ((o.length : Int) = 0) && (decide ((iv.length : Int) ≤ 100) && iv.all (vF varR nuP 100)) && sub b)):=by
 have h : vSt varR nuP 100 sub (.mk 9 ln co nm fd fr e c cl iv b o) = (vPos ln co && (nm.isEmpty && fr.isEmpty && fd.isEmpty) && zX e && vC varR nuP 30 c && (decide ((0 : Int) ≤ cl.length) && decide ((cl.length : Int) ≤ 0) && cl.all (vCal varR nuP)) && (decide ((0 : Int) ≤ iv.length) && decide ((iv.length : Int) ≤ 100) && iv.all (vF varR nuP 100)) && sub b && o.isEmpty):=rfl
 rw [h,lenU cl,leastU iv,emptyU o]
 ac_rfl
theorem veq_10 (sub : List St → Bool) (ln co : Int) (nm fd fr : List UInt8) (e : Ex) (c : Cn) (cl : List Cal) (iv : List Fm) (b o : List St) :
 vSt varR nuP 100 sub (.mk 10 ln co nm fd fr e c cl iv b o) = (vPos ln co && (nm.isEmpty && fd.isEmpty && fr.isEmpty && zX e && vC varR nuP 30 c && decide ((cl.length : Int) = 0)) && (decide ((iv.length : Int) = 0) && decide ((b.length : Int) = 0) && decide ((o.length : Int) = 0))):=by
 have h : vSt varR nuP 100 sub (.mk 10 ln co nm fd fr e c cl iv b o) = (vPos ln co && (nm.isEmpty && fr.isEmpty && fd.isEmpty) && zX e && vC varR nuP 30 c && (decide ((0 : Int) ≤ cl.length) && decide ((cl.length : Int) ≤ 0) && cl.all (vCal varR nuP)) && (decide ((0 : Int) ≤ iv.length) && decide ((iv.length : Int) ≤ 0) && iv.all (vF varR nuP 100)) && b.isEmpty && o.isEmpty):=rfl
 rw [h,lenU cl,lenU iv,emptyU b,emptyU o]
 ac_rfl
theorem veq_11 (sub : List St → Bool) (ln co : Int) (nm fd fr : List UInt8) (e : Ex) (c : Cn) (cl : List Cal) (iv : List Fm) (b o : List St) :
 vSt varR nuP 100 sub (.mk 11 ln co nm fd fr e c cl iv b o) = (vPos ln co && (nameL nm && fd.isEmpty && fr.isEmpty && zX e && zC c && decide ((cl.length : Int) = 0)) && (decide ((iv.length : Int) = 0) && decide ((o.length : Int) = 0) && sub b)):=by
 have h : vSt varR nuP 100 sub (.mk 11 ln co nm fd fr e c cl iv b o) = (vPos ln co && (nameL nm && fr.isEmpty && fd.isEmpty) && zX e && zC c && (decide ((0 : Int) ≤ cl.length) && decide ((cl.length : Int) ≤ 0) && cl.all (vCal varR nuP)) && (decide ((0 : Int) ≤ iv.length) && decide ((iv.length : Int) ≤ 0) && iv.all (vF varR nuP 100)) && sub b && o.isEmpty):=rfl
 rw [h,lenU cl,lenU iv,emptyU o]
 ac_rfl
theorem veq_12 (sub : List St → Bool) (ln co : Int) (nm fd fr : List UInt8) (e : Ex) (c : Cn) (cl : List Cal) (iv : List Fm) (b o : List St) :
 vSt varR nuP 100 sub (.mk 12 ln co nm fd fr e c cl iv b o) = (vPos ln co && (nm.isEmpty && fd.isEmpty && fr.isEmpty && zX e && zC c && decide ((cl.length : Int) = 2)) && (((List.range 2).all fun q => vCal varR nuP (cl.getD q calD)) && decide ((iv.length : Int) = 0) && decide ((b.length : Int) = 0) && decide ((o.length : Int) = 0))):=by
 have h : vSt varR nuP 100 sub (.mk 12 ln co nm fd fr e c cl iv b o) = (vPos ln co && (nm.isEmpty && fr.isEmpty && fd.isEmpty) && zX e && zC c && (decide ((2 : Int) ≤ cl.length) && decide ((cl.length : Int) ≤ 2) && cl.all (vCal varR nuP)) && (decide ((0 : Int) ≤ iv.length) && decide ((iv.length : Int) ≤ 0) && iv.all (vF varR nuP 100)) && b.isEmpty && o.isEmpty):=rfl
 rw [h,lenU2 cl calD,lenU iv,emptyU b,emptyU o]
 ac_rfl
def SsOk (n : Nat) : Prop :=
 ∀ (l : List St) (A : Option Addr) (c : Nat) (W : World),StRow W W.heap.size l A → l.length ≤ maxLen →
  Calls Tryz.prog 31 #[.slice A l.length c,.int .i64 n] W fun e w' => e = .returned (.bool (vSs varR nuP 100 n l)) ∧ Below W.heap.size W w'
theorem calls_at {w : World} {cl : List Cal} {A : Option Addr} {n : Nat} (hr : CalRow w w.heap.size cl A) (h : (cl.length : Int) = n) (hn : 0 < n) :
 ∃ a,A = some a ∧ a.block < w.heap.size ∧ ∀ q,q < n → ∃ (B : Option Addr) (c : Nat),w.cell? (a.add (q * 3)) = some (.string ⟨(cl.getD q calD).r.toArray⟩) ∧ w.cell? ((a.add (q * 3)).add 1) = some (.string ⟨(cl.getD q calD).p.toArray⟩) ∧ w.cell? ((a.add (q * 3)).add 2) = some (.slice B (cl.getD q calD).l.length c) ∧
  (cl.getD q calD).r.length ≤ maxLen ∧ (cl.getD q calD).p.length ≤ maxLen ∧ (cl.getD q calD).l.length ≤ maxLen ∧ ExRow w w.heap.size (cl.getD q calD).l B:=by
 have hl : cl.length = n:=by omega
 cases hr with
 | nil => simp at hl;omega
 | row a es hb cells =>
   refine ⟨a,rfl,hb,fun q hq => ?_⟩
   have hi : cl[q]? = some (cl.getD q calD):=by rw [List.getD_eq_getElem?_getD,List.getElem?_eq_getElem (by omega)];rfl
   obtain ⟨B,c,h0,h1,h2,h3,h4,h5,h6⟩:=cells q _ hi
   exact ⟨B,c,h0,h1,h2,h3,h4,h5,h6⟩
theorem suses_none (cs : Array Value) (h24 : cs.size = 24) (k : Int) (k0 : cs[0]? = some (.int .i64 k)) (hk : ¬ (1 ≤ k ∧ k ≤ 12)) (dp : Int) (w : World) :
 Calls Tryz.prog 54 #[.agg cs,.int .i64 dp] w fun e w' => e = .returned (.bool false) ∧ Below w.heap.size w w':=by
 have HU : Hid (∀ w,Calls Tryz.prog 80 #[.int .i64 k] w fun e w' => e = .returned (.string ⟨#[]⟩) ∧ w = w'):=Lib.hid (by
  have h:=suses_any k
  rw [show usesL k = [] by
   unfold usesL
   rw [if_neg (by omega),if_neg (by omega),if_neg (by omega),if_neg (by omega),if_neg (by omega),if_neg (by omega),if_neg (by omega),if_neg (by omega),if_neg (by omega),if_neg (by omega),if_neg (by omega),if_neg (by omega)]] at h
  exact h)
 obtain ⟨T,N,hT,hN,hag,hsz⟩:=stmt_hidden
 have e4 : ∀ y : Operand,Op.box 36 y = Op.box T y:=fun y => by rw [hT]
 have HB:=Lib.hid (below_alloc w (.cells cs T))
 have c0:=cell_of_block (heap_of_alloc w (.cells cs T)) 0 k0
 have hszc : cs.size = N:=h24.trans hN.symm
 clear hN h24 k0 hk
 go_enter Tryz.func54,Tryz.ntmps54
 simp only [e4]
 clear e4 hT
 go_wp2_with (go_at_call 80;refine (HU.out _).mono ?_;rintro e wz ⟨rfl,rfl⟩)
 go_ret
 exact ⟨rfl,HB.out⟩
theorem sstmt_any (dp : Nat) (hd : SsOk dp) (s : St) (d : SAd) (w : World) (own : StOwn w w.heap.size d s) (r1 : StRow w w.heap.size s.body d.s) (r2 : StRow w w.heap.size s.els d.t) :
 Calls Tryz.prog 54 #[.agg (stCs d s),.int .i64 dp] w fun e w' => e = .returned (.bool (vSt varR nuP 100 (vSs varR nuP 100 dp) s)) ∧ Below w.heap.size w w':=by
 obtain ⟨k,ln,co,nm,fd,fr,⟨ek,en,es,el⟩,⟨ck,⟨ak,an,sa,al⟩,⟨bk,bn,sb,bl⟩,l⟩,cl,iv,b,o⟩:=s
 by_cases hk : 1 ≤ k ∧ k ≤ 12
 case neg =>
  rw [show vSt varR nuP 100 (vSs varR nuP 100 dp) (.mk k ln co nm fd fr (.mk ek en es el) (.mk ck (.mk ak an sa al) (.mk bk bn sb bl) l) cl iv b o) = false from if_neg hk]
  exact suses_none _ (stCs_size d _) k rfl hk dp w
 obtain ⟨⟨b0,b1,b2,b3,b4,b5,b6,b7,b8,b9,b10,b11,b12,b13⟩,re,ra,rb,rl,rc,ri⟩:=own
 have m : ∀ n : Nat,n ≤ maxLen → (n : Int) ≤ 9223372036854775807:=fun n h => by unfold maxLen at h;omega
 have hPl : BC w 81 #[posV ln co] (vPos ln co):=fun W _ => splace_any ln co W
 have hV1 : BC w 82 #[.string ⟨nm.toArray⟩] (varR nm):=fun W _ => svariable_any nm W b0
 have hV2 : BC w 83 #[.string ⟨fd.toArray⟩] (nameL fd):=fun W _ => by rw [name_eq];exact sname_any fd W b1
 have hV3 : BC w 82 #[.string ⟨fr.toArray⟩] (varR fr):=fun W _ => svariable_any fr W b2
 have hV4 : BC w 83 #[.string ⟨nm.toArray⟩] (nameL nm):=fun W _ => by rw [name_eq];exact sname_any nm W b0
 have hV5 : BC w 83 #[.string ⟨fr.toArray⟩] (nameL fr):=fun W _ => by rw [name_eq];exact sname_any fr W b2
 have hE : BC w 85 #[exprV ek en ⟨es.toArray⟩ (.slice d.e el.length d.ne)] (vE varR nuP 30 (.mk ek en es el)):=fun W hb => sexpr_any ek en es el d.e d.ne W (re.on hb) b3 b4
 have hZ : BC w 86 #[exprV ek en ⟨es.toArray⟩ (.slice d.e el.length d.ne)] (zX (.mk ek en es el)):=fun W _ => szero_any ek en es el d.e d.ne W b4
 have hC : BC w 87 #[condV2 ck ak an ⟨sa.toArray⟩ (.slice d.a al.length d.na) bk bn ⟨sb.toArray⟩ (.slice d.b bl.length d.nb) (.slice d.l l.length d.nl)] (vC varR nuP 30 (.mk ck (.mk ak an sa al) (.mk bk bn sb bl) l)):=fun W hb => scond_any ck ak an sa al bk bn sb bl l d.a d.na d.b d.nb d.l d.nl W (ra.on hb) (rb.on hb) (rl.on hb) b5 b6 b7 b8 b9
 have hN : BC w 88 #[condV2 ck ak an ⟨sa.toArray⟩ (.slice d.a al.length d.na) bk bn ⟨sb.toArray⟩ (.slice d.b bl.length d.nb) (.slice d.l l.length d.nl)] (zC (.mk ck (.mk ak an sa al) (.mk bk bn sb bl) l)):=fun W _ => snothing_any ck ak an sa al bk bn sb bl l d.a d.na d.b d.nb d.l d.nl W b6 b8 b9
 have hI : BC w 90 #[.slice d.i iv.length d.ni,.int .i64 0] (decide ((iv.length : Int) ≤ 100) && iv.all (vF varR nuP 100)):=fun W hb => sformulas_any iv d.i d.ni W b11 (ri.on fm_keeps hb)
 have hB : BC w 31 #[.slice d.s b.length d.ns,.int .i64 dp] (vSs varR nuP 100 dp b):=fun W hb => hd b d.s d.ns W (r1.on hb) b12
 have hO : BC w 31 #[.slice d.t o.length d.nt,.int .i64 dp] (vSs varR nuP 100 dp o):=fun W hb => hd o d.t d.nt W (r2.on hb) b13
 have zI : iv.length = 0 → (decide ((iv.length : Int) ≤ 100) && iv.all (vF varR nuP 100)) = true:=fun h => by rw [List.length_eq_zero_iff.1 h];rfl
 have zS : ∀ x : List St,x.length = 0 → vSs varR nuP 100 dp x = true:=fun x h => by rw [List.length_eq_zero_iff.1 h];cases dp <;> rfl
 by_cases k1 : k = 1
 ·subst k1
  rw [veq_1]
  exact sst_1 ln co ek en ck ak an bk bn nm fd fr es sa sb _ _ _ _ _ _ _ _ _ _ _ _ _ _ _ _ _ (stCs_size d _) ⟨rfl,rfl,rfl,rfl,rfl,rfl,rfl,rfl,rfl,rfl,rfl,rfl,rfl,rfl,rfl,rfl,rfl,rfl,rfl,rfl,rfl,rfl,rfl,rfl⟩ dp _ _ _ _ _ _ _ _ _ (m _ b11) (m _ b12) (m _ b13) (m _ b10) w hPl hV1 hV2 hV3 hE hN hI hB hO zI (zS b) (zS o)
 by_cases k2 : k = 2
 ·subst k2
  rw [veq_2]
  exact sst_2 ln co ek en ck ak an bk bn nm fd fr es sa sb _ _ _ _ _ _ _ _ _ _ _ _ _ _ _ _ _ (stCs_size d _) ⟨rfl,rfl,rfl,rfl,rfl,rfl,rfl,rfl,rfl,rfl,rfl,rfl,rfl,rfl,rfl,rfl,rfl,rfl,rfl,rfl,rfl,rfl,rfl,rfl⟩ dp _ _ _ _ _ _ _ _ _ (m _ b11) (m _ b12) (m _ b13) (m _ b10) w hPl hV1 hV2 hV3 hZ hN hI hB hO zI (zS b) (zS o)
 by_cases k3 : k = 3
 ·subst k3
  rw [veq_3]
  exact sst_3 ln co ek en ck ak an bk bn nm fd fr es sa sb _ _ _ _ _ _ _ _ _ _ _ _ _ _ _ _ _ (stCs_size d _) ⟨rfl,rfl,rfl,rfl,rfl,rfl,rfl,rfl,rfl,rfl,rfl,rfl,rfl,rfl,rfl,rfl,rfl,rfl,rfl,rfl,rfl,rfl,rfl,rfl⟩ dp _ _ _ _ _ _ _ _ _ (m _ b11) (m _ b12) (m _ b13) (m _ b10) w hPl hV1 hV2 hV3 hE hN hI hB hO zI (zS b) (zS o)
 by_cases k4 : k = 4
 ·subst k4
  rw [veq_4]
  exact sst_4 ln co ek en ck ak an bk bn nm fd fr es sa sb _ _ _ _ _ _ _ _ _ _ _ _ _ _ _ _ _ (stCs_size d _) ⟨rfl,rfl,rfl,rfl,rfl,rfl,rfl,rfl,rfl,rfl,rfl,rfl,rfl,rfl,rfl,rfl,rfl,rfl,rfl,rfl,rfl,rfl,rfl,rfl⟩ dp _ _ _ _ _ _ _ _ _ _ (m _ b11) (m _ b12) (m _ b13) (m _ b10) w hPl hV1 hV2 hV3 hV5 hZ hN hI hB hO zI (zS b) (zS o)
 by_cases k5 : k = 5
 ·subst k5
  rw [veq_5]
  exact sst_5 ln co ek en ck ak an bk bn nm fd fr es sa sb _ _ _ _ _ _ _ _ _ _ _ _ _ _ _ _ _ (stCs_size d _) ⟨rfl,rfl,rfl,rfl,rfl,rfl,rfl,rfl,rfl,rfl,rfl,rfl,rfl,rfl,rfl,rfl,rfl,rfl,rfl,rfl,rfl,rfl,rfl,rfl⟩ dp _ _ _ _ _ _ _ _ _ (m _ b11) (m _ b12) (m _ b13) (m _ b10) w hPl hV1 hV2 hV3 hZ hN hI hB hO zI (zS b) (zS o)
 by_cases k6 : k = 6
 ·subst k6
  rw [veq_6]
  exact sst_6 ln co ek en ck ak an bk bn nm fd fr es sa sb _ _ _ _ _ _ _ _ _ _ _ _ _ _ _ _ _ (stCs_size d _) ⟨rfl,rfl,rfl,rfl,rfl,rfl,rfl,rfl,rfl,rfl,rfl,rfl,rfl,rfl,rfl,rfl,rfl,rfl,rfl,rfl,rfl,rfl,rfl,rfl⟩ dp _ _ _ _ _ _ _ _ _ (m _ b11) (m _ b12) (m _ b13) (m _ b10) w hPl hV1 hV2 hV3 hZ hN hI hB hO zI (zS b) (zS o)
 by_cases k7 : k = 7
 ·subst k7
  rw [veq_7]
  have hcal:=fun h : (cl.length : Int) = 1 => calls_at (n:=1) rc h (by decide)
  have hA : (cl.length : Int) = 1 → ∃ a,d.c = some a ∧ a.block < w.heap.size ∧ ∀ q,q < 1 → w.cell? (a.add (q * 3)) = some (.string ⟨(cl.getD q calD).r.toArray⟩) ∧ w.cell? ((a.add (q * 3)).add 1) = some (.string ⟨(cl.getD q calD).p.toArray⟩) ∧ ∃ (B : Option Addr) (c : Nat),w.cell? ((a.add (q * 3)).add 2) = some (.slice B (cl.getD q calD).l.length c):=fun h => by
   obtain ⟨a,h1,h2,h3⟩:=hcal h
   exact ⟨a,h1,h2,fun q hq => by obtain ⟨B,c,g0,g1,g2,_⟩:=h3 q hq;exact ⟨g0,g1,B,c,g2⟩⟩
  by_cases hn : (cl.length : Int) = 1
  ·obtain ⟨a,h1,h2,h3⟩:=hcal hn
   have : Inhabited (Option Addr × Nat):=⟨(none,0)⟩
   obtain ⟨f,hF⟩:=Go.Deep.choose_lt (n:=1) (p:=fun q (x : Option Addr × Nat) => w.cell? (a.add (q * 3)) = some (.string ⟨(cl.getD q calD).r.toArray⟩) ∧ w.cell? ((a.add (q * 3)).add 1) = some (.string ⟨(cl.getD q calD).p.toArray⟩) ∧ w.cell? ((a.add (q * 3)).add 2) = some (.slice x.1 (cl.getD q calD).l.length x.2) ∧ (cl.getD q calD).r.length ≤ maxLen ∧ (cl.getD q calD).p.length ≤ maxLen ∧ (cl.getD q calD).l.length ≤ maxLen ∧ ExRow w w.heap.size (cl.getD q calD).l x.1) (fun q hq => by obtain ⟨B,c,g⟩:=h3 q hq;exact ⟨(B,c),g⟩)
   exact sst_7 ln co ek en ck ak an bk bn nm fd fr es sa sb _ _ _ _ _ _ _ _ _ _ _ _ _ _ _ _ _ (stCs_size d _) ⟨rfl,rfl,rfl,rfl,rfl,rfl,rfl,rfl,rfl,rfl,rfl,rfl,rfl,rfl,rfl,rfl,rfl,rfl,rfl,rfl,rfl,rfl,rfl,rfl⟩ dp _ _ _ _ _ _ _ _ _ (m _ b11) (m _ b12) (m _ b13) (m _ b10) w hPl hV1 hV2 hV3 hZ hN hI hB hO zI (zS b) (zS o) (fun q => ⟨(cl.getD q calD).r.toArray⟩) (fun q => ⟨(cl.getD q calD).p.toArray⟩) (fun q => .slice (f q).1 (cl.getD q calD).l.length (f q).2) (fun q => vCal varR nuP (cl.getD q calD)) (fun _ => ⟨a,h1,h2,fun q hq => ⟨(hF q hq).1,(hF q hq).2.1,(hF q hq).2.2.1⟩⟩)
    (fun q hq W hb => scall_any _ _ _ _ _ W ((hF q hq).2.2.2.2.2.2.on hb) (hF q hq).2.2.2.1 (hF q hq).2.2.2.2.1 (hF q hq).2.2.2.2.2.1)
  ·have hz:=sst_7 ln co ek en ck ak an bk bn nm fd fr es sa sb _ _ _ _ _ _ _ _ _ _ _ _ _ _ _ _ _ (stCs_size d (.mk 7 ln co nm fd fr (.mk ek en es el) (.mk ck (.mk ak an sa al) (.mk bk bn sb bl) l) cl iv b o)) ⟨rfl,rfl,rfl,rfl,rfl,rfl,rfl,rfl,rfl,rfl,rfl,rfl,rfl,rfl,rfl,rfl,rfl,rfl,rfl,rfl,rfl,rfl,rfl,rfl⟩ dp _ _ _ _ _ _ _ _ _ (m _ b11) (m _ b12) (m _ b13) (m _ b10) w hPl hV1 hV2 hV3 hZ hN hI hB hO zI (zS b) (zS o) (fun _ => ⟨#[]⟩) (fun _ => ⟨#[]⟩) (fun _ => .slice none 0 0) (fun _ => vCal varR nuP ⟨[],[],[]⟩) (fun h => absurd h hn) (fun q hq W hb => by
    have := scall_any [] [] [] none 0 W (.nil _) (Nat.zero_le _) (Nat.zero_le _) (Nat.zero_le _)
    exact this.mono fun e w' ⟨he,hb⟩ => ⟨he,hb⟩)
   rw [decide_eq_false hn] at hz ⊢
   simpa using hz
 by_cases k8 : k = 8
 ·subst k8
  rw [veq_8]
  exact sst_8 ln co ek en ck ak an bk bn nm fd fr es sa sb _ _ _ _ _ _ _ _ _ _ _ _ _ _ _ _ _ (stCs_size d _) ⟨rfl,rfl,rfl,rfl,rfl,rfl,rfl,rfl,rfl,rfl,rfl,rfl,rfl,rfl,rfl,rfl,rfl,rfl,rfl,rfl,rfl,rfl,rfl,rfl⟩ dp _ _ _ _ _ _ _ _ _ (m _ b11) (m _ b12) (m _ b13) (m _ b10) w hPl hV1 hV2 hV3 hZ hC hI hB hO zI
 by_cases k9 : k = 9
 ·subst k9
  rw [veq_9]
  exact sst_9 ln co ek en ck ak an bk bn nm fd fr es sa sb _ _ _ _ _ _ _ _ _ _ _ _ _ _ _ _ _ (stCs_size d _) ⟨rfl,rfl,rfl,rfl,rfl,rfl,rfl,rfl,rfl,rfl,rfl,rfl,rfl,rfl,rfl,rfl,rfl,rfl,rfl,rfl,rfl,rfl,rfl,rfl⟩ dp _ _ _ _ _ _ _ _ _ (m _ b11) (m _ b12) (m _ b13) (m _ b10) w hPl hV1 hV2 hV3 hZ hC hI hB hO (zS o)
 by_cases k10 : k = 10
 ·subst k10
  rw [veq_10]
  exact sst_10 ln co ek en ck ak an bk bn nm fd fr es sa sb _ _ _ _ _ _ _ _ _ _ _ _ _ _ _ _ _ (stCs_size d _) ⟨rfl,rfl,rfl,rfl,rfl,rfl,rfl,rfl,rfl,rfl,rfl,rfl,rfl,rfl,rfl,rfl,rfl,rfl,rfl,rfl,rfl,rfl,rfl,rfl⟩ dp _ _ _ _ _ _ _ _ _ (m _ b11) (m _ b12) (m _ b13) (m _ b10) w hPl hV1 hV2 hV3 hZ hC hI hB hO zI (zS b) (zS o)
 by_cases k11 : k = 11
 ·subst k11
  rw [veq_11]
  exact sst_11 ln co ek en ck ak an bk bn nm fd fr es sa sb _ _ _ _ _ _ _ _ _ _ _ _ _ _ _ _ _ (stCs_size d _) ⟨rfl,rfl,rfl,rfl,rfl,rfl,rfl,rfl,rfl,rfl,rfl,rfl,rfl,rfl,rfl,rfl,rfl,rfl,rfl,rfl,rfl,rfl,rfl,rfl⟩ dp _ _ _ _ _ _ _ _ _ _ (m _ b11) (m _ b12) (m _ b13) (m _ b10) w hPl hV1 hV2 hV3 hV4 hZ hN hI hB hO zI (zS o)
 by_cases k12 : k = 12
 ·subst k12
  rw [veq_12]
  have hcal:=fun h : (cl.length : Int) = 2 => calls_at (n:=2) rc h (by decide)
  have hA : (cl.length : Int) = 2 → ∃ a,d.c = some a ∧ a.block < w.heap.size ∧ ∀ q,q < 2 → w.cell? (a.add (q * 3)) = some (.string ⟨(cl.getD q calD).r.toArray⟩) ∧ w.cell? ((a.add (q * 3)).add 1) = some (.string ⟨(cl.getD q calD).p.toArray⟩) ∧ ∃ (B : Option Addr) (c : Nat),w.cell? ((a.add (q * 3)).add 2) = some (.slice B (cl.getD q calD).l.length c):=fun h => by
   obtain ⟨a,h1,h2,h3⟩:=hcal h
   exact ⟨a,h1,h2,fun q hq => by obtain ⟨B,c,g0,g1,g2,_⟩:=h3 q hq;exact ⟨g0,g1,B,c,g2⟩⟩
  by_cases hn : (cl.length : Int) = 2
  ·obtain ⟨a,h1,h2,h3⟩:=hcal hn
   have : Inhabited (Option Addr × Nat):=⟨(none,0)⟩
   obtain ⟨f,hF⟩:=Go.Deep.choose_lt (n:=2) (p:=fun q (x : Option Addr × Nat) => w.cell? (a.add (q * 3)) = some (.string ⟨(cl.getD q calD).r.toArray⟩) ∧ w.cell? ((a.add (q * 3)).add 1) = some (.string ⟨(cl.getD q calD).p.toArray⟩) ∧ w.cell? ((a.add (q * 3)).add 2) = some (.slice x.1 (cl.getD q calD).l.length x.2) ∧ (cl.getD q calD).r.length ≤ maxLen ∧ (cl.getD q calD).p.length ≤ maxLen ∧ (cl.getD q calD).l.length ≤ maxLen ∧ ExRow w w.heap.size (cl.getD q calD).l x.1) (fun q hq => by obtain ⟨B,c,g⟩:=h3 q hq;exact ⟨(B,c),g⟩)
   exact sst_12 ln co ek en ck ak an bk bn nm fd fr es sa sb _ _ _ _ _ _ _ _ _ _ _ _ _ _ _ _ _ (stCs_size d _) ⟨rfl,rfl,rfl,rfl,rfl,rfl,rfl,rfl,rfl,rfl,rfl,rfl,rfl,rfl,rfl,rfl,rfl,rfl,rfl,rfl,rfl,rfl,rfl,rfl⟩ dp _ _ _ _ _ _ _ _ _ (m _ b11) (m _ b12) (m _ b13) (m _ b10) w hPl hV1 hV2 hV3 hZ hN hI hB hO zI (zS b) (zS o) (fun q => ⟨(cl.getD q calD).r.toArray⟩) (fun q => ⟨(cl.getD q calD).p.toArray⟩) (fun q => .slice (f q).1 (cl.getD q calD).l.length (f q).2) (fun q => vCal varR nuP (cl.getD q calD)) (fun _ => ⟨a,h1,h2,fun q hq => ⟨(hF q hq).1,(hF q hq).2.1,(hF q hq).2.2.1⟩⟩)
    (fun q hq W hb => scall_any _ _ _ _ _ W ((hF q hq).2.2.2.2.2.2.on hb) (hF q hq).2.2.2.1 (hF q hq).2.2.2.2.1 (hF q hq).2.2.2.2.2.1)
  ·have hz:=sst_12 ln co ek en ck ak an bk bn nm fd fr es sa sb _ _ _ _ _ _ _ _ _ _ _ _ _ _ _ _ _ (stCs_size d (.mk 12 ln co nm fd fr (.mk ek en es el) (.mk ck (.mk ak an sa al) (.mk bk bn sb bl) l) cl iv b o)) ⟨rfl,rfl,rfl,rfl,rfl,rfl,rfl,rfl,rfl,rfl,rfl,rfl,rfl,rfl,rfl,rfl,rfl,rfl,rfl,rfl,rfl,rfl,rfl,rfl⟩ dp _ _ _ _ _ _ _ _ _ (m _ b11) (m _ b12) (m _ b13) (m _ b10) w hPl hV1 hV2 hV3 hZ hN hI hB hO zI (zS b) (zS o) (fun _ => ⟨#[]⟩) (fun _ => ⟨#[]⟩) (fun _ => .slice none 0 0) (fun _ => vCal varR nuP ⟨[],[],[]⟩) (fun h => absurd h hn) (fun q hq W hb => by
    have := scall_any [] [] [] none 0 W (.nil _) (Nat.zero_le _) (Nat.zero_le _) (Nat.zero_le _)
    exact this.mono fun e w' ⟨he,hb⟩ => ⟨he,hb⟩)
   rw [decide_eq_false hn] at hz ⊢
   simpa using hz
 omega
theorem ss_any : ∀ n : Nat,n ≤ 1000 → SsOk n:=by
 intro n
 induction n with
 | zero =>
   intro _ l A c W _ hl
   have HB:=Lib.hid (Below.refl W.heap.size W)
   unfold maxLen at hl
   cases l with
   | nil =>
     go_enter Tryz.func31,Tryz.ntmps31
     go_wp2
     go_ret
     exact ⟨rfl,HB.out⟩
   | cons x l =>
     obtain ⟨n,hn⟩ : ∃ n,n = (x :: l).length:=⟨_,rfl⟩
     have h0 : ¬ (n : Int) = 0:=by rw [hn,List.length_cons];omega
     rw [← hn] at hl ⊢
     have e : vSs varR nuP 100 0 (x :: l) = false:=rfl
     rw [e]
     clear hn e
     go_enter Tryz.func31,Tryz.ntmps31
     go_wp2
     go_ret
     exact ⟨rfl,HB.out⟩
 | succ d ih =>
   intro hd l A c w hr hn
   have HS : Hid (∀ (s : St) (da : SAd) (W : World),StOwn W W.heap.size da s → StRow W W.heap.size s.body da.s → StRow W W.heap.size s.els da.t → Calls Tryz.prog 54 #[.agg (stCs da s),.int .i64 d] W fun e w' => e = .returned (.bool (vSt varR nuP 100 (vSs varR nuP 100 d) s)) ∧ Below W.heap.size W w'):=Lib.hid (fun s da W own r1 r2 => sstmt_any d (ih (by omega)) s da W own r1 r2)
   have HB0:=Lib.hid (Below.refl w.heap.size w)
   have hcast : ((d + 1 : Nat) : Int) = (d : Int) + 1:=by omega
   rw [hcast]
   obtain ⟨ok,hok⟩ : ∃ ok,ok = vSt varR nuP 100 (vSs varR nuP 100 d):=⟨_,rfl⟩
   have hv : vSs varR nuP 100 (d + 1) l = (l.isEmpty || (decide ((1 : Int) ≤ l.length) && decide ((l.length : Int) ≤ 100) && l.all ok)):=by rw [hok];rfl
   rw [hv]
   rw [← hok] at HS
   clear hv hok hcast ih
   cases l with
   | nil =>
     clear hr
     go_enter Tryz.func31,Tryz.ntmps31
     go_wp2
     go_ret
     exact ⟨rfl,HB0.out⟩
   | cons x0 l0 =>
     obtain ⟨l,hlx⟩ : ∃ l,l = x0 :: l0:=⟨_,rfl⟩
     have he : (x0 :: l0).isEmpty = false:=rfl
     rw [he,Bool.false_or]
     have hpos : 0 < l.length:=by rw [hlx,List.length_cons];omega
     rw [← hlx] at hr hn ⊢
     clear he hlx
     obtain ⟨n,hnn⟩ : ∃ n,n = l.length:=⟨_,rfl⟩
     rw [← hnn] at hn hpos ⊢
     have HH:=Lib.hid (And.intro hr hnn)
     clear hr hnn
     unfold maxLen at hn
     have h1 : decide ((1 : Int) ≤ (n : Int)) = true:=decide_eq_true (by omega)
     rw [h1,Bool.true_and]
     have hne : ¬ (n : Int) = 0:=by omega
     have hd1 : ¬ (d : Int) + 1 < 1:=by omega
     clear h1
     obtain ⟨T,M,hT,hM,hag,hsz⟩:=stmt_hidden
     have e1 : ∀ y : Operand,Op.load 36 y = Op.load T y:=fun y => by rw [hT]
     have HM:=Lib.hid hM
     clear hM
     go_enter Tryz.func31,Tryz.ntmps31
     simp only [e1]
     clear e1 hT
     by_cases hm : (n : Int) > 100
     ·go_wp2
      go_ret
      exact ⟨by rw [decide_eq_false (by omega : ¬ (n : Int) ≤ 100)];rfl,HB0.out⟩
     go_wp2
     go_loopg [5] n (fun m j wr => ∃ k : Nat,m = n - k ∧ k ≤ n ∧ j = .int .i64 k ∧ Hid (Below w.heap.size w wr ∧ (l.take k).all ok = true))
     case atStart => exact ⟨0,rfl,Nat.zero_le _,rfl,Lib.hid ⟨HB0.out,rfl⟩⟩
     case round =>
      obtain ⟨k,rfl,hk,rfl,HI⟩:=hrel
      by_cases hlt : k < n
      ·have hki : (k : Int) < n:=by omega
       obtain ⟨s,hi⟩ : ∃ x,l[k]? = some x:=⟨l[k]'(by rw [← HH.out.2];exact hlt),List.getElem?_eq_getElem _⟩
       obtain ⟨a,da,rfl,hab,hc,hown,hb1,hb2⟩:=(HH.out.1.on HI.out.1).at_ hi
       have HC2:=Lib.hid (HS.out s da wr hown hb1 hb2)
       obtain ⟨cs,hcs⟩ : ∃ cs,cs = stCs da s:=⟨_,rfl⟩
       have hszc : cs.size = M:=by rw [hcs,HM.out];exact stCs_size da s
       rw [← hcs] at hc HC2
       have hl1:=load_list (N:=M) hc hszc
       have HX:=Lib.hid (And.intro hi (all_take_succ ok l k _ hi))
       obtain ⟨okx,hokx⟩ : ∃ b,b = ok s:=⟨_,rfl⟩
       rw [← hokx] at HC2 HX
       have HO:=Lib.hid hokx
       clear hokx hi hc hown hb1 hb2 hcs
       go_wp2_with (go_at_call 54;refine HC2.out.mono ?_;rintro e w3 ⟨rfl,hb⟩;have HB3:=Lib.hid (HI.out.1.chain hb);clear hb)
       ·rename_i hf
        have hf' : ok s = false:=by rw [← HO.out];simpa using hf
        go_ret
        exact ⟨by rw [all_of_false ok l k _ HX.out.1 hf',Bool.and_false];rfl,HB3.out⟩
       ·rename_i hf
        have hf' : okx = true:=by simpa using hf
        go_roundg (n - (k + 1))
        case measure => omega
        case rel => exact ⟨k + 1,rfl,by omega,by go_num,Lib.hid ⟨HB3.out,by rw [HX.out.2,HI.out.2,hf'];rfl⟩⟩
      ·obtain rfl : k = n:=by omega
       go_wp2
       go_ret
       refine ⟨?_,HI.out.1⟩
       have := HI.out.2
       rw [List.take_of_length_le (by rw [HH.out.2];exact Nat.le_refl _)] at this
       rw [this,Bool.and_true,decide_eq_true (by omega : (k : Int) ≤ 100)]
       rfl
theorem sstmts_any (l : List St) (A : Option Addr) (c : Nat) (w : World) (hr : StRow w w.heap.size l A) (hl : l.length ≤ maxLen) :
 Calls Tryz.prog 11 #[.slice A l.length c] w fun e w' => e = .returned (.bool (vSs varR nuP 100 30 l)) ∧ Below w.heap.size w w':=by
 have HC:=Lib.hid (ss_any 30 (by omega) l A c w hr hl)
 generalize vSs varR nuP 100 30 l = res at *
 unfold maxLen at hl
 clear hr
 go_enter Tryz.func11,Tryz.ntmps11
 go_wp2_with (go_at_call 31;refine HC.out.mono ?_;rintro e w2 ⟨rfl,hb⟩)
 go_ret
 exact ⟨rfl,hb⟩
end Go.Proofs.YtbalioicgpgehaaGreatDoor
