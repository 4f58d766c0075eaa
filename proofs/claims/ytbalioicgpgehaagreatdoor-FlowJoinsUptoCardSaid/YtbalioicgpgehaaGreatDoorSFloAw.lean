import Derived.Test.YtbalioicgpgehaaGreatDoorSFloA
import Derived.Test.YtbalioicgpgehaaGreatDoorSFloL
import Derived.Test.YtbalioicgpgehaaGreatDoorSFloPa
set_option linter.unusedVariables false
set_option linter.unusedSimpArgs false
namespace Go.Proofs.YtbalioicgpgehaaGreatDoor
set_option maxRecDepth 100000
set_option maxHeartbeats 8000000
open Go.RowKit Go.Lib
theorem nmx_any (s : ByteArray) (w : World) : Calls Tryz.prog 29 #[.string s] w fun e w' => e = .returned (.agg #[.int .i64 2,.int .i64 0,.string s,.slice none 0 0]) ∧ Below w.heap.size w w':=by
 have HB:=Lib.hid (below_alloc w (.cells #[.int .i64 2,.int .i64 0,.string s,.slice none 0 0] 29))
 go_enter Tryz.func29,Tryz.ntmps29
 go_wp2
 refine bodyPost_ret (v:=.agg #[.int .i64 2,.int .i64 0,.string s,.slice none 0 0]) (by simp [results,Tryz.results29,go_sem]) rfl ⟨rfl,?_⟩
 exact HB.out
abbrev awZ : Ex:=.mk 0 0 [] []
abbrev awCz : Cn:=.mk 0 awZ awZ []
abbrev awCl : Cn:=.mk 4 (.mk 1 0 [] []) (.mk 2 0 [110] []) []
abbrev awLd : St:=.mk 2 0 0 [120] [110,101,120,116] [121] awZ awCz [] [] [] []
abbrev awSv : St:=.mk 3 0 0 [120] [110,101,120,116] [] (.mk 2 0 [122] []) awCz [] [] [] []
abbrev awAs : St:=.mk 1 0 0 [110] [] [] (.mk 1 0 [] []) awCz [] [] [] []
abbrev awIf : St:=.mk 8 0 0 [] [] [] awZ awCl [] [] [awAs] []
abbrev awWh : St:=.mk 9 0 0 [] [] [] awZ awCl [] [] [awIf] []
abbrev sdN : SAd:=⟨none,none,none,none,none,none,none,none,0,0,0,0,0,0,0,0⟩
abbrev sdB (g : Nat) : SAd:=⟨none,none,none,none,none,none,some ⟨g,0,none⟩,none,0,0,0,0,0,0,1,0⟩
theorem st_row1 {W : World} {g : Nat} {T : TypeId} {d : SAd} {s : St} (h : W.heap[g]? = some (.cells (stCs d s) T (0,0))) (own : StOwn W W.heap.size d s) (rb : StRow W W.heap.size s.body d.s) (ro : StRow W W.heap.size s.els d.t) : StRow W W.heap.size [s] (some ⟨g,0,none⟩):=by
 refine .row ⟨g,0,none⟩ [s] (fun _ => d) (Array.getElem?_eq_some_iff.1 h).1 (fun i x hi => ?_) (fun i x hi => ?_) (fun i x hi => ?_)
 all_goals
  match i,hi with
  | 0,hi =>
    obtain rfl:=Option.some.inj hi
    first
     | exact ⟨fun j v hv => by rw [add_of_add,add_block0,show 0 * 24 + j = j by omega];exact cell_of_block h j hv,own⟩
     | exact rb
     | exact ro
  | i + 1,hi => simp at hi
theorem st_row2 {W : World} {g : Nat} {T : TypeId} {d1 d2 : SAd} {s1 s2 : St} {cs : Array Value} (h : W.heap[g]? = some (.cells cs T (0,0))) (hcs : cs = stCs d1 s1 ++ stCs d2 s2) (own1 : StOwn W W.heap.size d1 s1) (own2 : StOwn W W.heap.size d2 s2)
 (rb1 : StRow W W.heap.size s1.body d1.s) (ro1 : StRow W W.heap.size s1.els d1.t) (rb2 : StRow W W.heap.size s2.body d2.s) (ro2 : StRow W W.heap.size s2.els d2.t) : StRow W W.heap.size [s1,s2] (some ⟨g,0,none⟩):=by
 refine .row ⟨g,0,none⟩ [s1,s2] (fun i => if i = 0 then d1 else d2) (Array.getElem?_eq_some_iff.1 h).1 (fun i x hi => ?_) (fun i x hi => ?_) (fun i x hi => ?_)
 all_goals
  match i,hi with
  | 0,hi =>
    obtain rfl:=Option.some.inj hi
    first
     | exact ⟨fun j v hv => by
        have hj : j < 24:=by have := (Array.getElem?_eq_some_iff.1 hv).1;rw [show (if (0 : Nat) = 0 then d1 else d2) = d1 from rfl,stCs_size] at this;exact this
        rw [add_of_add,add_block0,show 0 * 24 + j = j by omega]
        refine cell_of_block h j ?_
        rw [hcs,Array.getElem?_append_left (by rw [stCs_size];exact hj)]
        exact hv,own1⟩
     | exact rb1
     | exact ro1
  | 1,hi =>
    obtain rfl:=Option.some.inj hi
    first
     | exact ⟨fun j v hv => by
        rw [add_of_add,add_block0,show 1 * 24 + j = 24 + j by omega]
        refine cell_of_block h (24 + j) ?_
        rw [hcs,Array.getElem?_append_right (by rw [stCs_size];omega),stCs_size,show 24 + j - 24 = j by omega]
        exact hv,own2⟩
     | exact rb2
     | exact ro2
  | i + 2,hi => simp at hi
theorem aw_own1 {W : World} {B : Nat} (s : St) (d : SAd) (h : ∃ (k : Int) (nm fd fr : List UInt8) (ek : Int) (es : List UInt8) (ck ak bk : Int) (sb : List UInt8) (b o : List St),s = .mk k 0 0 nm fd fr (.mk ek 0 es []) (.mk ck (.mk ak 0 [] []) (.mk bk 0 sb []) []) [] [] b o ∧ nm.length ≤ 9 ∧ fd.length ≤ 9 ∧ fr.length ≤ 9 ∧ es.length ≤ 9 ∧ sb.length ≤ 9 ∧ b.length ≤ 9 ∧ o.length ≤ 9) : StOwn W B d s:=by
 obtain ⟨k,nm,fd,fr,ek,es,ck,ak,bk,sb,b,o,rfl,h1,h2,h3,h4,h5,h6,h7⟩:=h
 have hz : ∀ n : Nat,n ≤ 9 → n ≤ maxLen:=fun n hn => by unfold maxLen;omega
 exact ⟨⟨hz _ h1,hz _ h2,hz _ h3,hz _ h4,hz _ (by simp),hz _ (by simp),hz _ (by simp),hz _ h5,hz _ (by simp),hz _ (by simp),hz _ (by simp),hz _ (by simp),hz _ h6,hz _ h7⟩,.nil _,.nil _,.nil _,.nil _,.nil _,.nil _⟩
theorem aw_lit2 : (#[.int .i64 2,.int .i64 0,.int .i64 0,.string ⟨#[120]⟩,.string ⟨#[110,101,120,116]⟩,.string ⟨#[121]⟩,.int .i64 0,.int .i64 0,.string ⟨#[]⟩,.slice none 0 0,.int .i64 0,.int .i64 0,.int .i64 0,.string ⟨#[]⟩,.slice none 0 0,.int .i64 0,.int .i64 0,.string ⟨#[]⟩,.slice none 0 0,.slice none 0 0,.slice none 0 0,.slice none 0 0,.slice none 0 0,.slice none 0 0,.int .i64 3,.int .i64 0,.int .i64 0,.string ⟨#[120]⟩,.string ⟨#[110,101,120,116]⟩,.string ⟨#[]⟩,.int .i64 2,.int .i64 0,.string ⟨#[122]⟩,.slice none 0 0,.int .i64 0,.int .i64 0,.int .i64 0,.string ⟨#[]⟩,.slice none 0 0,.int .i64 0,.int .i64 0,.string ⟨#[]⟩,.slice none 0 0,.slice none 0 0,.slice none 0 0,.slice none 0 0,.slice none 0 0,.slice none 0 0] : Array Value) = stCs sdN awLd ++ stCs sdN awSv:=by kernel_rfl
theorem aw_WE (k n : Int) (s : List UInt8) : WE (.mk k n s []):=.mk k n s [] (by simp) (fun x hx => by cases hx)
theorem aw_WC (k : Int) (a b : Ex) (ha : WE a) (hb : WE b) : WC (.mk k a b []):=.mk k a b [] ha hb (by simp) (fun x hx => by cases hx)
theorem aw_WOwn (k ln co : Int) (nm fd fr : List UInt8) (e : Ex) (c : Cn) (b o : List St) (he : WE e) (hc : WC c) : WOwn (.mk k ln co nm fd fr e c [] [] b o) :=
 ⟨he,hc,(by simp),(fun y hy => by cases hy),(by simp),(fun y hy => by cases hy)⟩
theorem aw_WS0 : WS []:=.mk [] (fun x hx => by cases hx) (by simp) (fun x hx => by cases hx) (fun x hx => by cases hx)
theorem aw_WS1 {x : St} (h : WOwn x) (h1 : WS x.body) (h2 : WS x.els) : WS [x] :=
 .mk [x] (fun y hy => by rw [List.mem_singleton.1 hy];exact h) (by show 1 * 368 ≤ _;omega) (fun y hy => by rw [List.mem_singleton.1 hy];exact h1) (fun y hy => by rw [List.mem_singleton.1 hy];exact h2)
theorem aw_WL : WS [awLd,awSv]:=by
 have h1 : WOwn awLd:=aw_WOwn _ _ _ _ _ _ _ _ _ _ (aw_WE _ _ _) (aw_WC _ _ _ (aw_WE _ _ _) (aw_WE _ _ _))
 have h2 : WOwn awSv:=aw_WOwn _ _ _ _ _ _ _ _ _ _ (aw_WE _ _ _) (aw_WC _ _ _ (aw_WE _ _ _) (aw_WE _ _ _))
 refine .mk _ (fun y hy => ?_) (by show 2 * 368 ≤ _;omega) (fun y hy => ?_) (fun y hy => ?_)
 ·rcases List.mem_cons.1 hy with rfl | hy
  ·exact h1
  ·rw [List.mem_singleton.1 hy];exact h2
 ·rcases List.mem_cons.1 hy with rfl | hy
  ·exact aw_WS0
  ·rw [List.mem_singleton.1 hy];exact aw_WS0
 ·rcases List.mem_cons.1 hy with rfl | hy
  ·exact aw_WS0
  ·rw [List.mem_singleton.1 hy];exact aw_WS0
theorem aw_WW : WS [awWh]:=by
 have hc : WC awCl:=aw_WC _ _ _ (aw_WE _ _ _) (aw_WE _ _ _)
 exact aw_WS1 (aw_WOwn _ _ _ _ _ _ _ _ _ _ (aw_WE _ _ _) hc) (aw_WS1 (aw_WOwn _ _ _ _ _ _ _ _ _ _ (aw_WE _ _ _) hc) (aw_WS1 (aw_WOwn _ _ _ _ _ _ _ _ _ _ (aw_WE _ _ _) (aw_WC _ _ _ (aw_WE _ _ _) (aw_WE _ _ _))) aw_WS0 aw_WS0) aw_WS0) aw_WS0
theorem aw_FL : FlL [awLd,awSv] [awLd,awSv]:=.cons awLd [awSv] [] [] [awSv] .nil .nil (.cons awSv [] [] [] [] .nil .nil .nil)
theorem aw_FW : FlL [awWh] [awWh,awIf,awAs]:=.cons awWh [] [awIf,awAs] [] [] (.cons awIf [] [awAs] [] [] (.cons awAs [] [] [] [] .nil .nil .nil) .nil .nil) .nil .nil
theorem aw_VL : vSs varB 1125899906842624 100 30 [awLd,awSv] = true:=by kernel_rfl
theorem aw_VW : vSs varB 1125899906842624 100 30 [awWh] = true:=by kernel_rfl
theorem aw_P : limN (paL 2 [awWh]) = 7:=by kernel_rfl
theorem aw_NL : lpsN [awWh,awIf,awAs] = 1:=by kernel_rfl
theorem asc1 (x : List UInt8) : Asc [x]:=⟨by simp,by simp⟩
theorem asc_xyz : Asc [[120],[121],[122]]:=⟨by decide,by decide⟩
theorem aw_M (m : List (List UInt8)) (h : Asc m) (hm : ∀ y,y ∈ m ↔ y ∈ [awLd,awSv].flatMap asgN) : m = [[120]] :=
 asc_eq h (asc1 _) fun y => by
  rw [hm,show [awLd,awSv].flatMap asgN = [[120]] by kernel_rfl]
theorem aw_U (m : List (List UInt8)) (h : Asc m) (hm : ∀ y,y ∈ m ↔ y ∈ [awLd,awSv].flatMap readN) : m = [[120],[121],[122]] :=
 asc_eq h asc_xyz fun y => by
  rw [hm,show [awLd,awSv].flatMap readN = [[121],[122],[120]] by kernel_rfl]
  simp only [List.mem_cons,List.not_mem_nil,or_false]
  constructor
  ·rintro (h | h | h) <;> simp [h]
  ·rintro (h | h | h) <;> simp [h]
theorem aw_mem2 {P : St → Prop} (h1 : P awLd) (h2 : P awSv) : ∀ x ∈ [awLd,awSv],P x:=fun y hy => by
 rcases List.mem_cons.1 hy with rfl | hy
 ·exact h1
 ·rw [List.mem_singleton.1 hy];exact h2
theorem aw_any (w : World) (hp : PartsAt w) : Calls Tryz.prog 8 #[] w fun e w' => e = .returned (.bool true) ∧ Below w.heap.size w w':=by
 have HPt:=Lib.hid hp
 clear hp
 go_enter Tryz.func8,Tryz.ntmps8
 go_wp2_with (first
  | (go_at_call 29;(with_reducible refine (nmx_any _ w).mono ?_);rintro e w2 ⟨rfl,hb2⟩;have HB2:=Lib.hid hb2;clear hb2)
  | (go_at_call 29;obtain ⟨w3,hw3⟩ : ∃ w3,w3 = w2.alloc (.cells #[.int .i64 2,.int .i64 0,.int .i64 0,.string ⟨#[120]⟩,.string ⟨#[110,101,120,116]⟩,.string ⟨#[121]⟩,.int .i64 0,.int .i64 0,.string ⟨#[]⟩,.slice none 0 0,.int .i64 0,.int .i64 0,.int .i64 0,.string ⟨#[]⟩,.slice none 0 0,.int .i64 0,.int .i64 0,.string ⟨#[]⟩,.slice none 0 0,.slice none 0 0,.slice none 0 0,.slice none 0 0,.slice none 0 0,.slice none 0 0,.int .i64 3,.int .i64 0,.int .i64 0,.string ⟨#[120]⟩,.string ⟨#[110,101,120,116]⟩,.string ⟨#[]⟩,.int .i64 2,.int .i64 0,.string ⟨#[122]⟩,.slice none 0 0,.int .i64 0,.int .i64 0,.int .i64 0,.string ⟨#[]⟩,.slice none 0 0,.int .i64 0,.int .i64 0,.string ⟨#[]⟩,.slice none 0 0,.slice none 0 0,.slice none 0 0,.slice none 0 0,.slice none 0 0,.slice none 0 0] 36):=⟨_,rfl⟩;rw [← hw3];(with_reducible refine (nmx_any _ w3).mono ?_);rintro e w4 ⟨rfl,hb4⟩;have HB4:=Lib.hid (And.intro hw3 hb4);clear hb4 hw3))
 obtain ⟨U1,hU1⟩ : ∃ U,U = w4.alloc (.cells #[.int .i64 4,.int .i64 1,.int .i64 0,.string ⟨#[]⟩,.slice none 0 0,.int .i64 2,.int .i64 0,.string ⟨#[110]⟩,.slice none 0 0,.slice none 0 0] 32):=⟨_,rfl⟩
 obtain ⟨U2,hU2⟩ : ∃ U,U = U1.alloc (.cells #[.int .i64 1,.int .i64 0,.int .i64 0,.string ⟨#[110]⟩,.string ⟨#[]⟩,.string ⟨#[]⟩,.int .i64 1,.int .i64 0,.string ⟨#[]⟩,.slice none 0 0,.int .i64 0,.int .i64 0,.int .i64 0,.string ⟨#[]⟩,.slice none 0 0,.int .i64 0,.int .i64 0,.string ⟨#[]⟩,.slice none 0 0,.slice none 0 0,.slice none 0 0,.slice none 0 0,.slice none 0 0,.slice none 0 0] 36):=⟨_,rfl⟩
 obtain ⟨U3,hU3⟩ : ∃ U,U = U2.alloc (.cells #[.int .i64 8,.int .i64 0,.int .i64 0,.string ⟨#[]⟩,.string ⟨#[]⟩,.string ⟨#[]⟩,.int .i64 0,.int .i64 0,.string ⟨#[]⟩,.slice none 0 0,.int .i64 4,.int .i64 1,.int .i64 0,.string ⟨#[]⟩,.slice none 0 0,.int .i64 2,.int .i64 0,.string ⟨#[110]⟩,.slice none 0 0,.slice none 0 0,.slice none 0 0,.slice none 0 0,.slice (some ⟨w4.heap.size + 1,0,none⟩) 1 1,.slice none 0 0] 36):=⟨_,rfl⟩
 obtain ⟨U,hU⟩ : ∃ U,U = U3.alloc (.cells #[.int .i64 9,.int .i64 0,.int .i64 0,.string ⟨#[]⟩,.string ⟨#[]⟩,.string ⟨#[]⟩,.int .i64 0,.int .i64 0,.string ⟨#[]⟩,.slice none 0 0,.int .i64 4,.int .i64 1,.int .i64 0,.string ⟨#[]⟩,.slice none 0 0,.int .i64 2,.int .i64 0,.string ⟨#[110]⟩,.slice none 0 0,.slice none 0 0,.slice none 0 0,.slice none 0 0,.slice (some ⟨w4.heap.size + 1 + 1,0,none⟩) 1 1,.slice none 0 0] 36):=⟨_,rfl⟩
 rw [← hU1,← hU2,← hU3,← hU]
 have HU : Hid (Below w.heap.size w U ∧ StRow U U.heap.size [awLd,awSv] (some ⟨w2.heap.size,0,none⟩) ∧ StRow U U.heap.size [awWh] (some ⟨w4.heap.size + 1 + 1 + 1,0,none⟩)):=Lib.hid (by
  have s1 : U1.heap.size = w4.heap.size + 1:=by rw [hU1,World.size_alloc]
  have s2 : U2.heap.size = w4.heap.size + 1 + 1:=by rw [hU2,World.size_alloc,s1]
  have s3 : U3.heap.size = w4.heap.size + 1 + 1 + 1:=by rw [hU3,World.size_alloc,s2]
  have t1 : Below w4.heap.size w4 U1:=by rw [hU1];exact below_alloc _ _
  have t2 : Below U1.heap.size U1 U2:=by rw [hU2];exact below_alloc _ _
  have t3 : Below U2.heap.size U2 U3:=by rw [hU3];exact below_alloc _ _
  have t4 : Below U3.heap.size U3 U:=by rw [hU];exact below_alloc _ _
  have b2:=heap_of_alloc U1 (.cells #[.int .i64 1,.int .i64 0,.int .i64 0,.string ⟨#[110]⟩,.string ⟨#[]⟩,.string ⟨#[]⟩,.int .i64 1,.int .i64 0,.string ⟨#[]⟩,.slice none 0 0,.int .i64 0,.int .i64 0,.int .i64 0,.string ⟨#[]⟩,.slice none 0 0,.int .i64 0,.int .i64 0,.string ⟨#[]⟩,.slice none 0 0,.slice none 0 0,.slice none 0 0,.slice none 0 0,.slice none 0 0,.slice none 0 0] 36)
  have b3:=heap_of_alloc U2 (.cells #[.int .i64 8,.int .i64 0,.int .i64 0,.string ⟨#[]⟩,.string ⟨#[]⟩,.string ⟨#[]⟩,.int .i64 0,.int .i64 0,.string ⟨#[]⟩,.slice none 0 0,.int .i64 4,.int .i64 1,.int .i64 0,.string ⟨#[]⟩,.slice none 0 0,.int .i64 2,.int .i64 0,.string ⟨#[110]⟩,.slice none 0 0,.slice none 0 0,.slice none 0 0,.slice none 0 0,.slice (some ⟨w4.heap.size + 1,0,none⟩) 1 1,.slice none 0 0] 36)
  have b4:=heap_of_alloc U3 (.cells #[.int .i64 9,.int .i64 0,.int .i64 0,.string ⟨#[]⟩,.string ⟨#[]⟩,.string ⟨#[]⟩,.int .i64 0,.int .i64 0,.string ⟨#[]⟩,.slice none 0 0,.int .i64 4,.int .i64 1,.int .i64 0,.string ⟨#[]⟩,.slice none 0 0,.int .i64 2,.int .i64 0,.string ⟨#[110]⟩,.slice none 0 0,.slice none 0 0,.slice none 0 0,.slice none 0 0,.slice (some ⟨w4.heap.size + 1 + 1,0,none⟩) 1 1,.slice none 0 0] 36)
  rw [← hU2,s1] at b2
  rw [← hU3,s2] at b3
  rw [← hU,s3] at b4
  obtain ⟨hw3,hb4⟩:=HB4.out
  rw [aw_lit2] at hw3
  have c3:=heap_of_alloc w2 (.cells (stCs sdN awLd ++ stCs sdN awSv) 36)
  rw [← hw3] at c3
  have t0 : Below w2.heap.size w2 w3:=by rw [hw3];exact below_alloc _ _
  have tU:=t1.chain (t2.chain (t3.chain t4))
  have q3:=kept_box (hb4.chain tU) c3
  have q4:=kept_box (t3.chain t4) b2
  have q5:=kept_box t4 b3
  refine ⟨HB2.out.chain (t0.chain (hb4.chain tU)),?_,?_⟩
  ·exact st_row2 q3 rfl (aw_own1 awLd sdN ⟨_,_,_,_,_,_,_,_,_,_,_,_,rfl,by simp,by simp,by simp,by simp,by simp,by simp,by simp⟩) (aw_own1 awSv sdN ⟨_,_,_,_,_,_,_,_,_,_,_,_,rfl,by simp,by simp,by simp,by simp,by simp,by simp,by simp⟩) (.nil _) (.nil _) (.nil _) (.nil _)
  ·have ra : StRow U U.heap.size [awAs] (some ⟨w4.heap.size + 1,0,none⟩):=st_row1 (d:=sdN) (s:=awAs) q4 (aw_own1 awAs sdN ⟨_,_,_,_,_,_,_,_,_,_,_,_,rfl,by simp,by simp,by simp,by simp,by simp,by simp,by simp⟩) (.nil _) (.nil _)
   have ri : StRow U U.heap.size [awIf] (some ⟨w4.heap.size + 1 + 1,0,none⟩):=st_row1 (d:=sdB (w4.heap.size + 1)) (s:=awIf) q5 (aw_own1 awIf _ ⟨_,_,_,_,_,_,_,_,_,_,_,_,rfl,by simp,by simp,by simp,by simp,by simp,by simp,by simp⟩) ra (.nil _)
   exact st_row1 (d:=sdB (w4.heap.size + 1 + 1)) (s:=awWh) b4 (aw_own1 awWh _ ⟨_,_,_,_,_,_,_,_,_,_,_,_,rfl,by simp,by simp,by simp,by simp,by simp,by simp,by simp⟩) ri (.nil _))
 clear hU hU1 hU2 hU3
 have h1m : (1 : Nat) ≤ maxLen:=by unfold maxLen;exact Nat.le_of_ble_eq_true rfl
 have h2m : (2 : Nat) ≤ maxLen:=by unfold maxLen;exact Nat.le_of_ble_eq_true rfl
 have h3m : (3 : Nat) ≤ maxLen:=by unfold maxLen;exact Nat.le_of_ble_eq_true rfl
 have HMm:=Lib.hid (And.intro h1m (And.intro h2m h3m))
 clear h1m h2m h3m
 have HPU : Hid (PartsAt U):=Lib.hid (HPt.out.on HU.out.1)
 have HM1 : Hid (Calls Tryz.prog 23 #[.slice (some ⟨w2.heap.size,0,none⟩) 2 2] U (NmsPost ([awLd,awSv].flatMap asgN) U)):=Lib.hid (Modified_any aw_WL aw_FL (by decide) (aw_mem2 (by decide) (by decide)) _ 2 U HPU.out HU.out.2.1 HMm.out.2.1 aw_VL)
 have HM2 : Hid (∀ W,Below U.heap.size U W → Calls Tryz.prog 27 #[.slice (some ⟨w2.heap.size,0,none⟩) 2 2] W (NmsPost ([awLd,awSv].flatMap readN) W)):=Lib.hid (fun W hb => Used_any aw_WL aw_FL (by decide) (aw_mem2 (by decide) (by decide)) _ 2 W (HPU.out.on hb) (HU.out.2.1.on hb) HMm.out.2.1 aw_VL)
 have HM3 : Hid (∀ W,Below U.heap.size U W → Calls Tryz.prog 24 #[.slice (some ⟨w4.heap.size + 1 + 1 + 1,0,none⟩) 1 1,.int .i64 2] W fun e w' => e = .returned (.int .i64 7) ∧ Below W.heap.size W w'):=Lib.hid (fun W hb => by
  have h:=Paths_any [awWh] (some ⟨w4.heap.size + 1 + 1 + 1,0,none⟩) 1 2 W (HPU.out.on hb) (HU.out.2.2.on hb) HMm.out.1
  rw [if_pos ⟨by omega,by omega,aw_VW⟩,show ((2 : Int).toNat) = 2 from rfl,aw_P] at h
  exact h)
 have HM4 : Hid (∀ W,Below U.heap.size U W → Calls Tryz.prog 21 #[.slice (some ⟨w4.heap.size + 1 + 1 + 1,0,none⟩) 1 1] W fun e w' => e = .returned (.int .i64 1) ∧ Below W.heap.size W w'):=Lib.hid (fun W hb => by
  have h:=Loops_any aw_WW aw_FW (by decide) (some ⟨w4.heap.size + 1 + 1 + 1,0,none⟩) 1 W (HPU.out.on hb) (HU.out.2.2.on hb) HMm.out.1 aw_VW
  rw [aw_NL] at h
  exact h)
 go_wp2_with (first
  | (go_at_call 23;(with_reducible refine HM1.out.mono ?_);rintro e w5 ⟨A5,c5,m5,rfl,o5,s5,e5,l5,hb5⟩;obtain rfl:=aw_M m5 s5 e5
     have HB5:=Lib.hid hb5
     have HE5 : Hid (Calls Tryz.prog 22 #[.slice A5 1 c5,.slice (some ⟨w5.heap.size,0,none⟩) 1 1] (w5.alloc (.cells #[.string ⟨#[120]⟩] 9)) fun e w' => e = .returned (.bool true) ∧ Below (w5.alloc (.cells #[.string ⟨#[120]⟩] 9)).heap.size (w5.alloc (.cells #[.string ⟨#[120]⟩] 9)) w'):=Lib.hid (equalStr_same A5 (some ⟨w5.heap.size,0,none⟩) c5 1 1 [[120]] rfl HMm.out.1 _ _ _ (Reads.of_own (o5.alloc _)) (Reads.of_own (World.ownsRow_lit (base:=0) w5 #[.string ⟨#[120]⟩] 1 (Nat.zero_le _) HMm.out.1 rfl)))
     have HA5:=Lib.hid (below_alloc w5 (.cells #[.string ⟨#[120]⟩] 9))
     clear o5 s5 e5 l5 hb5)
  | (go_at_call 22;(with_reducible refine HE5.out.mono ?_);rintro e w6 ⟨rfl,hb6⟩;have HB6:=Lib.hid (HB5.out.chain (HA5.out.chain hb6));clear hb6)
  | (go_at_call 27;(with_reducible refine (HM2.out w6 HB6.out).mono ?_);rintro e w7 ⟨A7,c7,m7,rfl,o7,s7,e7,l7,hb7⟩;obtain rfl:=aw_U m7 s7 e7
     have HB7:=Lib.hid (HB6.out.chain hb7)
     have HE7 : Hid (Calls Tryz.prog 22 #[.slice A7 3 c7,.slice (some ⟨w7.heap.size,0,none⟩) 3 3] (w7.alloc (.cells #[.string ⟨#[120]⟩,.string ⟨#[121]⟩,.string ⟨#[122]⟩] 9)) fun e w' => e = .returned (.bool true) ∧ Below (w7.alloc (.cells #[.string ⟨#[120]⟩,.string ⟨#[121]⟩,.string ⟨#[122]⟩] 9)).heap.size (w7.alloc (.cells #[.string ⟨#[120]⟩,.string ⟨#[121]⟩,.string ⟨#[122]⟩] 9)) w'):=Lib.hid (equalStr_same A7 (some ⟨w7.heap.size,0,none⟩) c7 3 3 [[120],[121],[122]] rfl HMm.out.2.2 _ _ _ (Reads.of_own (o7.alloc _)) (Reads.of_own (World.ownsRow_lit (base:=0) w7 #[.string ⟨#[120]⟩,.string ⟨#[121]⟩,.string ⟨#[122]⟩] 3 (Nat.zero_le _) HMm.out.2.2 rfl)))
     have HA7:=Lib.hid (below_alloc w7 (.cells #[.string ⟨#[120]⟩,.string ⟨#[121]⟩,.string ⟨#[122]⟩] 9))
     clear o7 s7 e7 l7 hb7)
  | (go_at_call 22;(with_reducible refine HE7.out.mono ?_);rintro e w8 ⟨rfl,hb8⟩;have HB8:=Lib.hid (HB7.out.chain (HA7.out.chain hb8));clear hb8)
  | (go_at_call 24;(with_reducible refine (HM3.out w8 HB8.out).mono ?_);rintro e w9 ⟨rfl,hb9⟩;have HB9:=Lib.hid (HB8.out.chain hb9);clear hb9)
  | (go_at_call 21;(with_reducible refine (HM4.out w9 HB9.out).mono ?_);rintro e w10 ⟨rfl,hb10⟩;have HB10:=Lib.hid (HB9.out.chain hb10);clear hb10))
 go_ret
 exact ⟨rfl,HU.out.1.chain HB10.out⟩
end Go.Proofs.YtbalioicgpgehaaGreatDoor
