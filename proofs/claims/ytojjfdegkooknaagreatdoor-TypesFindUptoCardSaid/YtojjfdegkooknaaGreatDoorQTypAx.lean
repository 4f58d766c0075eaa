import Derived.Test.YtojjfdegkooknaaGreatDoorQTypCh
set_option linter.unusedVariables false
set_option linter.unusedSimpArgs false
namespace Go.Proofs.YtojjfdegkooknaaGreatDoor
open Go.RowKit Go.Lib
abbrev nodeB : List UInt8:=[78,111,100,101]
def awS : St:=.mk 1 0 0 [120] [] [] (.mk 3 0 [] []) (.mk 0 (.mk 0 0 [] []) (.mk 0 0 [] []) []) [] [] [] []
def awP (b : List St) : Pr:=⟨[112],0,0,[⟨nodeB,[120]⟩],[],[],[],false,[],[],[],b⟩
def awG (b : List St) : Pg:=⟨[⟨nodeB,[⟨nodeB,[110,101,120,116]⟩]⟩],[],[],[],[],[awP b]⟩
theorem aw_bad : chkC (awG [awS]) = (some ([120],6),(0,0)):=by kernel_rfl
theorem aw_good : chkC (awG []) = (none,(0,0)):=by kernel_rfl
theorem aw_ok (b : List St) (hb : ∀ s ∈ b,s = awS) (d : GAd) (B0 cb : Nat) : AllOk (awG b) d B0 cb where
 gs _:=Nat.zero_le _
 fm:=fun _ k hk => by cases hk
 df:=fun _ k hk => by cases hk
 lm:=fun _ k hk => by cases hk
 pr:=fun _ y hy => by
  obtain rfl : y = awP b:=by
   rcases List.mem_cons.1 hy with h | h
   ·exact h
   ·cases h
  intro cs w q hv hC
  refine tproc_any (awG b) d B0 cb (awP b) (fun f hf => by cases hf) (fun f hf => by cases hf) (fun s => s = awS) (fun s hs => ?_) hb (fun B1 bd s hs => ?_) (by show (0 : Nat) + 1 + 0 + 0 ≤ _;omega) cs w q hv hC
  ·subst hs
   exact ⟨fun t ht => (by cases ht),fun t ht => (by cases ht)⟩
  ·subst hs
   exact stmt_assign (awG b) d B0 B1 cb _ _ _ bd 0 0 [120] [] [] _ _ [] [] [] []
end Go.Proofs.YtojjfdegkooknaaGreatDoor
namespace Go.Proofs.YtojjfdegkooknaaGreatDoor
set_option maxRecDepth 100000
set_option maxHeartbeats 8000000
open Go.RowKit Go.Lib
abbrev awD (a e : Nat) : GAd:=⟨some ⟨a,0,none⟩,none,none,none,none,some ⟨e,0,none⟩,1,0,0,0,0,1⟩
abbrev sd0 : SAd:=⟨none,none,none,none,none,none,none,none,0,0,0,0,0,0,0,0⟩
abbrev awSC : Array Value:=#[.int .i64 1,.int .i64 0,.int .i64 0,.string ⟨#[120]⟩,.string ⟨#[]⟩,.string ⟨#[]⟩,.int .i64 3,.int .i64 0,.string ⟨#[]⟩,.slice none 0 0,.int .i64 0,.int .i64 0,.int .i64 0,.string ⟨#[]⟩,.slice none 0 0,.int .i64 0,.int .i64 0,.string ⟨#[]⟩,.slice none 0 0,.slice none 0 0,.slice none 0 0,.slice none 0 0,.slice none 0 0,.slice none 0 0]
abbrev awPC (g : Nat) (L : Option Addr) (n c : Nat) : Array Value:=#[.string ⟨#[112]⟩,.int .i64 0,.int .i64 0,.slice (some ⟨g,0,none⟩) 1 1,.slice none 0 0,.string ⟨#[]⟩,.string ⟨#[]⟩,.bool false,.slice none 0 0,.slice none 0 0,.slice none 0 0,.slice L n c]
theorem pm_row1 {W : World} {g : Nat} {t n : List UInt8} {T : TypeId} (h : W.heap[g]? = some (.cells #[.string ⟨t.toArray⟩,.string ⟨n.toArray⟩] T)) (ht : t.length ≤ maxLen) (hn : n.length ≤ maxLen) : PmRow W W.heap.size [⟨t,n⟩] (some ⟨g,0,none⟩):=by
 refine RowX.row (⟨g,0,none⟩ : Addr) [(⟨t,n⟩ : Pm)] (Array.getElem?_eq_some_iff.1 h).1 (fun i x hi => ?_)
 match i,hi with
 | 0,hi =>
   obtain rfl:=Option.some.inj hi
   exact ⟨cell_of_block h 0 rfl,cell_of_block h 1 rfl,ht,hn⟩
 | i + 1,hi => simp at hi
theorem aw_stRow {W : World} {g : Nat} {T : TypeId} (h : W.heap[g]? = some (.cells awSC T)) : StRow W W.heap.size [awS] (some ⟨g,0,none⟩):=by
 refine .row ⟨g,0,none⟩ [awS] (fun _ => sd0) (Array.getElem?_eq_some_iff.1 h).1 (fun i s hi => ?_) (fun i s hi => ?_) (fun i s hi => ?_)
 ·match i,hi with
  | 0,hi =>
    obtain rfl:=Option.some.inj hi
    refine ⟨fun j v hv => ?_,?_⟩
    ·rw [add_of_add,add_block0,show 0 * 24 + j = j by omega]
     exact cell_of_block h j hv
    ·have hz : (0 : Nat) ≤ maxLen:=Nat.zero_le _
     exact ⟨⟨by unfold maxLen;exact Nat.le_of_ble_eq_true rfl,hz,hz,hz,hz,hz,hz,hz,hz,hz,hz,hz,hz,hz⟩,.nil _,.nil _,.nil _,.nil _,.nil _,.nil _⟩
  | i + 1,hi => simp at hi
 ·match i,hi with
  | 0,hi =>
    obtain rfl:=Option.some.inj hi
    exact .nil _
  | i + 1,hi => simp at hi
 ·match i,hi with
  | 0,hi =>
    obtain rfl:=Option.some.inj hi
    exact .nil _
  | i + 1,hi => simp at hi
theorem aw_own {W : World} {g0 g1 g2 g4 nb cb : Nat} {L : Option Addr} {b : List St} {T0 T1 T2 T4 : TypeId} (h0 : W.heap[g0]? = some (.cells #[.string ⟨#[78,111,100,101]⟩,.string ⟨#[110,101,120,116]⟩] T0)) (h1 : W.heap[g1]? = some (.cells #[.string ⟨#[78,111,100,101]⟩,.slice (some ⟨g0,0,none⟩) 1 1] T1))
 (h2 : W.heap[g2]? = some (.cells #[.string ⟨#[78,111,100,101]⟩,.string ⟨#[120]⟩] T2)) (h4 : W.heap[g4]? = some (.cells (awPC g2 L nb cb) T4)) (hb : StRow W W.heap.size b L) (hn : nb = b.length) (hm : nb ≤ maxLen) : PgOwn W W.heap.size (awD g1 g4) (awG b):=by
 have hz : (0 : Nat) ≤ maxLen:=Nat.zero_le _
 have h1m : (1 : Nat) ≤ maxLen:=by unfold maxLen;exact Nat.le_of_ble_eq_true rfl
 have h4m : (4 : Nat) ≤ maxLen:=by unfold maxLen;exact Nat.le_of_ble_eq_true rfl
 refine ⟨⟨h1m,hz,hz,hz,hz,h1m⟩,?_,.nil _,.nil _,.nil _,.nil _,?_⟩
 ·refine .row ⟨g1,0,none⟩ _ (Array.getElem?_eq_some_iff.1 h1).1 (fun i x hi => ?_)
  match i,hi with
  | 0,hi =>
    obtain rfl:=Option.some.inj hi
    exact ⟨some ⟨g0,0,none⟩,1,cell_of_block h1 0 rfl,cell_of_block h1 1 rfl,h4m,h1m,pm_row1 (t:=nodeB) (n:=[110,101,120,116]) h0 h4m h4m⟩
  | i + 1,hi => simp [awG] at hi
 ·refine .row ⟨g4,0,none⟩ _ (Array.getElem?_eq_some_iff.1 h4).1 (fun i x hi => ?_)
  match i,hi with
  | 0,hi =>
    obtain rfl:=Option.some.inj hi
    refine ⟨⟨some ⟨g2,0,none⟩,none,none,none,none,L,1,0,0,0,0,cb⟩,fun j v hv => ?_,⟨h1m,h1m,hz,hz,hz,hz,hz,hz,by rw [hn] at hm;exact hm⟩,pm_row1 (t:=nodeB) (n:=[120]) h2 h4m h1m,.nil _,.nil _,.nil _,.nil _,hb⟩
    rw [add_of_add,add_block0,show 0 * 12 + j = j by omega]
    refine cell_of_block h4 j ?_
    rw [hn]
    exact hv
  | i + 1,hi => simp [awG] at hi
theorem taw_any (w : World) (hp : PartsAt w) : Calls Tryz.prog 7 #[] w fun e w' => e = .returned (.bool true) ∧ Below w.heap.size w w':=by
 obtain ⟨g0,hg0⟩ : ∃ g,g = w.heap.size:=⟨_,rfl⟩
 obtain ⟨W0,hW0⟩ : ∃ W,W = w.alloc (.cells #[.string ⟨#[78,111,100,101]⟩,.string ⟨#[110,101,120,116]⟩] 42):=⟨_,rfl⟩
 obtain ⟨W1,hW1⟩ : ∃ W,W = W0.alloc (.cells #[.string ⟨#[78,111,100,101]⟩,.slice (some ⟨g0,0,none⟩) 1 1] 36):=⟨_,rfl⟩
 obtain ⟨W2,hW2⟩ : ∃ W,W = W1.alloc (.cells #[.string ⟨#[78,111,100,101]⟩,.string ⟨#[120]⟩] 42):=⟨_,rfl⟩
 obtain ⟨W3,hW3⟩ : ∃ W,W = W2.alloc (.cells awSC 90):=⟨_,rfl⟩
 obtain ⟨W4,hW4⟩ : ∃ W,W = W3.alloc (.cells (awPC (g0 + 1 + 1) (some ⟨g0 + 1 + 1 + 1,0,none⟩) 1 1) 46):=⟨_,rfl⟩
 obtain ⟨W5,hW5⟩ : ∃ W,W = W4.alloc (.cells #[.slice (some ⟨g0 + 1,0,none⟩) 1 1,.slice none 0 0,.slice none 0 0,.slice none 0 0,.slice none 0 0,.slice (some ⟨g0 + 1 + 1 + 1 + 1,0,none⟩) 1 1] 29):=⟨_,rfl⟩
 have s0 : W0.heap.size = g0 + 1:=by rw [hW0,World.size_alloc,hg0]
 have s1 : W1.heap.size = g0 + 1 + 1:=by rw [hW1,World.size_alloc,s0]
 have s2 : W2.heap.size = g0 + 1 + 1 + 1:=by rw [hW2,World.size_alloc,s1]
 have s3 : W3.heap.size = g0 + 1 + 1 + 1 + 1:=by rw [hW3,World.size_alloc,s2]
 have s4 : W4.heap.size = g0 + 1 + 1 + 1 + 1 + 1:=by rw [hW4,World.size_alloc,s3]
 have b0:=heap_of_alloc w (.cells #[.string ⟨#[78,111,100,101]⟩,.string ⟨#[110,101,120,116]⟩] 42)
 have b1:=heap_of_alloc W0 (.cells #[.string ⟨#[78,111,100,101]⟩,.slice (some ⟨g0,0,none⟩) 1 1] 36)
 have b2:=heap_of_alloc W1 (.cells #[.string ⟨#[78,111,100,101]⟩,.string ⟨#[120]⟩] 42)
 have b3:=heap_of_alloc W2 (.cells awSC 90)
 have b4:=heap_of_alloc W3 (.cells (awPC (g0 + 1 + 1) (some ⟨g0 + 1 + 1 + 1,0,none⟩) 1 1) 46)
 have b5:=heap_of_alloc W4 (.cells #[.slice (some ⟨g0 + 1,0,none⟩) 1 1,.slice none 0 0,.slice none 0 0,.slice none 0 0,.slice none 0 0,.slice (some ⟨g0 + 1 + 1 + 1 + 1,0,none⟩) 1 1] 29)
 rw [← hW0,← hg0] at b0
 rw [← hW1,s0] at b1
 rw [← hW2,s1] at b2
 rw [← hW3,s2] at b3
 rw [← hW4,s3] at b4
 rw [← hW5,s4] at b5
 have t1 : Below W0.heap.size W0 W1:=by rw [hW1];exact below_alloc _ _
 have t2 : Below W1.heap.size W1 W2:=by rw [hW2];exact below_alloc _ _
 have t3 : Below W2.heap.size W2 W3:=by rw [hW3];exact below_alloc _ _
 have t4 : Below W3.heap.size W3 W4:=by rw [hW4];exact below_alloc _ _
 have t5 : Below W4.heap.size W4 W5:=by rw [hW5];exact below_alloc _ _
 have t0 : Below w.heap.size w W0:=by rw [hW0];exact below_alloc _ _
 have q0:=kept_box (t1.chain (t2.chain (t3.chain (t4.chain t5)))) b0
 have q1:=kept_box (t2.chain (t3.chain (t4.chain t5))) b1
 have q2:=kept_box (t3.chain (t4.chain t5)) b2
 have q3:=kept_box (t4.chain t5) b3
 have q4:=kept_box t5 b4
 have hb5 : Below w.heap.size w W5:=t0.chain (t1.chain (t2.chain (t3.chain (t4.chain t5))))
 have HQ:=Lib.hid (And.intro q0 (And.intro q1 (And.intro q2 (And.intro q3 (And.intro q4 b5)))))
 have HP:=Lib.hid (hp.on hb5)
 have HPW:=Lib.hid hp
 have HB5:=Lib.hid (And.intro hb5 hg0)
 have h1m : (1 : Nat) ≤ maxLen:=by unfold maxLen;exact Nat.le_of_ble_eq_true rfl
 have HC : Hid (Calls Tryz.prog 29 #[.agg #[.slice (some ⟨g0 + 1,0,none⟩) 1 1,.slice none 0 0,.slice none 0 0,.slice none 0 0,.slice none 0 0,.slice (some ⟨g0 + 1 + 1 + 1 + 1,0,none⟩) 1 1]] W5 (FaultPost (some ([120],6),(0,0)) W5)):=Lib.hid (by
  rw [← aw_bad]
  exact Check_any (awG [awS]) (awD (g0 + 1) (g0 + 1 + 1 + 1 + 1)) W5 HP.out (aw_own q0 q1 q2 q4 (aw_stRow q3) rfl h1m) (aw_ok [awS] (fun s hs => by simpa using hs) _ _ _))
 clear hp s0 s1 s2 s3 s4 b0 b1 b2 b3 b4 b5 t0 t1 t2 t3 t4 t5 q0 q1 q2 q3 q4 hb5 h1m
 rw [hW4,hW3,hW2,hW1,hW0] at hW5
 rw [hg0] at hW5
 go_enter Tryz.func7,Tryz.ntmps7
 go_wp2_with fail
 rw [← hW5]
 clear hW5 hW4 hW3 hW2 hW1 hW0
 rw [← hg0]
 clear hg0
 (with_reducible refine HC.out.mono ?_)
 rintro e w6 ⟨hr,hb⟩
 rcases hr with ⟨h0,-⟩ | ⟨-,g,rfl,hg,hfb⟩
 ·exact absurd h0 (by decide)
 have p5:=kept_box hb HQ.out.2.2.2.2.2
 have p4:=kept_box hb HQ.out.2.2.2.2.1
 have H6:=Lib.hid (And.intro hb (And.intro hfb hg))
 have f0:=cell_of_block hfb 0 (v:=.int .i64 0) rfl
 have f1:=cell_of_block hfb 1 (v:=.int .i64 0) rfl
 have f2:=cell_of_block hfb 2 (v:=.string ⟨#[120]⟩) rfl
 have f3:=cell_of_block hfb 3 (v:=.int .i64 6) rfl
 have v0:=cell_of_block p5 0 (v:=.slice (some ⟨g0 + 1,0,none⟩) 1 1) rfl
 have v1:=cell_of_block p5 1 (v:=.slice none 0 0) rfl
 have v2:=cell_of_block p5 2 (v:=.slice none 0 0) rfl
 have v3:=cell_of_block p5 3 (v:=.slice none 0 0) rfl
 have v4:=cell_of_block p5 4 (v:=.slice none 0 0) rfl
 have v5:=cell_of_block p5 5 (v:=.slice (some ⟨g0 + 1 + 1 + 1 + 1,0,none⟩) 1 1) rfl
 have z11:=cell_of_block p4 11 (v:=.slice (some ⟨g0 + 1 + 1 + 1,0,none⟩) 1 1) rfl
 have fz:=frozen_at p4 11
 obtain ⟨W7,hW7⟩ : ∃ W,W = w6.setCell ⟨g0 + 1 + 1 + 1 + 1,11,none⟩ (.slice none 0 0):=⟨_,rfl⟩
 have hn7 : Near (g0 + 1 + 1 + 1 + 1) w6 W7:=by rw [hW7];exact near_set w6 11 _
 have hb7 : Below w.heap.size w W7:=near_below (HB5.out.1.chain hb) hn7 (by have := HB5.out.2;omega)
 have kn : ∀ (g : Nat) (o : Obj),g ≠ g0 + 1 + 1 + 1 + 1 → w6.heap[g]? = some o → W7.heap[g]? = some o:=fun g o hne h => (hn7.block g (Array.getElem?_eq_some_iff.1 h).1 hne).trans h
 have r0:=kn _ _ (by omega) (kept_box hb HQ.out.1)
 have r1:=kn _ _ (by omega) (kept_box hb HQ.out.2.1)
 have r2:=kn _ _ (by omega) (kept_box hb HQ.out.2.2.1)
 have r5:=kn _ _ (by omega) p5
 have r4 : W7.heap[g0 + 1 + 1 + 1 + 1]? = some (.cells (awPC (g0 + 1 + 1) none 0 0) 46):=by rw [hW7];exact heap_setCell_at p4 11 (.slice none 0 0)
 have HO7:=Lib.hid (aw_own r0 r1 r2 r4 (.nil none) rfl (Nat.zero_le _))
 have HP7:=Lib.hid (HPW.out.on hb7)
 have H7:=Lib.hid (And.intro hb7 r5)
 have HV : Hid (BC W7 18 #[.agg #[.slice (some ⟨g0 + 1,0,none⟩) 1 1,.slice none 0 0,.slice none 0 0,.slice none 0 0,.slice none 0 0,.slice (some ⟨g0 + 1 + 1 + 1 + 1,0,none⟩) 1 1]] true):=Lib.hid (fun W hb => by
  have h : validB (awG []) = true:=by unfold validB;rw [aw_good];rfl
  rw [← h]
  exact Valid_any (awG []) (awD (g0 + 1) (g0 + 1 + 1 + 1 + 1)) W (HP7.out.on hb) (HO7.out.on hb) (aw_ok [] (fun s hs => by cases hs) _ _ _))
 have HC2 : Hid (∀ W,Below W7.heap.size W7 W → Calls Tryz.prog 29 #[.agg #[.slice (some ⟨g0 + 1,0,none⟩) 1 1,.slice none 0 0,.slice none 0 0,.slice none 0 0,.slice none 0 0,.slice (some ⟨g0 + 1 + 1 + 1 + 1,0,none⟩) 1 1]] W (FaultPost (none,(0,0)) W)):=Lib.hid (fun W hb => by
  rw [← aw_good]
  exact Check_any (awG []) (awD (g0 + 1) (g0 + 1 + 1 + 1 + 1)) W (HP7.out.on hb) (HO7.out.on hb) (aw_ok [] (fun s hs => by cases hs) _ _ _))
 clear hb hfb hg p4 p5 hn7 hb7 kn r0 r1 r2 r4 r5
 go_wp2_with fail
 rw [← hW7]
 clear hW7 f0 f1 f2 f3 v0 v1 v2 v3 v4 v5 z11 fz
 (with_reducible refine (HV.out _ (Below.refl _ _)).mono ?_)
 rintro e w8 ⟨rfl,hb⟩
 have p5:=kept_box hb H7.out.2
 have v0:=cell_of_block p5 0 (v:=.slice (some ⟨g0 + 1,0,none⟩) 1 1) rfl
 have v1:=cell_of_block p5 1 (v:=.slice none 0 0) rfl
 have v2:=cell_of_block p5 2 (v:=.slice none 0 0) rfl
 have v3:=cell_of_block p5 3 (v:=.slice none 0 0) rfl
 have v4:=cell_of_block p5 4 (v:=.slice none 0 0) rfl
 have v5:=cell_of_block p5 5 (v:=.slice (some ⟨g0 + 1 + 1 + 1 + 1,0,none⟩) 1 1) rfl
 have H8:=Lib.hid hb
 clear hb p5
 go_wp2_with (go_at_call 29;(with_reducible refine (HC2.out _ H8.out).mono ?_);rintro e w9 ⟨hr,hb⟩;have h9 : e = .returned (.slice none 0 0):=hr.elim (fun h => h.2) (fun h => absurd rfl h.1);obtain rfl:=h9;have H9:=Lib.hid (H7.out.1.chain (H8.out.chain hb));clear hr hb v0 v1 v2 v3 v4 v5)
 go_ret
 exact ⟨rfl,H9.out⟩
end Go.Proofs.YtojjfdegkooknaaGreatDoor
