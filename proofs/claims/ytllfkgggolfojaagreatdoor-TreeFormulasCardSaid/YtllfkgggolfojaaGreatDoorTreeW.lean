/-
  inOrder's iterator: its contract for any list of statements.
-/
import Derived.Test.YtllfkgggolfojaaGreatDoorTreeB
import Derived.Test.YtllfkgggolfojaaGreatDoorTreeRh
import Derived.Shelf.Abstract
import Derived.Shelf.RegionOpen
namespace Go.Proofs.YtllfkgggolfojaaGreatDoor
open Go.RowKit

attribute [local go_sem] Oper.semAt_some

theorem room_of_none {F : Fence} (hd : F.depth = none) (n : Nat) : F.room n := by
  intro d h
  rw [hd] at h
  cases h

theorem RoundIn.anyDepth {F : Fence} (hd : F.depth = none) {m m' : Nat} {P : Program} {l : Nat} {f : FuncId} {tmps : Array Value} {assign body : Code} {w : World} {R : Ending → World → Prop}
    (h : RoundIn F m P l f tmps assign body w R) : RoundIn F m' P l f tmps assign body w R := ⟨h.1, fun c cs _ => h.2 c cs (room_of_none hd _)⟩

theorem YieldAt.anyDepth {F : Fence} (hd : F.depth = none) {m : Nat} (m' : Nat) {P : Program} {l : Nat} {args : Array Value} {W : World} {R : Ending → World → Prop} (h : YieldAt F m P l args W R) : YieldAt F m' P l args W R := by
  obtain ⟨fn, tmps, assign, body, hy, hR⟩ := h
  exact ⟨fn, tmps, assign, body, hy, RoundIn.anyDepth hd hR⟩

set_option maxRecDepth 100000 in
set_option maxHeartbeats 1000000 in
theorem inOrder_seq (F : Fence) (m : Nat) (hd : F.depth = none) (h142 : F.fn 55) (h143 : F.fn 56) (hro : F.round = none) (b n c : Nat) (A : Option Addr) (whole : List (Array Value)) (Q : Nat → Prop) (w : World)
    (hbox : w.cell? ⟨b, 0, none⟩ = some (.slice A n c)) (hb : b < w.heap.size) (hO : Ord w Q A n whole) (hQ : ∀ b, Q b → b < w.heap.size) (hn : n ≤ maxLen) :
    SeqOwn F m Tryz.prog 55 #[.pointer (some ⟨b, 0, none⟩)] (fun cs : Array Value => #[.agg cs]) Q (fun pre x _ => pre ++ [x] <+: whole) (fun xs _ => xs = whole) (fun pre _ => pre <+: whole) w := by
  intro l J Jx W hbl hJ hJx hY h0
  have hdd : ∀ k : Nat, (F.depth.isSome = true → 1 ≤ k) := fun k h => by rw [hd] at h; cases h
  have hbox2 := (hbl.cell (p := ⟨b, 0, none⟩) hb).trans hbox
  have hO2 : Ord W Q A n whole := hO.keep (fun b hb => hbl.block b (hQ b hb)) (fun b hb => Nat.lt_of_lt_of_le (hQ b hb) hbl.size)
  have hp := ya_in F hd h143 hro l W.heap.size Q J Jx whole hJ (fun b hb => Nat.lt_of_lt_of_le (hQ b hb) hbl.size)
    (fun m' Pv pre cs W1 hj hl hg hpre => YieldAt.anyDepth hd m' (hY Pv pre cs W1 hj hl hg hpre)) (whole.length + 1) whole (Nat.lt_succ_self _) (m - 1) n c A (fun _ => False) [] W hn hO2 h0 (fun _ h => h.elim) (fun _ h => h.elim) (Nat.le_refl _) (by simp)
  have HP := Lib.hid hp
  clear hp hY hO hO2 hJ hJx h0 hQ hbox hbl
  refine callsIn_of_wp Tryz.func55 rfl h142 ?_ hro
  simp only [Tryz.ntmps55, List.size_toArray, List.length_cons, List.length_nil, Nat.reduceAdd, Nat.reduceSub, Array.replicate_succ, Array.replicate_zero, List.push_toArray, List.append_toArray, List.nil_append, List.cons_append]
  gi_wp2_with ((try refine ⟨hdd _, ?_⟩); gi_at_call 56; refine HP.out.mono ?_; rintro e W1 ⟨hk, hs, Pv1, s1, s2, s3, (⟨rfl, hj⟩ | ⟨rfl, q, hq, hx⟩)⟩)
  · go_end0
    exact ⟨⟨_, rfl⟩, Pv1, s2, .inl ⟨_, rfl, by simpa using hj⟩⟩
  · go_end0
    exact ⟨⟨_, rfl⟩, Pv1, s2, .inr ⟨q, hq, by simpa using hx⟩⟩

/-- What the two iterators of a walk keep: J's blocks, with the three boxes of Walk's literal. -/
abbrev WkPv (B : Nat) (Pv : Nat → Prop) : Nat → Prop := fun b => Pv b ∨ b = B ∨ b = B + 1 ∨ b = B + 2

/-- In the midst of Walk's literal: W0 is the world behind its boxes; B the first of them. -/
structure WkSt (Q : Nat → Prop) (J : (Nat → Prop) → List (Nat × Array Value) → World → Prop) (l B : Nat) (W0 : World) (whole : List (Array Value)) (Pv : Nat → Prop) (pre : List (Array Value)) (W : World) : Prop where
  ex : ∃ xs : List (Nat × Array Value), xs.length = pre.length ∧ J (WkPv B Pv) xs W
  pfx : pre <+: whole
  fn : W.cell? ⟨B, 0, none⟩ = some (.func (.yield l) #[] #[])
  num : W.heap[B + 1]? = some (.cells #[.int .i64 pre.length] 3 (0, 0))
  q : ∀ b, Q b → W.heap[b]? = W0.heap[b]?
  off : ∀ b, Pv b → W0.heap.size ≤ b
  size : W0.heap.size ≤ W.heap.size

theorem WkSt.abid {Q : Nat → Prop} {J : (Nat → Prop) → List (Nat × Array Value) → World → Prop} {l B : Nat} {W0 : World} {whole : List (Array Value)} (hJ : Abid J) (hB : B + 2 < W0.heap.size) (hQ : ∀ b, Q b → b < W0.heap.size) : Abid (WkSt Q J l B W0 whole) := by
  intro Pv Pv' s W W' h hp hn hl
  obtain ⟨xs, hx, hj⟩ := h.ex
  have hlt : ∀ b, b < W0.heap.size → b < W.heap.size := fun b hb => Nat.lt_of_lt_of_le hb h.size
  have hno : ∀ b, b < W0.heap.size → ¬ Pv b := fun b hb hp => by have := h.off b hp; omega
  refine ⟨⟨xs, hx, hJ _ _ _ _ _ hj (hp.mono fun b hb => Or.inl hb) (fun b hb => ?_) (fun b hb => ?_)⟩, h.pfx, (hp.cell (p := ⟨B, 0, none⟩) (hlt B (by omega)) (hno B (by omega))).trans h.fn, (hp.block (B + 1) (hlt _ (by omega)) (hno _ (by omega))).trans h.num,
    fun b hb => (hp.block b (hlt b (hQ b hb)) (hno b (hQ b hb))).trans (h.q b hb), fun b hb => ?_, Nat.le_trans h.size hp.size⟩
  · rcases hb with hb | hb
    · exact (hn b hb).imp (fun h => Or.inl h) id
    · exact Or.inl (Or.inr hb)
  · have := hp.size
    have := h.size
    rcases hb with hb | rfl | rfl | rfl
    · exact hl b hb
    · omega
    · omega
    · omega
  · rcases hn b hb with hb | hb
    · exact h.off b hb
    · exact Nat.le_trans h.size hb

/-- Walk's literal has been told to stop. -/
structure WkEnd (Jx : (Nat → Prop) → List (Nat × Array Value) → World → Prop) (B : Nat) (W0 : World) (whole : List (Array Value)) (c : Code) (Pv : Nat → Prop) (pre : List (Array Value)) (W : World) : Prop where
  ret : c = .ret
  ex : ∃ xs : List (Nat × Array Value), xs.length ≤ whole.length ∧ Jx (WkPv B Pv) xs W
  off : ∀ b, Pv b → W0.heap.size ≤ b
  size : W0.heap.size ≤ W.heap.size

theorem WkEnd.abid {Jx : (Nat → Prop) → List (Nat × Array Value) → World → Prop} {B : Nat} {W0 : World} {whole : List (Array Value)} (hJ : Abid Jx) (hB : B + 2 < W0.heap.size) (c : Code) : Abid (WkEnd Jx B W0 whole c) := by
  intro Pv Pv' s W W' h hp hn hl
  obtain ⟨xs, hx, hj⟩ := h.ex
  refine ⟨h.ret, ⟨xs, hx, hJ _ _ _ _ _ hj (hp.mono fun b hb => Or.inl hb) (fun b hb => ?_) (fun b hb => ?_)⟩, fun b hb => ?_, Nat.le_trans h.size hp.size⟩
  · rcases hb with hb | hb
    · exact (hn b hb).imp (fun h => Or.inl h) id
    · exact Or.inl (Or.inr hb)
  · have := hp.size
    have := h.size
    rcases hb with hb | rfl | rfl | rfl
    · exact hl b hb
    · omega
    · omega
    · omega
  · rcases hn b hb with hb | hb
    · exact h.off b hb
    · exact Nat.le_trans h.size hb

set_option maxRecDepth 100000 in
set_option maxHeartbeats 1000000 in
theorem inOrder_in (F : Fence) (m : Nat) (h94 : F.fn 31) (hro : F.round = none) (A : Option Addr) (n c : Nat) (w : World) :
    CallsIn F m Tryz.prog 31 #[.slice A n c] w fun e w' => e = .returned (.func (.func 55) #[] #[.pointer (some ⟨w.heap.size, 0, none⟩)]) ∧ w' = w.alloc (.cells #[.slice A n c] 31) := by
  refine callsIn_of_wp Tryz.func31 rfl h94 ?_ hro
  simp only [Tryz.ntmps31, List.size_toArray, List.length_cons, List.length_nil, Nat.reduceAdd, Nat.reduceSub, Array.replicate_succ, Array.replicate_zero, List.push_toArray, List.append_toArray, List.nil_append, List.cons_append]
  gi_wp2
  go_ret
  exact ⟨rfl, rfl⟩

set_option maxRecDepth 100000 in
set_option maxHeartbeats 4000000 in
theorem walk_seq (F : Fence) (m : Nat) (hm : 9 ≤ m) (hd : F.depth = none) (h96 : F.fn 30) (h94 : F.fn 31) (h97 : F.fn 32) (h142 : F.fn 55) (h143 : F.fn 56) (hro : F.round = none)
    (b n c : Nat) (A : Option Addr) (whole : List (Array Value)) (Q : Nat → Prop) (Rl : Nat → Array Value → World → Prop) (w : World)
    (hbox : w.cell? ⟨b, 0, none⟩ = some (.slice A n c)) (hb : b < w.heap.size) (hO : Ord w Q A n whole) (hQ : ∀ b, Q b → b < w.heap.size) (hn : n ≤ maxLen) (hlen : whole.length ≤ 1000000)
    (hcopy : ∀ m (k : Nat) cs W, whole[k]? = some cs → (∀ b, Q b → W.heap[b]? = w.heap[b]?) → CallsIn F m Tryz.prog 32 #[.agg cs, .int .i64 30] W fun e W' => ∃ cs' : Array Value, e = .returned (.agg cs') ∧ Rl k cs' W' ∧ Below W.heap.size W W') :
    SeqOwn F m Tryz.prog 30 #[.pointer (some ⟨b, 0, none⟩)] (fun x : Nat × Array Value => #[.int .i64 x.1, .agg x.2]) Q (fun pre x W => x.1 = pre.length ∧ pre.length < whole.length ∧ Rl pre.length x.2 W) (fun xs _ => xs.length = whole.length) (fun pre _ => pre.length ≤ whole.length) w := by
  intro l J Jx W hbl hJ hJx hY h0
  have hdd : ∀ k : Nat, (F.depth.isSome = true → 1 ≤ k) := fun k h => by rw [hd] at h; cases h
  have hbox2 := (hbl.cell (p := ⟨b, 0, none⟩) hb).trans hbox
  have hO2 : Ord W Q A n whole := hO.keep (fun b hb => hbl.block b (hQ b hb)) (fun b hb => Nat.lt_of_lt_of_le (hQ b hb) hbl.size)
  have hb2 : b < W.heap.size := Nat.lt_of_lt_of_le hb hbl.size
  have HI := Lib.hid (fun m' W' => inOrder_in F m' h94 hro A n c W')
  have HH := Lib.hid (And.intro hO2 (And.intro hJ (And.intro hJx (And.intro hY (And.intro h0 (And.intro hcopy (And.intro hQ hbl)))))))
  clear hO hO2 hJ hJx hY h0 hcopy hQ hbl hbox
  refine callsIn_of_wp_marks Tryz.func30 rfl h96 ?_ hro
  simp only [Tryz.ntmps30, List.size_toArray, List.length_cons, List.length_nil, Nat.reduceAdd, Nat.reduceSub, Array.replicate_succ, Array.replicate_zero, List.push_toArray, List.append_toArray, List.nil_append, List.cons_append]
  gi_wp2_with ((try refine ⟨hdd _, ?_⟩); gi_at_call 31; refine (HI.out _ _).mono ?_; rintro e W1 ⟨rfl, rfl⟩)
  obtain ⟨B, hB⟩ : ∃ B, B = W.heap.size := ⟨_, rfl⟩
  have hs1 := size_of_alloc W (.cells #[.func (.yield l) #[] #[]] 73)
  have hs2 := size_of_alloc (W.alloc (.cells #[.func (.yield l) #[] #[]] 73)) (.cells #[.int .i64 0] 3)
  have hs3 := size_of_alloc ((W.alloc (.cells #[.func (.yield l) #[] #[]] 73)).alloc (.cells #[.int .i64 0] 3)) (.cells #[.slice A n c] 31)
  have hk0 := heap_keep (o := .cells #[.slice A n c] 31) (heap_keep (o := .cells #[.int .i64 0] 3) (heap_of_alloc W (.cells #[.func (.yield l) #[] #[]] 73)))
  have hk1 := heap_keep (o := .cells #[.slice A n c] 31) (heap_of_alloc (W.alloc (.cells #[.func (.yield l) #[] #[]] 73)) (.cells #[.int .i64 0] 3))
  have hk2 := heap_of_alloc ((W.alloc (.cells #[.func (.yield l) #[] #[]] 73)).alloc (.cells #[.int .i64 0] 3)) (.cells #[.slice A n c] 31)
  have hbw : Below W.heap.size W (((W.alloc (.cells #[.func (.yield l) #[] #[]] 73)).alloc (.cells #[.int .i64 0] 3)).alloc (.cells #[.slice A n c] 31)) := ((below_alloc W _).chain (below_alloc _ _)).chain (below_alloc _ _)
  rw [hs1] at hk1 hs2
  rw [hs2] at hk2 hs3
  generalize hW0 : ((W.alloc (.cells #[.func (.yield l) #[] #[]] 73)).alloc (.cells #[.int .i64 0] 3)).alloc (.cells #[.slice A n c] 31) = W0 at *
  have HBW := Lib.hid hB
  rw [← hB] at hs1 hs2 hs3 hk0 hk1 hk2 hbw hb2 ⊢
  have hQW : ∀ b, Q b → b < B := fun b hb => by rw [HBW.out]; exact Nat.lt_of_lt_of_le (HH.out.2.2.2.2.2.2.1 b hb) HH.out.2.2.2.2.2.2.2.size
  have hOW : Ord W0 Q A n whole := HH.out.1.keep (fun b hb => hbw.block b (hQW b hb)) (fun b hb => by have := hQW b hb; omega)
  refine wpIn_rangeFunc_pv hro (by omega) (gf := 55) (lb := #[.pointer (some ⟨B + 1 + 1, 0, none⟩)]) rfl h142 (enters_of Tryz.func55 (by kernel_rfl) rfl)
    (inOrder_seq F (m - 1) hd h142 h143 hro (B + 1 + 1) n c A whole Q W0 (cell_of_block hk2 0 rfl) (by omega) hOW (fun b hb => by have := hQW b hb; omega) hn) (Below.refl _ _) (fun _ => rfl)
    (WkSt Q J l B W0 whole) (WkEnd Jx B W0 whole) (WkSt.abid HH.out.2.1 (by omega) (fun b hb => by have := hQW b hb; omega)) (fun c => WkEnd.abid HH.out.2.2.1 (by omega) c) ?start ?round (fun b hb => by have := hQW b hb; omega) (fun _ _ _ h _ => h) (fun _ _ _ h _ => h) ?done ?stop
  case start =>
    refine ⟨⟨[], rfl, HH.out.2.1 _ _ _ _ _ HH.out.2.2.2.2.1 (Part.of_below (by rw [← HBW.out]; exact hbw)) (fun b hb => ?_) (fun b hb => ?_)⟩, List.nil_prefix, cell_of_block hk0 0 rfl, hk1, fun _ _ => rfl, fun _ h => h.elim, Nat.le_refl _⟩
    · have := HBW.out
      rcases hb with hb | rfl | rfl | rfl
      · exact hb.elim
      · exact Or.inr (by omega)
      · exact Or.inr (by omega)
      · exact Or.inr (by omega)
    · rcases hb with hb | rfl | rfl | rfl
      · exact hb.elim
      · omega
      · omega
      · omega
  case round =>
    intro Pv pre cs W1 r hlt hge hD hL hr hI hy
    obtain ⟨rst, hrst⟩ := hy
    have hk : whole[pre.length]? = some cs := by rw [← hrst]; simp
    have hkl : pre.length < whole.length := (List.getElem?_eq_some_iff.1 hk).1
    have hcs := hOW.sized hk
    have hz1 := size_of_alloc W1 (.cells cs 44)
    have hbx := heap_of_alloc W1 (.cells cs 44)
    have hsz1 := hI.size
    obtain ⟨T, M, hT, hM, hag, hsz⟩ := stmt_hidden
    have e1 : ∀ y : Operand, Op.load 44 y = Op.load T y := fun y => by rw [hT]
    have e2 : ∀ y z : Operand, Op.store 44 y z = Op.store T y z := fun y z => by rw [hT]
    simp only [e1, e2]
    have hszc : cs.size = M := hcs.1.trans hM.symm
    have hst := store_new (w := W1) hcs.1 hcs.2
    have HM := Lib.hid hM
    have HR := Lib.hid (And.intro hI (And.intro hlt (And.intro hge (And.intro hD (And.intro hL (And.intro hk hrst))))))
    clear hT e1 e2 hM hlt hge hD hL hrst hr
    gi_wp2
    refine ⟨Part.alloc _ _, fun r' => ?_⟩
    have hne : W1.heap.size ≠ W0.heap.size + 1 := fun e => by have := HR.out.2.1 _ HR.out.2.2.2.2.1; omega
    obtain ⟨Wb, hWb⟩ : ∃ Wb, Wb = (W1.alloc (.cells cs 44)).putObj (W0.heap.size + 1) (.loop r') := ⟨_, rfl⟩
    have hzb : Wb.heap.size = W1.heap.size + 1 := by rw [hWb]; simp
    have hpb : Part Pv W1 Wb := by rw [hWb]; exact (Part.alloc _ _).trans (Part.putObj _ _ HR.out.2.2.2.2.1)
    have hIb : WkSt Q J l B W0 whole Pv pre Wb := WkSt.abid HH.out.2.1 (by omega) (fun b hb => by have := hQW b hb; omega) Pv Pv pre W1 Wb hI hpb (fun b hb => Or.inl hb) (fun b hb => by have := HR.out.2.1 b hb; omega)
    have hbb : Wb.heap[W1.heap.size]? = some (.cells cs 44 (0, 0)) := by rw [hWb]; exact (World.putObj_heap_other hne).trans hbx
    have hld := load_list (W := Wb) (a := ⟨W1.heap.size, 0, none⟩) (N := M) (cs := cs) (fun j v hv => by rw [add_block0]; exact cell_of_block hbb j hv) hszc
    rw [← hWb]
    have later : ∀ W3, Below Wb.heap.size Wb W3 → WkSt Q J l B W0 whole Pv pre W3 := fun W3 hb3 => WkSt.abid HH.out.2.1 (by omega) (fun b hb => by have := hQW b hb; omega) Pv Pv pre Wb W3 hIb (Part.of_below hb3) (fun b hb => Or.inl hb) (fun b hb => by have := HR.out.2.1 b hb; have := hb3.size; omega)
    have HCP : Hid (∀ m' W', Below Wb.heap.size Wb W' → CallsIn F m' Tryz.prog 32 #[.agg cs, .int .i64 30] W' fun e W3 => ∃ cs' : Array Value, e = .returned (.agg cs') ∧ Rl pre.length cs' W3 ∧ Below Wb.heap.size Wb W3) := Lib.hid (fun m' W' hb' =>
      (HH.out.2.2.2.2.2.1 m' pre.length cs W' HR.out.2.2.2.2.2.1 (fun b hb => by
        have h1 := (later W' hb').q b hb
        have h2 := hbw.block b (hQW b hb)
        have h3 := HH.out.2.2.2.2.2.2.2.block b (HH.out.2.2.2.2.2.2.1 b hb)
        rw [h1, h2, h3])).mono fun e W3 ⟨cs', he, hr, hb⟩ => ⟨cs', he, hr, hb'.trans (hb.mono hb'.size)⟩)
    have HYY : Hid (∀ m' W3 (cs' : Array Value), Rl pre.length cs' W3 → Below Wb.heap.size Wb W3 → YieldAt F m' Tryz.prog l #[.int .i64 pre.length, .agg cs'] W3 fun e W4 =>
        ∃ t : Bool, e = .returned (.bool t) ∧ W4.cell? ⟨B + 1, 0, none⟩ = some (.int .i64 pre.length) ∧ W4.frozen? ⟨B + 1, 0, none⟩ = false ∧ B + 1 < W4.heap.size ∧ W4.cell? ⟨B, 0, none⟩ = some (.func (.yield l) #[] #[]) ∧ (loadCellsFrom ⟨W1.heap.size, 0, none⟩ 0 M #[]).run Tryz.prog W4 = .ok cs W4 ∧
          Hid ((t = true → ∀ v, ownPostP (fun b => Pv b ∨ Q b) (WkSt Q J l B W0 whole Pv) (fun c => WkEnd Jx B W0 whole c Pv) (pre ++ [cs]) Wb .normal v (W4.setCell ⟨B + 1, 0, none⟩ (.int .i64 (pre.length + 1)))) ∧
            (t = false → ∀ v, ownPostP (fun b => Pv b ∨ Q b) (WkSt Q J l B W0 whole Pv) (fun c => WkEnd Jx B W0 whole c Pv) (pre ++ [cs]) Wb .ret v W4))) := Lib.hid (fun m' W3 cs' hr hb3 => by
      have h3 := later W3 hb3
      obtain ⟨xs, hx, hj1⟩ := HR.out.1.ex
      have hlt3 : ∀ b, WkPv B Pv b ∨ b = W1.heap.size → b < W3.heap.size := fun b hb => by
        have := hb3.size
        have := h3.size
        rcases hb with (hb | rfl | rfl | rfl) | rfl
        · have := HR.out.2.1 b hb; omega
        · omega
        · omega
        · omega
        · omega
      have hj : J (fun b => WkPv B Pv b ∨ b = W1.heap.size) xs W3 := HH.out.2.1 _ _ _ _ _ hj1 ((hpb.mono (fun b hb => Or.inl hb)).trans (Part.of_below hb3)) (fun b hb => hb.imp id (fun e => Nat.le_of_eq e.symm)) hlt3
      have hy0 := HH.out.2.2.2.1 (fun b => WkPv B Pv b ∨ b = W1.heap.size) xs (xs.length, cs') W3 hj hlt3 (fun b hb => by
        rw [← HBW.out]
        rcases hb with (hb | rfl | rfl | rfl) | rfl
        · have := HR.out.2.2.1 b hb; omega
        · omega
        · omega
        · omega
        · omega) ⟨rfl, by rw [hx]; exact hkl, by rw [hx]; exact hr⟩
      have hy1 := YieldAt.anyDepth hd m' hy0
      dsimp only at hy1
      rw [hx] at hy1
      refine YieldAt.mono hy1 fun e W4 ⟨hk4, hs4, ho⟩ => ?_
      have hkB : ∀ b, b < W3.heap.size → Pv b ∨ Q b → W4.heap[b]? = W3.heap[b]? := fun b hb hpq => hk4 b hb (hpq.imp (fun h => Or.inl (Or.inl h)) id)
      have hkeep : ∀ b, b < Wb.heap.size → Pv b ∨ Q b → W4.heap[b]? = Wb.heap[b]? := fun b hb hpq => (hkB b (Nat.lt_of_lt_of_le hb hb3.size) hpq).trans (hb3.block b hb)
      have hnum4 : W4.heap[B + 1]? = some (.cells #[.int .i64 pre.length] 3 (0, 0)) := (hk4 (B + 1) (hlt3 _ (Or.inl (Or.inr (Or.inr (Or.inl rfl))))) (Or.inl (Or.inl (Or.inr (Or.inr (Or.inl rfl)))))).trans h3.num
      have hfn4 : W4.cell? ⟨B, 0, none⟩ = some (.func (.yield l) #[] #[]) := (World.cell?_of_block (w := W3) (a := ⟨B, 0, none⟩) (hk4 B (hlt3 _ (Or.inl (Or.inr (Or.inl rfl)))) (Or.inl (Or.inl (Or.inr (Or.inl rfl)))))).trans h3.fn
      have hbb4 : W4.heap[W1.heap.size]? = some (.cells cs 44 (0, 0)) := (hk4 W1.heap.size (hlt3 _ (Or.inr rfl)) (Or.inl (Or.inr rfl))).trans ((hb3.block W1.heap.size (by omega)).trans hbb)
      have hld4 := load_list (W := W4) (a := ⟨W1.heap.size, 0, none⟩) (N := M) (cs := cs) (fun j v hv => by rw [add_block0]; exact cell_of_block hbb4 j hv) hszc
      have hs34 : Wb.heap.size ≤ W4.heap.size := Nat.le_trans hb3.size hs4
      have hlt4 : ∀ b, WkPv B Pv b → b < W4.heap.size := fun b hb => Nat.lt_of_lt_of_le (hlt3 b (Or.inl hb)) hs4
      have hpre : pre ++ [cs] <+: whole := ⟨rst, HR.out.2.2.2.2.2.2⟩
      have hxl : (xs ++ [(pre.length, cs')]).length = (pre ++ [cs]).length := by simp [hx]
      rcases ho with ⟨rfl, hj4⟩ | ⟨rfl, hx4⟩
      · refine ⟨true, rfl, cell_of_block hnum4 0 rfl, frozen_at hnum4 0, hlt4 _ (Or.inr (Or.inr (Or.inl rfl))), hfn4, hld4, fun _ v => ⟨fun b hb hpq => ?_, ?_, ?_⟩, fun h => by cases h⟩
        · refine (Below.heap_setCell W4 ⟨B + 1, 0, none⟩ _ b ?_).trans (hkeep b hb hpq)
          show b ≠ B + 1
          rcases hpq with hq | hq
          · have := h3.off b hq; omega
          · have := hQW b hq; omega
        · show Wb.heap.size ≤ (W4.setCell ⟨B + 1, 0, none⟩ _).heap.size
          simp [World.setCell]
          exact hs34
        · refine ⟨⟨xs ++ [(pre.length, cs')], hxl, HH.out.2.1 _ _ _ _ _ hj4 (Part.setCell W4 (a := ⟨B + 1, 0, none⟩) _ (Or.inl (Or.inr (Or.inr (Or.inl rfl))))) (fun b hb => Or.inl (Or.inl hb)) (fun b hb => by have := hlt4 b hb; simp [World.setCell]; exact this)⟩, hpre, ?_, ?_, fun b hb => ?_, h3.off, ?_⟩
          · rw [World.cell?_of_block (w := W4) (a := ⟨B, 0, none⟩) (Below.heap_setCell W4 ⟨B + 1, 0, none⟩ _ B (Nat.ne_of_lt (Nat.lt_succ_self B)))]
            exact hfn4
          · have := heap_setCell_at hnum4 0 (.int .i64 (pre.length + 1))
            rw [this]
            simp
          · refine (Below.heap_setCell W4 ⟨B + 1, 0, none⟩ _ b ?_).trans ((hkB b (by have := h3.size; have := hQW b hb; omega) (Or.inr hb)).trans (h3.q b hb))
            show b ≠ B + 1
            have := hQW b hb
            omega
          · have := h3.size
            simp [World.setCell]
            omega
      · refine ⟨false, rfl, cell_of_block hnum4 0 rfl, frozen_at hnum4 0, hlt4 _ (Or.inr (Or.inr (Or.inl rfl))), hfn4, hld4, (fun h => by cases h), fun _ v => ⟨hkeep, hs34, rfl, ⟨xs ++ [(pre.length, cs')], ?_, HH.out.2.2.1 _ _ _ _ _ hx4 (Part.refl _ _) (fun b hb => Or.inl (Or.inl hb)) hlt4⟩, h3.off, Nat.le_trans h3.size hs4⟩⟩
        have := hpre.length_le
        omega)
    have HB := Lib.hid (And.intro hIb later)
    have HBB := Lib.hid hbb
    have hfn := hIb.fn
    have hnm : Wb.cell? ⟨B + 1, 0, none⟩ = some (.int .i64 pre.length) := cell_of_block hIb.num 0 rfl
    have hldD : (loadCellsFrom ⟨W1.heap.size, 0, none⟩ 0 M #[]).run Tryz.prog Wb.drew = .ok cs Wb.drew := load_list (W := Wb.drew) (a := ⟨W1.heap.size, 0, none⟩) (N := M) (cs := cs) (fun j v hv => by rw [add_block0]; exact cell_of_block (W := Wb.drew) hbb j hv) hszc
    have hldE : (loadCellsFrom ⟨W1.heap.size, 0, none⟩ 0 M #[]).run Tryz.prog Wb.drew.drew = .ok cs Wb.drew.drew := load_list (W := Wb.drew.drew) (a := ⟨W1.heap.size, 0, none⟩) (N := M) (cs := cs) (fun j v hv => by rw [add_block0]; exact cell_of_block (W := Wb.drew.drew) hbb j hv) hszc
    clear hIb later hpb hWb hI hbb hbw hOW hQW hbx hst hk
    have hmx : Tryz.prog.follows .mixedOrders = true := by kernel_rfl
    rw [← HBW.out]
    clear hB hs1 hs2 hs3
    gi_wp2
    obtain ⟨S, hSd⟩ : ∃ S : World → Prop, S = fun Wx => Wx.cell? ⟨B, 0, none⟩ = some (.func (.yield l) #[] #[]) ∧ Wx.cell? ⟨B + 1, 0, none⟩ = some (.int .i64 pre.length) ∧ (loadCellsFrom ⟨W1.heap.size, 0, none⟩ 0 M #[]).run Tryz.prog Wx = .ok cs Wx := ⟨_, rfl⟩
    have hS0 : S Wb.drew := by rw [hSd]; exact ⟨hfn, hnm, hldD⟩
    have s1 : ∀ Wx, S Wx → Wx.cell? ⟨B, 0, none⟩ = some (.func (.yield l) #[] #[]) := fun Wx h => by rw [hSd] at h; exact h.1
    have s2 : ∀ Wx, S Wx → Wx.cell? ⟨B + 1, 0, none⟩ = some (.int .i64 pre.length) := fun Wx h => by rw [hSd] at h; exact h.2.1
    have s3 : ∀ Wx, S Wx → (loadCellsFrom ⟨W1.heap.size, 0, none⟩ 0 M #[]).run Tryz.prog Wx = .ok cs Wx := fun Wx h => by rw [hSd] at h; exact h.2.2
    have hS3 : Hid (∀ W3, Below Wb.heap.size Wb W3 → S W3) := Lib.hid (fun W3 hb3 => by
      rw [hSd]
      exact ⟨(HB.out.2 W3 hb3).fn, cell_of_block (HB.out.2 W3 hb3).num 0 rfl, load_list (W := W3) (a := ⟨W1.heap.size, 0, none⟩) (N := M) (cs := cs) (fun j v hv => by rw [add_block0]; exact cell_of_block (kept_box hb3 HBB.out) j hv) hszc⟩)
    have hS4 : Hid (∀ W4, W4.cell? ⟨B, 0, none⟩ = some (.func (.yield l) #[] #[]) → W4.cell? ⟨B + 1, 0, none⟩ = some (.int .i64 pre.length) → (loadCellsFrom ⟨W1.heap.size, 0, none⟩ 0 M #[]).run Tryz.prog W4 = .ok cs W4 → S W4) := Lib.hid (fun W4 h1 h2 h3 => by rw [hSd]; exact ⟨h1, h2, h3⟩)
    clear hSd hldD hldE hfn hnm hld
    refine wpIn_region_S S hmx ?_
    refine AnyS.take 0 (v := .func (.yield l) #[] #[]) hS0 rfl (by kernel_rfl) (by kernel_rfl) (by kernel_rfl) (by kernel_rfl) (fun _ _ _ h => h) rfl (fun _ => rfl) ?v0 ?_
    case v0 =>
      intro Wx hSx
      have q1 := s1 Wx hSx
      clear s1 s2 s3
      go_simp
    refine AnyS.take 1 (v := .int .i64 pre.length) hS0 rfl (by kernel_rfl) (by kernel_rfl) (by kernel_rfl) (by kernel_rfl) (fun _ _ _ h => h) rfl (fun _ => rfl) ?v1 ?_
    case v1 =>
      intro Wx hSx
      have q1 := s2 Wx hSx
      clear s1 s2 s3
      go_simp
    refine AnyS.take 2 (v := .agg cs) hS0 rfl (by kernel_rfl) (by kernel_rfl) (by kernel_rfl) (by kernel_rfl) (fun _ _ _ h => h) rfl (fun _ => rfl) ?v2 ?_
    case v2 =>
      intro Wx hSx
      have q1 := s3 Wx hSx
      clear s1 s2 s3
      go_simp
    clear s1 s2 s3 hS0
    refine AnyS.one 3 (by kernel_rfl) rfl rfl (fun K hK => ?_)
    go_simp
    (try refine ⟨hdd _, ?_⟩)
    refine (CallsIn.inRound (W0.heap.size + 1) (HCP.out _ _ (Below.refl _ _).drew)).mono ?_
    rintro e W3 ⟨cs', rfl, hRl, hb3⟩
    refine hK _ _ (hS3.out W3 hb3) ?_
    clear hK K
    have hS3' := hS3.out W3 hb3
    obtain ⟨fn, tmps, asg, bdy, hy2, hR⟩ := HYY.out (m - 1 - 1 - 1) W3 cs' hRl hb3
    clear hRl hb3
    refine AnyS.one 4 (by kernel_rfl) rfl rfl (fun K hK => ?_)
    go_simp
    (try refine ⟨hdd _, ?_⟩)
    refine hR.mono ?_
    rintro e W4 ⟨t, rfl, q1, q2, q3, q4, q5, HP4⟩
    have hS4' := hS4.out W4 q4 q1 q5
    refine hK _ _ hS4' ?_
    clear hK K q4 q5
    refine AnyS.take 5 (v := .bool (!t)) hS4' rfl (by kernel_rfl) (by kernel_rfl) (by kernel_rfl) (by kernel_rfl) (fun _ _ _ h => h) rfl (fun _ => rfl) ?v5 ?_
    case v5 =>
      intro Wx hSx
      go_simp
    refine AnyS.done (by kernel_rfl) ?_ _
    clear hS3' hS4' hS3 hS4
    cases t with
    | true =>
      gi_wp2
      exact HP4.out.1 trivial _
    | false =>
      gi_wp2
      exact HP4.out.2 trivial _
  case done =>
    intro Pv xs W1 hS hI hD hL hlt hdef
    have HI2 := Lib.hid (And.intro hI (And.intro hlt (And.intro hD hS)))
    clear hI hlt hD hL hS
    gi_wp2
    refine ⟨by simp, .inl ⟨_, _, rfl, run_takeDeferred hdef, ?_⟩⟩
    obtain ⟨ys, hy, hj⟩ := HI2.out.1.ex
    refine ⟨_, results_none rfl _ _ _, ⟨⟨_, rfl⟩, WkPv B Pv, fun b hb => ?_, .inl ⟨ys, by rw [hy, HI2.out.2.2.2], HH.out.2.1 _ _ _ _ _ hj (Part.putObj _ _ (Or.inl HI2.out.2.2.1)) (fun b hb => Or.inl hb) (fun b hb => ?_)⟩⟩⟩
    all_goals
      have h2 := HI2.out.1.size
      rw [show ∀ (k : Nat) (o : Obj), (W1.putObj k o).heap.size = W1.heap.size from fun k o => by simp]
      rcases hb with hb | rfl | rfl | rfl
      · exact HI2.out.2.1 b hb
      · omega
      · omega
      · omega
  case stop =>
    intro c' Pv pre W1 hS hI hD hL hlt hdef
    obtain rfl := hI.ret
    have HI2 := Lib.hid (And.intro hI (And.intro hlt (And.intro hD hS)))
    clear hI hlt hD hL hS
    gi_wp2
    refine ⟨by simp, .inl ⟨_, _, rfl, run_takeDeferred hdef, ?_⟩⟩
    obtain ⟨ys, hy, hj⟩ := HI2.out.1.ex
    refine ⟨_, results_none rfl _ _ _, ⟨⟨_, rfl⟩, WkPv B Pv, fun b hb => ?_, .inr ⟨ys, hy, HH.out.2.2.1 _ _ _ _ _ hj (Part.putObj _ _ (Or.inl HI2.out.2.2.1)) (fun b hb => Or.inl hb) (fun b hb => ?_)⟩⟩⟩
    all_goals
      have h2 := HI2.out.1.size
      rw [show ∀ (k : Nat) (o : Obj), (W1.putObj k o).heap.size = W1.heap.size from fun k o => by simp]
      rcases hb with hb | rfl | rfl | rfl
      · exact HI2.out.2.1 b hb
      · omega
      · omega
      · omega

end Go.Proofs.YtllfkgggolfojaaGreatDoor
