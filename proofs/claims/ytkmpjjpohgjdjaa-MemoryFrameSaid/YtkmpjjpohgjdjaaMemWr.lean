/-
  Contract of memory.Write.
-/
import Derived.Test.YtkmpjjpohgjdjaaMemN
import Derived.Test.YtkmpjjpohgjdjaaMemL
namespace Go.Proofs.Ytkmpjjpohgjdjaa
open Go.RowKit Go.Lib

/-- What Write answers where the access at index i ended with er. -/
def WrIs (l : List Bk) (i : Nat) (fd val er : Int) (l' : List Bk) (e : Int) : Prop :=
  (er ≠ 0 ∧ l' = [] ∧ e = er) ∨ (er = 0 ∧ ¬ InR val ∧ l' = [] ∧ e = 10) ∨ (er = 0 ∧ InR val ∧ e = 0 ∧ ∃ x, l[i]? = some x ∧ l' = l.set i ⟨x.a, x.r, x.f.set fd.toNat val⟩)

theorem access_ok {l : List Bk} {t : Int} {rc : List UInt8} {fd : Int} {i : Nat} {v : Int} (h : Access l t rc fd i v 0) : ∃ x, MemOk l ∧ l[i]? = some x ∧ x.r = rc ∧ 0 ≤ fd ∧ x.f[fd.toNat]? = some v ∧ t ≠ 0 ∧ HasAt l t i := by
  rcases h with ⟨_, h, _⟩ | ⟨_, _, _, _, _, _, _, h⟩ | ⟨_, _, _, _, _, _, _, _, h⟩ | ⟨x, h1, hx, h2, h0, h3, _⟩
  · exact absurd rfl h
  · exact absurd h (by decide)
  · exact absurd h (by decide)
  · obtain ⟨g1, g2, g3⟩ := located_ok h1
    exact ⟨x, g1, hx, h2, h0, h3, g2, g3⟩

theorem wr_ex {l : List Bk} {t : Int} {rc : List UInt8} {fd : Int} {i : Nat} {v er : Int} (val : Int) (h : Access l t rc fd i v er) : ∃ l' e, WrIs l i fd val er l' e := by
  by_cases he : er = 0
  · subst he
    obtain ⟨x, _, hx, _⟩ := access_ok h
    by_cases hv : InR val
    · exact ⟨_, 0, .inr (.inr ⟨rfl, hv, rfl, x, hx, rfl⟩)⟩
    · exact ⟨_, 10, .inr (.inl ⟨rfl, hv, rfl, rfl⟩)⟩
  · exact ⟨[], er, .inl ⟨he, rfl, rfl⟩⟩

theorem set_size (w : World) (q : Addr) (u : Value) : (w.setCell q u).heap.size = w.heap.size := by simp [World.setCell]

theorem add_ne (a : Addr) {k i : Nat} (h : k ≠ i) : a.add k ≠ a.add i := by
  intro e
  unfold Addr.add at e
  split at e <;> split at e <;> (have := congrArg Addr.off e; simp at this; omega)

theorem RowMem.set_other {w : World} {B0 : Nat} {v : Value} {L : List Bx} (h : RowMem w B0 v L) {q : Addr} {u : Value} (hq : some q.block ≠ v.ownBlock) : RowMem (w.setCell q u) B0 v L := by
  unfold RowMem at h ⊢
  refine ⟨h.1, ?_⟩
  rcases h.2 with h2 | ⟨g, cap, cur, hv, hB, hg, hr⟩
  · exact .inl h2
  · refine .inr ⟨g, cap, cur, hv, hB, ?_, hr⟩
    rw [heap_set_other (by intro e; exact hq (by rw [hv, ← e]; rfl))]
    exact hg

theorem FieldsOwn.set_other {w : World} {B0 : Nat} {av : Option Nat} {F : Option Addr} {f : List Int} (h : FieldsOwn w B0 av F f) {q : Addr} {u : Value} (hq : ∀ a, F = some a → 0 < f.length → a.block ≠ q.block) : FieldsOwn (w.setCell q u) B0 av F f := by
  intro i v hi
  obtain ⟨a, h1, h2, h3, h4, h5, h6⟩ := h i v hi
  have hl := (List.getElem?_eq_some_iff.1 hi).1
  have hne := hq a h1 (by omega)
  exact ⟨a, h1, h2, by rw [set_size]; exact h3, h4, (World.cell?_of_block (by rw [blk_add]; exact heap_set_other hne)).trans h5, (World.frozen?_of_block (by rw [blk_add]; exact heap_set_other hne)).trans h6⟩

theorem FieldsOwn.store {w : World} {B0 : Nat} {av : Option Nat} {a : Addr} {f : List Int} (h : FieldsOwn w B0 av (some a) f) {k : Nat} (hk : k < f.length) (val : Int) : FieldsOwn (w.setCell (a.add k) (.int .i64 val)) B0 av (some a) (f.set k val) := by
  intro i v hi
  have hil : i < f.length := by have := (List.getElem?_eq_some_iff.1 hi).1; rwa [List.length_set] at this
  obtain ⟨a', h1, h2, h3, h4, h5, h6⟩ := h i _ (List.getElem?_eq_getElem hil)
  obtain rfl := Option.some.inj h1
  refine ⟨a, rfl, h2, by rw [set_size]; exact h3, h4, ?_, by rw [World.frozen?_setCell]; exact h6⟩
  by_cases e : k = i
  · subst e
    rw [List.getElem?_set_self hk] at hi
    obtain rfl := Option.some.inj hi
    exact World.cell?_setCell_same _ _ _ h5
  · rw [List.getElem?_set_ne e, List.getElem?_eq_getElem hil] at hi
    obtain rfl := Option.some.inj hi
    rw [World.cell?_setCell_other w _ _ _ (add_ne a e)]
    exact h5

theorem cellsL_same {L : List Bx} {i : Nat} {p q : Bx} (hp : L[i]? = some p) (h : cells3 q = cells3 p) : cellsL (L.set i q) = cellsL L := by
  have hi := (List.getElem?_eq_some_iff.1 hp).1
  have e : (L.set i q).map cells3 = L.map cells3 := by
    apply List.ext_getElem?
    intro j
    rw [List.getElem?_map, List.getElem?_map]
    by_cases e : i = j
    · subst e
      rw [List.getElem?_set_self hi, hp, Option.map_some, Option.map_some, h]
    · rw [List.getElem?_set_ne e]
  unfold cellsL
  rw [List.flatMap_def, List.flatMap_def, e]

/-- A block with a field written. -/
def Bx.put (p : Bx) (k : Nat) (val : Int) : Bx := ⟨⟨p.x.a, p.x.r, p.x.f.set k val⟩, p.F, p.c⟩

theorem put_cells (p : Bx) (k : Nat) (val : Int) : cells3 (p.put k val) = cells3 p := by
  unfold cells3 Bx.put
  simp

theorem put_len {p : Bx} (h : BkLen p.x) (k : Nat) (val : Int) : BkLen (p.put k val).x := ⟨h.1, by show (p.x.f.set k val).length ≤ maxLen; rw [List.length_set]; exact h.2⟩

/-- A field of a memory of one's own is written. -/
theorem OwnMem.write {w : World} {B0 : Nat} {v : Value} {L : List Bx} (h : OwnMem w B0 v L) (hap : Apart L) {i k : Nat} {p : Bx} {a : Addr} (hp : L[i]? = some p) (ha : p.F = some a) (hk : k < p.x.f.length) (val : Int) :
    OwnMem (w.setCell (a.add k) (.int .i64 val)) B0 v (L.set i (p.put k val)) := by
  obtain ⟨hl, hf⟩ := h.2 p (List.mem_of_getElem? hp)
  rw [ha] at hf
  obtain ⟨a', h1, _, _, h4, _, _⟩ := hf k _ (List.getElem?_eq_getElem hk)
  obtain rfl := Option.some.inj h1
  refine ⟨?_, fun r hr => ?_⟩
  · have := RowMem.set_other h.1 (q := a.add k) (u := .int .i64 val) (by rw [blk_add]; exact h4)
    unfold RowMem at this ⊢
    rw [cellsL_same hp (put_cells p k val), List.length_set]
    exact this
  · obtain ⟨j, hj⟩ := List.getElem?_of_mem hr
    by_cases e : i = j
    · subst e
      rw [List.getElem?_set_self (List.getElem?_eq_some_iff.1 hp).1] at hj
      obtain rfl := Option.some.inj hj
      refine ⟨put_len hl k val, ?_⟩
      show FieldsOwn _ _ _ p.F (p.x.f.set k val)
      rw [ha]
      exact hf.store hk val
    · rw [List.getElem?_set_ne e] at hj
      obtain ⟨g1, g2⟩ := h.2 r (List.mem_of_getElem? hj)
      refine ⟨g1, g2.set_other fun b hb h0 => ?_⟩
      rw [blk_add]
      exact hap.ne (fun e' => e e'.symm) hj hp h0 (by omega) hb ha

/-- Behind Write. -/
def WritePost (l' : List Bk) (er : Int) (w : World) (e : Ending) (w' : World) : Prop :=
  ∃ A L c, e = .returned (.tuple #[.slice A L.length c, .int .i64 er]) ∧ blocksOf L = l' ∧ OwnMem w' w.heap.size (.slice A L.length c) L ∧ Below w.heap.size w w'

theorem blocks_at {L : List Bx} {l : List Bk} (h : blocksOf L = l) {i : Nat} {x : Bk} (hx : l[i]? = some x) : ∃ p, L[i]? = some p ∧ p.x = x := by
  subst h
  unfold blocksOf at hx
  rw [List.getElem?_map] at hx
  cases e : L[i]? with
  | none => rw [e] at hx; cases hx
  | some p => rw [e] at hx; exact ⟨p, rfl, Option.some.inj hx⟩

theorem blocks_put {L : List Bx} {l : List Bk} (h : blocksOf L = l) (i : Nat) (p : Bx) : blocksOf (L.set i p) = l.set i p.x := by
  subst h
  unfold blocksOf
  rw [List.map_set]

/-- What the store into a field of the copy needs. -/
theorem copy_cells {w : World} {B0 g n : Nat} {L : List Bx} {l : List Bk} (hL : blocksOf L = l) (hn : L.length = n) (h : OwnMem w B0 (.slice (some ⟨g, 0, none⟩) n n) L) {i k : Nat} {x : Bk} {v : Int} (hx : l[i]? = some x) (hk : x.f[k]? = some v) :
    ∃ p f, L[i]? = some p ∧ p.x = x ∧ p.F = some f ∧ w.cell? ⟨g, i * 3 + 2, none⟩ = some (.slice (some f) x.f.length p.c) ∧ w.cell? (f.add k) = some (.int .i64 v) ∧ w.frozen? (f.add k) = false ∧ g < w.heap.size ∧ f.block < w.heap.size ∧ B0 ≤ f.block := by
  subst hn
  obtain ⟨p, hp, rfl⟩ := blocks_at hL hx
  have hlt := (List.getElem?_eq_some_iff.1 hp).1
  obtain ⟨hl, hf⟩ := h.2 p (List.mem_of_getElem? hp)
  obtain ⟨f, h1, h2, h3, h4, h5, h6⟩ := hf k v hk
  have hr := h.1
  unfold RowMem at hr
  refine ⟨p, f, hp, rfl, h1, ?_, h5, h6, (own_lt hr g rfl).2, h3, h2⟩
  rw [hr.cellAt _ (by omega), cellsL_get hp 2 (by omega)]
  show some (Value.slice p.F p.x.f.length p.c) = _
  rw [h1]

set_option maxRecDepth 100000 in
set_option maxHeartbeats 4000000 in
theorem write_any (A : Option Addr) (c n : Nat) (l : List Bk) (hn : n = l.length) (hl : n ≤ maxLen) (t : Int) (rc : List UInt8) (fd val : Int) (w : World) (hm : MemAt w w.heap.size A l) (i : Nat) (v er : Int) (hL : Access l t rc fd i v er) (l' : List Bk) (er' : Int) (hW : WrIs l i fd val er l' er') :
    Calls Try.prog 14 #[.slice A n c, .int .i64 t, .string ⟨rc.toArray⟩, .int .i64 fd, .int .i64 val] w (WritePost l' er' w) := by
  have HA : Hid (Calls Try.prog 36 #[.slice A n c, .int .i64 t, .string ⟨rc.toArray⟩, .int .i64 fd] w fun e w' => e = .returned (.tuple #[.int .i64 i, .int .i64 er]) ∧ Below w.heap.size w w') := Lib.hid (access_any _ _ _ l hn hl _ _ _ _ hm _ _ _ hL)
  have HM := Lib.hid (And.intro hm (And.intro hn hL))
  unfold maxLen at hl
  clear hm hL
  rcases hW with ⟨he, rfl, rfl⟩ | ⟨rfl, hv, rfl, rfl⟩ | ⟨rfl, hv, rfl, x, hx, rfl⟩
  · have h2' : (er' == 0) = false := beq_eq_false_iff_ne.2 he
    have h2'' : (er' != 0) = true := by rw [bne_iff_ne]; exact he
    clear he hn
    go_enter Try.func14, Try.ntmps14
    go_wp2_with (go_at_call 36; refine HA.out.mono ?_; rintro e w1 ⟨rfl, hb⟩; have HB := Lib.hid hb; clear hb)
    go_ret2
    exact ⟨none, [], 0, rfl, rfl, OwnMem.nil _ _, HB.out⟩
  · have HV : Hid (Tells false (InR val)) := Lib.hid ⟨fun h => absurd h (by decide), fun h => absurd h hv⟩
    clear hv hn
    go_enter Try.func14, Try.ntmps14
    go_wp2_with (first
      | (go_at_call 36; refine HA.out.mono ?_; rintro e w1 ⟨rfl, hb⟩; have HB := Lib.hid hb; clear hb)
      | (go_at_call 37; refine (inRange_any _ _ _ HV.out).mono ?_; rintro e w2 ⟨rfl, rfl⟩))
    go_ret2
    exact ⟨none, [], 0, rfl, rfl, OwnMem.nil _ _, HB.out⟩
  · have HV : Hid (Tells true (InR val)) := Lib.hid ⟨fun _ => hv, fun _ => rfl⟩
    obtain ⟨x', hok, hx', _, h0, hfv, _⟩ := access_ok HM.out.2.2
    obtain rfl : x = x' := Option.some.inj (hx.symm.trans hx')
    obtain ⟨k, rfl⟩ := Int.eq_ofNat_of_zero_le h0
    have hfv' : x.f[k]? = some v := by simpa using hfv
    have hin : i < n := by have := (List.getElem?_eq_some_iff.1 hx).1; omega
    have hin' : (i : Int) < n := by omega
    have hi0 : (0 : Int) ≤ i := by omega
    have h100 : n ≤ 100 := by have := hok.1; omega
    obtain ⟨xn, hxn⟩ : ∃ xn, xn = x.f.length := ⟨_, rfl⟩
    have hkn : k < xn := by have := (List.getElem?_eq_some_iff.1 hfv').1; omega
    have hkn' : (k : Int) < xn := by omega
    have hk0 : (0 : Int) ≤ k := by omega
    have hxl : xn ≤ 8 := by have := (hok.2 i x hx).1.2.2.1.2; omega
    have HX := Lib.hid (And.intro hx (And.intro hfv' (And.intro hxn hok)))
    have HC : Hid (∀ W, Below w.heap.size w W → Calls Try.prog 25 #[.slice A n c] W (CopyAllPost2 l n W)) := Lib.hid (fun W hW => copyAll_two A c n l HM.out.2.1 (by omega) (fun y hy => by
      obtain ⟨q, hq⟩ := List.getElem?_of_mem hy
      have := (hok.2 q y hq).1.2.2.1.2
      omega) W (HM.out.1.later hW))
    clear hv hn hx hx' hfv hfv' hok hxn
    go_enter Try.func14, Try.ntmps14
    go_wp2_with (first
      | (go_at_call 36; refine HA.out.mono ?_; rintro e w1 ⟨rfl, hb⟩; have HB := Lib.hid hb; clear hb)
      | (go_at_call 37; refine (inRange_any _ _ _ HV.out).mono ?_; rintro e w2 ⟨rfl, rfl⟩)
      | (go_at_call 25; refine (HC.out _ (by first | exact HB.out | exact HB.out.drew1)).mono ?_; rintro e w3 ⟨L, rfl, q1, q2, q3, q4, q5⟩; obtain ⟨p, f, p1, p2, p3, c2, c3, c4, z1, z2, z3⟩ := copy_cells q1 q2 q3 HX.out.1 HX.out.2.1; have H3 := Lib.hid (And.intro q1 (And.intro q2 (And.intro q3 (And.intro (HB.out.next q4) (And.intro q5 (And.intro p1 (And.intro p2 (And.intro p3 z3)))))))); rw [← HX.out.2.2.1] at c2; clear q1 q2 q3 q4 q5 p1 p2 p3 z3))
    go_ret2
    refine ⟨some ⟨w1.heap.size, 0, none⟩, L.set i (p.put k val), n, (by rw [List.length_set, H3.out.2.1]; rfl), ?_, ?_, ?_⟩
    · rw [blocks_put H3.out.1, show (p.put k val).x = ⟨p.x.a, p.x.r, p.x.f.set k val⟩ from rfl, H3.out.2.2.2.2.2.2.1]
      simp
    · have := H3.out.2.2.1.write H3.out.2.2.2.2.1 H3.out.2.2.2.2.2.1 H3.out.2.2.2.2.2.2.2.1 (k := k) (by rw [H3.out.2.2.2.2.2.2.1]; exact (List.getElem?_eq_some_iff.1 HX.out.2.1).1) val
      rw [List.length_set, H3.out.2.1]
      exact this.base HB.out.size
    · exact H3.out.2.2.2.1.setCell (by rw [blk_add]; exact Nat.le_trans HB.out.size H3.out.2.2.2.2.2.2.2.2) _

end Go.Proofs.Ytkmpjjpohgjdjaa
