/-
  Contract of memory.Get.
-/
import Derived.Test.YtkmpjjpohgjdjaaMemWr
namespace Go.Proofs.Ytkmpjjpohgjdjaa
open Go.RowKit Go.Lib

/-- Behind Get. -/
def GetPost (b : Bk) (ok : Bool) (w : World) (e : Ending) (w' : World) : Prop :=
  ∃ F c, e = .returned (.tuple #[.agg #[.int .i64 b.a, .string ⟨b.r.toArray⟩, .slice F b.f.length c], .bool ok]) ∧ FieldsAt w' w'.heap.size F b.f ∧ Below w.heap.size w w'

/-- The cells of a box of a block made at B. -/
theorem box3 {w w' : World} {x0 x1 x2 : Value} (hb : Below (w.alloc (.cells #[x0, x1, x2] 43)).heap.size (w.alloc (.cells #[x0, x1, x2] 43)) w') :
    (w'.cell? ⟨w.heap.size, 0, none⟩ = some x0 ∧ w'.cell? ⟨w.heap.size, 1, none⟩ = some x1 ∧ w'.cell? ⟨w.heap.size, 2, none⟩ = some x2) ∧ (∀ j, w'.frozen? ⟨w.heap.size, j, none⟩ = false) ∧ w.heap.size < w'.heap.size := by
  have hbx := (hb.block w.heap.size (by rw [size_of_alloc]; exact Nat.lt_succ_self _)).trans (heap_of_alloc w _)
  exact ⟨⟨(cell_free hbx 0 _ rfl).1, (cell_free hbx 1 _ rfl).1, (cell_free hbx 2 _ rfl).1⟩, fun j => by simp [World.frozen?, hbx], (Array.getElem?_eq_some_iff.1 hbx).1⟩

set_option maxRecDepth 100000 in
set_option maxHeartbeats 2000000 in
theorem get_err (A : Option Addr) (c n : Nat) (l : List Bk) (hn : n = l.length) (hl : n ≤ maxLen) (t : Int) (w : World) (hm : MemAt w w.heap.size A l) (i : Nat) (er : Int) (hL : Located l t i er) (he : er ≠ 0) :
    Calls Try.prog 17 #[.slice A n c, .int .i64 t] w fun e w' => e = .returned (.tuple #[.agg #[.int .i64 0, .string ⟨#[]⟩, .slice none 0 0], .bool false]) ∧ Below w.heap.size w w' := by
  have HJ := Lib.hid (below_alloc w (.cells #[.int .i64 0, .string ⟨#[]⟩, .slice none 0 0] 43))
  have HA : Hid (∀ W, Below w.heap.size w W → Calls Try.prog 38 #[.slice A n c, .int .i64 t] W fun e w' => e = .returned (.tuple #[.int .i64 i, .int .i64 er]) ∧ Below W.heap.size W w') := Lib.hid (fun W hW => locate_any _ _ _ l hn hl _ W (hm.later hW) _ _ hL)
  have h2' : (er == 0) = false := beq_eq_false_iff_ne.2 he
  have h2'' : (er != 0) = true := by rw [bne_iff_ne]; exact he
  clear he hn hm hL hl
  go_enter Try.func17, Try.ntmps17
  go_wp2_with (go_at_call 38; refine (HA.out _ HJ.out).mono ?_; rintro e w1 ⟨rfl, hb⟩; obtain ⟨⟨d0, d1, d2⟩, hfr, hz⟩ := box3 hb; have g0 := hfr 0; have g1 := hfr 1; have g2 := hfr 2; have HB := Lib.hid hb; clear hb hfr)
  refine bodyPost_ret (v := .tuple #[.agg #[.int .i64 0, .string ⟨#[]⟩, .slice none 0 0], .bool false]) (by simp [results, Try.results17, go_sem, hz, d0, d1, d2, g0, g1, g2]) rfl ⟨rfl, ?_⟩
  exact (((HJ.out.next HB.out).setCell (p := ⟨w.heap.size, 0, none⟩) (Nat.le_refl _) _).setCell (p := ⟨w.heap.size, 1, none⟩) (Nat.le_refl _) _).setCell (p := ⟨w.heap.size, 2, none⟩) (Nat.le_refl _) _

set_option maxRecDepth 100000 in
set_option maxHeartbeats 2000000 in
theorem get_ok (A : Option Addr) (c n : Nat) (l : List Bk) (hn : n = l.length) (hl : n ≤ maxLen) (t : Int) (w : World) (hm : MemAt w w.heap.size A l) (i : Nat) (x : Bk) (hL : Located l t i 0) (hx : l[i]? = some x) :
    Calls Try.prog 17 #[.slice A n c, .int .i64 t] w (GetPost x true w) := by
  have HJ := Lib.hid (below_alloc w (.cells #[.int .i64 0, .string ⟨#[]⟩, .slice none 0 0] 43))
  have HA : Hid (∀ W, Below w.heap.size w W → Calls Try.prog 38 #[.slice A n c, .int .i64 t] W fun e w' => e = .returned (.tuple #[.int .i64 i, .int .i64 0]) ∧ Below W.heap.size W w') := Lib.hid (fun W hW => locate_any _ _ _ l hn hl _ W (hm.later hW) _ _ hL)
  obtain ⟨hok, _, hat⟩ := located_ok hL
  have hin : i < n := by have := hat.lt; omega
  have hin' : (i : Int) < n := by omega
  have hi0 : (0 : Int) ≤ i := by omega
  obtain ⟨a, F, c', rfl, hB⟩ := hm i x hx
  have h8 : x.f.length ≤ 8 := (hok.2 i x hx).1.2.2.1.2
  have HC : Hid (∀ W, Below w.heap.size w W → Calls Try.prog 43 #[.agg #[.int .i64 x.a, .string ⟨x.r.toArray⟩, .slice F x.f.length c']] W (CopyPost x W)) := Lib.hid (fun W hW => copyBlock_any x F c' (by omega) W (hB.flds.later hW))
  have HX := Lib.hid hB
  obtain ⟨xa, hxa⟩ : ∃ xa, xa = x.a := ⟨_, rfl⟩
  obtain ⟨xr, hxr⟩ : ∃ xr, xr = x.r := ⟨_, rfl⟩
  obtain ⟨xn, hxn⟩ : ∃ xn, xn = x.f.length := ⟨_, rfl⟩
  have HE := Lib.hid (And.intro hxa (And.intro hxr hxn))
  rw [← hxa, ← hxr, ← hxn] at HC
  unfold maxLen at hl
  clear hn hm hL hx hok hat hB hxa hxr hxn h8
  go_enter Try.func17, Try.ntmps17
  go_wp2_with (first
    | (go_at_call 38; refine (HA.out _ HJ.out).mono ?_; rintro e w1 ⟨rfl, hb⟩; have HB := Lib.hid hb; have HB1 := Lib.hid (HJ.out.next hb); have c0 : w1.cell? (a.add (i * 3)) = some (.int .i64 xa) := (by rw [HE.out.1]; exact (HB1.out.cell (by rw [blk_add]; exact HX.out.lt)).trans HX.out.c0); have c1 : w1.cell? ⟨(a.add (i * 3)).block, (a.add (i * 3)).off + 1, none⟩ = some (.string ⟨xr.toArray⟩) := (by rw [HE.out.2.1]; exact (HB1.out.cell (p := (a.add (i * 3)).add 1) (by rw [blk_add, blk_add]; exact HX.out.lt)).trans HX.out.c1); have c2 : w1.cell? ⟨(a.add (i * 3)).block, (a.add (i * 3)).off + 2, none⟩ = some (.slice F xn c') := (by rw [HE.out.2.2]; exact (HB1.out.cell (p := (a.add (i * 3)).add 2) (by rw [blk_add, blk_add]; exact HX.out.lt)).trans HX.out.c2); clear hb)
    | (go_at_call 43; refine (HC.out _ HB1.out).mono ?_; rintro e w2 ⟨F', c'', rfl, hb, hF⟩; rw [← HE.out.1, ← HE.out.2.1, ← HE.out.2.2]; obtain ⟨⟨d0, d1, d2⟩, hfr, hz⟩ := box3 (HB.out.next hb); have g0 := hfr 0; have g1 := hfr 1; have g2 := hfr 2; have H2 := Lib.hid (And.intro hF (HB1.out.next hb)); have HZ := Lib.hid (And.intro HJ.out.size HB.out.size); clear hb hfr hF))
  refine bodyPost_ret (v := .tuple #[.agg #[.int .i64 xa, .string ⟨xr.toArray⟩, .slice F' xn c''], .bool true]) (by simp [results, Try.results17, go_sem, hz, d0, d1, d2, g0, g1, g2]) rfl ⟨F', c'', by rw [HE.out.1, HE.out.2.1, HE.out.2.2], ?_, ?_⟩
  · have hlt : w.heap.size < w1.heap.size := by have := HB.out.size; rw [size_of_alloc] at this; omega
    exact (((H2.out.1.set_other (q := ⟨w.heap.size, 0, none⟩) (fun b hb h0 => by have := (H2.out.1.first h0 hb).1; show b.block ≠ w.heap.size; omega)).set_other (q := ⟨w.heap.size, 1, none⟩) (fun b hb h0 => by have := (H2.out.1.first h0 hb).1; show b.block ≠ w.heap.size; omega)).set_other (q := ⟨w.heap.size, 2, none⟩) (fun b hb h0 => by have := (H2.out.1.first h0 hb).1; show b.block ≠ w.heap.size; omega)).at_
  · exact ((H2.out.2.setCell (p := ⟨w.heap.size, 0, none⟩) (Nat.le_refl _) _).setCell (p := ⟨w.heap.size, 1, none⟩) (Nat.le_refl _) _).setCell (p := ⟨w.heap.size, 2, none⟩) (Nat.le_refl _) _

end Go.Proofs.Ytkmpjjpohgjdjaa
