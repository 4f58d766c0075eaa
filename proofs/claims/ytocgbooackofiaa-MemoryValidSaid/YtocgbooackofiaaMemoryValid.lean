/-
  The body of the law MemoryValid.
-/
import Derived.Test.YtocgbooackofiaaMemA
import Derived.Test.YtocgbooackofiaaMemEq
import Derived.Test.YtocgbooackofiaaMemGt
import Derived.Test.YtocgbooackofiaaMemH
import Derived.Test.YtocgbooackofiaaMemX
import Derived.Test.YtocgbooackofiaaMemRN
import Derived.Deep.RegionWith
namespace Go.Proofs.Ytocgbooackofiaa
open Go.RowKit Go.Lib

theorem noAt_err {l : List Bk} {t : Int} {i : Nat} {er : Int} (h : Located l t i er) (he : er ≠ 0) (hok : MemOk l) : NoAt l t := by
  rcases h with ⟨h1, _⟩ | ⟨_, rfl, _⟩ | ⟨_, _, h3, _⟩ | ⟨_, _, _, h4⟩
  · exact absurd hok h1
  · intro k x hx e
    have := (hok.2 k x hx).1.1.1
    omega
  · exact h3
  · exact absurd h4 he

set_option maxRecDepth 100000 in
set_option maxHeartbeats 2000000 in
theorem valid_err (A : Option Addr) (c n : Nat) (l : List Bk) (hn : n = l.length) (hl : n ≤ maxLen) (t : Int) (w : World) (hm : MemAt w w.heap.size A l) (i : Nat) (er : Int) (hL : Located l t i er) (he : er ≠ 0) :
    Calls Try.prog 3 #[.slice A n c, .int .i64 t] w fun e w' => e = .returned (.bool true) ∧ Below w.heap.size w w' := by
  obtain ⟨r, hr⟩ := says (MemOk l)
  have HV : Hid (∀ W, Below w.heap.size w W → Calls Try.prog 12 #[.slice A n c] W fun e w' => e = .returned (.bool r) ∧ Below W.heap.size W w') := Lib.hid (fun W hW => rvalid_any _ _ _ l hn hl W (hm.later hW) _ hr)
  have HVm : Hid (∀ W, Below w.heap.size w W → Calls Try.prog 14 #[.slice A n c] W fun e w' => e = .returned (.bool r) ∧ Below W.heap.size W w') := Lib.hid (fun W hW => valid_any _ _ _ l hn hl W (hm.later hW) _ hr)
  have HEq : Hid (∀ W, Below w.heap.size w W → Calls Try.prog 15 #[.slice A n c, .slice A n c] W fun e w' => e = .returned (.bool r) ∧ Below W.heap.size W w') := Lib.hid (fun W hW => mequal_any A A c c n n l l hn hn hl hl W (hm.later hW) (hm.later hW) r ⟨fun h => ⟨hr.1 h, hr.1 h, rfl⟩, fun h => hr.2 h.1⟩)
  have HG : Hid (∀ W, Below w.heap.size w W → Calls Try.prog 13 #[.slice A n c, .int .i64 t] W fun e w' => e = .returned (.tuple #[.agg #[.int .i64 0, .string ⟨#[]⟩, .slice none 0 0], .bool false]) ∧ Below W.heap.size W w') := Lib.hid (fun W hW => get_err A c n l hn hl t W (hm.later hW) i er hL he)
  have HAt : Hid (∀ W, Below w.heap.size w W → Calls Try.prog 16 #[.slice A n c, .int .i64 t] W (AtPost l t W)) := Lib.hid (fun W hW => rat_any _ _ _ l hn hl _ W (hm.later hW))
  have HNo := Lib.hid (And.intro hL (And.intro he hr))
  clear hr hn hl hm hL he
  go_enter Try.func3, Try.ntmps3
  go_wp2_with fail
  refine (awake_any _).mono ?_
  rintro e w1 ⟨rfl, hb⟩
  have H1 := Lib.hid hb
  clear hb
  go_wp2_with fail
  refine (HV.out _ H1.out).mono ?_
  rintro e w2 ⟨rfl, hb⟩
  have H2 := Lib.hid (H1.out.next hb)
  clear hb
  go_wp2_with fail
  refine (HG.out _ H2.out).mono ?_
  rintro e w3 ⟨rfl, hb⟩
  have H3 := Lib.hid (H2.out.next hb)
  have H4 := Lib.hid (H3.out.al (.cells #[.int .i64 0, .string ⟨#[]⟩, .slice none 0 0] 27))
  clear hb
  go_wp2_with fail
  refine (HVm.out _ H4.out).mono ?_
  rintro e w5 ⟨rfl, hb⟩
  have H5 := Lib.hid (And.intro hb (H4.out.next hb))
  clear hb
  cases r
  · go_wp2_with fail
    refine (HEq.out _ H5.out.2).mono ?_
    rintro e w6 ⟨rfl, hb⟩
    have H6 := Lib.hid (And.intro (H5.out.1.next hb) (H5.out.2.next hb))
    clear hb
    go_wp2_with fail
    refine (HAt.out _ H6.out.2).mono ?_
    rintro e w7 ⟨q, rfl, hq, rfl⟩
    have HQ := Lib.hid hq
    clear hq
    obtain ⟨⟨d0, d1, d2⟩, hfr, hz⟩ := box3 H6.out.1
    clear hfr
    by_cases hq0 : q < 0
    · go_wp2
      go_ret
      exact ⟨rfl, H6.out.2⟩
    · go_wp2
      go_ret
      exact ⟨rfl, H6.out.2⟩
  · go_wp2_with fail
    refine (HEq.out _ H5.out.2).mono ?_
    rintro e w6 ⟨rfl, hb⟩
    have H6 := Lib.hid (And.intro (H5.out.1.next hb) (H5.out.2.next hb))
    clear hb
    go_wp2_with fail
    refine (HAt.out _ H6.out.2).mono ?_
    rintro e w7 ⟨q, rfl, hq, rfl⟩
    obtain rfl : q = -1 := hq.neg (noAt_err HNo.out.1 HNo.out.2.1 HNo.out.2.2.t)
    clear hq
    obtain ⟨⟨d0, d1, d2⟩, hfr, hz⟩ := box3 H6.out.1
    clear hfr
    go_wp2
    go_ret
    exact ⟨rfl, H6.out.2⟩

theorem addr_add_zero (a : Addr) : a.add 0 = a := by simp [Addr.add]

theorem memAt_one {W : World} {B : Nat} {b : Addr} {x : Bk} {F : Option Addr} {c : Nat} (h : b.block < B) (c0 : W.cell? b = some (.int .i64 x.a)) (c1 : W.cell? (b.add 1) = some (.string ⟨x.r.toArray⟩)) (c2 : W.cell? (b.add 2) = some (.slice F x.f.length c)) (hl : BkLen x) (hf : FieldsAt W B F x.f) : MemAt W B (some b) [x] := by
  intro k y hk
  have hk0 : k = 0 := by have := (List.getElem?_eq_some_iff.1 hk).1; simp at this; exact this
  subst hk0
  obtain rfl : x = y := by simpa using hk
  exact ⟨b, F, c, rfl, h, by rw [Nat.zero_mul, addr_add_zero]; exact c0, by rw [Nat.zero_mul, addr_add_zero]; exact c1, by rw [Nat.zero_mul, addr_add_zero]; exact c2, hl, hf⟩

set_option maxRecDepth 100000 in
set_option maxHeartbeats 4000000 in
theorem valid_ok (A : Option Addr) (c n : Nat) (l : List Bk) (hn : n = l.length) (hs : n ≤ c ∧ c ≤ maxLen) (t : Int) (w : World) (hm : MemAt w w.heap.size A l) (i : Nat) (hL : Located l t i 0) :
    Calls Try.prog 3 #[.slice A n c, .int .i64 t] w fun e w' => e = .returned (.bool true) ∧ Below w.heap.size w w' := by
  have hl : n ≤ maxLen := Nat.le_trans hs.1 hs.2
  obtain ⟨hok, _, hat⟩ := located_ok hL
  have hin : i < n := by have := hat.lt; omega
  obtain ⟨x, hx⟩ := mem_ex (l := l) (i := i) (by omega)
  have hr : Tells true (MemOk l) := ⟨fun _ => hok, fun _ => rfl⟩
  obtain ⟨a, F0, c0, rfl, hB0⟩ := hm i x hx
  have HV : Hid (∀ W, Below w.heap.size w W → Calls Try.prog 12 #[.slice (some a) n c] W fun e w' => e = .returned (.bool true) ∧ Below W.heap.size W w') := Lib.hid (fun W hW => rvalid_any _ _ _ l hn hl W (hm.later hW) _ hr)
  have HVm : Hid (∀ W, Below w.heap.size w W → Calls Try.prog 14 #[.slice (some a) n c] W fun e w' => e = .returned (.bool true) ∧ Below W.heap.size W w') := Lib.hid (fun W hW => valid_any _ _ _ l hn hl W (hm.later hW) _ hr)
  have HEq : Hid (∀ W, Below w.heap.size w W → Calls Try.prog 15 #[.slice (some a) n c, .slice (some a) n c] W fun e w' => e = .returned (.bool true) ∧ Below W.heap.size W w') := Lib.hid (fun W hW => mequal_any (some a) (some a) c c n n l l hn hn hl hl W (hm.later hW) (hm.later hW) true ⟨fun h => ⟨hr.1 h, hr.1 h, rfl⟩, fun h => hr.2 h.1⟩)
  have HG : Hid (∀ W, Below w.heap.size w W → Calls Try.prog 13 #[.slice (some a) n c, .int .i64 t] W (GetPost x true W)) := Lib.hid (fun W hW => get_ok (some a) c n l hn hl t W (hm.later hW) i x hL hx)
  have HAt : Hid (∀ W, Below w.heap.size w W → Calls Try.prog 16 #[.slice (some a) n c, .int .i64 t] W (AtPost l t W)) := Lib.hid (fun W hW => rat_any _ _ _ l hn hl _ W (hm.later hW))
  have HL := Lib.hid (And.intro hok (And.intro hat (And.intro hB0 hx)))
  have hin' : (i : Int) < n := by omega
  have hi0 : (0 : Int) ≤ i := by omega
  have hi0' : ¬ (i : Int) < 0 := by omega
  have hci : ¬ (c = i) := by omega
  have hic : (i : Int) ≤ c := by omega
  have hic1 : (i : Int) + 1 ≤ c := by omega
  have hcm : c ≤ 9223372036854775807 := by have := hs.2; unfold maxLen at this; omega
  have hw1 : IntKind.i64.wrap ((i : Int) + 1) = (i : Int) + 1 := by rw [IntKind.wrap_i64]; omega
  have hb1 : (0 : Int) ≤ (i : Int) + 1 := by omega
  have hii : (i : Int) ≤ (i : Int) + 1 := by omega
  have htn : ((i : Int) + 1).toNat = i + 1 := by omega
  have hsub : i + 1 - i = 1 := by omega
  clear hr hn hl hm hL hok hat hB0 hx hs
  obtain ⟨xa, hxa⟩ : ∃ xa, xa = x.a := ⟨_, rfl⟩
  obtain ⟨xr, hxr⟩ : ∃ xr, xr = x.r := ⟨_, rfl⟩
  obtain ⟨xn, hxn⟩ : ∃ xn, xn = x.f.length := ⟨_, rfl⟩
  have HE := Lib.hid (And.intro hxa (And.intro hxr hxn))
  clear hxa hxr hxn
  go_enter Try.func3, Try.ntmps3
  go_wp2_with fail
  refine (awake_any _).mono ?_
  rintro e w1 ⟨rfl, hb⟩
  have H1 := Lib.hid hb
  clear hb
  go_wp2_with fail
  refine (HV.out _ H1.out).mono ?_
  rintro e w2 ⟨rfl, hb⟩
  have H2 := Lib.hid (H1.out.next hb)
  clear hb
  go_wp2_with fail
  refine (HG.out _ H2.out).mono ?_
  rintro e w3 ⟨F, c3, rfl, hf, hb⟩
  rw [← HE.out.1, ← HE.out.2.1, ← HE.out.2.2]
  have H3 := Lib.hid (H2.out.next hb)
  have HF := Lib.hid hf
  have H4 := Lib.hid (H3.out.al (.cells #[.int .i64 xa, .string ⟨xr.toArray⟩, .slice F xn c3] 27))
  clear hb hf
  go_wp2_with fail
  refine (HVm.out _ H4.out).mono ?_
  rintro e w5 ⟨rfl, hb⟩
  have H5 := Lib.hid (And.intro hb (H4.out.next hb))
  clear hb
  go_wp2_with fail
  refine (HEq.out _ H5.out.2).mono ?_
  rintro e w6 ⟨rfl, hb⟩
  have H6 := Lib.hid (And.intro (H5.out.1.next hb) (H5.out.2.next hb))
  clear hb
  go_wp2_with fail
  refine (HAt.out _ H6.out.2).mono ?_
  rintro e w7 ⟨q, rfl, hq, rfl⟩
  obtain rfl : q = (i : Int) := hq.pos HL.out.1 HL.out.2.1
  clear hq
  obtain ⟨⟨d0, d1, d2⟩, hfr, hz⟩ := box3 H6.out.1
  clear hfr
  have HEQ : Hid (∀ W, W.heap[w6.heap.size]? = some (.cells #[.int .i64 xa, .string ⟨xr.toArray⟩, .slice F xn c3] 27 (0, 0)) → Below w6.heap.size w6 W → ∀ cc, Calls Try.prog 17 #[.slice (some ⟨w6.heap.size, 0, none⟩) 1 1, .slice (some (a.add (i * 3))) 1 cc] W fun e w' => e = .returned (.bool true) ∧ Below W.heap.size W w') := Lib.hid (fun W hbx hW cc => by
    have h36 : Below w3.heap.size w3 w6 := (below_alloc w3 _).next H6.out.1
    have hB := HL.out.2.2.1.keep (w' := W) (B' := W.heap.size) (fun q hq => (H6.out.2.next hW).cell hq) (H6.out.2.next hW).size
    refine requal_same _ _ _ _ 1 1 [x] rfl rfl (by unfold maxLen; omega) W (memAt_one (F := F) (c := c3) (Array.getElem?_eq_some_iff.1 hbx).1 ?_ ?_ ?_ hB.len (HF.out.later (h36.next hW))) (memAt_one (F := F0) (c := c0) (by rw [blk_add]; exact hB.lt) hB.c0 hB.c1 hB.c2 hB.len hB.flds)
    · rw [← HE.out.1]; exact (cell_free hbx 0 _ rfl).1
    · rw [← HE.out.2.1, Addr.add_lit, Nat.zero_add]; exact (cell_free hbx 1 _ rfl).1
    · rw [← HE.out.2.2, Addr.add_lit, Nat.zero_add]; exact (cell_free hbx 2 _ rfl).1)
  go_wp2_with fail
  go_region_with (go_at_call 17; refine (HEQ.out _ (by first | exact heap_of_alloc w6 _ | exact heap_of_alloc w6.drew _) (by first | exact ((Below.refl _ _).al _).drew1 | exact ((Below.refl _ _).drew1.al _) | exact ((Below.refl _ _).al _)) _).mono ?_; rintro e w8 ⟨rfl, hb⟩; have H8 := Lib.hid hb; clear hb)
  all_goals
    go_wp2
    go_ret
    exact ⟨rfl, by first | exact (H6.out.2.al _).drew1.next H8.out | exact (H6.out.2.drew1.al _).next H8.out | exact (H6.out.2.al _).next H8.out⟩

theorem valid_law (A : Option Addr) (c : Nat) (l : List Bk) (hS : l.length ≤ c ∧ c ≤ maxLen ∧ (A = none → c = 0)) (t : Int) (w : World) (hm : MemAt w w.heap.size A l) :
    Calls Try.prog 3 #[.slice A l.length c, .int .i64 t] w fun e w' => e = .returned (.bool true) ∧ Below w.heap.size w w' := by
  obtain ⟨i, er, hL⟩ := located_ex l t
  by_cases he : er = 0
  · subst he
    exact valid_ok A c _ l rfl ⟨hS.1, hS.2.1⟩ t w hm i hL
  · exact valid_err A c _ l rfl (Nat.le_trans hS.1 hS.2.1) t w hm i er hL he

end Go.Proofs.Ytocgbooackofiaa
