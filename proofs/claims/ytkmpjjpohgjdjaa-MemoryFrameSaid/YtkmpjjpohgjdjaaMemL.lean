/-
  Contracts of memory.locate, memory.access, memory.Read and sepalref06.Read.
-/
import Derived.Test.YtkmpjjpohgjdjaaMemV
import Derived.Test.YtkmpjjpohgjdjaaMemY
import Derived.Test.YtkmpjjpohgjdjaaMemF
namespace Go.Proofs.Ytkmpjjpohgjdjaa
open Go.RowKit

theorem located_err {l : List Bk} {t : Int} {i : Nat} {e : Int} (h : Located l t i e) (he : e ≠ 0) : i = 0 := by
  rcases h with h | h | h | h
  · exact h.2.1
  · exact h.2.2.1
  · exact h.2.2.2.1
  · exact absurd h.2.2.2 he

theorem noAt_has {l : List Bk} {t : Int} {i : Nat} (h : NoAt l t) (g : HasAt l t i) : False := by
  obtain ⟨x, hx, he⟩ := g
  exact h i x hx he

theorem hasAt_uniq {l : List Bk} {t : Int} {i j : Nat} (hl : MemOk l) (h : HasAt l t i) (g : HasAt l t j) : i = j := (h.lb hl).uniq (g.lb hl)

set_option maxRecDepth 100000 in
set_option maxHeartbeats 1000000 in
theorem locate_any (A : Option Addr) (c n : Nat) (l : List Bk) (hn : n = l.length) (hl : n ≤ maxLen) (t : Int) (w : World) (hm : MemAt w w.heap.size A l) (i : Nat) (er : Int) (hL : Located l t i er) :
    Calls Try.prog 38 #[.slice A n c, .int .i64 t] w fun e w' => e = .returned (.tuple #[.int .i64 i, .int .i64 er]) ∧ Below w.heap.size w w' := by
  obtain ⟨r, hr⟩ := says (MemOk l)
  have HM := Lib.hid (And.intro hm (And.intro hn (And.intro hl hr)))
  clear hm hn hl hr
  rcases hL with ⟨h1, rfl, rfl⟩ | ⟨h1, rfl, rfl, rfl⟩ | ⟨h1, h2, h3, rfl, rfl⟩ | ⟨h1, h2, h3, rfl⟩
  · obtain rfl : r = false := HM.out.2.2.2.no h1
    clear h1
    go_enter Try.func38, Try.ntmps38
    go_wp2_with (go_at_call 23; refine (valid_any _ _ _ l HM.out.2.1 HM.out.2.2.1 _ HM.out.1 _ HM.out.2.2.2).mono ?_; rintro e w1 ⟨rfl, hb⟩; have HB := Lib.hid hb; clear hb)
    go_ret2
    exact ⟨rfl, HB.out⟩
  · obtain rfl : r = true := HM.out.2.2.2.yes h1
    clear h1
    go_enter Try.func38, Try.ntmps38
    go_wp2_with (go_at_call 23; refine (valid_any _ _ _ l HM.out.2.1 HM.out.2.2.1 _ HM.out.1 _ HM.out.2.2.2).mono ?_; rintro e w1 ⟨rfl, hb⟩; have HB := Lib.hid hb; clear hb)
    go_ret2
    exact ⟨rfl, HB.out⟩
  · obtain rfl : r = true := HM.out.2.2.2.yes h1
    have h2' : (t == 0) = false := beq_eq_false_iff_ne.2 h2
    have HH := Lib.hid (And.intro h1 h3)
    clear h1 h2 h3
    go_enter Try.func38, Try.ntmps38
    go_wp2_with (first
      | (go_at_call 23; refine (valid_any _ _ _ l HM.out.2.1 HM.out.2.2.1 _ HM.out.1 _ HM.out.2.2.2).mono ?_; rintro e w1 ⟨rfl, hb⟩; have HB := Lib.hid hb; clear hb)
      | (go_at_call 24; refine (find_any _ _ _ l HM.out.2.1 _ _ HH.out.1 (HM.out.1.later HB.out)).mono ?_; rintro e w2 ⟨i, ok, rfl, g1, g2, g3⟩; obtain rfl : ok = false := g2.no (fun hc => noAt_has HH.out.2 hc); have HB2 := Lib.hid (HB.out.next g3); clear g1 g2 g3))
    go_ret2
    exact ⟨rfl, HB2.out⟩
  · obtain rfl : r = true := HM.out.2.2.2.yes h1
    have h2' : (t == 0) = false := beq_eq_false_iff_ne.2 h2
    have HH := Lib.hid (And.intro h1 h3)
    clear h1 h2 h3
    go_enter Try.func38, Try.ntmps38
    go_wp2_with (first
      | (go_at_call 23; refine (valid_any _ _ _ l HM.out.2.1 HM.out.2.2.1 _ HM.out.1 _ HM.out.2.2.2).mono ?_; rintro e w1 ⟨rfl, hb⟩; have HB := Lib.hid hb; clear hb)
      | (go_at_call 24; refine (find_any _ _ _ l HM.out.2.1 _ _ HH.out.1 (HM.out.1.later HB.out)).mono ?_; rintro e w2 ⟨i2, ok, rfl, g1, g2, g3⟩; obtain rfl : i2 = i := g1.uniq (HH.out.2.lb HH.out.1); obtain rfl : ok = true := g2.yes HH.out.2; have HB2 := Lib.hid (HB.out.next g3); clear g1 g2 g3))
    go_ret2
    exact ⟨rfl, HB2.out⟩

set_option maxRecDepth 100000 in
set_option maxHeartbeats 2000000 in
theorem access_any (A : Option Addr) (c n : Nat) (l : List Bk) (hn : n = l.length) (hl : n ≤ maxLen) (t : Int) (rc : List UInt8) (fd : Int) (w : World) (hm : MemAt w w.heap.size A l) (i : Nat) (v er : Int) (hL : Access l t rc fd i v er) :
    Calls Try.prog 36 #[.slice A n c, .int .i64 t, .string ⟨rc.toArray⟩, .int .i64 fd] w fun e w' => e = .returned (.tuple #[.int .i64 i, .int .i64 er]) ∧ Below w.heap.size w w' := by
  have HM := Lib.hid (And.intro hm (And.intro hn hl))
  unfold maxLen at hl
  clear hm
  rcases hL with ⟨h1, h2, rfl⟩ | ⟨k, x, h1, hx, h2, rfl, rfl, rfl⟩ | ⟨k, x, h1, hx, h2, h3, rfl, rfl, rfl⟩ | ⟨x, h1, hx, h2, h0, h3, rfl⟩
  · obtain rfl : i = 0 := located_err h1 h2
    have h2' : (er == 0) = false := beq_eq_false_iff_ne.2 h2
    have h2'' : (er != 0) = true := by rw [bne_iff_ne]; exact h2
    have HH := Lib.hid h1
    clear h1 h2 hn
    go_enter Try.func36, Try.ntmps36
    go_wp2_with (go_at_call 38; refine (locate_any _ _ _ l HM.out.2.1 HM.out.2.2 _ _ HM.out.1 _ _ HH.out).mono ?_; rintro e w1 ⟨rfl, hb⟩; have HB := Lib.hid hb; clear hb)
    go_ret2
    exact ⟨rfl, HB.out⟩
  · have hkn : k < n := by have := (List.getElem?_eq_some_iff.1 hx).1; omega
    have hk' : (k : Int) < n := by omega
    obtain ⟨a, F, c', rfl, hB⟩ := HM.out.1 k x hx
    have HX := Lib.hid hB
    obtain ⟨xr, hxr⟩ : ∃ xr, xr = x.r := ⟨_, rfl⟩
    have HE := Lib.hid hxr
    rw [← hxr] at h2
    have h2' : (xr == rc) = false := beq_eq_false_iff_ne.2 h2
    have h2'' : (xr != rc) = true := by rw [bne_iff_ne]; exact h2
    have HH := Lib.hid h1
    clear h1 h2 hn hx hB hxr
    go_enter Try.func36, Try.ntmps36
    go_wp2_with (go_at_call 38; refine (locate_any _ _ _ l HM.out.2.1 HM.out.2.2 _ _ HM.out.1 _ _ HH.out).mono ?_; rintro e w1 ⟨rfl, hb⟩; have c1 : w1.cell? ⟨(a.add (k * 3)).block, (a.add (k * 3)).off + 1, none⟩ = some (.string ⟨xr.toArray⟩) := (by rw [HE.out]; exact (hb.cell (p := (a.add (k * 3)).add 1) (by rw [blk_add, blk_add]; exact HX.out.lt)).trans HX.out.c1); have HB := Lib.hid hb; clear hb)
    go_ret2
    exact ⟨rfl, HB.out⟩
  · have hkn : k < n := by have := (List.getElem?_eq_some_iff.1 hx).1; omega
    have hk' : (k : Int) < n := by omega
    obtain ⟨a, F, c', rfl, hB⟩ := HM.out.1 k x hx
    have HX := Lib.hid hB
    obtain ⟨xn, hxn⟩ : ∃ xn, xn = x.f.length := ⟨_, rfl⟩
    have HE := Lib.hid (And.intro h2 hxn)
    rw [← hxn] at h3
    have h2' : (rc == rc) = true := by simp
    have h2'' : (rc != rc) = false := by simp
    have HH := Lib.hid h1
    clear h1 h2 hn hx hB hxn
    rcases h3 with h3 | h3
    all_goals
      go_enter Try.func36, Try.ntmps36
      go_wp2_with (go_at_call 38; refine (locate_any _ _ _ l HM.out.2.1 HM.out.2.2 _ _ HM.out.1 _ _ HH.out).mono ?_; rintro e w1 ⟨rfl, hb⟩; have c1 : w1.cell? ⟨(a.add (k * 3)).block, (a.add (k * 3)).off + 1, none⟩ = some (.string ⟨rc.toArray⟩) := (by rw [← HE.out.1]; exact (hb.cell (p := (a.add (k * 3)).add 1) (by rw [blk_add, blk_add]; exact HX.out.lt)).trans HX.out.c1); have c2 : w1.cell? ⟨(a.add (k * 3)).block, (a.add (k * 3)).off + 2, none⟩ = some (.slice F xn c') := (by rw [HE.out.2]; exact (hb.cell (p := (a.add (k * 3)).add 2) (by rw [blk_add, blk_add]; exact HX.out.lt)).trans HX.out.c2); have HB := Lib.hid hb; clear hb)
      all_goals first
        | (go_ret2; exact ⟨rfl, HB.out⟩)
        | (exfalso; omega)
  · have hkn : i < n := by have := (List.getElem?_eq_some_iff.1 hx).1; omega
    have hk' : (i : Int) < n := by omega
    obtain ⟨a, F, c', rfl, hB⟩ := HM.out.1 i x hx
    have HX := Lib.hid hB
    obtain ⟨xn, hxn⟩ : ∃ xn, xn = x.f.length := ⟨_, rfl⟩
    have HE := Lib.hid (And.intro h2 hxn)
    have h4 : fd < (xn : Int) := by have := (List.getElem?_eq_some_iff.1 h3).1; omega
    have h4' : ¬ (xn : Int) ≤ fd := by omega
    have h0' : ¬ fd < 0 := by omega
    have HH := Lib.hid h1
    clear h1 h2 hn hx hB hxn h3
    go_enter Try.func36, Try.ntmps36
    go_wp2_with (go_at_call 38; refine (locate_any _ _ _ l HM.out.2.1 HM.out.2.2 _ _ HM.out.1 _ _ HH.out).mono ?_; rintro e w1 ⟨rfl, hb⟩; have c1 : w1.cell? ⟨(a.add (i * 3)).block, (a.add (i * 3)).off + 1, none⟩ = some (.string ⟨rc.toArray⟩) := (by rw [← HE.out.1]; exact (hb.cell (p := (a.add (i * 3)).add 1) (by rw [blk_add, blk_add]; exact HX.out.lt)).trans HX.out.c1); have c2 : w1.cell? ⟨(a.add (i * 3)).block, (a.add (i * 3)).off + 2, none⟩ = some (.slice F xn c') := (by rw [HE.out.2]; exact (hb.cell (p := (a.add (i * 3)).add 2) (by rw [blk_add, blk_add]; exact HX.out.lt)).trans HX.out.c2); have HB := Lib.hid hb; clear hb)
    go_ret2
    exact ⟨rfl, HB.out⟩

end Go.Proofs.Ytkmpjjpohgjdjaa
