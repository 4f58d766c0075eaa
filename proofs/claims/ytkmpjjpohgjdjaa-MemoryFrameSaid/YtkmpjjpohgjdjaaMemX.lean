/-
  Contract of memory.Read.
-/
import Derived.Test.YtkmpjjpohgjdjaaMemL
namespace Go.Proofs.Ytkmpjjpohgjdjaa
open Go.RowKit

theorem AtIs.neg {l : List Bk} {t q : Int} (h : AtIs l t q) (hn : NoAt l t) : q = -1 := by
  rcases h with h | ⟨i, _, h⟩
  · exact h.1
  · exact (noAt_has hn h).elim

theorem AtIs.pos {l : List Bk} {t q : Int} {k : Nat} (h : AtIs l t q) (hl : MemOk l) (g : HasAt l t k) : q = k := by
  rcases h with h | ⟨i, hi, h⟩
  · exact (noAt_has h.2 g).elim
  · rw [hi, hasAt_uniq hl h g]

set_option maxRecDepth 100000 in
set_option maxHeartbeats 2000000 in
theorem read_any (A : Option Addr) (c n : Nat) (l : List Bk) (hn : n = l.length) (hl : n ≤ maxLen) (t : Int) (rc : List UInt8) (fd : Int) (w : World) (hm : MemAt w w.heap.size A l) (i : Nat) (v er : Int) (hL : Access l t rc fd i v er) :
    Calls Try.prog 13 #[.slice A n c, .int .i64 t, .string ⟨rc.toArray⟩, .int .i64 fd] w fun e w' => e = .returned (.tuple #[.int .i64 v, .int .i64 er]) ∧ Below w.heap.size w w' := by
  have HM := Lib.hid (And.intro hm (And.intro hn (And.intro hl hL)))
  unfold maxLen at hl
  clear hm
  by_cases he : er = 0
  · subst he
    rcases hL with ⟨h1, h2, rfl⟩ | ⟨k, x, h1, hx, h2, rfl, rfl, h4⟩ | ⟨k, x, h1, hx, h2, h3, rfl, rfl, h4⟩ | ⟨x, h1, hx, h2, h0, h3, _⟩
    · exact absurd rfl h2
    · exact absurd h4 (by decide)
    · exact absurd h4 (by decide)
    · have hkn : i < n := by have := (List.getElem?_eq_some_iff.1 hx).1; omega
      have hk' : (i : Int) < n := by omega
      obtain ⟨a, F, c', rfl, hB⟩ := HM.out.1 i x hx
      obtain ⟨k, rfl⟩ := Int.eq_ofNat_of_zero_le h0
      have h3' : x.f[k]? = some v := by simpa using h3
      obtain ⟨b, rfl, hbb, hbc⟩ := hB.flds k v h3'
      have HX := Lib.hid (And.intro hB (And.intro hbb hbc))
      obtain ⟨xn, hxn⟩ : ∃ xn, xn = x.f.length := ⟨_, rfl⟩
      have h4 : k < xn := by have := (List.getElem?_eq_some_iff.1 h3').1; omega
      have h4' : (k : Int) < xn := by omega
      have HE := Lib.hid hxn
      clear h1 h2 hn hx hB hxn h3 h3' hbb hbc h0
      go_enter Try.func13, Try.ntmps13
      go_wp2_with (go_at_call 36; refine (access_any _ _ _ l HM.out.2.1 HM.out.2.2.1 _ _ _ _ HM.out.1 _ _ _ HM.out.2.2.2).mono ?_; rintro e w1 ⟨rfl, hb⟩; have c2 : w1.cell? ⟨(a.add (i * 3)).block, (a.add (i * 3)).off + 2, none⟩ = some (.slice (some b) xn c') := (by rw [HE.out]; exact (hb.cell (p := (a.add (i * 3)).add 2) (by rw [blk_add, blk_add]; exact HX.out.1.lt)).trans HX.out.1.c2); have c3 : w1.cell? (b.add k) = some (.int .i64 v) := (hb.cell (by rw [blk_add]; exact HX.out.2.1)).trans HX.out.2.2; have HB := Lib.hid hb; clear hb)
      go_ret2
      exact ⟨rfl, HB.out⟩
  · have hv : v = 0 := by
      rcases hL with ⟨h1, h2, rfl⟩ | ⟨k, x, h1, hx, h2, rfl, rfl, h4⟩ | ⟨k, x, h1, hx, h2, h3, rfl, rfl, h4⟩ | ⟨x, h1, hx, h2, h0, h3, h4⟩
      · rfl
      · rfl
      · rfl
      · exact absurd h4 he
    subst hv
    have h2' : (er == 0) = false := beq_eq_false_iff_ne.2 he
    have h2'' : (er != 0) = true := by rw [bne_iff_ne]; exact he
    clear he hL hn
    go_enter Try.func13, Try.ntmps13
    go_wp2_with (go_at_call 36; refine (access_any _ _ _ l HM.out.2.1 HM.out.2.2.1 _ _ _ _ HM.out.1 _ _ _ HM.out.2.2.2).mono ?_; rintro e w1 ⟨rfl, hb⟩; have HB := Lib.hid hb; clear hb)
    go_ret2
    exact ⟨rfl, HB.out⟩

end Go.Proofs.Ytkmpjjpohgjdjaa
