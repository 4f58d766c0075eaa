/-
  sepallaw01.LexWords returns true, whatever the text is.
-/
import Derived.Test.YtjbbelmmnlohlaaDoorLexW
namespace Go.Proofs.YtjbbelmmnlohlaaDoor
open Go.RowKit

theorem _root_.Go.RowKit.Below.chain {w W1 W2 : World} (h1 : Below w.heap.size w W1) (h2 : Below W1.heap.size W1 W2) : Below w.heap.size w W2 := h1.trans (h2.mono h1.size)

theorem str_list (s : ByteArray) : (⟨s.data.toList.toArray⟩ : ByteArray) = s := by
  apply ByteArray.ext
  simp

def strs (l : List (List UInt8)) : List ByteArray := l.map fun x => ⟨x.toArray⟩

theorem strs_length (l : List (List UInt8)) : (strs l).length = l.length := List.length_map ..

theorem strs_getD (l : List (List UInt8)) (k : Nat) (h : k < l.length) : (strs l).getD k ByteArray.empty = ⟨(l.getD k []).toArray⟩ := by
  unfold strs
  rw [List.getD_eq_getElem?_getD, List.getElem?_map, List.getElem?_eq_getElem h, List.getD_eq_getElem?_getD, List.getElem?_eq_getElem h]
  rfl

theorem contains_strs (l : List (List UInt8)) (x : List UInt8) : Lib.containsS (strs l) ⟨x.toArray⟩ = l.contains x := by
  rw [Bool.eq_iff_iff, Lib.containsS_iff, List.contains_iff_mem]
  unfold strs
  rw [List.mem_map]
  constructor
  · rintro ⟨y, hy, e⟩
    rw [← (str_eq_iff y x).1 e]; exact hy
  · exact fun h => ⟨x, h, rfl⟩

theorem contains_call (n : Nat) (x : List UInt8) (W : World) (hr : StrRow W n kws) :
    Calls Tryd.prog 23 #[.slice (some ⟨n, 0, none⟩) 24 24, .string ⟨x.toArray⟩] W fun e w' => e = .returned (.bool (kws.contains x)) ∧ W = w' := by
  have h := Tryd.slices_Contains_string n 0 24 24 (strs kws) ⟨x.toArray⟩ W (by decide) (by decide) (fun j hj => by
    rw [Nat.zero_add, strs_getD _ _ (by rw [strs_length] at hj; exact hj)]
    exact hr j (by rw [strs_length] at hj; exact hj))
  refine h.mono fun e w' ⟨he, hw⟩ => ⟨?_, hw.symm⟩
  rw [he, List.take_of_length_le (by decide), contains_strs]

theorem equal_call (n n2 : Nat) (W : World) (hr : StrRow W n syms) (hr2 : StrRow W n2 syms) :
    Calls Tryd.prog 27 #[.slice (some ⟨n, 0, none⟩) 22 22, .slice (some ⟨n2, 0, none⟩) 22 22] W fun e w' => e = .returned (.bool true) ∧ ∃ q, w' = W.drewN q := by
  have c : ∀ m, StrRow W m syms → ∀ j, j < (strs syms).length → W.cell? ⟨m, 0 + j, none⟩ = some (.string ((strs syms).getD j ByteArray.empty)) := fun m hm j hj => by
    rw [Nat.zero_add, strs_getD _ _ (by rw [strs_length] at hj; exact hj)]
    exact hm j (by rw [strs_length] at hj; exact hj)
  have h := Tryd.slices_Equal_string n 0 22 22 n2 0 22 22 (strs syms) (strs syms) W (by decide) (by decide) (by decide) (by decide) (c n hr) (c n2 hr2)
  exact h.mono fun e w' ⟨he, hw⟩ => ⟨by rw [he]; simp, hw⟩

set_option maxHeartbeats 400000 in
theorem words_long (s : List UInt8) (m : Int) (w : World) (hs : s.length ≤ maxLen) (hg : 0 < w.heap.size) (hm : w.cell? ⟨0, 0, none⟩ = some (.int .i64 m)) (h : 100 < s.length) :
    Calls Tryd.prog 5 #[.string ⟨s.toArray⟩] w fun e w' => e = .returned (.bool true) ∧ Below w.heap.size w w' := by
  have HA := Lib.hid (awake_any m w hg hm)
  clear hm
  unfold maxLen at hs
  have h2 : (100 : Int) < s.length := by omega
  go_enter Tryd.func5, Tryd.ntmps5
  go_wp2_with (first
    | (go_at_call 11; refine HA.out.mono ?_; rintro e w1 ⟨rfl, hb⟩; have HB := Lib.hid hb; clear hb))
  go_ret
  exact ⟨rfl, HB.out⟩

set_option maxRecDepth 100000 in
set_option maxHeartbeats 2000000 in
theorem words_main (s : List UInt8) (m : Int) (w : World) (hg : 0 < w.heap.size) (hm : w.cell? ⟨0, 0, none⟩ = some (.int .i64 m)) (h : s.length ≤ 100) :
    Calls Tryd.prog 5 #[.string ⟨s.toArray⟩] w fun e w' => e = .returned (.bool true) ∧ Below w.heap.size w w' := by
  have HA := Lib.hid (awake_any m w hg hm)
  have HK : Hid (∀ W, Calls Tryd.prog 22 #[.string ⟨s.toArray⟩] W fun e w' => e = .returned (.bool (kws.contains s)) ∧ Below W.heap.size W w') := Lib.hid (fun W => keyword_any ⟨s.toArray⟩ W (by show s.length ≤ maxLen; unfold maxLen; omega))
  have HC : Hid (∀ n W, StrRow W n kws → Calls Tryd.prog 23 #[.slice (some ⟨n, 0, none⟩) 24 24, .string ⟨s.toArray⟩] W fun e w' => e = .returned (.bool (kws.contains s)) ∧ W = w') := Lib.hid (fun n W h => contains_call n s W h)
  have HN : Hid (∀ W, Calls Tryd.prog 25 #[.string ⟨s.toArray⟩] W fun e w' => e = .returned (.bool (nameR s)) ∧ Below W.heap.size W w') := Lib.hid (fun W => name_eq s ▸ name_any s W (by omega))
  have HR : Hid (∀ W, Calls Tryd.prog 26 #[.string ⟨s.toArray⟩] W fun e w' => e = .returned (.bool (nameR s)) ∧ Below W.heap.size W w') := Lib.hid (fun W => rname_any s W (by omega))
  clear hm
  generalize kws.contains s = kb at *
  generalize nameR s = nb at *
  have h2 : ¬ (100 : Int) < s.length := by omega
  go_enter Tryd.func5, Tryd.ntmps5
  go_wp2_with (first
    | (go_at_call 11; refine HA.out.mono ?_; rintro e w1 ⟨rfl, hb⟩; have HB := Lib.hid hb; clear hb)
    | (go_at_call 22; refine (HK.out _).mono ?_; rintro e w2 ⟨rfl, hb⟩; have HB2 := Lib.hid hb; clear hb)
    | (go_at_call 24; refine (rkeywords_rowOf _).mono ?_; rintro e w3 ⟨n3, hn3, rfl, hr3, hb3, hlt3⟩; have H3 := Lib.hid (And.intro hr3 hb3); clear hn3 hr3 hb3 hlt3)
    | (go_at_call 23; refine (HC.out _ _ H3.out.1).mono ?_; rintro e w4 ⟨rfl, rfl⟩)
    | (go_at_call 25; refine (HN.out _).mono ?_; rintro e w5 ⟨rfl, hb⟩; have HB5 := Lib.hid hb; clear hb)
    | (go_at_call 26; refine (HR.out _).mono ?_; rintro e w6 ⟨rfl, hb⟩; have HB6 := Lib.hid hb; clear hb)
    | (go_at_call 28; refine (symbols_rowOf _).mono ?_; rintro e w7 ⟨n7, hn7, rfl, hr7, hb7, hlt7⟩; have H7 := Lib.hid (And.intro hr7 (And.intro hb7 hlt7)); clear hn7 hr7 hb7 hlt7)
    | (go_at_call 29; refine (rsymbols_rowOf _).mono ?_; rintro e w8 ⟨n8, hn8, rfl, hr8, hb8, hlt8⟩; have H8 := Lib.hid (And.intro hr8 hb8); clear hn8 hr8 hb8 hlt8)
    | (go_at_call 27; refine (equal_call _ _ _ (H7.out.1.later H7.out.2.2 H8.out.2) H8.out.1).mono ?_; rintro e w9 ⟨rfl, q9, rfl⟩))
  go_ret
  exact ⟨rfl, below_drewN ((((((HB.out.chain HB2.out).chain H3.out.2).chain HB5.out).chain HB6.out).chain H7.out.2.1).chain H8.out.2) _⟩

theorem words_any (s : ByteArray) (m : Int) (w : World) (hs : s.size ≤ maxLen) (hg : 0 < w.heap.size) (hm : w.cell? ⟨0, 0, none⟩ = some (.int .i64 m)) :
    Calls Tryd.prog 5 #[.string s] w fun e w' => e = .returned (.bool true) ∧ Below w.heap.size w w' := by
  have key : Calls Tryd.prog 5 #[.string ⟨s.data.toList.toArray⟩] w fun e w' => e = .returned (.bool true) ∧ Below w.heap.size w w' := by
    by_cases h : 100 < s.data.toList.length
    · exact words_long _ m w hs hg hm h
    · exact words_main _ m w hg hm (by omega)
  rw [str_list] at key
  exact key

end Go.Proofs.YtjbbelmmnlohlaaDoor
