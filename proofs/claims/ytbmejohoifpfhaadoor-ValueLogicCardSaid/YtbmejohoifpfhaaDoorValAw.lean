/-
  The examples of the chapter: sepallaw07.awake.
-/
import Derived.Test.YtbmejohoifpfhaaDoorValN
namespace Go.Proofs.YtbmejohoifpfhaaDoor
open Go.RowKit

def exS : List Bd := [⟨[97], 2⟩, ⟨[98], -3⟩]
def exE1 : Ex := .mk 5 0 [] [nmE [97], .mk 6 2 [] [nmE [98]]]
def exE2 : Ex := .mk 4 0 [] [nmE [97], nmE [99]]
def zE : Ex := .mk 0 0 [] []
def exC : Cn := .mk 7 zE zE [.mk 4 (nmE [97]) (nmE [98]) [], .mk 4 (nmE [98]) (nmE [97]) []]

theorem exS_ok : StOk exS := pair_stOk ⟨by decide, by decide, by decide⟩ ⟨by decide, by decide, by decide⟩ rfl

theorem exE1_is : xr true exS exE1 = (8, 0) := by decide +kernel
theorem exE2_is : xr true exS exE2 = (0, 7) := by decide +kernel
theorem exC_is : kr true exS exC = (true, 0) := by decide +kernel

theorem len_ok1 (x : UInt8) : ([x] : List UInt8).length ≤ maxLen := by show 1 ≤ maxLen; unfold maxLen; decide
theorem len_ok0 {α : Type} : ([] : List α).length ≤ maxLen := Nat.zero_le _
theorem len_oke {α : Type} (x : α) : ([x] : List α).length ≤ maxLen := by show 1 ≤ maxLen; unfold maxLen; decide
theorem len_ok2 {α : Type} (x y : α) : ([x, y] : List α).length ≤ maxLen := by show 2 ≤ maxLen; unfold maxLen; decide

/-- A variable by value, and its row of none. -/
abbrev nmV (s : List UInt8) : Value := exprV 2 0 ⟨s.toArray⟩ (.slice none 0 0)

abbrev nmO (s : List UInt8) : Obj := exprC 2 0 ⟨s.toArray⟩ (.slice none 0 0)
abbrev nmO2 (a b : List UInt8) : Obj := .cells #[.int .i64 2, .int .i64 0, .string ⟨a.toArray⟩, .slice none 0 0, .int .i64 2, .int .i64 0, .string ⟨b.toArray⟩, .slice none 0 0] 36

/-- The first example: a - 2 * b. -/
theorem ex1_any (A : Option Addr) (w : World) (hA : BdRow w w.heap.size exS A) (w3 : World) (hb : Below w.heap.size w w3) :
    Calls Tryd.prog 19 #[.slice A 2 2, exprV 5 0 ⟨#[]⟩ (.slice (some ⟨w3.heap.size + 1, 0, none⟩) 2 2)]
      ((w3.alloc (nmO [98])).alloc (.cells #[.int .i64 2, .int .i64 0, .string ⟨#[97]⟩, .slice none 0 0, .int .i64 6, .int .i64 2, .string ⟨#[]⟩, .slice (some ⟨w3.heap.size, 0, none⟩) 1 1] 36)) fun e w' =>
      e = .returned (.tuple #[.int .i64 8, .int .i64 0]) ∧ Below w3.heap.size w3 w' := by
  obtain ⟨h1, h2⟩ := two_boxes w3 (nmO [98]) (.cells #[.int .i64 2, .int .i64 0, .string ⟨#[97]⟩, .slice none 0 0, .int .i64 6, .int .i64 2, .string ⟨#[]⟩, .slice (some ⟨w3.heap.size, 0, none⟩) 1 1] 36)
  have hb3 := (below_alloc w3 (nmO [98])).al (.cells #[.int .i64 2, .int .i64 0, .string ⟨#[97]⟩, .slice none 0 0, .int .i64 6, .int .i64 2, .string ⟨#[]⟩, .slice (some ⟨w3.heap.size, 0, none⟩) 1 1] 36)
  have hr := pair_row (sa := [97]) (al := []) (Ca := 0) (sb := []) (bl := [nmE [98]]) (Cb := 1) (ak := 2) (an := 0) (bk := 6) (bn := 2) (Aa := none) (Ab := some ⟨w3.heap.size, 0, none⟩) h2 (len_ok1 _) len_ok0 len_ok0 (len_oke _) (.nil _) (single_row (s := [98]) (l := []) (A := none) (c := 0) h1 (len_ok1 _) len_ok0 (.nil _))
  have := vExpr_any A 2 2 exS rfl (by decide) 5 0 [] [nmE [97], .mk 6 2 [] [nmE [98]]] _ 2 _ (bd_later hA (hb.next hb3)) hr len_ok0 (len_ok2 _ _) true ⟨fun _ => exS_ok, fun _ => rfl⟩
  rw [show xr true exS (.mk 5 0 [] [nmE [97], .mk 6 2 [] [nmE [98]]]) = (8, 0) from exE1_is] at this
  exact this.mono fun e w' ⟨he, h⟩ => ⟨he, hb3.next h⟩

/-- The second example: a + c. -/
theorem ex2_any (A : Option Addr) (w : World) (hA : BdRow w w.heap.size exS A) (w3 : World) (hb : Below w.heap.size w w3) :
    Calls Tryd.prog 19 #[.slice A 2 2, exprV 4 0 ⟨#[]⟩ (.slice (some ⟨w3.heap.size, 0, none⟩) 2 2)] (w3.alloc (nmO2 [97] [99])) fun e w' =>
      e = .returned (.tuple #[.int .i64 0, .int .i64 7]) ∧ Below w3.heap.size w3 w' := by
  have hb3 := below_alloc w3 (nmO2 [97] [99])
  have hr := pair_row (sa := [97]) (al := []) (Ca := 0) (sb := [99]) (bl := []) (Cb := 0) (ak := 2) (an := 0) (bk := 2) (bn := 0) (Aa := none) (Ab := none) (heap_of_alloc w3 (nmO2 [97] [99])) (len_ok1 _) len_ok0 (len_ok1 _) len_ok0 (.nil _) (.nil _)
  have := vExpr_any A 2 2 exS rfl (by decide) 4 0 [] [nmE [97], nmE [99]] _ 2 _ (bd_later hA (hb.next hb3)) hr len_ok0 (len_ok2 _ _) true ⟨fun _ => exS_ok, fun _ => rfl⟩
  rw [show xr true exS (.mk 4 0 [] [nmE [97], nmE [99]]) = (0, 7) from exE2_is] at this
  exact this.mono fun e w' ⟨he, h⟩ => ⟨he, hb3.next h⟩

abbrev exCs : Obj := .cells #[.int .i64 4, .int .i64 2, .int .i64 0, .string ⟨#[97]⟩, .slice none 0 0, .int .i64 2, .int .i64 0, .string ⟨#[98]⟩, .slice none 0 0, .slice none 0 0,
  .int .i64 4, .int .i64 2, .int .i64 0, .string ⟨#[98]⟩, .slice none 0 0, .int .i64 2, .int .i64 0, .string ⟨#[97]⟩, .slice none 0 0, .slice none 0 0] 39

/-- The third example: a < b || b < a. -/
theorem ex3_any (A : Option Addr) (w : World) (hA : BdRow w w.heap.size exS A) (w3 : World) (hb : Below w.heap.size w w3) :
    Calls Tryd.prog 18 #[.slice A 2 2, condV2 7 0 0 ⟨#[]⟩ (.slice none 0 0) 0 0 ⟨#[]⟩ (.slice none 0 0) (.slice (some ⟨w3.heap.size, 0, none⟩) 2 2)] (w3.alloc exCs) fun e w' =>
      e = .returned (.tuple #[.bool true, .int .i64 0]) ∧ Below w3.heap.size w3 w' := by
  have hb3 := below_alloc w3 exCs
  have own : ∀ a b : UInt8, CnOwn (w3.alloc exCs) (.mk 4 (nmE [a]) (nmE [b]) []) 4 2 0 [a] [] 2 0 [b] [] [] none none none := fun a b => ⟨rfl, ⟨len_ok1 _, len_ok0, len_ok1 _, len_ok0, len_ok0⟩, .nil _, .nil _, .nil _⟩
  have hr := pair_cond (ca := 0) (cb := 0) (cl := 0) (ca2 := 0) (cb2 := 0) (cl2 := 0) (heap_of_alloc w3 exCs) (own 97 98) (own 98 97)
  have := vCond_any A 2 2 exS rfl (by decide) 7 0 0 [] [] 0 0 [] [] [.mk 4 (nmE [97]) (nmE [98]) [], .mk 4 (nmE [98]) (nmE [97]) []] none 0 none 0 _ 2 _ (bd_later hA (hb.next hb3)) (.nil _) (.nil _) hr len_ok0 len_ok0 len_ok0 len_ok0 (len_ok2 _ _) true ⟨fun _ => exS_ok, fun _ => rfl⟩
  rw [show kr true exS (.mk 7 (.mk 0 0 [] []) (.mk 0 0 [] []) [.mk 4 (nmE [97]) (nmE [98]) [], .mk 4 (nmE [98]) (nmE [97]) []]) = (true, 0) from exC_is] at this
  exact this.mono fun e w' ⟨he, h⟩ => ⟨he, hb3.next h⟩

set_option maxRecDepth 100000 in
set_option maxHeartbeats 4000000 in
theorem awake_any (w : World) : Calls Tryd.prog 5 #[] w fun e w' => e = .returned (.bool true) ∧ Below w.heap.size w w' := by
  obtain ⟨W1, hW1⟩ : ∃ W1, W1 = w.alloc (.cells #[.string ⟨#[97]⟩, .int .i64 2, .string ⟨#[98]⟩, .int .i64 (-3)] 26) := ⟨_, rfl⟩
  have HJ : Hid (Below w.heap.size w W1) := Lib.hid (by rw [hW1]; exact below_alloc _ _)
  have HS : Hid (W1.heap[w.heap.size]? = some (.cells #[.string ⟨#[97]⟩, .int .i64 2, .string ⟨#[98]⟩, .int .i64 (-3)] 26 (0, 0))) := Lib.hid (by rw [hW1]; exact heap_of_alloc w _)
  have HSt : Hid (BdRow W1 W1.heap.size exS (some ⟨w.heap.size, 0, none⟩)) := Lib.hid (pair_store (x := ⟨[97], 2⟩) (y := ⟨[98], -3⟩) HS.out (len_ok1 _) (len_ok1 _))
  have HN : Hid (∀ s W, Calls Tryd.prog 20 #[.string s] W fun e w' => e = .returned (exprV 2 0 s (.slice none 0 0)) ∧ Below W.heap.size W w') := Lib.hid lname_any
  go_enter Tryd.func5, Tryd.ntmps5
  go_wp2_with fail
  rw [← hW1]
  clear hW1
  refine (HN.out _ _).mono ?_
  rintro e w2 ⟨rfl, hb⟩
  have H2 := Lib.hid (hb)
  clear hb
  go_wp2_with fail
  refine (HN.out _ _).mono ?_
  rintro e w3 ⟨rfl, hb⟩
  have H3 := Lib.hid (H2.out.next hb)
  clear hb
  go_wp2_with fail
  refine (ex1_any _ W1 HSt.out w3 H3.out).mono ?_
  rintro e w4 ⟨rfl, hb⟩
  have H4 := Lib.hid (H3.out.next hb)
  clear hb
  go_wp2_with fail
  refine (HN.out _ _).mono ?_
  rintro e w5 ⟨rfl, hb⟩
  have H5 := Lib.hid (H4.out.next hb)
  clear hb
  go_wp2_with fail
  refine (HN.out _ _).mono ?_
  rintro e w6 ⟨rfl, hb⟩
  have H6 := Lib.hid (H5.out.next hb)
  clear hb
  go_wp2_with fail
  refine (ex2_any _ W1 HSt.out w6 H6.out).mono ?_
  rintro e w7 ⟨rfl, hb⟩
  have H7 := Lib.hid (H6.out.next hb)
  clear hb
  go_wp2_with fail
  refine (HN.out _ _).mono ?_
  rintro e w8 ⟨rfl, hb⟩
  have H8 := Lib.hid (H7.out.next hb)
  clear hb
  go_wp2_with fail
  refine (HN.out _ _).mono ?_
  rintro e w9 ⟨rfl, hb⟩
  have H9 := Lib.hid (H8.out.next hb)
  clear hb
  go_wp2_with fail
  refine (HN.out _ _).mono ?_
  rintro e w10 ⟨rfl, hb⟩
  have H10 := Lib.hid (H9.out.next hb)
  clear hb
  go_wp2_with fail
  refine (HN.out _ _).mono ?_
  rintro e w11 ⟨rfl, hb⟩
  have H11 := Lib.hid (H10.out.next hb)
  clear hb
  go_wp2_with fail
  refine (ex3_any _ W1 HSt.out w11 H11.out).mono ?_
  rintro e w12 ⟨rfl, hb⟩
  have H12 := Lib.hid (H11.out.next hb)
  clear hb
  go_wp2
  go_ret
  exact ⟨rfl, HJ.out.next H12.out⟩

end Go.Proofs.YtbmejohoifpfhaaDoor
