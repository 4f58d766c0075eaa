/-
  The body of the law MemoryFrame.
-/
import Derived.Test.YtkmpjjpohgjdjaaMemA
import Derived.Test.YtkmpjjpohgjdjaaMemX
import Derived.Test.YtkmpjjpohgjdjaaMemFm
import Derived.Test.YtkmpjjpohgjdjaaMemJn
import Derived.Test.YtkmpjjpohgjdjaaMemEq
import Derived.Test.YtkmpjjpohgjdjaaMemGt
namespace Go.Proofs.Ytkmpjjpohgjdjaa
open Go.RowKit Go.Lib

theorem own_len {l : List Bk} {L : List Bx} (h : MemOk l) (e : blocksOf L = l) : L.length ≤ maxLen := by
  have := h.1
  rw [← e, blocksOf_len] at this
  unfold maxLen
  omega

theorem read_own (A : Option Addr) (c : Nat) (L : List Bx) (l : List Bk) (hL : blocksOf L = l) (hok : MemOk l) (t : Int) (rc : ByteArray) (fd : Int) (w : World) (hm : MemAt w w.heap.size A l) (i : Nat) (v er : Int) (hA : Access l t rc.data.toList fd i v er) :
    Calls Try.prog 13 #[.slice A L.length c, .int .i64 t, .string rc, .int .i64 fd] w fun e w' => e = .returned (.tuple #[.int .i64 v, .int .i64 er]) ∧ Below w.heap.size w w' := by
  have := read_any A c L.length l (by rw [← hL, blocksOf_len]) (own_len hok hL) t rc.data.toList fd w hm i v er hA
  rwa [str_list] at this

theorem write_own (A : Option Addr) (c : Nat) (L : List Bx) (l : List Bk) (hL : blocksOf L = l) (hok : MemOk l) (t : Int) (rc : ByteArray) (fd val : Int) (w : World) (hm : MemAt w w.heap.size A l) (i : Nat) (v er : Int) (hA : Access l t rc.data.toList fd i v er) (l' : List Bk) (er' : Int) (hW : WrIs l i fd val er l' er') :
    Calls Try.prog 14 #[.slice A L.length c, .int .i64 t, .string rc, .int .i64 fd, .int .i64 val] w (WritePost l' er' w) := by
  have := write_any A c L.length l (by rw [← hL, blocksOf_len]) (own_len hok hL) t rc.data.toList fd val w hm i v er hA l' er' hW
  rwa [str_list] at this

theorem free_own (A : Option Addr) (c : Nat) (L : List Bx) (l : List Bk) (hL : blocksOf L = l) (hok : MemOk l) (t : Int) (w : World) (hm : MemAt w w.heap.size A l) (i : Nat) (hA : Located l t i 0) :
    Calls Try.prog 15 #[.slice A L.length c, .int .i64 t] w (WritePost (others l i) 0 w) :=
  free_any A c L.length l (by rw [← hL, blocksOf_len]) (own_len hok hL) t w hm i 0 hA _ (.inr ⟨rfl, rfl⟩)

theorem equal_own (A B : Option Addr) (ca cb : Nat) (L M : List Bx) (l : List Bk) (hL : blocksOf L = l) (hM : blocksOf M = l) (hok : MemOk l) (w : World) (hA : MemAt w w.heap.size A l) (hB : MemAt w w.heap.size B l) :
    Calls Try.prog 12 #[.slice A L.length ca, .slice B M.length cb] w fun e w' => e = .returned (.bool true) ∧ Below w.heap.size w w' :=
  mequal_any A B ca cb L.length M.length l l (by rw [← hL, blocksOf_len]) (by rw [← hM, blocksOf_len]) (own_len hok hL) (own_len hok hM) w hA hB true ⟨fun _ => ⟨hok, hok, rfl⟩, fun _ => rfl⟩

/-- What a call that answers a memory leaves: the memory, in a later world. -/
theorem own_mem {w w' : World} {B0 : Nat} {A : Option Addr} {c : Nat} {L : List Bx} {l : List Bk} (h : OwnMem w B0 (.slice A L.length c) L) (e : blocksOf L = l) (hb : Below w.heap.size w w') : MemAt w' w'.heap.size A l := by
  have := (h.later hb).mem
  rwa [e] at this

theorem name_fresh : nameL [70, 114, 101, 115, 104] = true := by decide +kernel

set_option maxRecDepth 100000 in
set_option maxHeartbeats 16000000 in
theorem frame_law (A B : Option Addr) (ca cb : Nat) (l m : List Bk) (hl : l.length ≤ maxLen) (hl2 : m.length ≤ maxLen) (t : Int) (rc : ByteArray) (fd val ch : Int) (hch : -9223372036854775808 ≤ ch ∧ ch ≤ 9223372036854775807) (w : World) (hm : MemAt w w.heap.size A l) (hm2 : MemAt w w.heap.size B m) :
    Calls Try.prog 4 #[.slice A l.length ca, .slice B m.length cb, .int .i64 t, .string rc, .int .i64 fd, .int .i64 val, .int .i64 ch] w fun e w' => e = .returned (.bool true) ∧ Below w.heap.size w w' := by
  obtain ⟨i0, e0, hL⟩ := located_ex l t
  obtain ⟨ia, v, er, hA⟩ := access_ex l t rc.data.toList fd
  obtain ⟨lw, ew, hW⟩ := wr_ex val hA
  obtain ⟨lf, hF⟩ := fr_ex l i0 e0
  obtain ⟨n, hn⟩ : ∃ n, n = l.length := ⟨_, rfl⟩
  obtain ⟨n2, hn2⟩ : ∃ n, n = m.length := ⟨_, rfl⟩
  rw [← hn] at hl ⊢
  rw [← hn2] at hl2 ⊢
  have HJn : Hid (∀ W, Below w.heap.size w W → Calls Try.prog 7 #[.slice A n ca, .slice B n2 cb] W (JoinPost l m W)) := Lib.hid (fun W hb => join_any A B ca cb n n2 l m hn hn2 hl hl2 W (hm.later hb) (hm2.later hb))
  have HRd : Hid (∀ W, Below w.heap.size w W → Calls Try.prog 13 #[.slice A n ca, .int .i64 t, .string rc, .int .i64 fd] W fun e w' => e = .returned (.tuple #[.int .i64 v, .int .i64 er]) ∧ Below W.heap.size W w') := Lib.hid (fun W hb => by
    have := read_any A ca n l hn hl t rc.data.toList fd W (hm.later hb) ia v er hA
    rwa [str_list] at this)
  have HWr : Hid (∀ W, Below w.heap.size w W → Calls Try.prog 14 #[.slice A n ca, .int .i64 t, .string rc, .int .i64 fd, .int .i64 val] W (WritePost lw ew W)) := Lib.hid (fun W hb => by
    have := write_any A ca n l hn hl t rc.data.toList fd val W (hm.later hb) ia v er hA lw ew hW
    rwa [str_list] at this)
  have HFr : Hid (∀ W, Below w.heap.size w W → Calls Try.prog 15 #[.slice A n ca, .int .i64 t] W (WritePost lf e0 W)) := Lib.hid (fun W hb => free_any A ca n l hn hl t W (hm.later hb) i0 e0 hL lf hF)
  have HJ2 : Hid (∀ (W : World) (A4 : Option Addr) (c4 : Nat) (L4 : List Bx) (l4 : List Bk), blocksOf L4 = l4 → MemOk l4 → Below w.heap.size w W → MemAt W W.heap.size A4 l4 → Calls Try.prog 7 #[.slice A4 L4.length c4, .slice B n2 cb] W (JoinPost l4 m W)) :=
    Lib.hid (fun W A4 c4 L4 l4 h1 h2 hb h3 => join_any A4 B c4 cb L4.length n2 l4 m (by rw [← h1, blocksOf_len]) hn2 (own_len h2 h1) hl2 W h3 (hm2.later hb))
  have HN := Lib.hid (And.intro hn hn2)
  have HLo := Lib.hid hL
  have HAc := Lib.hid hA
  have HWi := Lib.hid hW
  have HFi := Lib.hid hF
  have HCh := Lib.hid hch
  clear hm hm2 hl hl2 hn hn2 hL hA hW hF hch
  go_enter Try.func4, Try.ntmps4
  go_wp2_with fail
  refine (awake_any _).mono ?_
  rintro e w1 ⟨rfl, hb⟩
  have B0_1 := Lib.hid (hb)
  clear hb
  go_wp2_with fail
  refine (HJn.out _ B0_1.out).mono ?_
  rintro e w2 ⟨A2, L2, c2, ej, rfl, q1, q2, hb⟩
  have B0_2 := Lib.hid (B0_1.out.next hb)
  have HJI := Lib.hid q1
  have HO2 := Lib.hid q2
  clear q1 q2
  clear hb
  have B2_2 := Lib.hid (Below.refl w2.heap.size w2)
  by_cases hej : ej = 0
  rotate_left
  · have h2' : (ej == 0) = false := beq_eq_false_iff_ne.2 hej
    have h2'' : (ej != 0) = true := by rw [bne_iff_ne]; exact hej
    clear hej
    go_wp2
    go_ret
    exact ⟨rfl, B0_2.out⟩
  subst hej
  by_cases h40 : n ≤ 40
  rotate_left
  · have h40' : (40 : Int) < n := by omega
    clear h40
    go_wp2
    go_ret
    exact ⟨rfl, B0_2.out⟩
  have h40n : ¬ (40 : Int) < n := by omega
  have HLen := Lib.hid h40
  clear h40
  by_cases h40 : n2 ≤ 40
  rotate_left
  · have h40' : (40 : Int) < n2 := by omega
    clear h40
    go_wp2
    go_ret
    exact ⟨rfl, B0_2.out⟩
  have h40n2 : ¬ (40 : Int) < n2 := by omega
  have HLen2 := Lib.hid h40
  clear h40
  have HJd : Hid (Joined l m (blocksOf L2)) := Lib.hid (HJI.out.zero rfl (by rw [← HN.out.1]; exact HLen.out) (by rw [← HN.out.2]; exact HLen2.out))
  have HMW : Hid (∀ W, Below w2.heap.size w2 W → MemAt W W.heap.size A2 (blocksOf L2)) := Lib.hid (fun W hb => own_mem HO2.out rfl hb)
  by_cases her : er = 0
  rotate_left
  · have hew : ew ≠ 0 := wr_err_of HWi.out her
    have her' : (er == 0) = false := beq_eq_false_iff_ne.2 her
    have her'' : (er != 0) = true := by rw [bne_iff_ne]; exact her
    clear her
    have hew' : (ew == 0) = false := beq_eq_false_iff_ne.2 hew
    have hew'' : (ew != 0) = true := by rw [bne_iff_ne]; exact hew
    clear hew
    go_wp2_with fail
    refine (HRd.out _ B0_2.out).mono ?_
    rintro e w3 ⟨rfl, hb⟩
    have B0_3 := Lib.hid (B0_2.out.next hb)
    have B2_3 := Lib.hid (hb)
    clear hb
    go_wp2_with fail
    refine (HWr.out _ B0_3.out).mono ?_
    rintro e w4 ⟨A4, L4, c4, rfl, q1, q2, hb⟩
    have B0_4 := Lib.hid (B0_3.out.next hb)
    have B2_4 := Lib.hid (B2_3.out.next hb)
    clear q1 q2
    clear hb
    by_cases he0 : e0 = 0
    rotate_left
    · skip
      have he0' : (e0 == 0) = false := beq_eq_false_iff_ne.2 he0
      have he0'' : (e0 != 0) = true := by rw [bne_iff_ne]; exact he0
      clear he0
      go_wp2_with fail
      refine (HFr.out _ B0_4.out).mono ?_
      rintro e w5 ⟨A5, L5, c5, rfl, q1, q2, hb⟩
      have B0_5 := Lib.hid (B0_4.out.next hb)
      have B2_5 := Lib.hid (B2_4.out.next hb)
      clear q1 q2
      clear hb
      go_wp2_with fail
      refine (new_any A2 c2 L2.length (blocksOf L2) (blocksOf_len L2).symm (own_len HJd.out.ok rfl) ch HCh.out [70, 114, 101, 115, 104] (by unfold maxLen; decide) 2 _ (HMW.out _ B2_5.out)).mono ?_
      rintro e w6 ⟨A6, L6, c6, at_, ea, rfl, q1, q2, hb⟩
      have B0_6 := Lib.hid (B0_5.out.next hb)
      have B2_6 := Lib.hid (B2_5.out.next hb)
      obtain ⟨rfl, ni, g1⟩ := new_in HJd.out.ok HJd.out.size name_fresh q1
      clear q1
      have HNw := Lib.hid g1
      have HO6 := Lib.hid q2
      clear g1 q2
      clear hb
      have B6_6 := Lib.hid (Below.refl w6.heap.size w6)
      go_wp2_with fail
      refine (get_err A2 c2 L2.length (blocksOf L2) (blocksOf_len L2).symm (own_len HJd.out.ok rfl) at_ _ (HMW.out _ B2_6.out) 0 16 (HNw.out.located HJd.out.ok) (by decide)).mono ?_
      rintro e w7 ⟨rfl, hb⟩
      have B0_7 := Lib.hid (B0_6.out.next hb)
      have B2_7 := Lib.hid (B2_6.out.next hb)
      have B6_7 := Lib.hid (hb)
      clear hb
      have HBx := Lib.hid (below_alloc w7 (.cells #[.int .i64 0, .string ⟨#[]⟩, .slice none 0 0] 43))
      go_wp2_with fail
      refine (free_own A6 c6 L6 _ rfl HNw.out.ok at_ _ (own_mem HO6.out rfl (B6_7.out.next HBx.out)) ni HNw.out.at_).mono ?_
      rintro e w8 ⟨A8, L8, c8, rfl, q1, q2, hb⟩
      have hb := HBx.out.next hb
      have B0_8 := Lib.hid (B0_7.out.next hb)
      have B2_8 := Lib.hid (B2_7.out.next hb)
      have B6_8 := Lib.hid (B6_7.out.next hb)
      have HE8 := Lib.hid (q1.trans HNw.out.back)
      have HO8 := Lib.hid q2
      clear hb q1 q2
      have B8_8 := Lib.hid (Below.refl w8.heap.size w8)
      go_wp2_with fail
      refine (read_own A6 c6 L6 _ rfl HNw.out.ok at_ ⟨#[70, 114, 101, 115, 104]⟩ 1 _ (own_mem HO6.out rfl B6_8.out) ni 0 0 HNw.out.zero).mono ?_
      rintro e w9 ⟨rfl, hb⟩
      have B0_9 := Lib.hid (B0_8.out.next hb)
      have B2_9 := Lib.hid (B2_8.out.next hb)
      have B6_9 := Lib.hid (B6_8.out.next hb)
      have B8_9 := Lib.hid (hb)
      clear hb
      go_wp2_with fail
      refine (equal_own A8 A2 c8 c2 L8 L2 _ HE8.out rfl HJd.out.ok _ (own_mem HO8.out HE8.out B8_9.out) (HMW.out _ B2_9.out)).mono ?_
      rintro e w10 ⟨rfl, hb⟩
      have B0_10 := Lib.hid (B0_9.out.next hb)
      have B2_10 := Lib.hid (B2_9.out.next hb)
      have B6_10 := Lib.hid (B6_9.out.next hb)
      have B8_10 := Lib.hid (B8_9.out.next hb)
      clear hb
      go_wp2
      go_ret
      exact ⟨rfl, B0_10.out⟩
    subst he0
    obtain ⟨z1, z2, xf, z3, z4⟩ := located_ok HLo.out
    obtain ⟨jf, z5⟩ := HJd.out.has z3
    have HZ : Hid (l[i0]? = some xf ∧ (blocksOf L2)[jf]? = some xf ∧ xf.a = t ∧ t ≠ 0 ∧ Located (blocksOf L2) t jf 0 ∧ lf = others l i0) := Lib.hid ⟨z3, z5, z4, z2, .inr (.inr (.inr ⟨HJd.out.ok, z2, ⟨xf, z5, z4⟩, rfl⟩)), HFi.out.resolve_left (fun h => h.1 rfl) |>.2⟩
    clear z1 z2 z3 z4 z5
    go_wp2_with fail
    refine (HFr.out _ B0_4.out).mono ?_
    rintro e w5 ⟨A5, L5, c5, rfl, q1, q2, hb⟩
    have B0_5 := Lib.hid (B0_4.out.next hb)
    have B2_5 := Lib.hid (B2_4.out.next hb)
    have HE5 := Lib.hid q1
    have HO5 := Lib.hid q2
    clear q1 q2
    clear hb
    have B5_5 := Lib.hid (Below.refl w5.heap.size w5)
    go_wp2_with fail
    refine (free_own A2 c2 L2 _ rfl HJd.out.ok t _ (HMW.out _ B2_5.out) jf HZ.out.2.2.2.2.1).mono ?_
    rintro e w6 ⟨A6, L6, c6, rfl, q1, q2, hb⟩
    have B0_6 := Lib.hid (B0_5.out.next hb)
    have B2_6 := Lib.hid (B2_5.out.next hb)
    have B5_6 := Lib.hid (hb)
    have HE6 := Lib.hid q1
    have HO6 := Lib.hid q2
    clear q1 q2
    clear hb
    have B6_6 := Lib.hid (Below.refl w6.heap.size w6)
    go_wp2_with fail
    refine (HJ2.out _ A5 c5 L5 _ (HE5.out.trans HZ.out.2.2.2.2.2) (HJd.out.okl.others i0) B0_6.out (own_mem HO5.out (HE5.out.trans HZ.out.2.2.2.2.2) B5_6.out)).mono ?_
    rintro e w7 ⟨A7, L7, c7, ek2, rfl, q1, q2, hb⟩
    have B0_7 := Lib.hid (B0_6.out.next hb)
    have B2_7 := Lib.hid (B2_6.out.next hb)
    have B5_7 := Lib.hid (B5_6.out.next hb)
    have B6_7 := Lib.hid (hb)
    obtain ⟨rfl, g1, g2⟩ := HJd.out.free HZ.out.1 HZ.out.2.1 q1
    clear q1
    have q1 := And.intro g1 g2
    clear g1 g2
    have HE7 := Lib.hid q1
    have HO7 := Lib.hid q2
    clear q1 q2
    clear hb
    have B7_7 := Lib.hid (Below.refl w7.heap.size w7)
    go_wp2_with fail
    refine (read_own A6 c6 L6 _ HE6.out (HE7.out.1 ▸ HE7.out.2) t rc fd _ (own_mem HO6.out HE6.out B6_7.out) 0 0 16 (Joined.dead HJd.out.ok HZ.out.2.1 HZ.out.2.2.1 HZ.out.2.2.2.1 _ _)).mono ?_
    rintro e w8 ⟨rfl, hb⟩
    have B0_8 := Lib.hid (B0_7.out.next hb)
    have B2_8 := Lib.hid (B2_7.out.next hb)
    have B5_8 := Lib.hid (B5_7.out.next hb)
    have B6_8 := Lib.hid (B6_7.out.next hb)
    have B7_8 := Lib.hid (hb)
    clear hb
    go_wp2_with fail
    refine (equal_own A6 A7 c6 c7 L6 L7 _ HE6.out HE7.out.1 (HE7.out.1 ▸ HE7.out.2) _ (own_mem HO6.out HE6.out B6_8.out) (own_mem HO7.out HE7.out.1 B7_8.out)).mono ?_
    rintro e w9 ⟨rfl, hb⟩
    have B0_9 := Lib.hid (B0_8.out.next hb)
    have B2_9 := Lib.hid (B2_8.out.next hb)
    have B5_9 := Lib.hid (B5_8.out.next hb)
    have B6_9 := Lib.hid (B6_8.out.next hb)
    have B7_9 := Lib.hid (B7_8.out.next hb)
    clear hb
    go_wp2_with fail
    refine (new_any A2 c2 L2.length (blocksOf L2) (blocksOf_len L2).symm (own_len HJd.out.ok rfl) ch HCh.out [70, 114, 101, 115, 104] (by unfold maxLen; decide) 2 _ (HMW.out _ B2_9.out)).mono ?_
    rintro e w10 ⟨A10, L10, c10, at_, ea, rfl, q1, q2, hb⟩
    have B0_10 := Lib.hid (B0_9.out.next hb)
    have B2_10 := Lib.hid (B2_9.out.next hb)
    have B5_10 := Lib.hid (B5_9.out.next hb)
    have B6_10 := Lib.hid (B6_9.out.next hb)
    have B7_10 := Lib.hid (B7_9.out.next hb)
    obtain ⟨rfl, ni, g1⟩ := new_in HJd.out.ok HJd.out.size name_fresh q1
    clear q1
    have HNw := Lib.hid g1
    have HO10 := Lib.hid q2
    clear g1 q2
    clear hb
    have B10_10 := Lib.hid (Below.refl w10.heap.size w10)
    go_wp2_with fail
    refine (get_err A2 c2 L2.length (blocksOf L2) (blocksOf_len L2).symm (own_len HJd.out.ok rfl) at_ _ (HMW.out _ B2_10.out) 0 16 (HNw.out.located HJd.out.ok) (by decide)).mono ?_
    rintro e w11 ⟨rfl, hb⟩
    have B0_11 := Lib.hid (B0_10.out.next hb)
    have B2_11 := Lib.hid (B2_10.out.next hb)
    have B5_11 := Lib.hid (B5_10.out.next hb)
    have B6_11 := Lib.hid (B6_10.out.next hb)
    have B7_11 := Lib.hid (B7_10.out.next hb)
    have B10_11 := Lib.hid (hb)
    clear hb
    have HBx := Lib.hid (below_alloc w11 (.cells #[.int .i64 0, .string ⟨#[]⟩, .slice none 0 0] 43))
    go_wp2_with fail
    refine (free_own A10 c10 L10 _ rfl HNw.out.ok at_ _ (own_mem HO10.out rfl (B10_11.out.next HBx.out)) ni HNw.out.at_).mono ?_
    rintro e w12 ⟨A12, L12, c12, rfl, q1, q2, hb⟩
    have hb := HBx.out.next hb
    have B0_12 := Lib.hid (B0_11.out.next hb)
    have B2_12 := Lib.hid (B2_11.out.next hb)
    have B5_12 := Lib.hid (B5_11.out.next hb)
    have B6_12 := Lib.hid (B6_11.out.next hb)
    have B7_12 := Lib.hid (B7_11.out.next hb)
    have B10_12 := Lib.hid (B10_11.out.next hb)
    have HE12 := Lib.hid (q1.trans HNw.out.back)
    have HO12 := Lib.hid q2
    clear hb q1 q2
    have B12_12 := Lib.hid (Below.refl w12.heap.size w12)
    go_wp2_with fail
    refine (read_own A10 c10 L10 _ rfl HNw.out.ok at_ ⟨#[70, 114, 101, 115, 104]⟩ 1 _ (own_mem HO10.out rfl B10_12.out) ni 0 0 HNw.out.zero).mono ?_
    rintro e w13 ⟨rfl, hb⟩
    have B0_13 := Lib.hid (B0_12.out.next hb)
    have B2_13 := Lib.hid (B2_12.out.next hb)
    have B5_13 := Lib.hid (B5_12.out.next hb)
    have B6_13 := Lib.hid (B6_12.out.next hb)
    have B7_13 := Lib.hid (B7_12.out.next hb)
    have B10_13 := Lib.hid (B10_12.out.next hb)
    have B12_13 := Lib.hid (hb)
    clear hb
    go_wp2_with fail
    refine (equal_own A12 A2 c12 c2 L12 L2 _ HE12.out rfl HJd.out.ok _ (own_mem HO12.out HE12.out B12_13.out) (HMW.out _ B2_13.out)).mono ?_
    rintro e w14 ⟨rfl, hb⟩
    have B0_14 := Lib.hid (B0_13.out.next hb)
    have B2_14 := Lib.hid (B2_13.out.next hb)
    have B5_14 := Lib.hid (B5_13.out.next hb)
    have B6_14 := Lib.hid (B6_13.out.next hb)
    have B7_14 := Lib.hid (B7_13.out.next hb)
    have B10_14 := Lib.hid (B10_13.out.next hb)
    have B12_14 := Lib.hid (B12_13.out.next hb)
    clear hb
    go_wp2
    go_ret
    exact ⟨rfl, B0_14.out⟩
  subst her
  obtain rfl : e0 = 0 := located_access HLo.out HAc.out
  obtain ⟨x, j, z1, z2, z3, z4, z5, z6, z7⟩ := HJd.out.access HAc.out
  have HX : Hid (l[ia]? = some x ∧ (blocksOf L2)[j]? = some x ∧ Access (blocksOf L2) t rc.data.toList fd j v 0 ∧ x.r = rc.data.toList ∧ 0 ≤ fd ∧ x.f[fd.toNat]? = some v ∧ x.a = t) := Lib.hid ⟨z1, z3, z4, z5, z6, z7, z2⟩
  clear z1 z2 z3 z4 z5 z6 z7
  obtain ⟨z1, z2, xf, z3, z4⟩ := located_ok HLo.out
  obtain ⟨jf, z5⟩ := HJd.out.has z3
  have HZ : Hid (l[i0]? = some xf ∧ (blocksOf L2)[jf]? = some xf ∧ xf.a = t ∧ t ≠ 0 ∧ Located (blocksOf L2) t jf 0 ∧ lf = others l i0) := Lib.hid ⟨z3, z5, z4, z2, .inr (.inr (.inr ⟨HJd.out.ok, z2, ⟨xf, z5, z4⟩, rfl⟩)), HFi.out.resolve_left (fun h => h.1 rfl) |>.2⟩
  clear z1 z2 z3 z4 z5
  go_wp2_with fail
  refine (HRd.out _ B0_2.out).mono ?_
  rintro e w3 ⟨rfl, hb⟩
  have B0_3 := Lib.hid (B0_2.out.next hb)
  have B2_3 := Lib.hid (hb)
  clear hb
  go_wp2_with fail
  refine (read_own A2 c2 L2 _ rfl HJd.out.ok t rc fd _ (HMW.out _ B2_3.out) j v 0 HX.out.2.2.1).mono ?_
  rintro e w4 ⟨rfl, hb⟩
  have B0_4 := Lib.hid (B0_3.out.next hb)
  have B2_4 := Lib.hid (B2_3.out.next hb)
  clear hb
  by_cases hew : ew = 0
  rotate_left
  · skip
    have hew' : (ew == 0) = false := beq_eq_false_iff_ne.2 hew
    have hew'' : (ew != 0) = true := by rw [bne_iff_ne]; exact hew
    clear hew
    go_wp2_with fail
    refine (HWr.out _ B0_4.out).mono ?_
    rintro e w5 ⟨A5, L5, c5, rfl, q1, q2, hb⟩
    have B0_5 := Lib.hid (B0_4.out.next hb)
    have B2_5 := Lib.hid (B2_4.out.next hb)
    clear q1 q2
    clear hb
    go_wp2_with fail
    refine (HFr.out _ B0_5.out).mono ?_
    rintro e w6 ⟨A6, L6, c6, rfl, q1, q2, hb⟩
    have B0_6 := Lib.hid (B0_5.out.next hb)
    have B2_6 := Lib.hid (B2_5.out.next hb)
    have HE6 := Lib.hid q1
    have HO6 := Lib.hid q2
    clear q1 q2
    clear hb
    have B6_6 := Lib.hid (Below.refl w6.heap.size w6)
    go_wp2_with fail
    refine (free_own A2 c2 L2 _ rfl HJd.out.ok t _ (HMW.out _ B2_6.out) jf HZ.out.2.2.2.2.1).mono ?_
    rintro e w7 ⟨A7, L7, c7, rfl, q1, q2, hb⟩
    have B0_7 := Lib.hid (B0_6.out.next hb)
    have B2_7 := Lib.hid (B2_6.out.next hb)
    have B6_7 := Lib.hid (hb)
    have HE7 := Lib.hid q1
    have HO7 := Lib.hid q2
    clear q1 q2
    clear hb
    have B7_7 := Lib.hid (Below.refl w7.heap.size w7)
    go_wp2_with fail
    refine (HJ2.out _ A6 c6 L6 _ (HE6.out.trans HZ.out.2.2.2.2.2) (HJd.out.okl.others i0) B0_7.out (own_mem HO6.out (HE6.out.trans HZ.out.2.2.2.2.2) B6_7.out)).mono ?_
    rintro e w8 ⟨A8, L8, c8, ek2, rfl, q1, q2, hb⟩
    have B0_8 := Lib.hid (B0_7.out.next hb)
    have B2_8 := Lib.hid (B2_7.out.next hb)
    have B6_8 := Lib.hid (B6_7.out.next hb)
    have B7_8 := Lib.hid (hb)
    obtain ⟨rfl, g1, g2⟩ := HJd.out.free HZ.out.1 HZ.out.2.1 q1
    clear q1
    have q1 := And.intro g1 g2
    clear g1 g2
    have HE8 := Lib.hid q1
    have HO8 := Lib.hid q2
    clear q1 q2
    clear hb
    have B8_8 := Lib.hid (Below.refl w8.heap.size w8)
    go_wp2_with fail
    refine (read_own A7 c7 L7 _ HE7.out (HE8.out.1 ▸ HE8.out.2) t rc fd _ (own_mem HO7.out HE7.out B7_8.out) 0 0 16 (Joined.dead HJd.out.ok HZ.out.2.1 HZ.out.2.2.1 HZ.out.2.2.2.1 _ _)).mono ?_
    rintro e w9 ⟨rfl, hb⟩
    have B0_9 := Lib.hid (B0_8.out.next hb)
    have B2_9 := Lib.hid (B2_8.out.next hb)
    have B6_9 := Lib.hid (B6_8.out.next hb)
    have B7_9 := Lib.hid (B7_8.out.next hb)
    have B8_9 := Lib.hid (hb)
    clear hb
    go_wp2_with fail
    refine (equal_own A7 A8 c7 c8 L7 L8 _ HE7.out HE8.out.1 (HE8.out.1 ▸ HE8.out.2) _ (own_mem HO7.out HE7.out B7_9.out) (own_mem HO8.out HE8.out.1 B8_9.out)).mono ?_
    rintro e w10 ⟨rfl, hb⟩
    have B0_10 := Lib.hid (B0_9.out.next hb)
    have B2_10 := Lib.hid (B2_9.out.next hb)
    have B6_10 := Lib.hid (B6_9.out.next hb)
    have B7_10 := Lib.hid (B7_9.out.next hb)
    have B8_10 := Lib.hid (B8_9.out.next hb)
    clear hb
    go_wp2_with fail
    refine (new_any A2 c2 L2.length (blocksOf L2) (blocksOf_len L2).symm (own_len HJd.out.ok rfl) ch HCh.out [70, 114, 101, 115, 104] (by unfold maxLen; decide) 2 _ (HMW.out _ B2_10.out)).mono ?_
    rintro e w11 ⟨A11, L11, c11, at_, ea, rfl, q1, q2, hb⟩
    have B0_11 := Lib.hid (B0_10.out.next hb)
    have B2_11 := Lib.hid (B2_10.out.next hb)
    have B6_11 := Lib.hid (B6_10.out.next hb)
    have B7_11 := Lib.hid (B7_10.out.next hb)
    have B8_11 := Lib.hid (B8_10.out.next hb)
    obtain ⟨rfl, ni, g1⟩ := new_in HJd.out.ok HJd.out.size name_fresh q1
    clear q1
    have HNw := Lib.hid g1
    have HO11 := Lib.hid q2
    clear g1 q2
    clear hb
    have B11_11 := Lib.hid (Below.refl w11.heap.size w11)
    go_wp2_with fail
    refine (get_err A2 c2 L2.length (blocksOf L2) (blocksOf_len L2).symm (own_len HJd.out.ok rfl) at_ _ (HMW.out _ B2_11.out) 0 16 (HNw.out.located HJd.out.ok) (by decide)).mono ?_
    rintro e w12 ⟨rfl, hb⟩
    have B0_12 := Lib.hid (B0_11.out.next hb)
    have B2_12 := Lib.hid (B2_11.out.next hb)
    have B6_12 := Lib.hid (B6_11.out.next hb)
    have B7_12 := Lib.hid (B7_11.out.next hb)
    have B8_12 := Lib.hid (B8_11.out.next hb)
    have B11_12 := Lib.hid (hb)
    clear hb
    have HBx := Lib.hid (below_alloc w12 (.cells #[.int .i64 0, .string ⟨#[]⟩, .slice none 0 0] 43))
    go_wp2_with fail
    refine (free_own A11 c11 L11 _ rfl HNw.out.ok at_ _ (own_mem HO11.out rfl (B11_12.out.next HBx.out)) ni HNw.out.at_).mono ?_
    rintro e w13 ⟨A13, L13, c13, rfl, q1, q2, hb⟩
    have hb := HBx.out.next hb
    have B0_13 := Lib.hid (B0_12.out.next hb)
    have B2_13 := Lib.hid (B2_12.out.next hb)
    have B6_13 := Lib.hid (B6_12.out.next hb)
    have B7_13 := Lib.hid (B7_12.out.next hb)
    have B8_13 := Lib.hid (B8_12.out.next hb)
    have B11_13 := Lib.hid (B11_12.out.next hb)
    have HE13 := Lib.hid (q1.trans HNw.out.back)
    have HO13 := Lib.hid q2
    clear hb q1 q2
    have B13_13 := Lib.hid (Below.refl w13.heap.size w13)
    go_wp2_with fail
    refine (read_own A11 c11 L11 _ rfl HNw.out.ok at_ ⟨#[70, 114, 101, 115, 104]⟩ 1 _ (own_mem HO11.out rfl B11_13.out) ni 0 0 HNw.out.zero).mono ?_
    rintro e w14 ⟨rfl, hb⟩
    have B0_14 := Lib.hid (B0_13.out.next hb)
    have B2_14 := Lib.hid (B2_13.out.next hb)
    have B6_14 := Lib.hid (B6_13.out.next hb)
    have B7_14 := Lib.hid (B7_13.out.next hb)
    have B8_14 := Lib.hid (B8_13.out.next hb)
    have B11_14 := Lib.hid (B11_13.out.next hb)
    have B13_14 := Lib.hid (hb)
    clear hb
    go_wp2_with fail
    refine (equal_own A13 A2 c13 c2 L13 L2 _ HE13.out rfl HJd.out.ok _ (own_mem HO13.out HE13.out B13_14.out) (HMW.out _ B2_14.out)).mono ?_
    rintro e w15 ⟨rfl, hb⟩
    have B0_15 := Lib.hid (B0_14.out.next hb)
    have B2_15 := Lib.hid (B2_14.out.next hb)
    have B6_15 := Lib.hid (B6_14.out.next hb)
    have B7_15 := Lib.hid (B7_14.out.next hb)
    have B8_15 := Lib.hid (B8_14.out.next hb)
    have B11_15 := Lib.hid (B11_14.out.next hb)
    have B13_15 := Lib.hid (B13_14.out.next hb)
    clear hb
    go_wp2
    go_ret
    exact ⟨rfl, B0_15.out⟩
  subst hew
  obtain ⟨z1, z2⟩ := wr_ok_of HWi.out HX.out.1
  have HV : Hid (InR val ∧ lw = l.set ia ⟨x.a, x.r, x.f.set fd.toNat val⟩ ∧ MemOk (l.set ia ⟨x.a, x.r, x.f.set fd.toNat val⟩) ∧ (MemOk ((blocksOf L2).set j ⟨x.a, x.r, x.f.set fd.toNat val⟩) → Access ((blocksOf L2).set j ⟨x.a, x.r, x.f.set fd.toNat val⟩) t rc.data.toList fd j val 0)) :=
        Lib.hid ⟨z1, z2, HJd.out.okl.put HX.out.1 rfl ((HJd.out.okl.all (List.mem_of_getElem? HX.out.1)).write z1 _), fun h => put_access h HX.out.2.1 HX.out.2.2.2.2.2.2 (located_ok (access_located HX.out.2.2.1)).2.1 HX.out.2.2.2.1 HX.out.2.2.2.2.1 HX.out.2.2.2.2.2.1⟩
  clear z1 z2
  go_wp2_with fail
  refine (HWr.out _ B0_4.out).mono ?_
  rintro e w5 ⟨A5, L5, c5, rfl, q1, q2, hb⟩
  have B0_5 := Lib.hid (B0_4.out.next hb)
  have B2_5 := Lib.hid (B2_4.out.next hb)
  have HE5 := Lib.hid q1
  have HO5 := Lib.hid q2
  clear q1 q2
  clear hb
  have B5_5 := Lib.hid (Below.refl w5.heap.size w5)
  go_wp2_with fail
  refine (write_own A2 c2 L2 _ rfl HJd.out.ok t rc fd val _ (HMW.out _ B2_5.out) j v 0 HX.out.2.2.1 _ 0 (.inr (.inr ⟨rfl, HV.out.1, rfl, x, HX.out.2.1, rfl⟩))).mono ?_
  rintro e w6 ⟨A6, L6, c6, rfl, q1, q2, hb⟩
  have B0_6 := Lib.hid (B0_5.out.next hb)
  have B2_6 := Lib.hid (B2_5.out.next hb)
  have B5_6 := Lib.hid (hb)
  have HE6 := Lib.hid q1
  have HO6 := Lib.hid q2
  clear q1 q2
  clear hb
  have B6_6 := Lib.hid (Below.refl w6.heap.size w6)
  go_wp2_with fail
  refine (HJ2.out _ A5 c5 L5 _ (HE5.out.trans HV.out.2.1) HV.out.2.2.1 B0_6.out (own_mem HO5.out (HE5.out.trans HV.out.2.1) B5_6.out)).mono ?_
  rintro e w7 ⟨A7, L7, c7, ek, rfl, q1, q2, hb⟩
  have B0_7 := Lib.hid (B0_6.out.next hb)
  have B2_7 := Lib.hid (B2_6.out.next hb)
  have B5_7 := Lib.hid (B5_6.out.next hb)
  have B6_7 := Lib.hid (hb)
  obtain ⟨rfl, g1, g2⟩ := HJd.out.write HX.out.1 HX.out.2.1 HV.out.1 fd.toNat q1
  clear q1
  have q1 := And.intro g1 g2
  clear g1 g2
  have HE7 := Lib.hid q1
  have HO7 := Lib.hid q2
  clear q1 q2
  clear hb
  have B7_7 := Lib.hid (Below.refl w7.heap.size w7)
  go_wp2_with fail
  refine (read_own A6 c6 L6 _ HE6.out (HE7.out.1 ▸ HE7.out.2) t rc fd _ (own_mem HO6.out HE6.out B6_7.out) j val 0 (HV.out.2.2.2 (HE7.out.1 ▸ HE7.out.2))).mono ?_
  rintro e w8 ⟨rfl, hb⟩
  have B0_8 := Lib.hid (B0_7.out.next hb)
  have B2_8 := Lib.hid (B2_7.out.next hb)
  have B5_8 := Lib.hid (B5_7.out.next hb)
  have B6_8 := Lib.hid (B6_7.out.next hb)
  have B7_8 := Lib.hid (hb)
  clear hb
  go_wp2_with fail
  refine (equal_own A6 A7 c6 c7 L6 L7 _ HE6.out HE7.out.1 (HE7.out.1 ▸ HE7.out.2) _ (own_mem HO6.out HE6.out B6_8.out) (own_mem HO7.out HE7.out.1 B7_8.out)).mono ?_
  rintro e w9 ⟨rfl, hb⟩
  have B0_9 := Lib.hid (B0_8.out.next hb)
  have B2_9 := Lib.hid (B2_8.out.next hb)
  have B5_9 := Lib.hid (B5_8.out.next hb)
  have B6_9 := Lib.hid (B6_8.out.next hb)
  have B7_9 := Lib.hid (B7_8.out.next hb)
  clear hb
  go_wp2_with fail
  refine (HFr.out _ B0_9.out).mono ?_
  rintro e w10 ⟨A10, L10, c10, rfl, q1, q2, hb⟩
  have B0_10 := Lib.hid (B0_9.out.next hb)
  have B2_10 := Lib.hid (B2_9.out.next hb)
  have B5_10 := Lib.hid (B5_9.out.next hb)
  have B6_10 := Lib.hid (B6_9.out.next hb)
  have B7_10 := Lib.hid (B7_9.out.next hb)
  have HE10 := Lib.hid q1
  have HO10 := Lib.hid q2
  clear q1 q2
  clear hb
  have B10_10 := Lib.hid (Below.refl w10.heap.size w10)
  go_wp2_with fail
  refine (free_own A2 c2 L2 _ rfl HJd.out.ok t _ (HMW.out _ B2_10.out) jf HZ.out.2.2.2.2.1).mono ?_
  rintro e w11 ⟨A11, L11, c11, rfl, q1, q2, hb⟩
  have B0_11 := Lib.hid (B0_10.out.next hb)
  have B2_11 := Lib.hid (B2_10.out.next hb)
  have B5_11 := Lib.hid (B5_10.out.next hb)
  have B6_11 := Lib.hid (B6_10.out.next hb)
  have B7_11 := Lib.hid (B7_10.out.next hb)
  have B10_11 := Lib.hid (hb)
  have HE11 := Lib.hid q1
  have HO11 := Lib.hid q2
  clear q1 q2
  clear hb
  have B11_11 := Lib.hid (Below.refl w11.heap.size w11)
  go_wp2_with fail
  refine (HJ2.out _ A10 c10 L10 _ (HE10.out.trans HZ.out.2.2.2.2.2) (HJd.out.okl.others i0) B0_11.out (own_mem HO10.out (HE10.out.trans HZ.out.2.2.2.2.2) B10_11.out)).mono ?_
  rintro e w12 ⟨A12, L12, c12, ek2, rfl, q1, q2, hb⟩
  have B0_12 := Lib.hid (B0_11.out.next hb)
  have B2_12 := Lib.hid (B2_11.out.next hb)
  have B5_12 := Lib.hid (B5_11.out.next hb)
  have B6_12 := Lib.hid (B6_11.out.next hb)
  have B7_12 := Lib.hid (B7_11.out.next hb)
  have B10_12 := Lib.hid (B10_11.out.next hb)
  have B11_12 := Lib.hid (hb)
  obtain ⟨rfl, g1, g2⟩ := HJd.out.free HZ.out.1 HZ.out.2.1 q1
  clear q1
  have q1 := And.intro g1 g2
  clear g1 g2
  have HE12 := Lib.hid q1
  have HO12 := Lib.hid q2
  clear q1 q2
  clear hb
  have B12_12 := Lib.hid (Below.refl w12.heap.size w12)
  go_wp2_with fail
  refine (read_own A11 c11 L11 _ HE11.out (HE12.out.1 ▸ HE12.out.2) t rc fd _ (own_mem HO11.out HE11.out B11_12.out) 0 0 16 (Joined.dead HJd.out.ok HZ.out.2.1 HZ.out.2.2.1 HZ.out.2.2.2.1 _ _)).mono ?_
  rintro e w13 ⟨rfl, hb⟩
  have B0_13 := Lib.hid (B0_12.out.next hb)
  have B2_13 := Lib.hid (B2_12.out.next hb)
  have B5_13 := Lib.hid (B5_12.out.next hb)
  have B6_13 := Lib.hid (B6_12.out.next hb)
  have B7_13 := Lib.hid (B7_12.out.next hb)
  have B10_13 := Lib.hid (B10_12.out.next hb)
  have B11_13 := Lib.hid (B11_12.out.next hb)
  have B12_13 := Lib.hid (hb)
  clear hb
  go_wp2_with fail
  refine (equal_own A11 A12 c11 c12 L11 L12 _ HE11.out HE12.out.1 (HE12.out.1 ▸ HE12.out.2) _ (own_mem HO11.out HE11.out B11_13.out) (own_mem HO12.out HE12.out.1 B12_13.out)).mono ?_
  rintro e w14 ⟨rfl, hb⟩
  have B0_14 := Lib.hid (B0_13.out.next hb)
  have B2_14 := Lib.hid (B2_13.out.next hb)
  have B5_14 := Lib.hid (B5_13.out.next hb)
  have B6_14 := Lib.hid (B6_13.out.next hb)
  have B7_14 := Lib.hid (B7_13.out.next hb)
  have B10_14 := Lib.hid (B10_13.out.next hb)
  have B11_14 := Lib.hid (B11_13.out.next hb)
  have B12_14 := Lib.hid (B12_13.out.next hb)
  clear hb
  go_wp2_with fail
  refine (new_any A2 c2 L2.length (blocksOf L2) (blocksOf_len L2).symm (own_len HJd.out.ok rfl) ch HCh.out [70, 114, 101, 115, 104] (by unfold maxLen; decide) 2 _ (HMW.out _ B2_14.out)).mono ?_
  rintro e w15 ⟨A15, L15, c15, at_, ea, rfl, q1, q2, hb⟩
  have B0_15 := Lib.hid (B0_14.out.next hb)
  have B2_15 := Lib.hid (B2_14.out.next hb)
  have B5_15 := Lib.hid (B5_14.out.next hb)
  have B6_15 := Lib.hid (B6_14.out.next hb)
  have B7_15 := Lib.hid (B7_14.out.next hb)
  have B10_15 := Lib.hid (B10_14.out.next hb)
  have B11_15 := Lib.hid (B11_14.out.next hb)
  have B12_15 := Lib.hid (B12_14.out.next hb)
  obtain ⟨rfl, ni, g1⟩ := new_in HJd.out.ok HJd.out.size name_fresh q1
  clear q1
  have HNw := Lib.hid g1
  have HO15 := Lib.hid q2
  clear g1 q2
  clear hb
  have B15_15 := Lib.hid (Below.refl w15.heap.size w15)
  go_wp2_with fail
  refine (get_err A2 c2 L2.length (blocksOf L2) (blocksOf_len L2).symm (own_len HJd.out.ok rfl) at_ _ (HMW.out _ B2_15.out) 0 16 (HNw.out.located HJd.out.ok) (by decide)).mono ?_
  rintro e w16 ⟨rfl, hb⟩
  have B0_16 := Lib.hid (B0_15.out.next hb)
  have B2_16 := Lib.hid (B2_15.out.next hb)
  have B5_16 := Lib.hid (B5_15.out.next hb)
  have B6_16 := Lib.hid (B6_15.out.next hb)
  have B7_16 := Lib.hid (B7_15.out.next hb)
  have B10_16 := Lib.hid (B10_15.out.next hb)
  have B11_16 := Lib.hid (B11_15.out.next hb)
  have B12_16 := Lib.hid (B12_15.out.next hb)
  have B15_16 := Lib.hid (hb)
  clear hb
  have HBx := Lib.hid (below_alloc w16 (.cells #[.int .i64 0, .string ⟨#[]⟩, .slice none 0 0] 43))
  go_wp2_with fail
  refine (free_own A15 c15 L15 _ rfl HNw.out.ok at_ _ (own_mem HO15.out rfl (B15_16.out.next HBx.out)) ni HNw.out.at_).mono ?_
  rintro e w17 ⟨A17, L17, c17, rfl, q1, q2, hb⟩
  have hb := HBx.out.next hb
  have B0_17 := Lib.hid (B0_16.out.next hb)
  have B2_17 := Lib.hid (B2_16.out.next hb)
  have B5_17 := Lib.hid (B5_16.out.next hb)
  have B6_17 := Lib.hid (B6_16.out.next hb)
  have B7_17 := Lib.hid (B7_16.out.next hb)
  have B10_17 := Lib.hid (B10_16.out.next hb)
  have B11_17 := Lib.hid (B11_16.out.next hb)
  have B12_17 := Lib.hid (B12_16.out.next hb)
  have B15_17 := Lib.hid (B15_16.out.next hb)
  have HE17 := Lib.hid (q1.trans HNw.out.back)
  have HO17 := Lib.hid q2
  clear hb q1 q2
  have B17_17 := Lib.hid (Below.refl w17.heap.size w17)
  go_wp2_with fail
  refine (read_own A15 c15 L15 _ rfl HNw.out.ok at_ ⟨#[70, 114, 101, 115, 104]⟩ 1 _ (own_mem HO15.out rfl B15_17.out) ni 0 0 HNw.out.zero).mono ?_
  rintro e w18 ⟨rfl, hb⟩
  have B0_18 := Lib.hid (B0_17.out.next hb)
  have B2_18 := Lib.hid (B2_17.out.next hb)
  have B5_18 := Lib.hid (B5_17.out.next hb)
  have B6_18 := Lib.hid (B6_17.out.next hb)
  have B7_18 := Lib.hid (B7_17.out.next hb)
  have B10_18 := Lib.hid (B10_17.out.next hb)
  have B11_18 := Lib.hid (B11_17.out.next hb)
  have B12_18 := Lib.hid (B12_17.out.next hb)
  have B15_18 := Lib.hid (B15_17.out.next hb)
  have B17_18 := Lib.hid (hb)
  clear hb
  go_wp2_with fail
  refine (equal_own A17 A2 c17 c2 L17 L2 _ HE17.out rfl HJd.out.ok _ (own_mem HO17.out HE17.out B17_18.out) (HMW.out _ B2_18.out)).mono ?_
  rintro e w19 ⟨rfl, hb⟩
  have B0_19 := Lib.hid (B0_18.out.next hb)
  have B2_19 := Lib.hid (B2_18.out.next hb)
  have B5_19 := Lib.hid (B5_18.out.next hb)
  have B6_19 := Lib.hid (B6_18.out.next hb)
  have B7_19 := Lib.hid (B7_18.out.next hb)
  have B10_19 := Lib.hid (B10_18.out.next hb)
  have B11_19 := Lib.hid (B11_18.out.next hb)
  have B12_19 := Lib.hid (B12_18.out.next hb)
  have B15_19 := Lib.hid (B15_18.out.next hb)
  have B17_19 := Lib.hid (B17_18.out.next hb)
  clear hb
  go_wp2
  go_ret
  exact ⟨rfl, B0_19.out⟩

end Go.Proofs.Ytkmpjjpohgjdjaa
