/-
  The body of the law MemoryJoins.
-/
import Derived.Test.YtbmejohoifpfhaaMemA
import Derived.Test.YtbmejohoifpfhaaMemFm
import Derived.Test.YtbmejohoifpfhaaMemJn
import Derived.Test.YtbmejohoifpfhaaMemRJ
import Derived.Test.YtbmejohoifpfhaaMemPk
import Derived.Test.YtbmejohoifpfhaaMemE
import Derived.Test.YtbmejohoifpfhaaMemEq
namespace Go.Proofs.Ytbmejohoifpfhaa
open Go.RowKit Go.Lib

theorem own_memJ {w w' : World} {B0 : Nat} {A : Option Addr} {c : Nat} {L : List Bx} {l : List Bk} (h : OwnMem w B0 (.slice A L.length c) L) (e : blocksOf L = l) (hb : Below w.heap.size w w') : MemAt w' w'.heap.size A l := by
  have := (h.later hb).mem
  rwa [e] at this

theorem part_ok {l : List Bk} (h : MemOk l) (p : Bk → Bool) : MemOk (l.filter p) :=
  .of (Nat.le_trans (List.length_filter_le p l) h.1) (fun _ hx => h.all (List.mem_filter.1 hx).1) (.of_pairwise (h.asc.pairwise.sublist List.filter_sublist))

/-- What is picked and the rest, joined in either order, is the memory. -/
theorem join_parts {l i o y : List Bk} {e : Int} {f : List Int} (h : MemOk l) (hi : i = pickIn f l) (ho : o = pickOut f l) (g : JoinIs i o y e ∨ JoinIs o i y e) : e = 0 ∧ y = l := by
  have hio : MemOk i := by rw [hi]; exact part_ok h _
  have hoo : MemOk o := by rw [ho]; exact part_ok h _
  have hp : (i ++ o).Perm l := by rw [hi, ho]; exact pick_perm f l
  have hap : ∀ x ∈ i, ∀ y ∈ o, x.a ≠ y.a := fun x hx y hy e => by
    rw [hi] at hx; rw [ho] at hy
    have h1 := (List.mem_filter.1 hx).2
    have h2 := (List.mem_filter.1 hy).2
    rw [e] at h1
    simp_all
  have hlen : i.length + o.length ≤ 100 := by
    have := hp.length_eq
    rw [List.length_append] at this
    have := h.1
    omega
  have fin : ∀ (a b : List Bk), MemOk a → MemOk b → ¬ Meets a b → a.length + b.length ≤ 100 → (a ++ b).Perm l → JoinIs a b y e → e = 0 ∧ y = l := fun a b ha hb hm hl hpp g => by
    rcases g with ⟨g, _⟩ | ⟨_, _, g, _⟩ | ⟨_, _, _, g, _⟩ | ⟨_, _, _, _, g1, g2, rfl⟩
    · exact absurd ⟨ha, hb⟩ g
    · exact absurd g hm
    · omega
    · exact ⟨rfl, g2.uniq h.asc (g1.trans hpp)⟩
  rcases g with g | g
  · exact fin i o hio hoo (fun ⟨x, hx, y, hy, e⟩ => hap x hx y hy e) hlen hp g
  · exact fin o i hoo hio (fun ⟨x, hx, y, hy, e⟩ => hap y hy x hx e.symm) (by omega) (List.perm_append_comm.trans hp) g

theorem pick_len {l : List Bk} {f : List Int} {i o : List Bk} {e : Int} (h : PickIs l f i o e) : i.length ≤ maxLen ∧ o.length ≤ maxLen := by
  have h100 : (100 : Nat) ≤ maxLen := by unfold maxLen; decide
  rcases h with ⟨_, rfl, rfl, _⟩ | ⟨_, _, rfl, rfl, _⟩ | ⟨h, _, rfl, rfl, _⟩
  · exact ⟨Nat.zero_le _, Nat.zero_le _⟩
  · exact ⟨Nat.zero_le _, Nat.zero_le _⟩
  · have h1 := (part_ok h (fun x => decide (x.a ∈ f))).1
    have h2 := (part_ok h (fun x => !decide (x.a ∈ f))).1
    exact ⟨Nat.le_trans h1 h100, Nat.le_trans h2 h100⟩

theorem join_len {l m y : List Bk} {e : Int} (h : JoinIs l m y e) : y.length ≤ maxLen := by
  have h100 : (100 : Nat) ≤ maxLen := by unfold maxLen; decide
  rcases h with ⟨_, rfl, _⟩ | ⟨_, _, _, rfl, _⟩ | ⟨_, _, _, _, rfl, _⟩ | ⟨_, _, _, h, hp, _⟩
  · exact Nat.zero_le _
  · exact Nat.zero_le _
  · exact Nat.zero_le _
  · have := hp.length_eq
    rw [List.length_append] at this
    omega

theorem pick_zero {l : List Bk} {f : List Int} {i o : List Bk} {e : Int} (h : PickIs l f i o e) (he : e = 0) : MemOk l ∧ i = pickIn f l ∧ o = pickOut f l := by
  rcases h with ⟨_, _, _, h⟩ | ⟨_, _, _, _, h⟩ | ⟨h, _, h1, h2, _⟩
  · omega
  · omega
  · exact ⟨h, h1, h2⟩

set_option maxRecDepth 100000 in
set_option maxHeartbeats 16000000 in
theorem joins_law (A B F : Option Addr) (ca cb cf : Nat) (l m : List Bk) (f : List Int) (hl : l.length ≤ maxLen) (hl2 : m.length ≤ maxLen) (w : World) (hm : MemAt w w.heap.size A l) (hm2 : MemAt w w.heap.size B m) (hF : FieldsAt w w.heap.size F f) :
    Calls Try.prog 3 #[.slice A l.length ca, .slice B m.length cb, .slice F f.length cf] w fun e w' => e = .returned (.bool true) ∧ Below w.heap.size w w' := by
  obtain ⟨n, hn⟩ : ∃ n, n = l.length := ⟨_, rfl⟩
  obtain ⟨n2, hn2⟩ : ∃ n, n = m.length := ⟨_, rfl⟩
  obtain ⟨nf, hnf⟩ : ∃ n, n = f.length := ⟨_, rfl⟩
  rw [← hn] at hl ⊢
  rw [← hn2] at hl2 ⊢
  rw [← hnf]
  by_cases h200 : nf ≤ 200
  rotate_left
  · have h200' : (200 : Int) < nf := by omega
    clear hm hm2 hl hl2 hn hn2 hnf hF h200
    go_enter Try.func3, Try.ntmps3
    go_wp2_with fail
    refine (awake_any _).mono ?_
    rintro e w1 ⟨rfl, hb⟩
    have B0_1 := Lib.hid (hb)
    clear hb
    go_wp2
    go_ret
    exact ⟨rfl, B0_1.out⟩
  have hfm : nf ≤ maxLen := by unfold maxLen; omega
  have hf1 : nf ≤ 1000 := by omega
  have HJ : Hid (∀ W, Below w.heap.size w W → Calls Try.prog 6 #[.slice A n ca, .slice B n2 cb] W (JoinPost l m W)) := Lib.hid (fun W hb => join_any A B ca cb n n2 l m hn hn2 hl hl2 W (hm.later hb) (hm2.later hb))
  have HRJ : Hid (∀ W, Below w.heap.size w W → Calls Try.prog 7 #[.slice A n ca, .slice B n2 cb] W (RJoinPost l m W)) := Lib.hid (fun W hb => rjoin_any A B ca cb n n2 l m hn hn2 hl hl2 W (hm.later hb) (hm2.later hb))
  have HP : Hid (∀ W, Below w.heap.size w W → Calls Try.prog 8 #[.slice A n ca, .slice F nf cf] W (PickPost l f W)) := Lib.hid (fun W hb => pick_any A F ca cf n nf l f hn hnf hl hf1 W (hm.later hb) (hF.later hb))
  have HRP : Hid (∀ W, Below w.heap.size w W → Calls Try.prog 9 #[.slice A n ca, .slice F nf cf] W (PickPost l f W)) := Lib.hid (fun W hb => rpick_any A F ca cf n nf l f hn hnf hl hfm W (hm.later hb) (hF.later hb))
  have HEA : Hid (∀ W (A1 : Option Addr) (c1 n1 : Nat), n1 = l.length → MemOk l → Below w.heap.size w W → MemAt W W.heap.size A1 l → Calls Try.prog 11 #[.slice A1 n1 c1, .slice A n ca] W fun e w' => e = .returned (.bool true) ∧ Below W.heap.size W w') :=
    Lib.hid (fun W A1 c1 n1 h1 hok hb h2 => mequal_any A1 A c1 ca n1 n l l h1 hn (by omega) hl W h2 (hm.later hb) true ⟨fun _ => ⟨hok, hok, rfl⟩, fun _ => rfl⟩)
  have h200' : ¬ (200 : Int) < nf := by omega
  clear hm hm2 hl hl2 hn hn2 hnf hF h200 hfm hf1
  go_enter Try.func3, Try.ntmps3
  go_wp2_with fail
  refine (awake_any _).mono ?_
  rintro e w1 ⟨rfl, hb⟩
  have B1 := Lib.hid (hb)
  clear hb
  go_wp2_with fail
  refine (HJ.out _ B1.out).mono ?_
  rintro e w2 ⟨A2, L2, c2, ej, rfl, q1, q2, hb⟩
  have B2 := Lib.hid (B1.out.next hb)
  have HJI := Lib.hid q1
  have HO2 := Lib.hid (own_memJ q2 rfl (Below.refl w2.heap.size w2))
  clear q1 q2 hb
  go_wp2_with fail
  refine (HRJ.out _ B2.out).mono ?_
  rintro e w3 ⟨A3, c3, l3, er, rfl, q1, q2, hb⟩
  obtain ⟨rfl, rfl⟩ := HJI.out.uniq q1
  have B3 := Lib.hid (B2.out.next hb)
  have HA2 := Lib.hid (HO2.out.later hb)
  have HA3 := Lib.hid q2
  clear q1 q2 hb
  go_wp2_with fail
  refine (HP.out _ B3.out).mono ?_
  rintro e w4 ⟨A4, c4, A5, c5, i, o, g, rfl, q1, q2, q3, hb⟩
  have B4 := Lib.hid (B3.out.next hb)
  have HPI := Lib.hid q1
  have HE4 := Lib.hid (And.intro (HA2.out.later hb) (And.intro (HA3.out.later hb) (And.intro q2 q3)))
  clear q1 q2 q3 hb
  go_wp2_with fail
  refine (HRP.out _ B4.out).mono ?_
  rintro e w5 ⟨A6, c6, A7, c7, i2, o2, g2, rfl, q1, q2, q3, hb⟩
  obtain ⟨rfl, rfl, rfl⟩ := HPI.out.uniq q1
  have B5 := Lib.hid (B4.out.next hb)
  have HE5 := Lib.hid (And.intro (HE4.out.1.later hb) (And.intro (HE4.out.2.1.later hb) (And.intro (HE4.out.2.2.1.later hb) (And.intro (HE4.out.2.2.2.later hb) (And.intro q2 q3)))))
  clear q1 q2 q3 hb
  obtain ⟨ni, hni⟩ : ∃ n, n = i.length := ⟨_, rfl⟩
  obtain ⟨no, hno⟩ : ∃ n, n = o.length := ⟨_, rfl⟩
  obtain ⟨nj, hnj⟩ : ∃ n, n = L2.length := ⟨_, rfl⟩
  obtain ⟨nk, hnk⟩ : ∃ n, n = (blocksOf L2).length := ⟨_, rfl⟩
  have HLn := Lib.hid (And.intro hni (And.intro hno (And.intro hnj (And.intro hnk (And.intro (pick_len HPI.out).1 (And.intro (pick_len HPI.out).2 (join_len HJI.out)))))))
  rw [← hni, ← hno, ← hnj, ← hnk]
  clear hni hno hnj hnk
  have hjj : (ej != ej) = false := by simp
  have hgg : (g != g) = false := by simp
  go_wp2_with fail
  refine (requal_any A2 A3 c2 c3 nj nk (blocksOf L2) (blocksOf L2) (by rw [HLn.out.2.2.1, blocksOf_len]) HLn.out.2.2.2.1 (by rw [HLn.out.2.2.1, ← blocksOf_len]; exact HLn.out.2.2.2.2.2.2) _ HE5.out.1 HE5.out.2.1 true ⟨fun _ => rfl, fun _ => rfl⟩).mono ?_
  rintro e w6 ⟨rfl, hb⟩
  have B6 := Lib.hid (B5.out.next hb)
  have H6 := Lib.hid hb
  clear hb
  go_wp2_with fail
  refine (requal_any A4 A6 c4 c6 ni ni i i HLn.out.1 HLn.out.1 (by rw [HLn.out.1]; exact HLn.out.2.2.2.2.1) _ (HE5.out.2.2.1.later H6.out) (HE5.out.2.2.2.2.1.later H6.out) true ⟨fun _ => rfl, fun _ => rfl⟩).mono ?_
  rintro e w7 ⟨rfl, hb⟩
  have B7 := Lib.hid (B6.out.next hb)
  have H7 := Lib.hid (H6.out.next hb)
  clear hb
  go_wp2_with fail
  refine (requal_any A5 A7 c5 c7 no no o o HLn.out.2.1 HLn.out.2.1 (by rw [HLn.out.2.1]; exact HLn.out.2.2.2.2.2.1) _ (HE5.out.2.2.2.1.later H7.out) (HE5.out.2.2.2.2.2.later H7.out) true ⟨fun _ => rfl, fun _ => rfl⟩).mono ?_
  rintro e w8 ⟨rfl, hb⟩
  have B8 := Lib.hid (B7.out.next hb)
  have H8 := Lib.hid (H7.out.next hb)
  clear hb
  by_cases hg : g = 0
  rotate_left
  · have hg' : (g == 0) = false := beq_eq_false_iff_ne.2 hg
    have hg'' : (g != 0) = true := by rw [bne_iff_ne]; exact hg
    clear hg
    go_wp2
    go_ret
    exact ⟨rfl, B8.out⟩
  subst hg
  have HZ := Lib.hid (pick_zero HPI.out rfl)
  go_wp2_with fail
  refine (join_any A4 A5 c4 c5 ni no i o HLn.out.1 HLn.out.2.1 (by rw [HLn.out.1]; exact HLn.out.2.2.2.2.1) (by rw [HLn.out.2.1]; exact HLn.out.2.2.2.2.2.1) _ (HE5.out.2.2.1.later H8.out) (HE5.out.2.2.2.1.later H8.out)).mono ?_
  rintro e w9 ⟨A9, L9, c9, e9, rfl, q1, q2, hb⟩
  obtain ⟨rfl, z9⟩ := join_parts HZ.out.1 HZ.out.2.1 HZ.out.2.2 (.inl q1)
  have HZ9 := Lib.hid z9
  have B9 := Lib.hid (B8.out.next hb)
  have H9 := Lib.hid (H8.out.next hb)
  have HO9 := Lib.hid q2
  clear q1 q2 hb z9
  go_wp2_with fail
  refine (join_any A5 A4 c5 c4 no ni o i HLn.out.2.1 HLn.out.1 (by rw [HLn.out.2.1]; exact HLn.out.2.2.2.2.2.1) (by rw [HLn.out.1]; exact HLn.out.2.2.2.2.1) _ (HE5.out.2.2.2.1.later H9.out) (HE5.out.2.2.1.later H9.out)).mono ?_
  rintro e w10 ⟨A10, L10, c10, e10, rfl, q1, q2, hb⟩
  obtain ⟨rfl, z10⟩ := join_parts HZ.out.1 HZ.out.2.1 HZ.out.2.2 (.inr q1)
  have HZ10 := Lib.hid z10
  have B10 := Lib.hid (B9.out.next hb)
  have HM9 := Lib.hid (own_memJ HO9.out HZ9.out hb)
  have HM10 := Lib.hid (own_memJ q2 z10 (Below.refl w10.heap.size w10))
  clear q1 q2 hb z10
  go_wp2_with fail
  refine (HEA.out _ A9 c9 L9.length (by rw [← HZ9.out, blocksOf_len]) HZ.out.1 B10.out HM9.out).mono ?_
  rintro e w11 ⟨rfl, hb⟩
  have B11 := Lib.hid (B10.out.next hb)
  have HM11 := Lib.hid (HM10.out.later hb)
  clear hb
  go_wp2_with fail
  refine (HEA.out _ A10 c10 L10.length (by rw [← HZ10.out, blocksOf_len]) HZ.out.1 B11.out HM11.out).mono ?_
  rintro e w12 ⟨rfl, hb⟩
  have B12 := Lib.hid (B11.out.next hb)
  clear hb
  go_wp2
  go_ret
  exact ⟨rfl, B12.out⟩

end Go.Proofs.Ytbmejohoifpfhaa
