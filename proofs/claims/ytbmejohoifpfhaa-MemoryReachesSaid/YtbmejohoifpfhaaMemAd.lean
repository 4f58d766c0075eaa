/-
  Contract of sepalref06.Add.
-/
import Derived.Test.YtbmejohoifpfhaaMemKm
import Derived.Test.YtbmejohoifpfhaaMemF
import Derived.Test.YtbmejohoifpfhaaMemJm
import Derived.Deep.QuietTactic
import Derived.BigQuiet
namespace Go.Proofs.Ytbmejohoifpfhaa
open Go.RowKit Go.Lib

/-- A slice's address, length and capacity as they come. -/
def SliceOk (A : Option Addr) (n c : Nat) : Prop := n ≤ c ∧ c ≤ maxLen ∧ (A = none → c = 0)

theorem slice_ok {w : World} {B n c size : Nat} {e : TypeId} {A : Option Addr} {xs : List Value} (h : w.ownsRow B e size (.slice A n c) n xs) : SliceOk A n c := by
  rcases h.2 with ⟨hv, hn⟩ | ⟨g, cap, cur, hv, _, _, hnc, hcm, _⟩
  · injection hv with h1 h2 h3
    subst h3
    exact ⟨by omega, Nat.zero_le _, fun _ => rfl⟩
  · injection hv with h1 h2 h3
    subst h3
    exact ⟨hnc, hcm, fun e => by rw [h1] at e; cases e⟩

/-- Behind sepalref06.Add. -/
def AddPost (l : List Bk) (x : Bk) (w : World) (e : Ending) (w' : World) : Prop :=
  ∃ (i : Nat) (A : Option Addr) (c : Nat), e = .returned (.slice A (l.length + 1) c) ∧ IsLb l x.a i ∧ MemAt w' w'.heap.size A (l.take i ++ x :: l.drop i) ∧ Below w.heap.size w w' ∧ SliceOk A (l.length + 1) c

theorem lb_here {l : List Bk} {t : Int} {i : Nat} (hl : Asc l) (hi : i ≤ l.length) (h1 : ∀ (k : Nat) x, k < i → l[k]? = some x → x.a < t) (h2 : ∀ x, l[i]? = some x → t ≤ x.a) : IsLb l t i := by
  refine ⟨hi, h1, fun k x hk hx => ?_⟩
  have hlt : i < l.length := by have := (List.getElem?_eq_some_iff.1 hx).1; omega
  have h3 := h2 l[i] (List.getElem?_eq_getElem hlt)
  rcases Nat.lt_or_eq_of_le hk with h | rfl
  · have := hl i k _ x h (List.getElem?_eq_getElem hlt) hx
    omega
  · exact h2 x hx

theorem Reads.take {w : World} {B : Nat} {A : Option Addr} {L : List Bx} (h : Reads w B 3 A L.length (cellsL L)) {i : Nat} (hi : i ≤ L.length) : Reads w B 3 A i (cellsL (L.take i)) := by
  refine ⟨by rw [cellsL_len, List.length_take]; omega, fun h0 => ?_⟩
  obtain ⟨a, h1, h2, h3⟩ := h.2 (by omega)
  refine ⟨a, h1, h2, fun j u hu => h3 j u ?_⟩
  rw [← cellsL_take, List.getElem?_take] at hu
  split at hu
  · exact hu
  · cases hu

theorem Reads.drop {w : World} {B : Nat} {a : Addr} {L : List Bx} (h : Reads w B 3 (some a) L.length (cellsL L)) {i : Nat} (hi : i ≤ L.length) (A : Option Addr) (hA : i < L.length → A = some (a.add (i * 3))) : Reads w B 3 A (L.length - i) (cellsL (L.drop i)) := by
  refine ⟨by rw [cellsL_len, List.length_drop], fun h0 => ?_⟩
  obtain ⟨a', h1, h2, h3⟩ := h.2 (by omega)
  obtain rfl := Option.some.inj h1
  refine ⟨_, hA (by omega), by rw [blk_add]; exact h2, fun j u hu => ?_⟩
  rw [add_of_add]
  exact h3 _ u (by rw [← cellsL_drop, List.getElem?_drop] at hu; exact hu)

/-- A row made of parts of others reads as their blocks. -/
theorem row_mem {w : World} {B0 : Nat} {v : Value} {L : List Bx} {n : Nat} (hn : n = L.length) (h : w.ownsRow B0 42 3 v n (cellsL L)) (hf : ∀ p ∈ L, BkLen p.x ∧ FieldsAt w w.heap.size p.F p.x.f) : ∃ A c, v = .slice A n c ∧ MemAt w w.heap.size A (blocksOf L) := by
  subst hn
  obtain ⟨A, c, hv⟩ : ∃ A c, v = .slice A L.length c := by
    rcases h.2 with ⟨hv, hn⟩ | ⟨g, cap, cur, hv, _⟩
    · exact ⟨none, 0, by rw [hv, hn]⟩
    · exact ⟨_, _, hv⟩
  subst hv
  exact ⟨A, c, rfl, (Reads.of_own h).mem hf⟩

theorem Reads.take' {w : World} {B n : Nat} {A : Option Addr} {L : List Bx} (h : Reads w B 3 A L.length (cellsL L)) (hn : L.length = n) {i : Nat} (hi : i ≤ n) : Reads w B 3 A i (cellsL (L.take i)) := h.take (by omega)

theorem Reads.drop' {w : World} {B n : Nat} {a : Addr} {L : List Bx} (h : Reads w B 3 (some a) L.length (cellsL L)) (hn : L.length = n) {i : Nat} (hi : i ≤ n) : Reads w B 3 (some (a.add (i * 3))) (n - i) (cellsL (L.drop i)) := by
  subst hn
  exact h.drop hi _ (fun _ => rfl)

theorem Reads.none_left {w : World} {B n m : Nat} {A A' : Option Addr} {L : List Bx} (_h : Reads w B 3 A L.length (cellsL L)) (hn : L.length = n) (hm : m = 0) : Reads w B 3 A' m (cellsL (L.drop n)) := by
  subst hm
  refine ⟨by rw [cellsL_len, List.length_drop]; omega, fun h0 => absurd h0 (by omega)⟩

theorem add_close {l : List Bk} {L : List Bx} {x : Bk} {F : Option Addr} {fc n k m : Nat} {v3 : Value} {B0 : Nat} {w w3 : World} (hn : n = l.length) (hLl : blocksOf L = l) (hLn : L.length = n) (hLf : ∀ p ∈ L, BkLen p.x ∧ FieldsAt w w.heap.size p.F p.x.f) (hxl : BkLen x) (hxf : FieldsAt w w.heap.size F x.f) (hk : k ≤ n)
    (hlb : IsLb l x.a k) (hb : Below w.heap.size w w3) (h : w3.ownsRow B0 42 3 v3 (k + 1 + m) (cellsL (L.take k) ++ [.int .i64 x.a, .string ⟨x.r.toArray⟩, .slice F x.f.length fc] ++ cellsL (L.drop k))) : AddPost l x w (.returned v3) w3 := by
  have e : cellsL (L.take k) ++ [.int .i64 x.a, .string ⟨x.r.toArray⟩, .slice F x.f.length fc] ++ cellsL (L.drop k) = cellsL (L.take k ++ ⟨x, F, fc⟩ :: L.drop k) := by
    rw [cellsL_append, cellsL_cons, List.append_assoc]; rfl
  have hl : (L.take k ++ (⟨x, F, fc⟩ : Bx) :: L.drop k).length = n + 1 := by rw [List.length_append, List.length_take, List.length_cons, List.length_drop]; omega
  have hm : k + 1 + m = n + 1 := by
    have h1 := h.1
    rw [e, cellsL_len, hl] at h1
    omega
  rw [e, hm] at h
  obtain ⟨A, c, rfl, hmem⟩ := row_mem hl.symm h (fun p hp => by
    rcases List.mem_append.1 hp with hp | hp
    · exact ⟨(hLf p (List.mem_of_mem_take hp)).1, (hLf p (List.mem_of_mem_take hp)).2.later hb⟩
    · rcases List.mem_cons.1 hp with rfl | hp
      · exact ⟨hxl, hxf.later hb⟩
      · exact ⟨(hLf p (List.mem_of_mem_drop hp)).1, (hLf p (List.mem_of_mem_drop hp)).2.later hb⟩)
  refine ⟨k, A, c, by rw [← hn], hlb, ?_, hb, by rw [← hn]; exact slice_ok h⟩
  unfold blocksOf at hLl hmem
  rw [List.map_append, List.map_cons, List.map_take, List.map_drop, hLl] at hmem
  exact hmem

set_option maxRecDepth 100000 in
set_option maxHeartbeats 4000000 in
theorem add_any (a : Addr) (c n : Nat) (l : List Bk) (hn : n = l.length) (hc : n ≤ c) (hcm : c ≤ maxLen) (x : Bk) (F : Option Addr) (fc : Nat) (w : World) (h1000 : n ≤ 1000) (hok : Asc l) (hm : MemAt w w.heap.size (some a) l) (hxl : BkLen x) (hxf : FieldsAt w w.heap.size F x.f) :
    Calls Try.prog 26 #[.slice (some a) n c, .agg #[.int .i64 x.a, .string ⟨x.r.toArray⟩, .slice F x.f.length fc]] w (AddPost l x w) := by
  obtain ⟨L, hLl, hLr, hLf⟩ := hm.places
  have hLn : L.length = n := by rw [hn, ← hLl, blocksOf_len]
  have h100 : n ≤ 1000 := h1000
  unfold maxLen at hcm
  have HM := Lib.hid (And.intro hm (And.intro hn (And.intro hok (And.intro hxl (And.intro hxf (And.intro hLl (And.intro hLr (And.intro hLf hLn))))))))
  clear hm hn hok hxl hxf hLl hLr hLf hLn
  obtain ⟨i0, hi, hiz, his, hib⟩ := info_parts infoBk
  have HI0 := Lib.hid (And.intro hi (And.intro hiz (And.intro his hib)))
  clear hi hiz his hib
  obtain ⟨xa, hxa⟩ : ∃ xa, xa = x.a := ⟨_, rfl⟩
  obtain ⟨xr, hxr⟩ : ∃ xr, xr = x.r := ⟨_, rfl⟩
  obtain ⟨xn, hxn⟩ : ∃ xn, xn = x.f.length := ⟨_, rfl⟩
  have HE := Lib.hid (And.intro hxa (And.intro hxr hxn))
  rw [← hxa, ← hxr, ← hxn]
  clear hxa hxr hxn
  obtain ⟨W0, hW0⟩ : ∃ W0, W0 = w.alloc (.cells #[.int .i64 xa, .string ⟨xr.toArray⟩, .slice F xn fc] 42) := ⟨_, rfl⟩
  have HS0 : Hid (W0.heap.size = w.heap.size + 1) := Lib.hid (by rw [hW0, size_of_alloc])
  have HB0 : Hid (Below w.heap.size w W0) := Lib.hid (by rw [hW0]; exact below_alloc w _)
  have hbx : W0.heap[w.heap.size]? = some (.cells #[.int .i64 xa, .string ⟨xr.toArray⟩, .slice F xn fc] 42 (0, 0)) := by rw [hW0]; exact heap_of_alloc w _
  obtain ⟨d0, _⟩ := cell_free hbx 0 (.int .i64 xa) rfl
  obtain ⟨d1, _⟩ := cell_free hbx 1 (.string ⟨xr.toArray⟩) rfl
  obtain ⟨d2, _⟩ := cell_free hbx 2 (.slice F xn fc) rfl
  clear hbx
  go_enter Try.func26, Try.ntmps26
  go_wp2
  rw [← hW0]
  clear hW0
  go_loopg [5] n (fun mm j wr => ∃ k : Nat, mm = n - k ∧ k ≤ n ∧ j = .int .i64 k ∧ Hid ((∃ q, wr = W0.drewN q) ∧ ∀ (i : Nat) y, i < k → l[i]? = some y → y.a < xa))
  case atStart => exact ⟨0, rfl, Nat.zero_le _, rfl, Lib.hid ⟨⟨0, rfl⟩, fun i y hi => absurd hi (Nat.not_lt_zero i)⟩⟩
  case round =>
    obtain ⟨k, rfl, hk, rfl, HI⟩ := hrel
    obtain ⟨q, rfl⟩ := HI.out.1
    have hk0 : (0 : Int) ≤ k := by omega
    by_cases hgo : k < n ∧ ∀ y, l[k]? = some y → y.a < xa
    · obtain ⟨hlt, hya⟩ := hgo
      have hlt' : (k : Int) < n := by omega
      obtain ⟨y, hy⟩ := mem_ex (l := l) (i := k) (by rw [← HM.out.2.1]; exact hlt)
      obtain ⟨a', F', c', ha, hB⟩ := (HM.out.1.later HB0.out) k y hy
      obtain rfl := Option.some.inj ha
      have c0 := hB.c0
      have hya' := hya y hy
      have HY := Lib.hid (And.intro hy hya')
      obtain ⟨ya, hyae⟩ : ∃ ya, ya = y.a := ⟨_, rfl⟩
      rw [← hyae] at c0 hya'
      clear hy hB ha hya hyae
      go_wp2
      go_quiet (fail)
      go_wp2
      go_roundg (n - (k + 1))
      case measure => omega
      case rel => exact ⟨k + 1, rfl, by omega, by go_num, Lib.hid ⟨⟨_, rfl⟩, fun i z hi hz => by
        by_cases he : i = k
        · subst he
          have : z = y := Option.some.inj (hz.symm.trans HY.out.1)
          rw [this]; exact HY.out.2
        · exact HI.out.2 i z (by omega) hz⟩⟩
    · have HG := Lib.hid hgo
      clear hgo
      have HL : Hid (IsLb l xa k) := Lib.hid (lb_here HM.out.2.2.1 (by rw [← HM.out.2.1]; exact hk) HI.out.2 (fun y hy => by
        have hkn : k < n := by have := (List.getElem?_eq_some_iff.1 hy).1; have := HM.out.2.1; omega
        rcases Int.lt_or_le y.a xa with h | h
        · exact absurd ⟨hkn, fun z hz => by rw [show z = y from Option.some.inj (hz.symm.trans hy)]; exact h⟩ HG.out
        · exact h))
      have hz0 : w.heap.size < W0.heap.size := by
        have := HS0.out
        omega
      by_cases hlt : k < n
      · have hlt' : (k : Int) < n := by omega
        obtain ⟨y, hy⟩ := mem_ex (l := l) (i := k) (by rw [← HM.out.2.1]; exact hlt)
        obtain ⟨a', F', c', ha, hB⟩ := (HM.out.1.later HB0.out) k y hy
        obtain rfl := Option.some.inj ha
        have c0 := hB.c0
        obtain ⟨ya, hyae⟩ : ∃ ya, ya = y.a := ⟨_, rfl⟩
        have hge : ¬ ya < xa := fun h => HG.out ⟨hlt, fun z hz => by rw [show z = y from Option.some.inj (hz.symm.trans hy), ← hyae]; exact h⟩
        have hge' : decide (ya < xa) = false := decide_eq_false hge
        rw [← hyae] at c0
        have hck : ¬ (c = k) := by omega
        have hkc : (k : Int) ≤ c := by omega
        have hkn2 : (k : Int) ≤ n := by omega
        clear hy hB ha hyae
        go_wp2
        go_quiet (fail)
        go_wp2_with (first
          | (at_builtin; refine wpList_append_any (o := ⟨some 27, _, _, _, _, _⟩) _ rfl _ _ 22 rfl W0.heap.size 42 i0 _ 3 48 Try.underlying22 HI0.out.1 HI0.out.2.1 HI0.out.2.2.1 HI0.out.2.2.2 rfl (by decide) _ 0 [] rfl (World.ownsRow_made _ #[] 0 (Nat.le_refl _) (by unfold maxLen; omega) rfl) w.heap.size (some a) k _ (cellsL (L.take k)) rfl ((HM.out.2.2.2.2.2.2.1.below ((HB0.out.dn _).al _)).take' HM.out.2.2.2.2.2.2.2.2 hk) (cellsL_one _) (by unfold maxLen; omega) (by omega) (by rw [size_of_alloc]; exact Nat.le_succ _) ?_; intro v1 w1 o1 g1 _; have Hb1 : Hid (Below W0.heap.size W0 w1) := Lib.hid ((((Below.refl W0.heap.size W0).dn _).al _).trans (below_grown (World.ownsRow_made _ #[] 0 (base := W0.heap.size) (e := 42) (size := 3) (Nat.le_refl _) (by unfold maxLen; omega) rfl) g1 (by rw [size_of_alloc]; exact Nat.le_succ _))); have H1 : Hid (w1.ownsRow W0.heap.size 42 3 v1 k (cellsL (L.take k))) := Lib.hid (by simpa using o1); have e0 := (Hb1.out.cell (p := ⟨w.heap.size, 0, none⟩) hz0).trans d0; have e1 := (Hb1.out.cell (p := ⟨w.heap.size, 1, none⟩) hz0).trans d1; have e2 := (Hb1.out.cell (p := ⟨w.heap.size, 2, none⟩) hz0).trans d2; clear o1 g1)
          | (at_builtin; refine wpList_append_own (o := ⟨some 31, _, _, _, _, _⟩) _ rfl _ _ 22 rfl W0.heap.size 42 i0 _ 3 48 Try.underlying22 HI0.out.1 HI0.out.2.1 HI0.out.2.2.1 HI0.out.2.2.2 rfl (by decide) _ k (cellsL (L.take k)) rfl (H1.out.alloc _) ⟨w1.heap.size, 0, none⟩ 1 1 [.int .i64 xa, .string ⟨xr.toArray⟩, .slice F xn fc] rfl rfl (news_cells _ _ _ _ _ _) (news_one _ _ _ _ _) (by unfold maxLen; omega) (by omega) (Nat.le_trans Hb1.out.size (by rw [size_of_alloc]; exact Nat.le_succ _)) ?_; intro v2 w2 o2 g2 _; have Hb2 : Hid (Below W0.heap.size W0 w2) := Lib.hid ((Hb1.out.al _).trans (below_grown (H1.out.alloc _) g2 (Nat.le_trans Hb1.out.size (by rw [size_of_alloc]; exact Nat.le_succ _)))); have H2 := Lib.hid o2; clear o2 g2)
          | (at_builtin; refine wpList_append_any (o := ⟨some 36, _, _, _, _, _⟩) _ rfl _ _ 22 rfl W0.heap.size 42 i0 _ 3 48 Try.underlying22 HI0.out.1 HI0.out.2.1 HI0.out.2.2.1 HI0.out.2.2.2 rfl (by decide) _ (k + 1) _ rfl H2.out w.heap.size _ (n - k) _ (cellsL (L.drop k)) rfl ((HM.out.2.2.2.2.2.2.1.below (HB0.out.trans (Hb2.out.mono HB0.out.size))).drop' HM.out.2.2.2.2.2.2.2.2 hk) (cellsL_one _) (by unfold maxLen; omega) (by omega) Hb2.out.size ?_; intro v3 w3 o3 g3 _; have Hb3 : Hid (Below w.heap.size w w3) := Lib.hid (HB0.out.next (Hb2.out.trans (below_grown H2.out g3 Hb2.out.size))); have H3 := Lib.hid o3; clear o3 g3))
        go_ret
        have h3' := H3.out
        rw [HE.out.1, HE.out.2.1, HE.out.2.2] at h3'
        have hlb := HL.out
        rw [HE.out.1] at hlb
        have hcl := add_close HM.out.2.1 HM.out.2.2.2.2.2.1 HM.out.2.2.2.2.2.2.2.2 HM.out.2.2.2.2.2.2.2.1 HM.out.2.2.2.1 HM.out.2.2.2.2.1 hk hlb Hb3.out h3'
        exact hcl
      · have hlt' : ¬ (k : Int) < n := by omega
        have hd : decide ((k : Int) < n) = false := decide_eq_false hlt'
        obtain rfl : k = n := by omega
        have hkc : (k : Int) ≤ c := by omega
        by_cases hck : c = k
        · obtain rfl : k = c := hck.symm
          go_wp2
          go_quiet (fail)
          go_wp2_with (first
            | (at_builtin; refine wpList_append_any (o := ⟨some 27, _, _, _, _, _⟩) _ rfl _ _ 22 rfl W0.heap.size 42 i0 _ 3 48 Try.underlying22 HI0.out.1 HI0.out.2.1 HI0.out.2.2.1 HI0.out.2.2.2 rfl (by decide) _ 0 [] rfl (World.ownsRow_made _ #[] 0 (Nat.le_refl _) (by unfold maxLen; omega) rfl) w.heap.size (some a) k _ (cellsL (L.take k)) rfl ((HM.out.2.2.2.2.2.2.1.below ((HB0.out.dn _).al _)).take' HM.out.2.2.2.2.2.2.2.2 hk) (cellsL_one _) (by unfold maxLen; omega) (by omega) (by rw [size_of_alloc]; exact Nat.le_succ _) ?_; intro v1 w1 o1 g1 _; have Hb1 : Hid (Below W0.heap.size W0 w1) := Lib.hid ((((Below.refl W0.heap.size W0).dn _).al _).trans (below_grown (World.ownsRow_made _ #[] 0 (base := W0.heap.size) (e := 42) (size := 3) (Nat.le_refl _) (by unfold maxLen; omega) rfl) g1 (by rw [size_of_alloc]; exact Nat.le_succ _))); have H1 : Hid (w1.ownsRow W0.heap.size 42 3 v1 k (cellsL (L.take k))) := Lib.hid (by simpa using o1); have e0 := (Hb1.out.cell (p := ⟨w.heap.size, 0, none⟩) hz0).trans d0; have e1 := (Hb1.out.cell (p := ⟨w.heap.size, 1, none⟩) hz0).trans d1; have e2 := (Hb1.out.cell (p := ⟨w.heap.size, 2, none⟩) hz0).trans d2; clear o1 g1)
            | (at_builtin; refine wpList_append_own (o := ⟨some 31, _, _, _, _, _⟩) _ rfl _ _ 22 rfl W0.heap.size 42 i0 _ 3 48 Try.underlying22 HI0.out.1 HI0.out.2.1 HI0.out.2.2.1 HI0.out.2.2.2 rfl (by decide) _ k (cellsL (L.take k)) rfl (H1.out.alloc _) ⟨w1.heap.size, 0, none⟩ 1 1 [.int .i64 xa, .string ⟨xr.toArray⟩, .slice F xn fc] rfl rfl (news_cells _ _ _ _ _ _) (news_one _ _ _ _ _) (by unfold maxLen; omega) (by omega) (Nat.le_trans Hb1.out.size (by rw [size_of_alloc]; exact Nat.le_succ _)) ?_; intro v2 w2 o2 g2 _; have Hb2 : Hid (Below W0.heap.size W0 w2) := Lib.hid ((Hb1.out.al _).trans (below_grown (H1.out.alloc _) g2 (Nat.le_trans Hb1.out.size (by rw [size_of_alloc]; exact Nat.le_succ _)))); have H2 := Lib.hid o2; clear o2 g2)
            | (at_builtin; refine wpList_append_any (o := ⟨some 36, _, _, _, _, _⟩) _ rfl _ _ 22 rfl W0.heap.size 42 i0 _ 3 48 Try.underlying22 HI0.out.1 HI0.out.2.1 HI0.out.2.2.1 HI0.out.2.2.2 rfl (by decide) _ (k + 1) _ rfl H2.out w.heap.size _ _ _ (cellsL (L.drop k)) rfl ((HM.out.2.2.2.2.2.2.1.below (HB0.out.trans (Hb2.out.mono HB0.out.size))).none_left (HM.out.2.2.2.2.2.2.2.2) (by omega)) (cellsL_one _) (by unfold maxLen; omega) (by omega) Hb2.out.size ?_; intro v3 w3 o3 g3 _; have Hb3 : Hid (Below w.heap.size w w3) := Lib.hid (HB0.out.next (Hb2.out.trans (below_grown H2.out g3 Hb2.out.size))); have H3 := Lib.hid o3; clear o3 g3))
          go_ret
          have h3' := H3.out
          rw [HE.out.1, HE.out.2.1, HE.out.2.2] at h3'
          have hlb := HL.out
          rw [HE.out.1] at hlb
          have hcl := add_close HM.out.2.1 HM.out.2.2.2.2.2.1 HM.out.2.2.2.2.2.2.2.2 HM.out.2.2.2.2.2.2.2.1 HM.out.2.2.2.1 HM.out.2.2.2.2.1 hk hlb Hb3.out h3'
          exact hcl
        · go_wp2
          go_quiet (fail)
          go_wp2_with (first
            | (at_builtin; refine wpList_append_any (o := ⟨some 27, _, _, _, _, _⟩) _ rfl _ _ 22 rfl W0.heap.size 42 i0 _ 3 48 Try.underlying22 HI0.out.1 HI0.out.2.1 HI0.out.2.2.1 HI0.out.2.2.2 rfl (by decide) _ 0 [] rfl (World.ownsRow_made _ #[] 0 (Nat.le_refl _) (by unfold maxLen; omega) rfl) w.heap.size (some a) k _ (cellsL (L.take k)) rfl ((HM.out.2.2.2.2.2.2.1.below ((HB0.out.dn _).al _)).take' HM.out.2.2.2.2.2.2.2.2 hk) (cellsL_one _) (by unfold maxLen; omega) (by omega) (by rw [size_of_alloc]; exact Nat.le_succ _) ?_; intro v1 w1 o1 g1 _; have Hb1 : Hid (Below W0.heap.size W0 w1) := Lib.hid ((((Below.refl W0.heap.size W0).dn _).al _).trans (below_grown (World.ownsRow_made _ #[] 0 (base := W0.heap.size) (e := 42) (size := 3) (Nat.le_refl _) (by unfold maxLen; omega) rfl) g1 (by rw [size_of_alloc]; exact Nat.le_succ _))); have H1 : Hid (w1.ownsRow W0.heap.size 42 3 v1 k (cellsL (L.take k))) := Lib.hid (by simpa using o1); have e0 := (Hb1.out.cell (p := ⟨w.heap.size, 0, none⟩) hz0).trans d0; have e1 := (Hb1.out.cell (p := ⟨w.heap.size, 1, none⟩) hz0).trans d1; have e2 := (Hb1.out.cell (p := ⟨w.heap.size, 2, none⟩) hz0).trans d2; clear o1 g1)
            | (at_builtin; refine wpList_append_own (o := ⟨some 31, _, _, _, _, _⟩) _ rfl _ _ 22 rfl W0.heap.size 42 i0 _ 3 48 Try.underlying22 HI0.out.1 HI0.out.2.1 HI0.out.2.2.1 HI0.out.2.2.2 rfl (by decide) _ k (cellsL (L.take k)) rfl (H1.out.alloc _) ⟨w1.heap.size, 0, none⟩ 1 1 [.int .i64 xa, .string ⟨xr.toArray⟩, .slice F xn fc] rfl rfl (news_cells _ _ _ _ _ _) (news_one _ _ _ _ _) (by unfold maxLen; omega) (by omega) (Nat.le_trans Hb1.out.size (by rw [size_of_alloc]; exact Nat.le_succ _)) ?_; intro v2 w2 o2 g2 _; have Hb2 : Hid (Below W0.heap.size W0 w2) := Lib.hid ((Hb1.out.al _).trans (below_grown (H1.out.alloc _) g2 (Nat.le_trans Hb1.out.size (by rw [size_of_alloc]; exact Nat.le_succ _)))); have H2 := Lib.hid o2; clear o2 g2)
            | (at_builtin; refine wpList_append_any (o := ⟨some 36, _, _, _, _, _⟩) _ rfl _ _ 22 rfl W0.heap.size 42 i0 _ 3 48 Try.underlying22 HI0.out.1 HI0.out.2.1 HI0.out.2.2.1 HI0.out.2.2.2 rfl (by decide) _ (k + 1) _ rfl H2.out w.heap.size _ _ _ (cellsL (L.drop k)) rfl ((HM.out.2.2.2.2.2.2.1.below (HB0.out.trans (Hb2.out.mono HB0.out.size))).none_left (HM.out.2.2.2.2.2.2.2.2) (by omega)) (cellsL_one _) (by unfold maxLen; omega) (by omega) Hb2.out.size ?_; intro v3 w3 o3 g3 _; have Hb3 : Hid (Below w.heap.size w w3) := Lib.hid (HB0.out.next (Hb2.out.trans (below_grown H2.out g3 Hb2.out.size))); have H3 := Lib.hid o3; clear o3 g3))
          go_ret
          have h3' := H3.out
          rw [HE.out.1, HE.out.2.1, HE.out.2.2] at h3'
          have hlb := HL.out
          rw [HE.out.1] at hlb
          have hcl := add_close HM.out.2.1 HM.out.2.2.2.2.2.1 HM.out.2.2.2.2.2.2.2.2 HM.out.2.2.2.2.2.2.2.1 HM.out.2.2.2.1 HM.out.2.2.2.2.1 hk hlb Hb3.out h3'
          exact hcl

set_option maxRecDepth 100000 in
set_option maxHeartbeats 4000000 in
theorem add_none (x : Bk) (F : Option Addr) (fc : Nat) (w : World) (hxl : BkLen x) (hxf : FieldsAt w w.heap.size F x.f) :
    Calls Try.prog 26 #[.slice none 0 0, .agg #[.int .i64 x.a, .string ⟨x.r.toArray⟩, .slice F x.f.length fc]] w (AddPost [] x w) := by
  have HM := Lib.hid (And.intro hxl hxf)
  clear hxl hxf
  obtain ⟨i0, hi, hiz, his, hib⟩ := info_parts infoBk
  have HI0 := Lib.hid (And.intro hi (And.intro hiz (And.intro his hib)))
  clear hi hiz his hib
  obtain ⟨xa, hxa⟩ : ∃ xa, xa = x.a := ⟨_, rfl⟩
  obtain ⟨xr, hxr⟩ : ∃ xr, xr = x.r := ⟨_, rfl⟩
  obtain ⟨xn, hxn⟩ : ∃ xn, xn = x.f.length := ⟨_, rfl⟩
  have HE := Lib.hid (And.intro hxa (And.intro hxr hxn))
  rw [← hxa, ← hxr, ← hxn]
  clear hxa hxr hxn
  obtain ⟨W0, hW0⟩ : ∃ W0, W0 = w.alloc (.cells #[.int .i64 xa, .string ⟨xr.toArray⟩, .slice F xn fc] 42) := ⟨_, rfl⟩
  have HS0 : Hid (W0.heap.size = w.heap.size + 1) := Lib.hid (by rw [hW0, size_of_alloc])
  have HB0 : Hid (Below w.heap.size w W0) := Lib.hid (by rw [hW0]; exact below_alloc w _)
  have hbx : W0.heap[w.heap.size]? = some (.cells #[.int .i64 xa, .string ⟨xr.toArray⟩, .slice F xn fc] 42 (0, 0)) := by rw [hW0]; exact heap_of_alloc w _
  obtain ⟨d0, _⟩ := cell_free hbx 0 (.int .i64 xa) rfl
  obtain ⟨d1, _⟩ := cell_free hbx 1 (.string ⟨xr.toArray⟩) rfl
  obtain ⟨d2, _⟩ := cell_free hbx 2 (.slice F xn fc) rfl
  have hz0 : w.heap.size < W0.heap.size := by have := HS0.out; omega
  clear hbx
  go_enter Try.func26, Try.ntmps26
  go_wp2
  rw [← hW0]
  clear hW0
  refine wp_loop_rounds 1 ?_
  rw [rounds_succ]
  go_wp2
  go_quiet (fail)
  go_wp2_with (first
    | (at_builtin; refine wpList_append_any (o := ⟨some 27, _, _, _, _, _⟩) _ rfl _ _ 22 rfl W0.heap.size 42 i0 _ 3 48 Try.underlying22 HI0.out.1 HI0.out.2.1 HI0.out.2.2.1 HI0.out.2.2.2 rfl (by decide) _ 0 [] rfl (World.ownsRow_made _ #[] 0 (Nat.le_refl _) (by unfold maxLen; omega) rfl) w.heap.size none 0 _ [] rfl Reads.none_ (fun u hu => by cases hu) (by unfold maxLen; omega) (by omega) (by rw [size_of_alloc]; exact Nat.le_succ _) ?_; intro v1 w1 o1 g1 _; have Hb1 : Hid (Below W0.heap.size W0 w1) := Lib.hid ((((Below.refl W0.heap.size W0).dn _).al _).trans (below_grown (World.ownsRow_made _ #[] 0 (base := W0.heap.size) (e := 42) (size := 3) (Nat.le_refl _) (by unfold maxLen; omega) rfl) g1 (by rw [size_of_alloc]; exact Nat.le_succ _))); have H1 : Hid (w1.ownsRow W0.heap.size 42 3 v1 0 []) := Lib.hid (by simpa using o1); have e0 := (Hb1.out.cell (p := ⟨w.heap.size, 0, none⟩) hz0).trans d0; have e1 := (Hb1.out.cell (p := ⟨w.heap.size, 1, none⟩) hz0).trans d1; have e2 := (Hb1.out.cell (p := ⟨w.heap.size, 2, none⟩) hz0).trans d2; clear o1 g1)
    | (at_builtin; refine wpList_append_own (o := ⟨some 31, _, _, _, _, _⟩) _ rfl _ _ 22 rfl W0.heap.size 42 i0 _ 3 48 Try.underlying22 HI0.out.1 HI0.out.2.1 HI0.out.2.2.1 HI0.out.2.2.2 rfl (by decide) _ 0 [] rfl (H1.out.alloc _) ⟨w1.heap.size, 0, none⟩ 1 1 [.int .i64 xa, .string ⟨xr.toArray⟩, .slice F xn fc] rfl rfl (news_cells _ _ _ _ _ _) (news_one _ _ _ _ _) (by unfold maxLen; omega) (by omega) (Nat.le_trans Hb1.out.size (by rw [size_of_alloc]; exact Nat.le_succ _)) ?_; intro v2 w2 o2 g2 _; have Hb2 : Hid (Below W0.heap.size W0 w2) := Lib.hid ((Hb1.out.al _).trans (below_grown (H1.out.alloc _) g2 (Nat.le_trans Hb1.out.size (by rw [size_of_alloc]; exact Nat.le_succ _)))); have H2 := Lib.hid o2; clear o2 g2)
    | (at_builtin; refine wpList_append_any (o := ⟨some 36, _, _, _, _, _⟩) _ rfl _ _ 22 rfl W0.heap.size 42 i0 _ 3 48 Try.underlying22 HI0.out.1 HI0.out.2.1 HI0.out.2.2.1 HI0.out.2.2.2 rfl (by decide) _ (0 + 1) _ rfl H2.out w.heap.size none 0 _ [] rfl Reads.none_ (fun u hu => by cases hu) (by unfold maxLen; omega) (by omega) Hb2.out.size ?_; intro v3 w3 o3 g3 _; have Hb3 : Hid (Below w.heap.size w w3) := Lib.hid (HB0.out.next (Hb2.out.trans (below_grown H2.out g3 Hb2.out.size))); have H3 := Lib.hid o3; clear o3 g3))
  go_ret
  have h3' := H3.out
  rw [HE.out.1, HE.out.2.1, HE.out.2.2] at h3'
  have hcl := add_close (l := []) (L := []) (n := 0) (k := 0) rfl rfl rfl (fun p hp => by cases hp) HM.out.1 HM.out.2 (Nat.le_refl 0) ⟨Nat.le_refl _, fun k y hk => absurd hk (Nat.not_lt_zero k), fun k y _ hy => by simp at hy⟩ Hb3.out (v3 := v3) (F := F) (fc := fc) (m := 0) (B0 := W0.heap.size) (by simpa [cellsL] using h3')
  exact hcl

theorem add_all (A : Option Addr) (c n : Nat) (l : List Bk) (hn : n = l.length) (hs : SliceOk A n c) (x : Bk) (F : Option Addr) (fc : Nat) (w : World) (h1000 : n ≤ 1000) (hok : Asc l) (hm : MemAt w w.heap.size A l) (hxl : BkLen x) (hxf : FieldsAt w w.heap.size F x.f) :
    Calls Try.prog 26 #[.slice A n c, .agg #[.int .i64 x.a, .string ⟨x.r.toArray⟩, .slice F x.f.length fc]] w (AddPost l x w) := by
  cases A with
  | some a => exact add_any a c n l hn hs.1 hs.2.1 x F fc w h1000 hok hm hxl hxf
  | none =>
    obtain rfl := hs.2.2 rfl
    have h0 : n = 0 := by have := hs.1; omega
    subst h0
    obtain rfl : l = [] := List.eq_nil_of_length_eq_zero hn.symm
    exact add_none x F fc w hxl hxf

end Go.Proofs.Ytbmejohoifpfhaa
