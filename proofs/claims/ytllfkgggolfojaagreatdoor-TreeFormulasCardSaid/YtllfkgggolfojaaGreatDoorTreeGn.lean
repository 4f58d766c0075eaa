/-
  How many different names there are.
  differentNames: a map of the names, as many keys as parameters.
-/
import Derived.Maps.Views
import Derived.Test.YtllfkgggolfojaaGreatDoorTreeF
import Derived.Maps.OwnSet
import Derived.Test.YtllfkgggolfojaaGreatDoorTreeV
namespace Go.Proofs.YtllfkgggolfojaaGreatDoor
open Go.Maps (addKey setOf)

theorem any_sameKey {x : Lit} (hx : Go.WideAt.IsKeyLit x) (L : List Lit) : L.any (fun y => y.sameKey x) = true ↔ x ∈ L := by
  rw [List.any_eq_true]
  constructor
  · rintro ⟨y, hy, h⟩
    by_cases e : y = x
    · rw [← e]; exact hy
    · rw [Go.Maps.sameKey_ne e] at h; cases h
  · intro h
    exact ⟨x, h, Go.WideAt.sameKey_self hx⟩

theorem addKey_len : ∀ (xs L : List Lit), (∀ x ∈ xs, Go.WideAt.IsKeyLit x) → (xs.foldl addKey L).length ≤ L.length + xs.length ∧ ((xs.foldl addKey L).length = L.length + xs.length ↔ xs.Nodup ∧ ∀ x ∈ xs, x ∉ L)
  | [], L, _ => by simp
  | x :: r, L, h => by
    have hx := any_sameKey (h x (by simp)) L
    by_cases e : x ∈ L
    · have e1 : addKey L x = L := by unfold addKey; rw [hx.2 e]; rfl
      obtain ⟨i1, i2⟩ := addKey_len r L (fun y hy => h y (by simp [hy]))
      rw [List.foldl_cons, e1]
      refine ⟨by simp; omega, ?_⟩
      constructor
      · intro h2; simp at h2; omega
      · rintro ⟨_, h2⟩; exact absurd e (h2 x (by simp))
    · have e1 : addKey L x = L ++ [x] := by unfold addKey; rw [if_neg (fun h => e (hx.1 h))]
      obtain ⟨i1, i2⟩ := addKey_len r (L ++ [x]) (fun y hy => h y (by simp [hy]))
      rw [List.foldl_cons, e1]
      have hl : (L ++ [x]).length = L.length + 1 := by simp
      rw [hl] at i1 i2
      refine ⟨by simp; omega, ?_⟩
      rw [show L.length + (x :: r).length = L.length + 1 + r.length by simp; omega, i2, List.nodup_cons]
      constructor
      · rintro ⟨h1, h2⟩
        refine ⟨⟨fun h3 => h2 x h3 (by simp), h1⟩, fun y hy => ?_⟩
        rcases List.mem_cons.1 hy with rfl | hy
        · exact e
        · intro h4; exact h2 y hy (by simp [h4])
      · rintro ⟨⟨h1, h2⟩, h3⟩
        refine ⟨h2, fun y hy h4 => ?_⟩
        rcases List.mem_append.1 h4 with h4 | h4
        · exact h3 y (by simp [hy]) h4
        · obtain rfl : y = x := by simpa using h4
          exact h1 hy

/-- The map of a list of names has as many keys as the list is long if no name comes twice. -/
theorem size_names (ns : List (List UInt8)) : (Go.Maps.size (setOf (DataW.lit (H := Unit) (.bool true)) (ns.map Lit.string)) = ns.length) ↔ ns.Nodup := by
  have hk : ∀ x ∈ ns.map Lit.string, Go.WideAt.IsKeyLit x := by
    intro x hx
    obtain ⟨s, _, rfl⟩ := List.mem_map.1 hx
    trivial
  rw [Go.Maps.size_setOf _ _ hk]
  have h := (addKey_len (ns.map Lit.string) [] hk).2
  simp only [List.length_nil, Nat.zero_add, List.length_map, List.not_mem_nil, not_false_eq_true, implies_true, and_true] at h
  rw [h]
  unfold List.Nodup
  rw [List.pairwise_map]
  simp

theorem nodup_snoc {α : Type} (l : List α) (x : α) : (l ++ [x]).Nodup ↔ l.Nodup ∧ x ∉ l := by
  unfold List.Nodup
  rw [List.pairwise_append]
  constructor
  · rintro ⟨h1, _, h3⟩
    exact ⟨h1, fun h => h3 x h x (by simp) rfl⟩
  · rintro ⟨h1, h2⟩
    refine ⟨h1, by simp, fun a ha b hb => ?_⟩
    obtain rfl : b = x := by simpa using hb
    intro e
    exact h2 (e ▸ ha)

end Go.Proofs.YtllfkgggolfojaaGreatDoor

namespace Go.Proofs.YtllfkgggolfojaaGreatDoor
open Go.RowKit
open Go.Maps (Keyed setOf)

theorem below_grownF {B b : Nat} {W W' : World} (hg : W.grownBy W' (some b)) (hb : B ≤ b) (hB : B ≤ W.heap.size) : Below B W W' :=
  ⟨hg.os, hg.tape, hg.output, hg.size, fun k hk => hg.block k (by omega) (fun e => by have := Option.some.inj e; omega)⟩

abbrev namesD (ps : List Pm) : DataW Unit := setOf (DataW.lit (.bool true)) (ps.map fun x => Lit.string x.nm)

theorem namesD_succ (ps : List Pm) (k : Nat) (t nm : List UInt8) (hi : ps[k]? = some ⟨t, nm⟩) : namesD (ps.take (k + 1)) = (namesD (ps.take k)).put (.string nm) (.lit (.bool true)) := by
  unfold namesD
  rw [List.take_add_one, hi, List.map_append, show (Option.some (⟨t, nm⟩ : Pm)).toList.map (fun x => Lit.string x.nm) = [Lit.string nm] from rfl, Go.Maps.setOf_snoc]

theorem size_namesD (ps : List Pm) : decide (((Go.Maps.size (namesD ps) : Nat) : Int) = (ps.length : Int)) = decide ((ps.map (·.nm)).Nodup) := by
  have h := size_names (ps.map (·.nm))
  rw [List.map_map, List.length_map] at h
  have h2 : Go.Maps.size (namesD ps) = ps.length ↔ (ps.map (·.nm)).Nodup := h
  exact decide_eq_decide.2 ⟨fun e => h2.1 (by omega), fun e => by have := h2.2 e; omega⟩

set_option maxRecDepth 100000 in
set_option maxHeartbeats 4000000 in
theorem names_any (ps : List Pm) (A : Option Addr) (c : Nat) (w : World) (hn : ps.length ≤ maxLen) (hr : PmRow w w.heap.size ps A) :
    Calls Tryz.prog 39 #[.slice A ps.length c] w fun e w' => e = .returned (.bool (decide ((ps.map (·.nm)).Nodup))) ∧ Below w.heap.size w w' := by
  obtain ⟨n, hnn⟩ : ∃ n, n = ps.length := ⟨_, rfl⟩
  have hn' := hn
  have HE := Lib.hid (size_namesD ps)
  rw [← hnn] at hn hn' HE ⊢
  have HH := Lib.hid (And.intro hr (And.intro hnn hn'))
  have hmm := @run_makeMap Tryz.prog
  have HO0 := Lib.hid (World.ownsMap_made w Tryz.prog 9 (plainElem (H := Unit) Tryz.prog 4))
  have HB0 := Lib.hid (below_alloc w (.map #[] 0))
  clear hr hnn hn'
  unfold maxLen at hn
  go_enter Tryz.func39, Tryz.ntmps39
  go_wp2
  go_loopg [9] n (fun m j wr => ∃ k : Nat, m = n - k ∧ k ≤ n ∧ j = .int .i64 k ∧ Hid (NamesAt wr w.heap.size k (namesD (ps.take k)) ∧ Below w.heap.size w wr))
  case atStart => exact ⟨0, rfl, Nat.zero_le _, rfl, Lib.hid ⟨HO0.out, HB0.out⟩⟩
  case round =>
    obtain ⟨k, rfl, hk, rfl, HI⟩ := hrel
    by_cases hlt : k < n
    · have hki : (k : Int) < n := by omega
      obtain ⟨⟨t, nm⟩, hi⟩ : ∃ x, ps[k]? = some x := ⟨ps[k]'(by rw [← HH.out.2.1]; exact hlt), List.getElem?_eq_getElem _⟩
      obtain ⟨a, rfl, hab, d0, d1, ht, hnm⟩ := (HH.out.1.stay pm_keeps HI.out.2 (Nat.le_refl _)).at_ hi
      have c0 : wr.cell? (a.add (k * 2)) = some (.string ⟨t.toArray⟩) := d0
      have c1 : wr.cell? ⟨(a.add (k * 2)).block, (a.add (k * 2)).off + 1, none⟩ = some (.string ⟨nm.toArray⟩) := d1
      have HO := Lib.hid (HI.out.1.alloc (paramC ⟨t.toArray⟩ ⟨nm.toArray⟩))
      have HK := Lib.hid (Go.WideMaps.keyOf_string_mk Tryz.underlying9 (s := ⟨nm.toArray⟩) hnm)
      have HG := Lib.hid (HI.out.2.alloc HI.out.2.size (paramC ⟨t.toArray⟩ ⟨nm.toArray⟩))
      have HKN := Lib.hid (And.intro (Nat.lt_of_lt_of_le hlt HH.out.2.2) (namesD_succ ps k t nm hi))
      clear d0 d1 ht hnm hi
      go_wp2_with (at_mapUpdate; refine wpList_mapUpdate_own _ rfl _ _ _ 78 rfl 9 4 (Keyed.of_law (Go.WideMaps.string_law Tryz.underlying9)) Tryz.underlying78 _ w.heap.size _ _ rfl HO.out HKN.out.1 _ _ _ rfl rfl HK.out _ _ (Go.plainElem_bool Tryz.underlying4 true) ?_; intro wk hown hgr; have HO2 := Lib.hid hown; have HG2 := Lib.hid (HG.out.trans (below_grownF hgr (Nat.le_refl _) HG.out.size)); clear hown hgr)
      go_roundg (n - (k + 1))
      case measure => omega
      case rel => exact ⟨k + 1, rfl, by omega, by go_num, Lib.hid ⟨by rw [HKN.out.2]; exact HO2.out, HG2.out⟩⟩
    · obtain rfl : k = n := by omega
      go_wp2_with (at_len; refine wpList_len_own _ rfl _ 78 rfl 9 4 Tryz.underlying78 _ w.heap.size _ _ rfl HI.out.1 ?_)
      go_ret
      refine ⟨?_, HI.out.2⟩
      have e : ps.take k = ps := List.take_of_length_le (by rw [HH.out.2.1]; exact Nat.le_refl _)
      rw [e]
      have := HE.out
      simp only at this ⊢
      first
        | exact congrArg (fun b => Outcome.returned (.bool b)) this
        | (rw [← this]; rfl)
        | (rw [← this]; simp)

end Go.Proofs.YtllfkgggolfojaaGreatDoor
