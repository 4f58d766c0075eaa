/-
  Contract of lex.Join: the texts of valid tokens with blanks between them, or the empty text.
-/
import Derived.Test.YtjdcohfdanenlaaDoorLexJa
import Derived.Test.YtjdcohfdanenlaaDoorLexI
import Derived.Test.YtjdcohfdanenlaaDoorLexMx
import Derived.Lib.JoinLaws
namespace Go.Proofs.YtjdcohfdanenlaaDoor
open Go.RowKit

theorem okTok_iff (x : Tok) : (takeE x.t = 0 ∧ takeK x.t = x.k ∧ takeT x.t = x.t) ↔ validB x.k x.t = true := by
  constructor
  · rintro ⟨h1, h2, h3⟩
    rw [← h2]
    refine take_valid h3 h1 ?_
    intro e
    rw [e] at h1
    exact absurd h1 (by decide)
  · intro h
    obtain ⟨h1, h2, h3, _⟩ := valid_take h
    exact ⟨h3, h1, h2⟩

def strsV (l : List Tok) : List Value := l.map fun x => .string ⟨x.t.toArray⟩

theorem strsV_snoc (l : List Tok) (k : Nat) (h : k < l.length) : strsV (l.take (k + 1)) = strsV (l.take k) ++ [.string ⟨(l.getD k ⟨0, [], 0, 0⟩).t.toArray⟩] := by
  unfold strsV
  rw [List.take_succ_eq_append_getElem h, List.map_append, List.getD_eq_getElem?_getD, List.getElem?_eq_getElem h]
  rfl

def allV (l : List Tok) : Bool := l.all fun x => validB x.k x.t

theorem allV_snoc {l : List Tok} {k : Nat} (hk : k < l.length) (h : allV (l.take k) = true) (hx : validB (l.getD k ⟨0, [], 0, 0⟩).k (l.getD k ⟨0, [], 0, 0⟩).t = true) : allV (l.take (k + 1)) = true := by
  unfold allV at h ⊢
  rw [List.take_succ_eq_append_getElem hk, List.all_append, h]
  rw [List.getD_eq_getElem?_getD, List.getElem?_eq_getElem hk] at hx
  simpa using hx

theorem allV_not {l : List Tok} {k : Nat} (hk : k < l.length) (hx : validB (l.getD k ⟨0, [], 0, 0⟩).k (l.getD k ⟨0, [], 0, 0⟩).t = false) : allV l = false := by
  unfold allV
  rw [List.all_eq_false]
  refine ⟨l[k], List.getElem_mem hk, ?_⟩
  rw [List.getD_eq_getElem?_getD, List.getElem?_eq_getElem hk] at hx
  simpa using hx

/-- What Join returns. -/
def joinS (l : List Tok) : List UInt8 := if allV l then Lib.join (l.map (·.t)) [32] else []

theorem infoStr : (Tryd.prog.info? 9).map (fun i => (i.zero, i.size, i.bytes)) = some (some (.string ⟨#[]⟩), 1, 16) := by kernel_rfl

theorem tail_len (l : List (List UInt8)) (h : ∀ x ∈ l, x.length ≤ 100) : (Lib.joinTail [32] l).length ≤ 101 * l.length := by
  induction l with
  | nil => simp [Lib.joinTail]
  | cons x l ih =>
    have h1 := h x (List.mem_cons_self ..)
    have h2 := ih (fun y hy => h y (List.mem_cons_of_mem _ hy))
    unfold Lib.joinTail at h2 ⊢
    simp only [List.map_cons, List.flatten_cons, List.length_append, List.length_cons, List.length_nil] at h2 ⊢
    omega

theorem join_len (l : List (List UInt8)) (h : ∀ x ∈ l, x.length ≤ 100) : (Lib.join l [32]).length ≤ 101 * l.length := by
  cases l with
  | nil => simp [Lib.join_nil]
  | cons x l =>
    rw [Lib.join_cons, List.length_append, List.length_cons]
    have h1 := h x (List.mem_cons_self ..)
    have h2 := tail_len l (fun y hy => h y (List.mem_cons_of_mem _ hy))
    omega

theorem str_cells {W : World} {B : Nat} {l : List Tok} {v : Value} (h : W.ownsRow B 9 1 v l.length (strsV l)) (hl : 0 < l.length) :
    ∃ g c, v = .slice (some ⟨g, 0, none⟩) l.length c ∧ g < W.heap.size ∧ l.length ≤ c ∧ ∀ (j : Nat) (x : ByteArray), (l.map fun t => (⟨t.t.toArray⟩ : ByteArray))[j]? = some x → W.cell? ⟨g, 0 + j, none⟩ = some (.string x) := by
  rcases h.2 with ⟨_, hn⟩ | ⟨g, cap, cur, hv, hg, hb, hn, hc, hs, ht⟩
  · omega
  · refine ⟨g, cap, hv, (Array.getElem?_eq_some_iff.1 hb).1, hn, fun j x hx => ?_⟩
    have hj : j < l.length := by
      have := (List.getElem?_eq_some_iff.1 hx).1
      simpa using this
    have e : (strsV l)[j]? = some (.string x) := by
      unfold strsV
      rw [List.getElem?_map] at hx ⊢
      rw [List.getElem?_eq_getElem hj] at hx ⊢
      simp only [Option.map_some, Option.some.injEq] at hx ⊢
      rw [hx]
    rw [← e, ← ht, List.getElem?_take_of_lt (by omega), Nat.zero_add]
    simp [World.cell?, hb]

theorem join_call (v : Value) (l : List Tok) (W : World) (B : Nat) (h : W.ownsRow B 9 1 v l.length (strsV l)) (hl : l.length ≤ 100) (ht : ∀ x ∈ l, x.t.length ≤ 100) :
    Calls Tryd.prog 20 #[v, .string ⟨#[32]⟩] W fun e w' => e = .returned (.string ⟨(Lib.join (l.map (·.t)) [32]).toArray⟩) ∧ Below W.heap.size W w' := by
  by_cases h0 : 0 < l.length
  · obtain ⟨g, c, rfl, hg, hc, hx⟩ := str_cells h h0
    have e1 : (l.map fun t => (⟨t.t.toArray⟩ : ByteArray)).map (·.data.toList) = l.map (·.t) := by rw [List.map_map]; rfl
    have e2 : (l.map fun t => (⟨t.t.toArray⟩ : ByteArray)).length = l.length := List.length_map ..
    have hj := join_len (l.map (·.t)) (fun x hx => by obtain ⟨t, hm, rfl⟩ := List.mem_map.1 hx; exact ht t hm)
    rw [List.length_map] at hj
    have := Tryd.strings_Join g 0 c (l.map fun t => (⟨t.t.toArray⟩ : ByteArray)) ⟨#[32]⟩ W hx hg (by rw [e2]; omega) (by rw [e2]; exact hc) (by rw [e1]; show (Lib.join (l.map (·.t)) [32]).length ≤ _; omega)
    rw [e1, e2] at this
    exact this
  · have hl0 : l = [] := List.length_eq_zero_iff.1 (by omega)
    subst hl0
    rcases h.2 with ⟨hv, _⟩ | ⟨g, cap, cur, hv, _⟩
    · rw [hv]
      exact (Tryd.strings_Join_none none 0 ⟨#[32]⟩ W).mono fun _ _ ⟨h1, h2⟩ => ⟨h1, h2 ▸ Below.refl _ _⟩
    · rw [hv]
      exact (Tryd.strings_Join_none _ cap ⟨#[32]⟩ W).mono fun _ _ ⟨h1, h2⟩ => ⟨h1, h2 ▸ Below.refl _ _⟩

theorem size_drewN (W : World) (q : Nat) : (W.drewN q).heap.size = W.heap.size := by
  induction q generalizing W with
  | zero => rfl
  | succ q ih => exact (ih W.drew)

theorem own_drew2 {W : World} {B : Nat} {e : TypeId} {size n : Nat} {v : Value} {xs : List Value} (h : W.ownsRow B e size v n xs) (q : Nat) : (W.drewN q).ownsRow B e size v n xs :=
  own_below h (below_drewN (Below.refl _ W) q) (fun g hg => (own_lt h g hg).2)

/-- What the taker answers at a token's text. -/
def TakesAt (n : Nat) (x : Tok) (W : World) : Prop := Calls Tryd.prog 48 #[.string ⟨x.t.toArray⟩, .pointer (some ⟨n + 9, 0, none⟩)] W (Hit (takeK x.t) (takeT x.t) (takeE x.t) W)

set_option maxRecDepth 100000 in
set_option maxHeartbeats 4000000 in
theorem join_any (A : Option Addr) (c : Nat) (l : List Tok) (w : World) (hl : l.length ≤ 100) (h : ArgRead w A l) (ht : ∀ x ∈ l, x.t.length ≤ 100) :
    Calls Tryd.prog 8 #[.slice A l.length c] w fun e w' => e = .returned (.string ⟨(joinS l).toArray⟩) ∧ Below w.heap.size w w' := by
  have HR := Lib.hid (And.intro h ht)
  clear h ht
  obtain ⟨i0, hi, hiz, his, hib⟩ := info_parts infoStr
  have HI := Lib.hid (And.intro hi (And.intro hiz (And.intro his hib)))
  have HT : Hid (∀ w, Calls Tryd.prog 19 #[] w fun e w' => e = .returned (.func (.func 48) #[] #[.pointer (some ⟨w.heap.size + 9, 0, none⟩)]) ∧ TakerAt w' w.heap.size ∧ Below w.heap.size w w' ∧ w.heap.size + 10 ≤ w'.heap.size) := Lib.hid takeToken_any
  go_enter Tryd.func8, Tryd.ntmps8
  go_wp2_with (first
    | (go_at_call 19; refine (HT.out _).mono ?_; rintro e w1 ⟨rfl, hT, hb, hz⟩; have HW := Lib.hid (And.intro hT (And.intro hb hz)); clear hT hb hz)
    | (at_make; refine wpList_make_own _ rfl _ _ 44 rfl w1.heap.size 9 i0 _ 1 Tryd.underlying44 hi hiz his _ _ _ l.length rfl rfl rfl ?b2 ?b3 (Nat.le_refl _) ?_))
  case b2 => rw [hib]; omega
  case b3 => unfold maxLen; omega
  intro w2 hown0 hgrow0
  have HS0 := Lib.hid (And.intro hown0 (⟨hgrow0.os, hgrow0.tape, hgrow0.output, hgrow0.size, fun k hk => hgrow0.block k hk (by simp)⟩ : Below w1.heap.size w1 w2))
  clear hown0 hgrow0 hi hiz his hib
  go_wp2
  go_loopg [4, 16] l.length (fun n v j wr => ∃ k : Nat, n = l.length - k ∧ k ≤ l.length ∧ j = .int .i64 k ∧ wr.ownsRow w1.heap.size 9 1 v k (strsV (l.take k)) ∧ Below w1.heap.size w1 wr ∧ allV (l.take k) = true)
  case atStart => exact ⟨0, rfl, Nat.zero_le _, rfl, HS0.out.1, HS0.out.2, rfl⟩
  case round =>
    obtain ⟨k, rfl, hk, rfl, hown, hbel, hall⟩ := hrel
    have HO := Lib.hid (And.intro hown (And.intro hbel hall))
    clear hown hbel hall
    have hz0 := HW.out.2.2
    by_cases hlt : k < l.length
    · obtain ⟨a, rfl, hT⟩ := ((HR.out.1.later HW.out.2.1).later HO.out.2.1) (by omega)
      have t1 := hT.at_ hlt
      have HM := Lib.hid (HR.out.2 (l.getD k ⟨0, [], 0, 0⟩) (by rw [List.getD_eq_getElem?_getD, List.getElem?_eq_getElem hlt]; exact List.getElem_mem _))
      have HS1 := Lib.hid (And.intro (strsV_snoc l k hlt) (And.intro (fun hx => allV_snoc hlt HO.out.2.2 hx) (fun hx => allV_not hlt hx)))
      clear hT
      generalize l.getD k ⟨0, [], 0, 0⟩ = x at *
      obtain ⟨b1, p0, p1, p2, p3⟩ := t1
      have HF : Hid (∀ W, Below w1.heap.size w1 W → Calls Tryd.prog 48 #[.string ⟨x.t.toArray⟩, .pointer (some ⟨w.heap.size + 9, 0, none⟩)] W (Hit (takeK x.t) (takeT x.t) (takeE x.t) W)) := Lib.hid (fun W hW => first_any ⟨x.t.toArray⟩ W w.heap.size (HW.out.1.later (B := w1.heap.size) HW.out.2.2 hW) (by have := HM.out; show x.t.length ≤ maxLen; unfold maxLen; omega))
      have HOK := Lib.hid (okTok_iff x)
      obtain ⟨hi, hiz, his, hib⟩ := HI.out
      cases hv : validB x.k x.t with
      | true =>
        obtain ⟨e1, e2, e3⟩ := HOK.out.2 hv
        rw [e1, e2, e3] at HF
        have HV := Lib.hid (HS1.out.2.1 hv)
        clear hv e1 e2 e3
        go_wp2_with (first
          | (go_at_call 48; refine (HF.out _ (HO.out.2.1.trans ((below_alloc wr _).mono HO.out.2.1.size))).mono ?_; rintro e w3 ⟨rfl, q, rfl⟩)
          | (at_builtin; go_loud (refine wpList_append_own _ rfl _ _ 44 rfl w1.heap.size 9 i0 _ 1 16 Tryd.underlying44 hi hiz his hib rfl (by decide) _ _ _ rfl (((own_drew2 (HO.out.1.alloc _) q)).alloc _) ⟨wr.heap.size + 1, 0, none⟩ 1 1 [.string ⟨x.t.toArray⟩] rfl rfl ?c1 ?c2 ?c3 ?c4 ?c5 ?_)))
        case c1 => exact one_cells _ _ (by rw [size_drewN]; exact (size_of_alloc _ _).symm) _ _
        case c2 => exact one_one _ rfl
        case c3 => unfold maxLen; omega
        case c4 => omega
        case c5 => rw [size_of_alloc, size_drewN, size_of_alloc]; have := HO.out.2.1.size; omega
        intro v' w4 hown' hgrow _
        have hb4 := below_grown ((own_drew2 (HO.out.1.alloc (.cells #[.int .i64 x.k, .string ⟨x.t.toArray⟩, .int .i64 x.l, .int .i64 x.c] 28)) q).alloc (.cells #[.string ⟨x.t.toArray⟩] 9)) hgrow (by rw [size_of_alloc, size_drewN, size_of_alloc]; have := HO.out.2.1.size; omega)
        have HB2 := Lib.hid ((HO.out.2.1.trans (((below_drewN (below_alloc wr (.cells #[.int .i64 x.k, .string ⟨x.t.toArray⟩, .int .i64 x.l, .int .i64 x.c] 28)) q).chain (below_alloc _ _)).mono HO.out.2.1.size)).trans hb4)
        have HO2 : Hid (w4.ownsRow w1.heap.size 9 1 v' (k + 1) (strsV (l.take (k + 1)))) := Lib.hid (HS1.out.1 ▸ hown')
        clear hown' hgrow hb4 hi hiz his hib
        go_wp2
        go_roundg (l.length - (k + 1))
        case measure => omega
        case rel => exact ⟨k + 1, rfl, by omega, by go_num, HO2.out, HB2.out, HV.out⟩
      | false =>
        have HV := Lib.hid (HS1.out.2.2 hv)
        have hnot : ¬ (takeE x.t = 0 ∧ takeK x.t = x.k ∧ takeT x.t = x.t) := fun h => by rw [HOK.out.1 h] at hv; cases hv
        have HJ : Hid (joinS l = []) := Lib.hid (by unfold joinS; rw [HV.out]; rfl)
        clear hv hi hiz his hib
        generalize takeE x.t = e1 at *
        generalize takeK x.t = k1 at *
        generalize takeT x.t = t1 at *
        by_cases he : e1 = 0
        · subst he
          by_cases hk1 : k1 = x.k
          · subst hk1
            have ht1 : (t1 == x.t) = false := beq_eq_false_iff_ne.2 fun h => hnot ⟨rfl, rfl, h⟩
            clear hnot
            go_wp2_with (go_at_call 48; refine (HF.out _ (HO.out.2.1.trans ((below_alloc wr _).mono HO.out.2.1.size))).mono ?_; rintro e w3 ⟨rfl, q, rfl⟩)
            go_ret
            exact ⟨by rw [HJ.out] <;> rfl, HW.out.2.1.chain (HO.out.2.1.trans ((below_drewN (below_alloc wr (.cells #[.int .i64 x.k, .string ⟨x.t.toArray⟩, .int .i64 x.l, .int .i64 x.c] 28)) q).mono HO.out.2.1.size))⟩
          · clear hnot
            go_wp2_with (go_at_call 48; refine (HF.out _ (HO.out.2.1.trans ((below_alloc wr _).mono HO.out.2.1.size))).mono ?_; rintro e w3 ⟨rfl, q, rfl⟩)
            go_ret
            exact ⟨by rw [HJ.out] <;> rfl, HW.out.2.1.chain (HO.out.2.1.trans ((below_drewN (below_alloc wr (.cells #[.int .i64 x.k, .string ⟨x.t.toArray⟩, .int .i64 x.l, .int .i64 x.c] 28)) q).mono HO.out.2.1.size))⟩
        · clear hnot
          go_wp2_with (go_at_call 48; refine (HF.out _ (HO.out.2.1.trans ((below_alloc wr _).mono HO.out.2.1.size))).mono ?_; rintro e w3 ⟨rfl, q, rfl⟩)
          go_ret
          exact ⟨by rw [HJ.out] <;> rfl, HW.out.2.1.chain (HO.out.2.1.trans ((below_drewN (below_alloc wr (.cells #[.int .i64 x.k, .string ⟨x.t.toArray⟩, .int .i64 x.l, .int .i64 x.c] 28)) q).mono HO.out.2.1.size))⟩
    · obtain rfl : k = l.length := by omega
      have hO := HO.out
      rw [List.take_of_length_le (Nat.le_refl _)] at hO
      have HJ := Lib.hid (join_call _ l wr _ hO.1 hl HR.out.2)
      have HJ2 : Hid (joinS l = Lib.join (l.map (·.t)) [32]) := Lib.hid (by unfold joinS; rw [hO.2.2]; rfl)
      clear hO
      go_wp2_with (go_at_call 20; refine HJ.out.mono ?_; rintro e w5 ⟨rfl, hb⟩; have HB5 := Lib.hid hb; clear hb)
      go_ret
      exact ⟨by rw [HJ2.out] <;> rfl, (HW.out.2.1.chain (HO.out.2.1.trans (HB5.out.mono HO.out.2.1.size)))⟩

end Go.Proofs.YtjdcohfdanenlaaDoor
