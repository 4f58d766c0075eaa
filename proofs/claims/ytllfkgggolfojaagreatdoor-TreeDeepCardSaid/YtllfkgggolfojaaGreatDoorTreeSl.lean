/-
  validList at calls.
  validList at formulas.
  validList at statements; stmtsWithin's literal.
-/
import Derived.Test.YtllfkgggolfojaaGreatDoorTreeSv
import Derived.Test.YtllfkgggolfojaaGreatDoorTreeGf
namespace Go.Proofs.YtllfkgggolfojaaGreatDoor
open Go.RowKit

set_option maxRecDepth 100000 in
set_option maxHeartbeats 4000000 in
theorem vl_call (ok : Cal → Bool) (G : Nat) (Fi Ca : Array Value) (hG : ∀ args w, (callFunc G args).run Tryz.prog w = .ok (.enter G args) w) (es : List Cal) (A : Option Addr) (c : Nat) (least most : Int) (w : World) (hn : es.length ≤ maxLen) (hr : RowX CalAt 3 w w.heap.size es A)
    (hC : ∀ r p l A c W, (⟨r, p, l⟩ : Cal) ∈ es → Below w.heap.size w W → ExRow W W.heap.size l A → r.length ≤ maxLen → p.length ≤ maxLen → l.length ≤ maxLen →
      Calls Tryz.prog G (Fi.push (callV ⟨r.toArray⟩ ⟨p.toArray⟩ (.slice A l.length c)) ++ Ca) W fun e w' => e = .returned (.bool (ok ⟨r, p, l⟩)) ∧ Below W.heap.size W w') :
    Calls Tryz.prog 125 #[.slice A es.length c, .int .i64 least, .int .i64 most, .func (.func G) Fi Ca] w fun e w' =>
      e = .returned (.bool (decide (least ≤ es.length) && decide ((es.length : Int) ≤ most) && es.all ok)) ∧ Below w.heap.size w w' := by
  obtain ⟨n, hnn⟩ : ∃ n, n = es.length := ⟨_, rfl⟩
  have HH := Lib.hid (And.intro hr (And.intro hC hnn))
  have HB0 := Lib.hid (Below.refl w.heap.size w)
  rw [← hnn] at hn ⊢
  clear hr hC hnn
  unfold maxLen at hn
  go_enter Tryz.func125, Tryz.ntmps125
  by_cases hl : (n : Int) < least
  · go_wp2
    go_ret
    exact ⟨by rw [show decide (least ≤ (n : Int)) = false by simp; omega]; rfl, HB0.out⟩
  by_cases hm : (n : Int) > most
  · go_wp2
    go_ret
    exact ⟨by rw [show decide ((n : Int) ≤ most) = false by simp; omega]; simp, HB0.out⟩
  go_wp2
  go_loopg [23] n (fun m j wr => ∃ k : Nat, m = n - k ∧ k ≤ n ∧ j = .int .i64 k ∧ Hid (Below w.heap.size w wr ∧ (es.take k).all ok = true))
  case atStart => exact ⟨0, rfl, Nat.zero_le _, rfl, Lib.hid ⟨HB0.out, rfl⟩⟩
  case round =>
    obtain ⟨k, rfl, hk, rfl, HI⟩ := hrel
    by_cases hlt : k < n
    · have hki : (k : Int) < n := by omega
      obtain ⟨⟨r, p, l⟩, hi⟩ : ∃ x, es[k]? = some x := ⟨es[k]'(by rw [← HH.out.2.2]; exact hlt), List.getElem?_eq_getElem _⟩
      obtain ⟨a, rfl, hab, hp⟩ := (HH.out.1.stay cal_keeps HI.out.1 (Nat.le_refl _)).at_ hi
      obtain ⟨Al, cl, d0, d1, d2, hrl, hpl, hll, rl⟩ := hp
      simp only at d0 d1 d2 hrl hpl hll rl
      have c0 : wr.cell? (a.add (k * 3)) = some (.string ⟨r.toArray⟩) := d0
      have c1 : wr.cell? ⟨(a.add (k * 3)).block, (a.add (k * 3)).off + 1, none⟩ = some (.string ⟨p.toArray⟩) := d1
      have c2 : wr.cell? ⟨(a.add (k * 3)).block, (a.add (k * 3)).off + 2, none⟩ = some (.slice Al l.length cl) := d2
      have HJ := Lib.hid (HI.out.1.alloc HI.out.1.size (.cells #[.string ⟨r.toArray⟩, .string ⟨p.toArray⟩, .slice Al l.length cl] 70))
      have HC2 := Lib.hid (HH.out.2.1 r p l Al cl (wr.alloc (.cells #[.string ⟨r.toArray⟩, .string ⟨p.toArray⟩, .slice Al l.length cl] 70)) (List.mem_of_getElem? hi) HJ.out ((rl.stay (below_alloc wr _) HI.out.1.size).more HJ.out.size) hrl hpl hll)
      obtain ⟨okx, hokx⟩ : ∃ b, b = ok ⟨r, p, l⟩ := ⟨_, rfl⟩
      have HX := Lib.hid (And.intro hi (all_take_succ ok es k _ hi))
      rw [← hokx] at HC2 HX
      have HO := Lib.hid hokx
      clear hokx hi d0 d1 d2 hrl hpl hll rl
      go_wp2_with (refine HC2.out.mono ?_; rintro e w3 ⟨rfl, hb⟩; have HB3 := Lib.hid (HJ.out.trans (hb.mono HJ.out.size)); clear hb)
      · rename_i hf
        have hf' : ok ⟨r, p, l⟩ = false := by rw [← HO.out]; simpa using hf
        go_ret
        exact ⟨by rw [all_of_false ok es k _ HX.out.1 hf', Bool.and_false]; rfl, HB3.out⟩
      · rename_i hf
        have hf' : okx = true := by simpa using hf
        go_roundg (n - (k + 1))
        case measure => omega
        case rel => exact ⟨k + 1, rfl, by omega, by go_num, Lib.hid ⟨HB3.out, by rw [HX.out.2, HI.out.2, hf']; rfl⟩⟩
    · obtain rfl : k = n := by omega
      go_wp2
      go_ret
      refine ⟨?_, HI.out.1⟩
      have := HI.out.2
      rw [List.take_of_length_le (by rw [HH.out.2.2]; exact Nat.le_refl _)] at this
      rw [this, Bool.and_true, show decide (least ≤ (k : Int)) = true by simp; omega, show decide ((k : Int) ≤ most) = true by simp; omega]
      rfl

end Go.Proofs.YtllfkgggolfojaaGreatDoor

namespace Go.Proofs.YtllfkgggolfojaaGreatDoor
open Go.RowKit

set_option maxRecDepth 100000 in
set_option maxHeartbeats 4000000 in
theorem vl_formula (ok : Fm → Bool) (G : Nat) (Fi Ca : Array Value) (hG : ∀ args w, (callFunc G args).run Tryz.prog w = .ok (.enter G args) w) (es : List Fm) (A : Option Addr) (c : Nat) (least most : Int) (w : World) (hn : es.length ≤ maxLen) (hr : RowX FmAt 3 w w.heap.size es A)
    (hC : ∀ (x : Fm) Ap cp Aa ca Ac cc W, x ∈ es → Below w.heap.size w W → PmRow W W.heap.size x.ps Ap → AtRow W W.heap.size x.ats Aa → ClRow W W.heap.size x.cls Ac → x.ps.length ≤ maxLen → x.ats.length ≤ maxLen → x.cls.length ≤ maxLen →
      Calls Tryz.prog G (Fi.push (formulaV (.slice Ap x.ps.length cp) (.slice Aa x.ats.length ca) (.slice Ac x.cls.length cc)) ++ Ca) W fun e w' => e = .returned (.bool (ok x)) ∧ Below W.heap.size W w') :
    Calls Tryz.prog 127 #[.slice A es.length c, .int .i64 least, .int .i64 most, .func (.func G) Fi Ca] w fun e w' =>
      e = .returned (.bool (decide (least ≤ es.length) && decide ((es.length : Int) ≤ most) && es.all ok)) ∧ Below w.heap.size w w' := by
  obtain ⟨n, hnn⟩ : ∃ n, n = es.length := ⟨_, rfl⟩
  have HH := Lib.hid (And.intro hr (And.intro hC hnn))
  have HB0 := Lib.hid (Below.refl w.heap.size w)
  rw [← hnn] at hn ⊢
  clear hr hC hnn
  unfold maxLen at hn
  go_enter Tryz.func127, Tryz.ntmps127
  by_cases hl : (n : Int) < least
  · go_wp2
    go_ret
    exact ⟨by rw [show decide (least ≤ (n : Int)) = false by simp; omega]; rfl, HB0.out⟩
  by_cases hm : (n : Int) > most
  · go_wp2
    go_ret
    exact ⟨by rw [show decide ((n : Int) ≤ most) = false by simp; omega]; simp, HB0.out⟩
  go_wp2
  go_loopg [23] n (fun m j wr => ∃ k : Nat, m = n - k ∧ k ≤ n ∧ j = .int .i64 k ∧ Hid (Below w.heap.size w wr ∧ (es.take k).all ok = true))
  case atStart => exact ⟨0, rfl, Nat.zero_le _, rfl, Lib.hid ⟨HB0.out, rfl⟩⟩
  case round =>
    obtain ⟨k, rfl, hk, rfl, HI⟩ := hrel
    by_cases hlt : k < n
    · have hki : (k : Int) < n := by omega
      obtain ⟨x, hi⟩ : ∃ x, es[k]? = some x := ⟨es[k]'(by rw [← HH.out.2.2]; exact hlt), List.getElem?_eq_getElem _⟩
      obtain ⟨a, rfl, hab, hp⟩ := (HH.out.1.stay fm_keeps HI.out.1 (Nat.le_refl _)).at_ hi
      obtain ⟨Ap, cp, Aa, ca, Ac, cc, d0, d1, d2, ⟨b0, b1, b2⟩, rp, ra, rc⟩ := hp
      have c0 : wr.cell? (a.add (k * 3)) = some (.slice Ap x.ps.length cp) := d0
      have c1 : wr.cell? ⟨(a.add (k * 3)).block, (a.add (k * 3)).off + 1, none⟩ = some (.slice Aa x.ats.length ca) := d1
      have c2 : wr.cell? ⟨(a.add (k * 3)).block, (a.add (k * 3)).off + 2, none⟩ = some (.slice Ac x.cls.length cc) := d2
      have HJ := Lib.hid (HI.out.1.alloc HI.out.1.size (.cells #[.slice Ap x.ps.length cp, .slice Aa x.ats.length ca, .slice Ac x.cls.length cc] 26))
      have HC2 := Lib.hid (HH.out.2.1 x Ap cp Aa ca Ac cc (wr.alloc (.cells #[.slice Ap x.ps.length cp, .slice Aa x.ats.length ca, .slice Ac x.cls.length cc] 26)) (List.mem_of_getElem? hi) HJ.out ((rp.stay pm_keeps (below_alloc wr _) HI.out.1.size).more pm_keeps HJ.out.size) ((ra.stay at_keeps (below_alloc wr _) HI.out.1.size).more at_keeps HJ.out.size) ((rc.stay cl_keeps (below_alloc wr _) HI.out.1.size).more cl_keeps HJ.out.size) b0 b1 b2)
      obtain ⟨okx, hokx⟩ : ∃ b, b = ok x := ⟨_, rfl⟩
      have HX := Lib.hid (And.intro hi (all_take_succ ok es k _ hi))
      rw [← hokx] at HC2 HX
      have HO := Lib.hid hokx
      clear hokx hi d0 d1 d2 b0 b1 b2 rp ra rc
      go_wp2_with (refine HC2.out.mono ?_; rintro e w3 ⟨rfl, hb⟩; have HB3 := Lib.hid (HJ.out.trans (hb.mono HJ.out.size)); clear hb)
      · rename_i hf
        have hf' : ok x = false := by rw [← HO.out]; simpa using hf
        go_ret
        exact ⟨by rw [all_of_false ok es k _ HX.out.1 hf', Bool.and_false]; rfl, HB3.out⟩
      · rename_i hf
        have hf' : okx = true := by simpa using hf
        go_roundg (n - (k + 1))
        case measure => omega
        case rel => exact ⟨k + 1, rfl, by omega, by go_num, Lib.hid ⟨HB3.out, by rw [HX.out.2, HI.out.2, hf']; rfl⟩⟩
    · obtain rfl : k = n := by omega
      go_wp2
      go_ret
      refine ⟨?_, HI.out.1⟩
      have := HI.out.2
      rw [List.take_of_length_le (by rw [HH.out.2.2]; exact Nat.le_refl _)] at this
      rw [this, Bool.and_true, show decide (least ≤ (k : Int)) = true by simp; omega, show decide ((k : Int) ≤ most) = true by simp; omega]
      rfl

end Go.Proofs.YtllfkgggolfojaaGreatDoor

namespace Go.Proofs.YtllfkgggolfojaaGreatDoor
open Go.RowKit

theorem vlr_call (fv : Nat) (var : List UInt8 → Bool) (hv : VarOk fv var) (nu ex : Int) (h0 : 0 ≤ nu) (h1 : nu ≤ 4611686018427387904) (es : List Cal) (A : Option Addr) (c : Nat) (least most : Int) (w : World) (hn : es.length ≤ maxLen) (hr : CalRow w w.heap.size es A) :
    Calls Tryz.prog 125 #[.slice A es.length c, .int .i64 least, .int .i64 most, .func (.func 126) #[rulesV fv nu ex] #[]] w fun e w' =>
      e = .returned (.bool (decide (least ≤ es.length) && decide ((es.length : Int) ≤ most) && es.all (vCal var nu))) ∧ Below w.heap.size w w' := by
  refine vl_call (vCal var nu) 126 #[rulesV fv nu ex] #[] (enters_of Tryz.func126 (by kernel_rfl) rfl) es A c least most w hn hr (fun r p l A' c' W _ hb rl hrl hpl hl => ?_)
  exact call_any fv var hv nu ex h0 h1 r p l A' c' W rl hrl hpl hl

theorem vlr_formula (fv : Nat) (var : List UInt8 → Bool) (hv : VarOk fv var) (nu ex : Int) (h0 : 0 ≤ nu) (h1 : nu ≤ 4611686018427387904) (es : List Fm) (A : Option Addr) (c : Nat) (least most : Int) (w : World) (hn : es.length ≤ maxLen) (hr : FmRow w w.heap.size es A) :
    Calls Tryz.prog 127 #[.slice A es.length c, .int .i64 least, .int .i64 most, .func (.func 20) #[rulesV fv nu ex] #[]] w fun e w' =>
      e = .returned (.bool (decide (least ≤ es.length) && decide ((es.length : Int) ≤ most) && es.all (vF var nu ex))) ∧ Below w.heap.size w w' := by
  refine vl_formula (vF var nu ex) 20 #[rulesV fv nu ex] #[] (enters_of Tryz.func20 (by kernel_rfl) rfl) es A c least most w hn hr (fun x Ap cp Aa ca Ac cc W _ hb rp ra rc b0 b1 b2 => ?_)
  exact formula_any fv var hv nu ex h0 h1 x Ap cp Aa ca Ac cc W b0 b1 b2 rp ra rc

set_option maxRecDepth 100000 in
set_option maxHeartbeats 4000000 in
theorem vl_stmt (ok : St → Bool) (G : Nat) (Fi Ca : Array Value) (hG : ∀ args w, (callFunc G args).run Tryz.prog w = .ok (.enter G args) w) (ss : List St) (A : Option Addr) (c : Nat) (least most : Int) (w : World) (hn : ss.length ≤ maxLen) (hr : StRow w w.heap.size ss A)
    (hC : ∀ s d W, s ∈ ss → Below w.heap.size w W → StOwn W W.heap.size d s → StRow W W.heap.size s.body d.s → StRow W W.heap.size s.els d.t →
      Calls Tryz.prog G (Fi.push (.agg (stCs d s)) ++ Ca) W fun e w' => e = .returned (.bool (ok s)) ∧ Below W.heap.size W w') :
    Calls Tryz.prog 75 #[.slice A ss.length c, .int .i64 least, .int .i64 most, .func (.func G) Fi Ca] w fun e w' =>
      e = .returned (.bool (decide (least ≤ ss.length) && decide ((ss.length : Int) ≤ most) && ss.all ok)) ∧ Below w.heap.size w w' := by
  obtain ⟨n, hnn⟩ : ∃ n, n = ss.length := ⟨_, rfl⟩
  have HH := Lib.hid (And.intro hr (And.intro hC hnn))
  have HB0 := Lib.hid (Below.refl w.heap.size w)
  rw [← hnn] at hn ⊢
  clear hr hC hnn
  unfold maxLen at hn
  obtain ⟨T, M, hT, hM, hag, hsz⟩ := stmt_hidden
  have e1 : ∀ y : Operand, Op.load 44 y = Op.load T y := fun y => by rw [hT]
  have e2 : ∀ y z : Operand, Op.store 44 y z = Op.store T y z := fun y z => by rw [hT]
  have HM := Lib.hid hM
  clear hM
  go_enter Tryz.func75, Tryz.ntmps75
  simp only [e1, e2]
  clear e1 e2 hT
  by_cases hl : (n : Int) < least
  · go_wp2
    go_ret
    exact ⟨by rw [show decide (least ≤ (n : Int)) = false by simp; omega]; rfl, HB0.out⟩
  by_cases hm : (n : Int) > most
  · go_wp2
    go_ret
    exact ⟨by rw [show decide ((n : Int) ≤ most) = false by simp; omega]; simp, HB0.out⟩
  go_wp2
  go_loopg [23] n (fun m j wr => ∃ k : Nat, m = n - k ∧ k ≤ n ∧ j = .int .i64 k ∧ Hid (Below w.heap.size w wr ∧ (ss.take k).all ok = true))
  case atStart => exact ⟨0, rfl, Nat.zero_le _, rfl, Lib.hid ⟨HB0.out, rfl⟩⟩
  case round =>
    obtain ⟨k, rfl, hk, rfl, HI⟩ := hrel
    by_cases hlt : k < n
    · have hki : (k : Int) < n := by omega
      obtain ⟨s, hi⟩ : ∃ x, ss[k]? = some x := ⟨ss[k]'(by rw [← HH.out.2.2]; exact hlt), List.getElem?_eq_getElem _⟩
      obtain ⟨a, d, rfl, hab, hc, hown, hb1, hb2⟩ := (HH.out.1.on HI.out.1).at_ hi
      obtain ⟨cs, hcs⟩ : ∃ cs, cs = stCs d s := ⟨_, rfl⟩
      have h24 : cs.size = 24 := by rw [hcs]; exact stCs_size d s
      have h1c : cs.all (·.oneCell') = true := by rw [hcs]; exact stCs_one d s
      have hszc : cs.size = M := h24.trans HM.out.symm
      rw [← hcs] at hc
      have hl1 := load_list (N := M) hc hszc
      have hst := store_new (w := wr) h24 h1c
      have hbx := heap_of_alloc wr (.cells cs 44)
      have hl2 := load_list (W := wr.alloc (.cells cs 44)) (a := ⟨wr.heap.size, 0, none⟩) (N := M) (cs := cs) (fun j v hv => by rw [add_block0]; exact cell_of_block hbx j hv) hszc
      have HJ := Lib.hid (HI.out.1.alloc HI.out.1.size (.cells cs 44))
      have hba := below_alloc wr (.cells cs 44)
      have HC2 := Lib.hid (HH.out.2.1 s d (wr.alloc (.cells cs 44)) (List.mem_of_getElem? hi) HJ.out (hown.on hba) (hb1.on hba) (hb2.on hba))
      rw [← hcs] at HC2
      have HX := Lib.hid (And.intro hi (all_take_succ ok ss k _ hi))
      obtain ⟨okx, hokx⟩ : ∃ b, b = ok s := ⟨_, rfl⟩
      rw [← hokx] at HC2 HX
      have HO := Lib.hid hokx
      clear hokx hi hc hown hb1 hb2 hbx hba h24 h1c hcs
      go_wp2_with (refine HC2.out.mono ?_; rintro e w3 ⟨rfl, hb⟩; have HB3 := Lib.hid (HJ.out.trans (hb.mono HJ.out.size)); clear hb)
      · rename_i hf
        have hf' : ok s = false := by rw [← HO.out]; simpa using hf
        go_ret
        exact ⟨by rw [all_of_false ok ss k _ HX.out.1 hf', Bool.and_false]; rfl, HB3.out⟩
      · rename_i hf
        have hf' : okx = true := by simpa using hf
        go_roundg (n - (k + 1))
        case measure => omega
        case rel => exact ⟨k + 1, rfl, by omega, by go_num, Lib.hid ⟨HB3.out, by rw [HX.out.2, HI.out.2, hf']; rfl⟩⟩
    · obtain rfl : k = n := by omega
      go_wp2
      go_ret
      refine ⟨?_, HI.out.1⟩
      have := HI.out.2
      rw [List.take_of_length_le (by rw [HH.out.2.2]; exact Nat.le_refl _)] at this
      rw [this, Bool.and_true, show decide (least ≤ (k : Int)) = true by simp; omega, show decide ((k : Int) ≤ most) = true by simp; omega]
      rfl

end Go.Proofs.YtllfkgggolfojaaGreatDoor
