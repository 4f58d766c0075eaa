/-
  rules.stmt, out of its cases.
  rules.stmt and rules.stmtsWithin at any statements; tree.Stmts.
-/
import Derived.Test.YtllfkgggolfojaaGreatDoorTreeSa
import Derived.Test.YtllfkgggolfojaaGreatDoorTreeSb
import Derived.Test.YtllfkgggolfojaaGreatDoorTreeSc
import Derived.Test.YtllfkgggolfojaaGreatDoorTreeSf
import Derived.Test.YtllfkgggolfojaaGreatDoorTreeSl
namespace Go.Proofs.YtllfkgggolfojaaGreatDoor
open Go.RowKit

theorem stmt_core (fv : Nat) (nu ex : Int) (k ln co ek en ck ak an bk bn : Int) (es sa sb : List UInt8) (ve va vb vl vc vi vs vt : Value) (cs : Array Value) (h24 : cs.size = 24) (k0 : cs[0]? = some (.int .i64 k)) (k1 : cs[1]? = some (.int .i64 ln)) (k2 : cs[2]? = some (.int .i64 co)) (k6 : cs[6]? = some (.int .i64 ek)) (k7 : cs[7]? = some (.int .i64 en)) (k8 : cs[8]? = some (.string ⟨es.toArray⟩)) (k9 : cs[9]? = some ve) (k10 : cs[10]? = some (.int .i64 ck)) (k11 : cs[11]? = some (.int .i64 ak)) (k12 : cs[12]? = some (.int .i64 an)) (k13 : cs[13]? = some (.string ⟨sa.toArray⟩)) (k14 : cs[14]? = some va) (k15 : cs[15]? = some (.int .i64 bk)) (k16 : cs[16]? = some (.int .i64 bn)) (k17 : cs[17]? = some (.string ⟨sb.toArray⟩)) (k18 : cs[18]? = some vb) (k19 : cs[19]? = some vl) (k20 : cs[20]? = some vc) (k21 : cs[21]? = some vi) (k22 : cs[22]? = some vs) (k23 : cs[23]? = some vt) (kn : Nat) (hk : k = kn) (hk1 : 1 ≤ kn) (hk2 : kn ≤ 12) (p dp : Int) (v0 v1 v2 v3 v4 v5 v6 v7 : Bool) (w : World) (hp : w.cell? ⟨0, kn, none⟩ = some (.int .i64 p))
    (hv0 : ∀ W, Below w.heap.size w W → Calls Tryz.prog 119 #[posV ln co] W fun e w' => e = .returned (.bool v0) ∧ Below W.heap.size W w')
    (hv1 : ∀ W, Below w.heap.size w W → Calls Tryz.prog 120 #[rulesV fv nu ex, .agg cs, .int .i64 p] W fun e w' => e = .returned (.bool v1) ∧ Below W.heap.size W w')
    (hv2 : ∀ W, Below w.heap.size w W → Calls Tryz.prog 121 #[.bool (hasB p 32), exprV ek en ⟨es.toArray⟩ ve, .func (.func 27) #[rulesV fv nu ex] #[], .func (.func 91) #[] #[]] W fun e w' => e = .returned (.bool v2) ∧ Below W.heap.size W w')
    (hv3 : ∀ W, Below w.heap.size w W → Calls Tryz.prog 123 #[.bool (hasB p 64), condV2 ck ak an ⟨sa.toArray⟩ va bk bn ⟨sb.toArray⟩ vb vl, .func (.func 28) #[rulesV fv nu ex] #[], .func (.func 124) #[] #[]] W fun e w' => e = .returned (.bool v3) ∧ Below W.heap.size W w')
    (hv4 : ∀ W, Below w.heap.size w W → Calls Tryz.prog 125 #[vc, .int .i64 (mostB p 128 1 + mostB p 256 1), .int .i64 (mostB p 128 1 + mostB p 256 1), .func (.func 126) #[rulesV fv nu ex] #[]] W fun e w' => e = .returned (.bool v4) ∧ Below W.heap.size W w')
    (hv5 : ∀ W, Below w.heap.size w W → Calls Tryz.prog 127 #[vi, .int .i64 0, .int .i64 (mostB p 512 100), .func (.func 20) #[rulesV fv nu ex] #[]] W fun e w' => e = .returned (.bool v5) ∧ Below W.heap.size W w')
    (hv6 : ∀ W, Below w.heap.size w W → Calls Tryz.prog 49 #[rulesV fv nu ex, vs, .int .i64 (mostB p 1024 dp)] W fun e w' => e = .returned (.bool v6) ∧ Below W.heap.size W w')
    (hv7 : ∀ W, Below w.heap.size w W → Calls Tryz.prog 49 #[rulesV fv nu ex, vt, .int .i64 (mostB p 2048 dp)] W fun e w' => e = .returned (.bool v7) ∧ Below W.heap.size W w') :
    Calls Tryz.prog 77 #[rulesV fv nu ex, .agg cs, .int .i64 dp] w fun e w' => e = .returned (.bool (v0 && v1 && v2 && v3 && v4 && v5 && v6 && v7)) ∧ Below w.heap.size w w' := by
  cases v0 with
  | false => exact stmt_c0 fv nu ex k ln co ek en ck ak an bk bn es sa sb ve va vb vl vc vi vs vt cs h24 k0 k1 k2 k6 k7 k8 k9 k10 k11 k12 k13 k14 k15 k16 k17 k18 k19 k20 k21 k22 k23 kn hk hk1 hk2 p dp w hp hv0
  | true =>
    cases v1 with
    | false => exact stmt_c1 fv nu ex k ln co ek en ck ak an bk bn es sa sb ve va vb vl vc vi vs vt cs h24 k0 k1 k2 k6 k7 k8 k9 k10 k11 k12 k13 k14 k15 k16 k17 k18 k19 k20 k21 k22 k23 kn hk hk1 hk2 p dp w hp hv0 hv1
    | true =>
      cases v2 with
      | false => exact stmt_c2 fv nu ex k ln co ek en ck ak an bk bn es sa sb ve va vb vl vc vi vs vt cs h24 k0 k1 k2 k6 k7 k8 k9 k10 k11 k12 k13 k14 k15 k16 k17 k18 k19 k20 k21 k22 k23 kn hk hk1 hk2 p dp w hp hv0 hv1 hv2
      | true =>
        cases v3 with
        | false => exact stmt_c3 fv nu ex k ln co ek en ck ak an bk bn es sa sb ve va vb vl vc vi vs vt cs h24 k0 k1 k2 k6 k7 k8 k9 k10 k11 k12 k13 k14 k15 k16 k17 k18 k19 k20 k21 k22 k23 kn hk hk1 hk2 p dp w hp hv0 hv1 hv2 hv3
        | true =>
          cases v4 with
          | false => exact stmt_c4 fv nu ex k ln co ek en ck ak an bk bn es sa sb ve va vb vl vc vi vs vt cs h24 k0 k1 k2 k6 k7 k8 k9 k10 k11 k12 k13 k14 k15 k16 k17 k18 k19 k20 k21 k22 k23 kn hk hk1 hk2 p dp w hp hv0 hv1 hv2 hv3 hv4
          | true =>
            cases v5 with
            | false => exact stmt_c5 fv nu ex k ln co ek en ck ak an bk bn es sa sb ve va vb vl vc vi vs vt cs h24 k0 k1 k2 k6 k7 k8 k9 k10 k11 k12 k13 k14 k15 k16 k17 k18 k19 k20 k21 k22 k23 kn hk hk1 hk2 p dp w hp hv0 hv1 hv2 hv3 hv4 hv5
            | true =>
              cases v6 with
              | false => exact stmt_c6 fv nu ex k ln co ek en ck ak an bk bn es sa sb ve va vb vl vc vi vs vt cs h24 k0 k1 k2 k6 k7 k8 k9 k10 k11 k12 k13 k14 k15 k16 k17 k18 k19 k20 k21 k22 k23 kn hk hk1 hk2 p dp w hp hv0 hv1 hv2 hv3 hv4 hv5 hv6
              | true =>
                exact stmt_c7 fv nu ex k ln co ek en ck ak an bk bn es sa sb ve va vb vl vc vi vs vt cs h24 k0 k1 k2 k6 k7 k8 k9 k10 k11 k12 k13 k14 k15 k16 k17 k18 k19 k20 k21 k22 k23 kn hk hk1 hk2 p dp v7 w hp hv0 hv1 hv2 hv3 hv4 hv5 hv6 hv7

end Go.Proofs.YtllfkgggolfojaaGreatDoor

namespace Go.Proofs.YtllfkgggolfojaaGreatDoor
open Go.RowKit

set_option maxRecDepth 100000 in
set_option maxHeartbeats 4000000 in
theorem stmt_out (fv : Nat) (nu ex k dp : Int) (cs : Array Value) (h24 : cs.size = 24) (k0 : cs[0]? = some (.int .i64 k)) (hk : ¬ (1 ≤ k ∧ k ≤ 12)) (w : World) :
    Calls Tryz.prog 77 #[rulesV fv nu ex, .agg cs, .int .i64 dp] w fun e w' => e = .returned (.bool false) ∧ Below w.heap.size w w' := by
  obtain ⟨T, N, hT, hN, hag, hsz⟩ := stmt_hidden
  have e1 : ∀ y : Operand, Op.load 44 y = Op.load T y := fun y => by rw [hT]
  have e4 : ∀ y : Operand, Op.box 44 y = Op.box T y := fun y => by rw [hT]
  obtain ⟨W1, hW1⟩ : ∃ W1, W1 = (w.alloc (rulesC fv nu ex)).alloc (.cells cs T) := ⟨_, rfl⟩
  have HB : Hid (Below w.heap.size w W1) := Lib.hid (by rw [hW1]; exact (below_alloc w _).chain (below_alloc _ _))
  have q2 := heap_of_alloc (w.alloc (rulesC fv nu ex)) (.cells cs T)
  rw [size_of_alloc] at q2
  have c0 := cell_of_block q2 0 k0
  have hszc : cs.size = N := h24.trans hN.symm
  have HW := Lib.hid hW1
  clear q2 k0 hN h24 hW1
  by_cases h1 : k < 1
  · go_enter Tryz.func77, Tryz.ntmps77
    simp only [e1, e4]
    clear e1 e4 hT
    go_wp2
    go_ret
    exact ⟨rfl, by rw [← HW.out]; exact HB.out⟩
  · have h2 : k > 12 := by omega
    go_enter Tryz.func77, Tryz.ntmps77
    simp only [e1, e4]
    clear e1 e4 hT
    go_wp2
    go_ret
    exact ⟨rfl, by rw [← HW.out]; exact HB.out⟩

/-- stmtsWithin does what it should at depth n. -/
def SwOk (fv : Nat) (var : List UInt8 → Bool) (nu ex : Int) (n : Nat) : Prop :=
  ∀ (l : List St) (A : Option Addr) (c : Nat) (W : World), PartsAt W → StRow W W.heap.size l A → l.length ≤ maxLen →
    Calls Tryz.prog 49 #[rulesV fv nu ex, .slice A l.length c, .int .i64 n] W fun e w' => e = .returned (.bool (vSs var nu ex n l)) ∧ Below W.heap.size W w'

theorem stmt_any (fv : Nat) (var : List UInt8 → Bool) (hv : VarOk fv var) (nu ex : Int) (h0 : 0 ≤ nu) (h1 : nu ≤ 4611686018427387904) (dp : Nat) (hz : SwOk fv var nu ex 0) (hd : SwOk fv var nu ex dp) (s : St) (d : SAd) (w : World) (hp : PartsAt w) (own : StOwn w w.heap.size d s) (r1 : StRow w w.heap.size s.body d.s) (r2 : StRow w w.heap.size s.els d.t) :
    Calls Tryz.prog 77 #[rulesV fv nu ex, .agg (stCs d s), .int .i64 dp] w fun e w' => e = .returned (.bool (vSt var nu ex (vSs var nu ex dp) s)) ∧ Below w.heap.size w w' := by
  obtain ⟨k, ln, co, nm, fd, fr, ⟨ek, en, es, el⟩, ⟨ck, ⟨ak, an, sa, al⟩, ⟨bk, bn, sb, bl⟩, l⟩, cl, iv, b, o⟩ := s
  by_cases hk : 1 ≤ k ∧ k ≤ 12
  · obtain ⟨kn, rfl⟩ : ∃ kn : Nat, k = kn := ⟨k.toNat, by omega⟩
    obtain ⟨⟨b0, b1, b2, b3, b4, b5, b6, b7, b8, b9, b10, b11, b12, b13⟩, re, ra, rb, rl, rc, ri⟩ := own
    have hres : vSt var nu ex (vSs var nu ex dp) (.mk kn ln co nm fd fr (.mk ek en es el) (.mk ck (.mk ak an sa al) (.mk bk bn sb bl) l) cl iv b o) =
      (vPos ln co && (vWord var nm (hasB (partsL.getD kn 0) 1) (hasB (partsL.getD kn 0) 2) && vWord var fr (hasB (partsL.getD kn 0) 4) (hasB (partsL.getD kn 0) 8) && vWord var fd false (hasB (partsL.getD kn 0) 16)) &&
        (if hasB (partsL.getD kn 0) 32 then vE var nu 30 (.mk ek en es el) else zX (.mk ek en es el)) && (if hasB (partsL.getD kn 0) 64 then vC var nu 30 (.mk ck (.mk ak an sa al) (.mk bk bn sb bl) l) else zC (.mk ck (.mk ak an sa al) (.mk bk bn sb bl) l)) &&
        (decide (mostB (partsL.getD kn 0) 128 1 + mostB (partsL.getD kn 0) 256 1 ≤ cl.length) && decide ((cl.length : Int) ≤ mostB (partsL.getD kn 0) 128 1 + mostB (partsL.getD kn 0) 256 1) && cl.all (vCal var nu)) &&
        (decide ((0 : Int) ≤ iv.length) && decide ((iv.length : Int) ≤ mostB (partsL.getD kn 0) 512 100) && iv.all (vF var nu ex)) &&
        (if hasB (partsL.getD kn 0) 1024 then vSs var nu ex dp b else b.isEmpty) && (if hasB (partsL.getD kn 0) 2048 then vSs var nu ex dp o else o.isEmpty)) := by
      exact if_pos hk
    rw [hres]
    clear hres
    have hpp := hp kn (by omega)
    generalize hpv : partsL.getD kn 0 = p at *
    have hsub : ∀ (x : Int) (ls : List St) (A : Option Addr) (c : Nat), StRow w w.heap.size ls A → ls.length ≤ maxLen → ∀ W, Below w.heap.size w W → Calls Tryz.prog 49 #[rulesV fv nu ex, .slice A ls.length c, .int .i64 (mostB p x dp)] W fun e w' => e = .returned (.bool (if hasB p x then vSs var nu ex dp ls else ls.isEmpty)) ∧ Below W.heap.size W w' := fun x ls A c hr hl W hb => by
      unfold mostB
      cases hasB p x with
      | true => exact hd ls A c W (hp.on hb) (hr.on hb) hl
      | false => exact hz ls A c W (hp.on hb) (hr.on hb) hl
    exact stmt_core fv nu ex kn ln co ek en ck ak an bk bn es sa sb _ _ _ _ _ _ _ _ _ (stCs_size d _) rfl rfl rfl rfl rfl rfl rfl rfl rfl rfl rfl rfl rfl rfl rfl rfl rfl rfl rfl rfl rfl kn rfl (by omega) (by omega) p dp _ _ _ _ _ _ _ _ w hpp
      (fun W _ => place_any ln co W)
      (fun W hb => names_core fv nu ex nm fd fr p _ (stCs_size d _) rfl rfl rfl _ _ _ W (fun W2 _ => word_any fv var hv nu ex nm _ _ W2 b0) (fun W2 _ => word_any fv var hv nu ex fr _ _ W2 b2) (fun W2 _ => word_any fv var hv nu ex fd _ _ W2 b1))
      (fun W hb => von_expr fv var hv nu ex h0 h1 _ ek en es el _ _ W (re.on hb) b3 b4)
      (fun W hb => von_cond fv var hv nu ex h0 h1 _ ck ak an sa al bk bn sb bl l _ _ _ _ _ _ W (ra.on hb) (rb.on hb) (rl.on hb) b5 b6 b7 b8 b9)
      (fun W hb => vlr_call fv var hv nu ex h0 h1 cl _ _ _ _ W b10 (rc.on cal_keeps hb))
      (fun W hb => vlr_formula fv var hv nu ex h0 h1 iv _ _ _ _ W b11 (ri.on fm_keeps hb))
      (hsub 1024 b _ _ r1 b12) (hsub 2048 o _ _ r2 b13)
  · have hres : vSt var nu ex (vSs var nu ex dp) (.mk k ln co nm fd fr (.mk ek en es el) (.mk ck (.mk ak an sa al) (.mk bk bn sb bl) l) cl iv b o) = false := by
      exact if_neg hk
    rw [hres]
    exact stmt_out fv nu ex k dp _ (stCs_size d _) rfl hk w

set_option maxRecDepth 100000 in
set_option maxHeartbeats 4000000 in
theorem scl_any (fv : Nat) (nu ex : Int) (dp : Nat) (hdp : dp ≤ 1000) (cs : Array Value) (h24 : cs.size = 24) (br bd : Nat) (W : World) (hR : RulesAt W br fv nu ex) (hbd : bd < W.heap.size) (hD : W.cell? ⟨bd, 0, none⟩ = some (.int .i64 (dp + 1))) (v : Bool)
    (hs : ∀ W', Below W.heap.size W W' → Calls Tryz.prog 77 #[rulesV fv nu ex, .agg cs, .int .i64 dp] W' fun e w' => e = .returned (.bool v) ∧ Below W'.heap.size W' w') :
    Calls Tryz.prog 76 #[.agg cs, .pointer (some ⟨br, 0, none⟩), .pointer (some ⟨bd, 0, none⟩)] W fun e w' => e = .returned (.bool v) ∧ Below W.heap.size W w' := by
  obtain ⟨T, N, hT, hN, hag, hsz⟩ := stmt_hidden
  have e1 : ∀ y : Operand, Op.load 44 y = Op.load T y := fun y => by rw [hT]
  have e4 : ∀ y : Operand, Op.box 44 y = Op.box T y := fun y => by rw [hT]
  have hszc : cs.size = N := h24.trans hN.symm
  have hba := below_alloc W (.cells cs T)
  have q := heap_of_alloc W (.cells cs T)
  have hld := load_list (W := W.alloc (.cells cs T)) (a := ⟨W.heap.size, 0, none⟩) (N := N) (cs := cs) (fun j v hv => by rw [add_block0]; exact cell_of_block q j hv) hszc
  obtain ⟨_, c0, c1, c2⟩ := hR.stay hba hR.lt
  have hD1 := (hba.cell (p := ⟨bd, 0, none⟩) hbd).trans hD
  have HS := Lib.hid (hs _ hba)
  have HB := Lib.hid hba
  clear hs hba q hN hR hD h24 hbd
  go_enter Tryz.func76, Tryz.ntmps76
  simp only [e1, e4]
  clear e1 e4 hT
  go_wp2_with (go_at_call 77; refine HS.out.mono ?_; rintro e w2 ⟨rfl, hb⟩)
  go_ret
  exact ⟨rfl, HB.out.chain hb⟩

set_option maxRecDepth 100000 in
set_option maxHeartbeats 4000000 in
theorem sw_zero (fv : Nat) (var : List UInt8 → Bool) (nu ex : Int) : SwOk fv var nu ex 0 := by
  intro l A c W _ _ hl
  have HB := Lib.hid ((below_alloc W (rulesC fv nu ex)).chain (below_alloc _ (.cells #[.int .i64 0] 3)))
  unfold maxLen at hl
  cases l with
  | nil =>
    go_enter Tryz.func49, Tryz.ntmps49
    go_wp2
    go_ret
    exact ⟨rfl, HB.out⟩
  | cons x l =>
    obtain ⟨n, hn⟩ : ∃ n, n = (x :: l).length := ⟨_, rfl⟩
    have h0 : ¬ (n : Int) = 0 := by rw [hn, List.length_cons]; omega
    rw [← hn] at hl ⊢
    have e : vSs var nu ex 0 (x :: l) = false := rfl
    rw [e]
    clear hn e
    go_enter Tryz.func49, Tryz.ntmps49
    go_wp2
    go_ret
    exact ⟨rfl, HB.out⟩

set_option maxRecDepth 100000 in
set_option maxHeartbeats 4000000 in
theorem sw_any (fv : Nat) (var : List UInt8 → Bool) (hv : VarOk fv var) (nu ex : Int) (h0 : 0 ≤ nu) (h1 : nu ≤ 4611686018427387904) : ∀ n, n ≤ 1000 → SwOk fv var nu ex n := by
  intro n
  induction n with
  | zero => exact fun _ => sw_zero fv var nu ex
  | succ d ih =>
    intro hd l A c W hp hr hl
    obtain ⟨W1, hW1⟩ : ∃ W1, W1 = (W.alloc (rulesC fv nu ex)).alloc (.cells #[.int .i64 (d + 1)] 3) := ⟨_, rfl⟩
    have HB : Hid (Below W.heap.size W W1) := Lib.hid (by rw [hW1]; exact (below_alloc W _).chain (below_alloc _ _))
    have hR : RulesAt W1 W.heap.size fv nu ex := by rw [hW1]; exact rulesAt_new W fv nu ex (d + 1)
    have hD : W1.cell? ⟨W.heap.size + 1, 0, none⟩ = some (.int .i64 (d + 1)) := by rw [hW1]; exact depth_new W _ (d + 1)
    have hbd : W.heap.size + 1 < W1.heap.size := cell_lt2S hD
    have HV : Hid (Calls Tryz.prog 75 #[.slice A l.length c, .int .i64 1, .int .i64 100, .func (.func 76) #[] #[.pointer (some ⟨W.heap.size, 0, none⟩), .pointer (some ⟨W.heap.size + 1, 0, none⟩)]] W1 fun e w' =>
        e = .returned (.bool (decide ((1 : Int) ≤ l.length) && decide ((l.length : Int) ≤ 100) && l.all (vSt var nu ex (vSs var nu ex d)))) ∧ Below W1.heap.size W1 w') := Lib.hid
      (vl_stmt (vSt var nu ex (vSs var nu ex d)) 76 #[] #[.pointer (some ⟨W.heap.size, 0, none⟩), .pointer (some ⟨W.heap.size + 1, 0, none⟩)] (enters_of Tryz.func76 (by kernel_rfl) rfl) l A c 1 100 W1 hl (hr.on HB.out) (fun s da Wx _ hb own r1 r2 =>
        scl_any fv nu ex d (by omega) _ (stCs_size da s) W.heap.size (W.heap.size + 1) Wx (hR.stay hb hR.lt) (Nat.lt_of_lt_of_le hbd hb.size) ((hb.cell (p := ⟨W.heap.size + 1, 0, none⟩) hbd).trans hD) _ (fun W' hb' =>
          stmt_any fv var hv nu ex h0 h1 d (sw_zero fv var nu ex) (ih (by omega)) s da W' ((hp.on (HB.out.chain hb)).on hb') (own.on hb') (r1.on hb') (r2.on hb'))))
    have he := enters_of Tryz.func76 (by kernel_rfl) rfl
    have c0 := hD
    unfold maxLen at hl
    cases l with
    | nil =>
      clear hR hD hr hp ih hbd hv
      go_enter Tryz.func49, Tryz.ntmps49
      go_wp2
      go_ret
      rw [← hW1]
      exact ⟨rfl, HB.out⟩
    | cons x l =>
      obtain ⟨n, hn⟩ : ∃ n, n = (x :: l).length := ⟨_, rfl⟩
      have hne : ¬ (n : Int) = 0 := by rw [hn, List.length_cons]; omega
      have e : vSs var nu ex (d + 1) (x :: l) = (decide ((1 : Int) ≤ (x :: l).length) && decide (((x :: l).length : Int) ≤ 100) && (x :: l).all (vSt var nu ex (vSs var nu ex d))) := rfl
      rw [← hn] at hl HV e ⊢
      rw [e]
      generalize (decide ((1 : Int) ≤ n) && decide ((n : Int) ≤ 100) && (x :: l).all (vSt var nu ex (vSs var nu ex d))) = res at *
      rw [hW1] at c0
      have hd2 : (0 : Int) < (d : Int) + 1 := by omega
      have hcast : ((d + 1 : Nat) : Int) = (d : Int) + 1 := by omega
      rw [hcast]
      clear hR hD hr hp ih hbd hv hn e hcast
      go_enter Tryz.func49, Tryz.ntmps49
      go_wp2_with (go_at_call 75; rw [← hW1]; clear hW1; refine HV.out.mono ?_; rintro e w2 ⟨rfl, hb⟩)
      go_ret
      exact ⟨rfl, HB.out.chain hb⟩

set_option maxRecDepth 100000 in
set_option maxHeartbeats 4000000 in
theorem rstmts_any (fv : Nat) (var : List UInt8 → Bool) (hv : VarOk fv var) (nu ex : Int) (h0 : 0 ≤ nu) (h1 : nu ≤ 4611686018427387904) (l : List St) (A : Option Addr) (c : Nat) (w : World) (hp : PartsAt w) (hr : StRow w w.heap.size l A) (hl : l.length ≤ maxLen) :
    Calls Tryz.prog 25 #[rulesV fv nu ex, .slice A l.length c] w fun e w' => e = .returned (.bool (vSs var nu ex 30 l)) ∧ Below w.heap.size w w' := by
  have HB := Lib.hid (below_alloc w (rulesC fv nu ex))
  have HC := Lib.hid (sw_any fv var hv nu ex h0 h1 30 (by omega) l A c (w.alloc (rulesC fv nu ex)) (hp.on HB.out) (hr.on HB.out) hl)
  generalize vSs var nu ex 30 l = res at *
  unfold maxLen at hl
  clear hp hr hv h0 h1
  go_enter Tryz.func25, Tryz.ntmps25
  go_wp2_with (go_at_call 49; refine HC.out.mono ?_; rintro e w2 ⟨rfl, hb⟩)
  go_ret
  exact ⟨rfl, HB.out.chain hb⟩

set_option maxRecDepth 100000 in
set_option maxHeartbeats 4000000 in
/-- tree.Stmts says what vSs says. -/
theorem tstmts_any (l : List St) (A : Option Addr) (c : Nat) (w : World) (hp : PartsAt w) (hr : StRow w w.heap.size l A) (hl : l.length ≤ maxLen) :
    Calls Tryz.prog 11 #[.slice A l.length c] w fun e w' => e = .returned (.bool (vSs varB 1125899906842624 100 30 l)) ∧ Below w.heap.size w w' := by
  have HB := Lib.hid (below_alloc w (rulesC 36 1125899906842624 100))
  have HC := Lib.hid (rstmts_any _ varB variable_ok 1125899906842624 100 (by omega) (by omega) l A c (w.alloc (rulesC 36 1125899906842624 100)) (hp.on HB.out) (hr.on HB.out) hl)
  have HP : Hid (∀ W, Calls Tryz.prog 19 #[] W fun e w' => e = .returned (rulesV 36 1125899906842624 100) ∧ w' = W.alloc (rulesC 36 1125899906842624 100)) := Lib.hid proof_rules
  generalize vSs varB 1125899906842624 100 30 l = res at *
  unfold maxLen at hl
  clear hp hr
  go_enter Tryz.func11, Tryz.ntmps11
  go_wp2_with (first
    | (go_at_call 19; refine (HP.out _).mono ?_; rintro e w2 ⟨rfl, rfl⟩)
    | (go_at_call 25; refine HC.out.mono ?_; rintro e w3 ⟨rfl, hb⟩))
  go_ret
  exact ⟨rfl, HB.out.chain hb⟩

end Go.Proofs.YtllfkgggolfojaaGreatDoor
