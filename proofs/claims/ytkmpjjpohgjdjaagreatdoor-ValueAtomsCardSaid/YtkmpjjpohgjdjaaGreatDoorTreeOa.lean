/-
  Arguments of type []api.Atom, opened to their rows.
-/
import Derived.Test.YtkmpjjpohgjdjaaGreatDoorTreeO
namespace Go.Proofs.YtkmpjjpohgjdjaaGreatDoor
open Go.RowKit Go.ChangeShapes Go.WideShapes Go.Deep

variable {H : Type} {enc : TypeId × Value → H} {w : World} {spare : Nat → Bool} {held : Bool}

instance : Inhabited At := ⟨⟨0, .mk 0 0 [] [], .mk 0 0 [] []⟩⟩

set_option maxRecDepth 100000 in
theorem open_atom {x : DataW H × List MemPlace} {fuel : Nat} {cs : List Value} (p : Addr) (h : DataW.trod enc Tryz.prog w 0 spare held fuel 41 cs = some x) (hc : w.cells? 0 p 9 = some cs) : ∃ e, AtAt w w.heap.size p e := by
  obtain ⟨ys, n, _, hx1, hlen, hyl, hf⟩ := DataW.trod_struct (fs := _) Tryz.underlying41 h
  have hlen2 : cs.length = 9 := hlen.trans (by kernel_rfl)
  have e0 := hf 0 _ rfl
  have e1 := hf 1 _ rfl
  have e2 := hf 2 _ rfl
  match cs, hlen2 with
  | [u0, u1, u2, u3, u4, u5, u6, u7, u8], _ =>
    match ys, hyl with
    | [y0, y1, y2], _ =>
      have k1 : Tryz.prog.cellsOf 3 = 1 := by kernel_rfl
      have k2 : Tryz.prog.cellsOf 25 = 4 := by kernel_rfl
      obtain ⟨a, ha, _⟩ := DataW.trod_int (x := y0) (cs := [u0]) Tryz.underlying3 (by simpa [k1] using e0)
      obtain ⟨ea, Aa, ca, ak, an, sa, al, rfl, hca, p1, p2, p3⟩ := open_expr (x := y1) (cs := [u1, u2, u3, u4]) (by simpa [k2] using e1)
      obtain ⟨eb, Ab, cb, bk, bn, sb, bl, rfl, hcb, q1, q2, q3⟩ := open_expr (x := y2) (cs := [u5, u6, u7, u8]) (by simpa [k2] using e2)
      injection ha with ha
      injection hca with a1 a2
      injection a2 with a2 a3
      injection a3 with a3 a4
      injection a4 with a4 _
      injection hcb with b1 b2
      injection b2 with b2 b3
      injection b3 with b3 b4
      injection b4 with b4 _
      subst ha a1 a2 a3 a4 b1 b2 b3 b4
      exact ⟨⟨a, .mk ak an sa al, .mk bk bn sb bl⟩, ak, an, sa, al, bk, bn, sb, bl, Aa, ca, Ab, cb, rfl, rfl,
        ⟨cell_at0 hc (by decide), cells4_at hc (by decide), cells4_at hc (by decide), cells4_at hc (by decide), cells4_at hc (by decide), cells4_at hc (by decide), cells4_at hc (by decide), cells4_at hc (by decide), cells4_at hc (by decide)⟩, ⟨p1, p2, q1, q2⟩, p3, q3⟩

set_option maxRecDepth 100000 in
/-- An argument of type []api.Atom. -/
theorem open_atomsA {b0 : Nat} {v : Value} {d : DataW H} {p : List MemPlace} (hv : Value.okWide Tryz.prog w .any b0 39 v) (h : DataW.Trod enc Tryz.prog w 0 spare held 39 v d p) :
    ∃ (A : Option Addr) (c : Nat) (l : List At), v = .slice A l.length c ∧ AtRow w w.heap.size l A ∧ l.length ≤ maxLen := by
  obtain ⟨A, n0, c0, rfl⟩ := okWide_slice Tryz.underlying39 hv
  obtain ⟨fuel, hf⟩ := h
  have hf : DataW.trod enc Tryz.prog w 0 spare held fuel 39 [.slice A n0 c0] = some (d, p) := by simpa [Value.cells] using hf
  obtain ⟨A', c', es, he, hr, hl⟩ := open_rows (P := AtAt) (n := 9) (by decide) Tryz.underlying39 (by kernel_rfl) (fun x fuel cs p h1 h2 => open_atom p h1 h2) hf
  injection he with he
  injection he with e1 e2 e3
  subst e1 e2 e3
  exact ⟨A, c0, es, rfl, hr, hl⟩

end Go.Proofs.YtkmpjjpohgjdjaaGreatDoor
