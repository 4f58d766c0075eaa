/-
  Contracts of package lex: skip and after.
-/
import Derived.Test.YtjdcohfdanenlaaDoorLexC
import Derived.Test.YtjdcohfdanenlaaDoorLexM2
import Derived.Deep.RegionWith
import Derived.Shelf.Strings.SlTrimAscii
namespace Go.Proofs.YtjdcohfdanenlaaDoor
open Go.RowKit

def strOf : Value → List UInt8 | .string b => b.data.toList | _ => []

theorem trim_any (s : List UInt8) (w : World) :
    Calls Tryd.prog 40 #[.string ⟨s.toArray⟩, .string ⟨#[32, 9, 13, 10]⟩] w fun e w' => e = .returned (.string ⟨(Lib.trimLeftS s wsList).toArray⟩) ∧ Below w.heap.size w w' := by
  have h := Any.strings_TrimLeft_laid Tryd.lays161 (by kernel_rfl) ⟨s.toArray⟩ ⟨#[32, 9, 13, 10]⟩ w (by decide) (ascii_of_all (by decide))
  rw [List.toList_toArray] at h
  exact h

theorem cut_any (s : List UInt8) (m : Int) (w : World) (hs : s.length ≤ 65536) (hm : w.cell? ⟨0, 0, none⟩ = some (.int .i64 m)) :
    Calls Tryd.prog 42 #[.string ⟨s.toArray⟩, .string ⟨#[10]⟩] w fun e w' => (∃ a b, e = .returned (.tuple #[a, .string ⟨(Lib.cut s [10]).2.1.toArray⟩, b])) ∧ ∃ n, w' = w.drewN n := by
  have h := Tryd.strings_Cut ⟨s.toArray⟩ ⟨#[10]⟩ m w (by show s.length < _; omega) hm
  rw [List.toList_toArray] at h
  exact h.mono fun e w' ⟨he, hw⟩ => ⟨⟨_, _, he⟩, hw⟩

theorem hash_any (s : List UInt8) (w : World) :
    Calls Tryd.prog 41 #[.string ⟨s.toArray⟩, .string ⟨#[35]⟩] w fun e w' => e = .returned (.bool (Lib.hasPrefix s [35])) ∧ w = w' := by
  have h := Tryd.strings_HasPrefix ⟨s.toArray⟩ ⟨#[35]⟩ w
  rw [List.toList_toArray] at h
  exact h.mono fun e w' ⟨he, hw⟩ => ⟨he, hw.symm⟩

set_option maxHeartbeats 1000000 in
theorem skip_any (s : List UInt8) (m : Int) (w : World) (hs : s.length ≤ 65536) (hg : 0 < w.heap.size) (hm : w.cell? ⟨0, 0, none⟩ = some (.int .i64 m)) :
    Calls Tryd.prog 21 #[.string ⟨s.toArray⟩] w fun e w' => e = .returned (.string ⟨(skipL s).toArray⟩) ∧ Below w.heap.size w w' := by
  have HM := Lib.hid hm
  clear hm
  generalize hr : skipL s = r
  have HR := Lib.hid hr
  clear hr
  go_enter Tryd.func21, Tryd.ntmps21
  go_wp2
  go_loopw [0] (fun v wr => ∃ t : List UInt8, v = .string ⟨t.toArray⟩ ∧ t.length ≤ 65536 ∧ Hid (skipL t = r) ∧ Below w.heap.size w wr) (fun v _ => (strOf v).length)
  case atStart => exact ⟨s, rfl, hs, HR, Below.refl _ _⟩
  case round =>
    obtain ⟨t, rfl, ht, HT, hb⟩ := hrel
    have hcell := Lib.hid ((hb.cell (p := ⟨0, 0, none⟩) hg).trans HM.out)
    have hle := trim_length t
    cases hp : Lib.hasPrefix (Lib.trimLeftS t wsList) [35] with
    | true =>
      have hh := skip_hash _ hp
      have HN : Hid (skipL (Lib.cut (Lib.trimLeftS t wsList) [10]).2.1 = r) := by rw [hh.1, skip_trim]; exact HT
      have hlt := hh.2
      have HTr := trim_any t wr
      generalize hu : Lib.trimLeftS t wsList = u at *
      have HCt : Hid (∀ W n, Below wr.heap.size wr W → Calls Tryd.prog 42 #[.string ⟨u.toArray⟩, .string ⟨#[10]⟩] (W.drewN n) fun e w' => (∃ a b, e = .returned (.tuple #[a, .string ⟨(Lib.cut u [10]).2.1.toArray⟩, b])) ∧ ∃ m, w' = (W.drewN n).drewN m) := Lib.hid (fun W n hW => cut_any u m _ (by omega) (((below_drewN hW n).cell (p := ⟨0, 0, none⟩) (by show 0 < wr.heap.size; have := hb.size; omega)).trans hcell.out))
      generalize hcu : (Lib.cut u [10]).2.1 = c at *
      have HP : Hid (∀ W, Calls Tryd.prog 41 #[.string ⟨u.toArray⟩, .string ⟨#[35]⟩] W fun e w' => e = .returned (.bool true) ∧ W = w') := Lib.hid (fun W => by have := hash_any u W; rw [hp] at this; exact this)
      have HTR := Lib.hid HTr
      clear hu hcu hp hh HTr
      go_wp2_with (first
        | (go_at_call 40; refine HTR.out.mono ?_; rintro e w1 ⟨rfl, hb1⟩; have hb2 := Lib.hid hb1; clear hb1)
        | (go_at_call 41; refine (HP.out _).mono ?_; rintro e w2 ⟨rfl, rfl⟩)
        | (go_at_call 42; refine (HCt.out _ 0 hb2.out).mono ?_; rintro e w2 ⟨⟨a, b, rfl⟩, n2, rfl⟩))
      go_outline
      go_roundw
      case rel => exact ⟨c, rfl, by omega, HN, hb.trans (below_drewN (hb2.out.mono hb.size) _)⟩
      case measure => show c.length < t.length; omega
    | false =>
      have HN : Hid (Lib.trimLeftS t wsList = r) := by rw [← skip_stop t hp, skip_trim]; exact HT
      have HTR := Lib.hid (trim_any t wr)
      generalize hu : Lib.trimLeftS t wsList = u at *
      have HP : Hid (∀ W, Calls Tryd.prog 41 #[.string ⟨u.toArray⟩, .string ⟨#[35]⟩] W fun e w' => e = .returned (.bool false) ∧ W = w') := Lib.hid (fun W => by have := hash_any u W; rw [hp] at this; exact this)
      clear hu hp
      go_wp2_with (first
        | (go_at_call 40; refine HTR.out.mono ?_; rintro e w1 ⟨rfl, hb1⟩; have hb2 := Lib.hid hb1; clear hb1)
        | (go_at_call 41; refine (HP.out _).mono ?_; rintro e w2 ⟨rfl, rfl⟩))
      go_ret
      exact ⟨by rw [← HN.out] <;> rfl, hb.trans (hb2.out.mono hb.size)⟩

end Go.Proofs.YtjdcohfdanenlaaDoor
