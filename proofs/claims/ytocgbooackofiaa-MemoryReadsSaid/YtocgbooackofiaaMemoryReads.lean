/-
  The body of the law MemoryReads.
-/
import Derived.Test.YtocgbooackofiaaMemA
import Derived.Test.YtocgbooackofiaaMemX
namespace Go.Proofs.Ytocgbooackofiaa
open Go.RowKit Go.Lib

set_option maxRecDepth 100000 in
set_option maxHeartbeats 2000000 in
theorem reads_law (A : Option Addr) (c : Nat) (l : List Bk) (hl : l.length ≤ maxLen) (t : Int) (rc : ByteArray) (fd : Int) (w : World) (hm : MemAt w w.heap.size A l) :
    Calls Try.prog 4 #[.slice A l.length c, .int .i64 t, .string rc, .int .i64 fd] w fun e w' => e = .returned (.bool true) ∧ Below w.heap.size w w' := by
  obtain ⟨i, v, er, hA⟩ := access_ex l t rc.data.toList fd
  obtain ⟨n, hn⟩ : ∃ n, n = l.length := ⟨_, rfl⟩
  rw [← hn] at hl ⊢
  have HR : Hid (∀ W, Below w.heap.size w W → Calls Try.prog 18 #[.slice A n c, .int .i64 t, .string rc, .int .i64 fd] W fun e w' => e = .returned (.tuple #[.int .i64 v, .int .i64 er]) ∧ Below W.heap.size W w') := Lib.hid (fun W hW => by
    have := read_any A c n l hn hl t rc.data.toList fd W (hm.later hW) i v er hA
    rwa [str_list] at this)
  have HQ : Hid (∀ W, Below w.heap.size w W → Calls Try.prog 19 #[.slice A n c, .int .i64 t, .string rc, .int .i64 fd] W fun e w' => e = .returned (.tuple #[.int .i64 v, .int .i64 er]) ∧ Below W.heap.size W w') := Lib.hid (fun W hW => by
    have := rread_any A c n l hn hl t rc.data.toList fd W (hm.later hW) i v er hA
    rwa [str_list] at this)
  clear hA hn hl hm
  go_enter Try.func4, Try.ntmps4
  go_wp2_with (first
    | (go_at_call 11; refine (awake_any _).mono ?_; rintro e w1 ⟨rfl, hb⟩; have H1 := Lib.hid hb; clear hb)
    | (go_at_call 18; refine (HR.out _ H1.out).mono ?_; rintro e w2 ⟨rfl, hb⟩; have H2 := Lib.hid (H1.out.next hb); clear hb)
    | (go_at_call 19; refine (HQ.out _ H2.out).mono ?_; rintro e w3 ⟨rfl, hb⟩; have H3 := Lib.hid (H2.out.next hb); clear hb))
  go_ret
  exact ⟨rfl, H3.out⟩

end Go.Proofs.Ytocgbooackofiaa
