import Derived.Test.YtojjfdegkooknaaGreatDoorRows
import Derived.Test.YtojjfdegkooknaaGreatDoorSLexMZ
import Derived.WalkKit
import Derived.WalkSpells
import Derived.WalkLawsBesides
import Derived.Lib.Hide
import Derived.Deep.QuietTactic
import Derived.BigQuiet
import Derived.Test.YtojjfdegkooknaaGreatDoorSShelf
import Derived.LoopN
set_option linter.unusedVariables false
set_option linter.unusedSimpArgs false
namespace Go.Proofs.YtojjfdegkooknaaGreatDoor
section
open Go.RowKit
theorem qdd {k : IntKind} {a b : Int} (h : a = b) : Ending.returned (.int k a) = .returned (.int k b):=by rw [h]
theorem qd8 {P : Program} {f : FuncId} {args : Array Value} {w : World} {v : Value}
 (h : Calls P f args w fun e w' => e = .returned v /\ w = w') : Calls P f args w fun e w' => e = .returned v /\ w' = w :=
 h.mono fun _ _ ⟨he,hm⟩ => ⟨he,hm.symm⟩
theorem qcs {P : Program} {f : FuncId} {args : Array Value} {w : World} {a n : Nat} {v : Value}
 (c : Calls P f args (w.drewN (a + n)) fun e w' => e = .returned v /\ w.drewN (a + n) = w') :
 Calls P f args (w.drewN (a + n)) fun e w'' => e = .returned v /\ ∃ m,w'' = w.drewN (a + m) :=
 c.mono fun _ _ ⟨he,hm⟩ => ⟨he,n,hm.symm⟩
set_option maxHeartbeats 400000 in
theorem jg (c : Int) (w : World) :
 Calls Tryz.prog 187 #[.int .u8 c] w fun e w' => e = .returned (.bool (qaa c)) /\ w = w':=by
 unfold qaa
 by_cases h1 : 97 <= c <;> by_cases h2 : c <= 122 <;> by_cases h3 : 65 <= c <;> by_cases h4 : c <= 90
 all_goals
  go_enter Tryz.func187,Tryz.ntmps187
  go_wp2
  first
   | (exfalso;omega)
   | (go_ret;exact ⟨by simp [h1,h2,h3,h4],rfl⟩)
set_option maxHeartbeats 400000 in
theorem xO (c : Int) (w : World) :
 Calls Tryz.prog 189 #[.int .u8 c] w fun e w' => e = .returned (.bool (jn c)) /\ w = w':=by
 unfold jn
 by_cases h1 : 48 <= c <;> by_cases h2 : c <= 57
 all_goals
  go_enter Tryz.func189,Tryz.ntmps189
  go_wp2
  first
   | (exfalso;omega)
   | (go_ret;exact ⟨by simp [h1,h2],rfl⟩)
set_option maxHeartbeats 400000 in
theorem qft (s : ByteArray) (w : World) (hs : s.size <= maxLen) :
 Calls Tryz.prog 188 #[.string s] w fun e w' => e = .returned (.int .i64 (vw s.data.toList)) /\ w = w':=by
 unfold maxLen at hs
 by_cases h : s.size <= 20
 ·rw [show vw s.data.toList = 0 from if_pos h]
  have h' : ¬ (20 : Int) < s.size:=by omega
  go_enter Tryz.func188,Tryz.ntmps188
  go_wp2
  go_ret
  exact ⟨rfl,rfl⟩
 ·rw [show vw s.data.toList = 5 from if_neg h]
  have h' : (20 : Int) < s.size:=by omega
  go_enter Tryz.func188,Tryz.ntmps188
  go_wp2
  go_ret
  exact ⟨rfl,rfl⟩
theorem qlt (s : ByteArray) (h0 : 0 < s.size) (h : ¬ ((s[0].toNat : Int) = 48 /\ 1 < s.size)) : xI s.data.toList = if s.data.toList.all xV then (if qbg s.data.toList <= 1048576 then 0 else 10) else 3:=by
 unfold xI
 rw [if_neg]
 rintro ⟨hh,h1⟩
 rw [qiD s h0] at hh
 refine h ⟨?_,h1⟩
 rw [Option.some.inj hh];rfl
set_option maxHeartbeats 400000 in
theorem qhj (s : ByteArray) (w : World) (hs : s.size <= maxLen) (h1 : 1 < s.size) (hz : ((s[0].toNat : Int) == 48) = true) :
 Calls Tryz.prog 190 #[.string s] w fun e w' => e = .returned (.int .i64 3) /\ w = w':=by
 unfold maxLen at hs
 have h1' : (1 : Int) < s.size:=by omega
 have h0 : 0 < s.size:=by omega
 go_enter Tryz.func190,Tryz.ntmps190
 go_wp2
 go_ret
 exact ⟨rfl,rfl⟩
set_option maxHeartbeats 1000000 in
theorem qhk (s : ByteArray) (w : World) (hs : s.size <= maxLen) (h0 : 0 < s.size) (hn : ¬ ((s[0].toNat : Int) = 48 /\ 1 < s.size)) :
 Calls Tryz.prog 190 #[.string s] w fun e w' => e = .returned (.int .i64 (xI s.data.toList)) /\ w = w':=by
 unfold maxLen at hs
 have HC:=hZ (qlt s h0 hn)
 generalize hc : xI s.data.toList = c at *
 clear hc
 by_cases hz : (s[0].toNat : Int) = 48
 ·have h1 : ¬ (1 : Int) < s.size:=by omega
  have hz' : ((s[0].toNat : Int) == 48) = true:=by rw [beq_iff_eq];exact hz
  clear hz hn
  go_enter Tryz.func190,Tryz.ntmps190
  go_wp2
  clear hz' h1
  go_loop [3,15] (fun n j => ∃ k : Nat,k <= s.size /\ j = .int .i64 k /\ n = .int .i64 (qbg (s.data.toList.take k)) /\ Hid ((s.data.toList.take k).all xV = true)) (fun _ j => s.size - (intOf j).toNat)
  case atStart => exact ⟨0,Nat.zero_le _,rfl,rfl,rfl⟩
  case round =>
   obtain ⟨k,hk,rfl,rfl,HA⟩:=hrel
   have hb:=qlP _ HA.out
   generalize hm : qbg (s.data.toList.take k) = m at *
   have HM:=hZ hm
   clear hm
   by_cases qB : k < s.size
   ·by_cases hd : xV s[k] = true
    ·have hbd:=qkJ hd
     have hd' : jn (s[k].toNat : Int) = true:=hd
     have HS : Hid (qbg (s.data.toList.take (k + 1)) = min (10 * m + ((s[k].toNat : Int) - 48)) 1048577):=by
      rw [qbm s k qB,qi8,HM.out];rfl
     have HT:=hZ (qfv s k qB HA.out hd)
     clear hd
     go_wp2_with (go_at_call 189;refine (xO _ _).mono ?_;rintro e w' ⟨rfl,rfl⟩)
     go_round
     case rel => exact ⟨k + 1,by omega,by go_num,by rw [HS.out] <;> (congr 1 <;> omega),HT⟩
     case measure => simp [intOf];omega
    ·have hd' : jn (s[k].toNat : Int) = false:=by simpa [xV] using hd
     have qhf : c = 3:=by rw [HC.out,if_neg (by rw [qhL s k qB (by simpa using hd)];decide)]
     have HF:=hZ qhf
     clear hd qhf
     go_wp2_with (go_at_call 189;refine (xO _ _).mono ?_;rintro e w' ⟨rfl,rfl⟩)
     go_ret
     exact ⟨qdd HF.out.symm,rfl⟩
   ·have hke : k = s.size:=by omega
    have ja : s.data.toList.take k = s.data.toList:=List.take_of_length_le (by rw [qaC];omega)
    have HA' : Hid (s.data.toList.all xV = true):=by rw [<- ja];exact HA
    have HM' : Hid (qbg s.data.toList = m):=by rw [<- ja];exact HM
    have HE : Hid (c = if m <= 1048576 then 0 else 10):=by rw [HC.out,if_pos HA'.out,HM'.out];rfl
    clear ja hke
    by_cases hg : 1048576 < m
    ·have HF : Hid (c = 10):=by rw [HE.out,if_neg (by omega)];rfl
     go_wp2
     go_ret
     exact ⟨qdd HF.out.symm,rfl⟩
    ·have HF : Hid (c = 0):=by rw [HE.out,if_pos (by omega)];rfl
     go_wp2
     go_ret
     exact ⟨qdd HF.out.symm,rfl⟩
 ·have hz' : ((s[0].toNat : Int) == 48) = false:=by rw [beq_eq_false_iff_ne];exact hz
  clear hz hn
  go_enter Tryz.func190,Tryz.ntmps190
  go_wp2
  clear hz'
  go_loop [3,15] (fun n j => ∃ k : Nat,k <= s.size /\ j = .int .i64 k /\ n = .int .i64 (qbg (s.data.toList.take k)) /\ Hid ((s.data.toList.take k).all xV = true)) (fun _ j => s.size - (intOf j).toNat)
  case atStart => exact ⟨0,Nat.zero_le _,rfl,rfl,rfl⟩
  case round =>
   obtain ⟨k,hk,rfl,rfl,HA⟩:=hrel
   have hb:=qlP _ HA.out
   generalize hm : qbg (s.data.toList.take k) = m at *
   have HM:=hZ hm
   clear hm
   by_cases qB : k < s.size
   ·by_cases hd : xV s[k] = true
    ·have hbd:=qkJ hd
     have hd' : jn (s[k].toNat : Int) = true:=hd
     have HS : Hid (qbg (s.data.toList.take (k + 1)) = min (10 * m + ((s[k].toNat : Int) - 48)) 1048577):=by
      rw [qbm s k qB,qi8,HM.out];rfl
     have HT:=hZ (qfv s k qB HA.out hd)
     clear hd
     go_wp2_with (go_at_call 189;refine (xO _ _).mono ?_;rintro e w' ⟨rfl,rfl⟩)
     go_round
     case rel => exact ⟨k + 1,by omega,by go_num,by rw [HS.out] <;> (congr 1 <;> omega),HT⟩
     case measure => simp [intOf];omega
    ·have hd' : jn (s[k].toNat : Int) = false:=by simpa [xV] using hd
     have qhf : c = 3:=by rw [HC.out,if_neg (by rw [qhL s k qB (by simpa using hd)];decide)]
     have HF:=hZ qhf
     clear hd qhf
     go_wp2_with (go_at_call 189;refine (xO _ _).mono ?_;rintro e w' ⟨rfl,rfl⟩)
     go_ret
     exact ⟨qdd HF.out.symm,rfl⟩
   ·have hke : k = s.size:=by omega
    have ja : s.data.toList.take k = s.data.toList:=List.take_of_length_le (by rw [qaC];omega)
    have HA' : Hid (s.data.toList.all xV = true):=by rw [<- ja];exact HA
    have HM' : Hid (qbg s.data.toList = m):=by rw [<- ja];exact HM
    have HE : Hid (c = if m <= 1048576 then 0 else 10):=by rw [HC.out,if_pos HA'.out,HM'.out];rfl
    clear ja hke
    by_cases hg : 1048576 < m
    ·have HF : Hid (c = 10):=by rw [HE.out,if_neg (by omega)];rfl
     go_wp2
     go_ret
     exact ⟨qdd HF.out.symm,rfl⟩
    ·have HF : Hid (c = 0):=by rw [HE.out,if_pos (by omega)];rfl
     go_wp2
     go_ret
     exact ⟨qdd HF.out.symm,rfl⟩
theorem qeb (s : ByteArray) (w : World) (hs : s.size <= maxLen) (h0 : 0 < s.size) :
 Calls Tryz.prog 190 #[.string s] w fun e w' => e = .returned (.int .i64 (xI s.data.toList)) /\ w = w':=by
 by_cases hn : (s[0].toNat : Int) = 48 /\ 1 < s.size
 ·have qhf : xI s.data.toList = 3:=by
   unfold xI
   rw [if_pos ⟨by rw [qiD s h0];congr 1;apply UInt8.toNat_inj.1;show s[0].toNat = 48;omega,by rw [qaC];exact hn.2⟩]
  rw [qhf]
  exact qhj s w hs hn.2 (by rw [beq_iff_eq];exact hn.1)
 ·exact qhk s w hs h0 hn
end
section
open Go.RowKit
set_option maxHeartbeats 400000 in
theorem qht (s : ByteArray) (W : World) (p1 p2 p3 : Value) (he : s.toList = []) :
 Calls Tryz.prog 210 #[.string s,p1,p2,p3] W fun e w' => e = .returned (.tuple #[.int .i64 0,.string ⟨#[]⟩,.int .i64 3]) /\ ∃ n,w' = W.drewN n:=by
 go_enter Tryz.func210,Tryz.ntmps210
 go_wp2
 go_quiet (fail)
 go_wp2
 go_ret3
 exact ⟨rfl,_,rfl⟩
set_option maxHeartbeats 400000 in
theorem qpw (s : ByteArray) (W : World) (p2 p3 : Value) (b1 : Nat) (h1 : W.cell? ⟨b1,0,none⟩ = some (.func (.func 187) #[] #[])) (h0 : 0 < s.size) (he : s.toList.isEmpty = false) (hb : qaa (s[0].toNat : Int) = false) :
 Calls Tryz.prog 210 #[.string s,.pointer (some ⟨b1,0,none⟩),p2,p3] W fun e w' => e = .returned (.tuple #[.int .i64 0,.string ⟨#[]⟩,.int .i64 3]) /\ ∃ n,w' = W.drewN n:=by
 go_enter Tryz.func210,Tryz.ntmps210
 go_wp2
 go_quiet ((go_at_call 187;exact Calls.quiet_of_same (qd8 (jg _ _))))
 go_wp2
 go_ret3
 exact ⟨rfl,_,rfl⟩
theorem qmI (s : ByteArray) (n : Nat) : s.extract 0 n = ⟨(s.data.toList.take n).toArray⟩:=by
 rw [show s.extract 0 n = (ByteArray.mk s.data).extract 0 n from rfl,ByteArray.extract_mk]
 congr 1
theorem qiV (s : ByteArray) (n : Nat) (h : n <= s.size) (ha : (s.data.toList.take n).all prt = true) (hc : ∀ _ : n < s.size,prt s[n] = false) : s.extract 0 n = ⟨(xQ s.data.toList).toArray⟩:=by
 rw [qmI,qsr s n h ha hc]
def Hit (k : Int) (r : List UInt8) (c : Int) (W : World) (e : Ending) (w' : World) : Prop:=e = .returned (.tuple #[.int .i64 k,.string ⟨r.toArray⟩,.int .i64 c]) /\ ∃ n,w' = W.drewN n
set_option maxHeartbeats 2000000 in
theorem qpx (s : ByteArray) (W : World) (b1 b2 b3 : Nat) (h1 : W.cell? ⟨b1,0,none⟩ = some (.func (.func 187) #[] #[])) (h2 : W.cell? ⟨b2,0,none⟩ = some (.int .i64 1)) (h3 : W.cell? ⟨b3,0,none⟩ = some (.func (.func 188) #[] #[]))
 (hs : s.size <= maxLen) (h0 : 0 < s.size) (he : s.toList.isEmpty = false) (hb : qaa (s[0].toNat : Int) = true) :
 Calls Tryz.prog 210 #[.string s,.pointer (some ⟨b1,0,none⟩),.pointer (some ⟨b2,0,none⟩),.pointer (some ⟨b3,0,none⟩)] W (Hit 1 (xQ s.data.toList) (vw (xQ s.data.toList)) W):=by
 have HM:=hZ hs
 unfold maxLen at hs
 have HP:=hZ (qjo s h0 (qeZ hb))
 have HR : Hid (∀ n,n <= s.size -> (s.data.toList.take n).all prt = true -> (∀ _ : n < s.size,prt s[n] = false) -> s.extract 0 n = ⟨(xQ s.data.toList).toArray⟩):=qiV s
 generalize hr : xQ s.data.toList = r at *
 clear hr
 go_enter Tryz.func210,Tryz.ntmps210
 go_wp2
 go_quiet ((go_at_call 187;exact Calls.quiet_of_same (qd8 (jg _ _))))
 clear hb
 go_wp2
 go_loop [8] (fun j => ∃ k : Nat,1 <= k /\ k <= s.size /\ j = .int .i64 k /\ Hid ((s.data.toList.take k).all prt = true)) (fun j => s.size - (intOf j).toNat)
 case atStart => exact ⟨1,Nat.le_refl _,h0,rfl,HP⟩
 case round =>
  obtain ⟨k,hk1,hk,rfl,HA⟩:=hrel
  by_cases qB : k < s.size
  ·by_cases hl : ltr s[k] = true
   ·have hl' : qaa (s[k].toNat : Int) = true:=hl
    have HT:=hZ (vR s k qB HA.out (qeZ hl))
    clear hl
    go_wp2_with (go_at_call 187;refine (jg _ _).mono ?_;rintro e w' ⟨rfl,rfl⟩)
    go_round
    case rel => exact ⟨k + 1,by omega,by omega,by go_num,HT⟩
    case measure => simp [intOf];omega
   ·have hl' : qaa (s[k].toNat : Int) = false:=by simpa [ltr] using hl
    by_cases hd : xV s[k] = true
    ·have hd' : jn (s[k].toNat : Int) = true:=hd
     have HT:=hZ (vR s k qB HA.out (qe0 hd))
     clear hl hd
     go_wp2_with (first | (go_at_call 187;refine (jg _ _).mono ?_;rintro e w' ⟨rfl,rfl⟩) | (go_at_call 189;refine (xO _ _).mono ?_;rintro e w' ⟨rfl,rfl⟩))
     go_round
     case rel => exact ⟨k + 1,by omega,by omega,by go_num,HT⟩
     case measure => simp [intOf];omega
    ·have hd' : jn (s[k].toNat : Int) = false:=by simpa [xV] using hd
     by_cases hu : s[k].toNat = 95
     ·have hu' : ((s[k].toNat : Int) == 95) = true:=by rw [beq_iff_eq];omega
      have HT:=hZ (vR s k qB HA.out (qiZ hu))
      clear hl hd hu
      go_wp2_with (first | (go_at_call 187;refine (jg _ _).mono ?_;rintro e w' ⟨rfl,rfl⟩) | (go_at_call 189;refine (xO _ _).mono ?_;rintro e w' ⟨rfl,rfl⟩))
      go_round
      case rel => exact ⟨k + 1,by omega,by omega,by go_num,HT⟩
      case measure => simp [intOf];omega
     ·have hu' : ((s[k].toNat : Int) == 95) = false:=by rw [beq_eq_false_iff_ne];omega
      have HE : Hid (s.extract 0 k = ⟨r.toArray⟩):=HR.out k hk HA.out (fun _ => qlE (by simpa using hl) (by simpa using hd) hu)
      have HZ : Hid (∀ w,Calls Tryz.prog 188 #[.string (s.extract 0 k)] w fun e w' => e = .returned (.int .i64 (vw r)) /\ w = w'):=hZ (fun w => by
       have h:=qft (s.extract 0 k) w (by rw [ByteArray.size_extract];have := HM.out;omega)
       have e : (s.extract 0 k).data.toList = r:=by rw [HE.out]
       rw [e] at h
       exact h)
      clear hl hd hu
      go_wp2_with (first | (go_at_call 187;refine (jg _ _).mono ?_;rintro e w' ⟨rfl,rfl⟩) | (go_at_call 189;refine (xO _ _).mono ?_;rintro e w' ⟨rfl,rfl⟩))
      go_quiet ((go_at_call 188;exact qcs (HZ.out _)))
      go_wp2
      go_ret3
      exact ⟨by rw [<- HE.out] <;> rfl,_,World.drewN_drewN ..⟩
  ·have hke : k = s.size:=by omega
   have HE : Hid (s.extract 0 k = ⟨r.toArray⟩):=HR.out k hk HA.out (fun h => absurd h qB)
   have HZ : Hid (∀ w,Calls Tryz.prog 188 #[.string (s.extract 0 k)] w fun e w' => e = .returned (.int .i64 (vw r)) /\ w = w'):=hZ (fun w => by
    have h:=qft (s.extract 0 k) w (by rw [ByteArray.size_extract];have := HM.out;omega)
    have e : (s.extract 0 k).data.toList = r:=by rw [HE.out]
    rw [e] at h
    exact h)
   clear hke
   go_wp2
   go_quiet ((go_at_call 188;exact qcs (HZ.out _)))
   go_wp2
   go_ret3
   exact ⟨by rw [<- HE.out] <;> rfl,_,World.drewN_drewN ..⟩
set_option maxHeartbeats 400000 in
theorem qmW (s : ByteArray) (W : World) (p2 p3 : Value) (b1 : Nat) (h1 : W.cell? ⟨b1,0,none⟩ = some (.func (.func 189) #[] #[])) (h0 : 0 < s.size) (he : s.toList.isEmpty = false) (hb : jn (s[0].toNat : Int) = false) :
 Calls Tryz.prog 210 #[.string s,.pointer (some ⟨b1,0,none⟩),p2,p3] W fun e w' => e = .returned (.tuple #[.int .i64 0,.string ⟨#[]⟩,.int .i64 3]) /\ ∃ n,w' = W.drewN n:=by
 go_enter Tryz.func210,Tryz.ntmps210
 go_wp2
 go_quiet ((go_at_call 189;exact Calls.quiet_of_same (qd8 (xO _ _))))
 go_wp2
 go_ret3
 exact ⟨rfl,_,rfl⟩
set_option maxHeartbeats 2000000 in
theorem qmX (s : ByteArray) (W : World) (b1 b2 b3 : Nat) (h1 : W.cell? ⟨b1,0,none⟩ = some (.func (.func 189) #[] #[])) (h2 : W.cell? ⟨b2,0,none⟩ = some (.int .i64 2)) (h3 : W.cell? ⟨b3,0,none⟩ = some (.func (.func 190) #[] #[]))
 (hs : s.size <= maxLen) (h0 : 0 < s.size) (he : s.toList.isEmpty = false) (hb : jn (s[0].toNat : Int) = true) :
 Calls Tryz.prog 210 #[.string s,.pointer (some ⟨b1,0,none⟩),.pointer (some ⟨b2,0,none⟩),.pointer (some ⟨b3,0,none⟩)] W (Hit 2 (xQ s.data.toList) (xI (xQ s.data.toList)) W):=by
 have HM:=hZ hs
 unfold maxLen at hs
 have HP:=hZ (qjo s h0 (qe0 hb))
 have HR : Hid (∀ n,n <= s.size -> (s.data.toList.take n).all prt = true -> (∀ _ : n < s.size,prt s[n] = false) -> s.extract 0 n = ⟨(xQ s.data.toList).toArray⟩):=qiV s
 generalize hr : xQ s.data.toList = r at *
 clear hr
 go_enter Tryz.func210,Tryz.ntmps210
 go_wp2
 go_quiet ((go_at_call 189;exact Calls.quiet_of_same (qd8 (xO _ _))))
 clear hb
 go_wp2
 go_loop [8] (fun j => ∃ k : Nat,1 <= k /\ k <= s.size /\ j = .int .i64 k /\ Hid ((s.data.toList.take k).all prt = true)) (fun j => s.size - (intOf j).toNat)
 case atStart => exact ⟨1,Nat.le_refl _,h0,rfl,HP⟩
 case round =>
  obtain ⟨k,hk1,hk,rfl,HA⟩:=hrel
  by_cases qB : k < s.size
  ·by_cases hl : ltr s[k] = true
   ·have hl' : qaa (s[k].toNat : Int) = true:=hl
    have HT:=hZ (vR s k qB HA.out (qeZ hl))
    clear hl
    go_wp2_with (go_at_call 187;refine (jg _ _).mono ?_;rintro e w' ⟨rfl,rfl⟩)
    go_round
    case rel => exact ⟨k + 1,by omega,by omega,by go_num,HT⟩
    case measure => simp [intOf];omega
   ·have hl' : qaa (s[k].toNat : Int) = false:=by simpa [ltr] using hl
    by_cases hd : xV s[k] = true
    ·have hd' : jn (s[k].toNat : Int) = true:=hd
     have HT:=hZ (vR s k qB HA.out (qe0 hd))
     clear hl hd
     go_wp2_with (first | (go_at_call 187;refine (jg _ _).mono ?_;rintro e w' ⟨rfl,rfl⟩) | (go_at_call 189;refine (xO _ _).mono ?_;rintro e w' ⟨rfl,rfl⟩))
     go_round
     case rel => exact ⟨k + 1,by omega,by omega,by go_num,HT⟩
     case measure => simp [intOf];omega
    ·have hd' : jn (s[k].toNat : Int) = false:=by simpa [xV] using hd
     by_cases hu : s[k].toNat = 95
     ·have hu' : ((s[k].toNat : Int) == 95) = true:=by rw [beq_iff_eq];omega
      have HT:=hZ (vR s k qB HA.out (qiZ hu))
      clear hl hd hu
      go_wp2_with (first | (go_at_call 187;refine (jg _ _).mono ?_;rintro e w' ⟨rfl,rfl⟩) | (go_at_call 189;refine (xO _ _).mono ?_;rintro e w' ⟨rfl,rfl⟩))
      go_round
      case rel => exact ⟨k + 1,by omega,by omega,by go_num,HT⟩
      case measure => simp [intOf];omega
     ·have hu' : ((s[k].toNat : Int) == 95) = false:=by rw [beq_eq_false_iff_ne];omega
      have HE : Hid (s.extract 0 k = ⟨r.toArray⟩):=HR.out k hk HA.out (fun _ => qlE (by simpa using hl) (by simpa using hd) hu)
      have HZ : Hid (∀ w,Calls Tryz.prog 190 #[.string (s.extract 0 k)] w fun e w' => e = .returned (.int .i64 (xI r)) /\ w = w'):=hZ (fun w => by
       have h:=qeb (s.extract 0 k) w (by rw [ByteArray.size_extract];have := HM.out;omega) (by rw [ByteArray.size_extract];omega)
       have e : (s.extract 0 k).data.toList = r:=by rw [HE.out]
       rw [e] at h
       exact h)
      clear hl hd hu
      go_wp2_with (first | (go_at_call 187;refine (jg _ _).mono ?_;rintro e w' ⟨rfl,rfl⟩) | (go_at_call 189;refine (xO _ _).mono ?_;rintro e w' ⟨rfl,rfl⟩))
      go_quiet ((go_at_call 190;exact qcs (HZ.out _)))
      go_wp2
      go_ret3
      exact ⟨by rw [<- HE.out] <;> rfl,_,World.drewN_drewN ..⟩
  ·have hke : k = s.size:=by omega
   have HE : Hid (s.extract 0 k = ⟨r.toArray⟩):=HR.out k hk HA.out (fun h => absurd h qB)
   have HZ : Hid (∀ w,Calls Tryz.prog 190 #[.string (s.extract 0 k)] w fun e w' => e = .returned (.int .i64 (xI r)) /\ w = w'):=hZ (fun w => by
    have h:=qeb (s.extract 0 k) w (by rw [ByteArray.size_extract];have := HM.out;omega) (by rw [ByteArray.size_extract];omega)
    have e : (s.extract 0 k).data.toList = r:=by rw [HE.out]
    rw [e] at h
    exact h)
   clear hke
   go_wp2
   go_quiet ((go_at_call 190;exact qcs (HZ.out _)))
   go_wp2
   go_ret3
   exact ⟨by rw [<- HE.out] <;> rfl,_,World.drewN_drewN ..⟩
end
section
open Go.RowKit
def qeu : Array Value:=(jI.map fun l => Value.string ⟨l.toArray⟩).toArray
set_option maxHeartbeats 400000 in
theorem qlf (w : World) :
 Calls Tryz.prog 192 #[] w fun e w' => e = .returned (.slice (some ⟨w.heap.size,0,none⟩) 22 22) /\ w' = w.alloc (.cells qeu 9):=by
 go_enter Tryz.func192,Tryz.ntmps192
 go_wp2
 go_ret
 exact ⟨rfl,rfl⟩
set_option maxHeartbeats 1000000 in
theorem qhA (s : ByteArray) (W : World) (b1 b2 : Nat) (h1 : W.cell? ⟨b1,0,none⟩ = some (.slice (some ⟨b2,0,none⟩) 22 22)) (h2 : ∀ k,k < 22 -> W.cell? ⟨b2,k,none⟩ = some (.string ⟨(jI.getD k []).toArray⟩)) :
 Calls Tryz.prog 211 #[.string s,.pointer (some ⟨b1,0,none⟩)] W (Hit (vJ s.data.toList) (xX s.data.toList) (qaB s.data.toList) W):=by
 have HK:=hZ (qmB s.data.toList)
 have HN:=hZ (qj1 s.data.toList)
 have H2:=hZ h2
 clear h2
 generalize vJ s.data.toList = rk at *
 generalize xX s.data.toList = rt at *
 generalize qaB s.data.toList = re at *
 go_enter Tryz.func211,Tryz.ntmps211
 go_wp2
 go_loop [10] (fun j => ∃ k : Nat,k <= 22 /\ j = .int .i64 k /\ Hid (∀ i,i < k -> Lib.hasPrefix s.data.toList (jI.getD i []) = false)) (fun j => 22 - (intOf j).toNat)
 case atStart => exact ⟨0,by omega,rfl,fun i hi => absurd hi (Nat.not_lt_zero i)⟩
 case round =>
  obtain ⟨k,hk,rfl,HA⟩:=hrel
  by_cases qB : k < 22
  ·have qng:=H2.out k qB
   by_cases hp : Lib.hasPrefix s.data.toList (jI.getD k []) = true
   ·have HC : Hid (∀ w,Calls Tryz.prog 212 #[.string s,.string ⟨(jI.getD k []).toArray⟩] w fun e w' => e = .returned (.bool true) /\ w' = w):=hZ (fun w => by
     have h:=Tryz.strings_HasPrefix s ⟨(jI.getD k []).toArray⟩ w
     rw [List.toList_toArray,hp] at h
     exact h)
    have HF:=hZ (HK.out k qB HA.out hp)
    clear hp
    generalize hg : jI.getD k [] = t at *
    clear hg
    go_wp2_with (go_at_call 212;refine (HC.out _).mono ?_;rintro e w' ⟨rfl,rfl⟩)
    go_ret3
    exact ⟨by rw [HF.out.1,HF.out.2.1,HF.out.2.2] <;> rfl,0,rfl⟩
   ·have HC : Hid (∀ w,Calls Tryz.prog 212 #[.string s,.string ⟨(jI.getD k []).toArray⟩] w fun e w' => e = .returned (.bool false) /\ w' = w):=hZ (fun w => by
     have h:=Tryz.strings_HasPrefix s ⟨(jI.getD k []).toArray⟩ w
     rw [List.toList_toArray,show Lib.hasPrefix s.data.toList (jI.getD k []) = false by simpa using hp] at h
     exact h)
    have HT : Hid (∀ i,i < k + 1 -> Lib.hasPrefix s.data.toList (jI.getD i []) = false):=hZ (fun i hi => by
     by_cases e : i = k
     ·subst e;simpa using hp
     ·exact HA.out i (by omega))
    clear hp
    generalize hg : jI.getD k [] = t at *
    clear hg
    go_wp2_with (go_at_call 212;refine (HC.out _).mono ?_;rintro e w' ⟨rfl,rfl⟩)
    go_round
    case rel => exact ⟨k + 1,by omega,by go_num,HT⟩
    case measure => simp [intOf];omega
  ·have hke : k = 22:=by omega
   have HF:=hZ (HN.out (fun i hi => HA.out i (by omega)))
   clear hke
   go_wp2
   go_ret3
   exact ⟨by rw [HF.out.1,HF.out.2.1,HF.out.2.2] <;> rfl,0,rfl⟩
structure TakerAt (W : World) (n : Nat) : Prop where
 k1 : W.cell? ⟨n,0,none⟩ = some (.int .i64 1)
 b1 : W.cell? ⟨n + 1,0,none⟩ = some (.func (.func 187) #[] #[])
 c1 : W.cell? ⟨n + 2,0,none⟩ = some (.func (.func 188) #[] #[])
 k2 : W.cell? ⟨n + 3,0,none⟩ = some (.int .i64 2)
 b2 : W.cell? ⟨n + 4,0,none⟩ = some (.func (.func 189) #[] #[])
 c2 : W.cell? ⟨n + 5,0,none⟩ = some (.func (.func 190) #[] #[])
 sy : ∀ k,k < 22 -> W.cell? ⟨n + 6,k,none⟩ = some (.string ⟨(jI.getD k []).toArray⟩)
 sl : W.cell? ⟨n + 7,0,none⟩ = some (.slice (some ⟨n + 6,0,none⟩) 22 22)
 t0 : W.cell? ⟨n + 8,0,none⟩ = some (.func (.func 210) #[] #[.pointer (some ⟨n + 1,0,none⟩),.pointer (some ⟨n,0,none⟩),.pointer (some ⟨n + 2,0,none⟩)])
 t1 : W.cell? ⟨n + 8,1,none⟩ = some (.func (.func 210) #[] #[.pointer (some ⟨n + 4,0,none⟩),.pointer (some ⟨n + 3,0,none⟩),.pointer (some ⟨n + 5,0,none⟩)])
 t2 : W.cell? ⟨n + 8,2,none⟩ = some (.func (.func 211) #[] #[.pointer (some ⟨n + 7,0,none⟩)])
 ts : W.cell? ⟨n + 9,0,none⟩ = some (.slice (some ⟨n + 8,0,none⟩) 3 3)
theorem TakerAt.later {W W' : World} {n : Nat} (h : TakerAt W n) {B : Nat} (hB : n + 10 <= B) (hb : Below B W W') : TakerAt W' n where
 k1:=(hb.cell (p:=⟨n,0,none⟩) (by show n < B;omega)).trans h.k1
 b1:=(hb.cell (p:=⟨n + 1,0,none⟩) (by show n + 1 < B;omega)).trans h.b1
 c1:=(hb.cell (p:=⟨n + 2,0,none⟩) (by show n + 2 < B;omega)).trans h.c1
 k2:=(hb.cell (p:=⟨n + 3,0,none⟩) (by show n + 3 < B;omega)).trans h.k2
 b2:=(hb.cell (p:=⟨n + 4,0,none⟩) (by show n + 4 < B;omega)).trans h.b2
 c2:=(hb.cell (p:=⟨n + 5,0,none⟩) (by show n + 5 < B;omega)).trans h.c2
 sy:=fun k hk => (hb.cell (p:=⟨n + 6,k,none⟩) (by show n + 6 < B;omega)).trans (h.sy k hk)
 sl:=(hb.cell (p:=⟨n + 7,0,none⟩) (by show n + 7 < B;omega)).trans h.sl
 t0:=(hb.cell (p:=⟨n + 8,0,none⟩) (by show n + 8 < B;omega)).trans h.t0
 t1:=(hb.cell (p:=⟨n + 8,1,none⟩) (by show n + 8 < B;omega)).trans h.t1
 t2:=(hb.cell (p:=⟨n + 8,2,none⟩) (by show n + 8 < B;omega)).trans h.t2
 ts:=(hb.cell (p:=⟨n + 9,0,none⟩) (by show n + 9 < B;omega)).trans h.ts
def qbC (w : World) : World:=(((((((((w.alloc (.cells #[.int .i64 1] 3)).alloc (.cells #[.func (.func 187) #[] #[]] 249)).alloc (.cells #[.func (.func 188) #[] #[]] 250)).alloc (.cells #[.int .i64 2] 3)).alloc (.cells #[.func (.func 189) #[] #[]] 249)).alloc (.cells #[.func (.func 190) #[] #[]] 250)).alloc (.cells qeu 9)).alloc (.cells #[.slice (some ⟨w.heap.size + 6,0,none⟩) 22 22] 98)).alloc (.cells #[.func (.func 210) #[] #[.pointer (some ⟨w.heap.size + 1,0,none⟩),.pointer (some ⟨w.heap.size,0,none⟩),.pointer (some ⟨w.heap.size + 2,0,none⟩)],.func (.func 210) #[] #[.pointer (some ⟨w.heap.size + 4,0,none⟩),.pointer (some ⟨w.heap.size + 3,0,none⟩),.pointer (some ⟨w.heap.size + 5,0,none⟩)],.func (.func 211) #[] #[.pointer (some ⟨w.heap.size + 7,0,none⟩)]] 221)).alloc (.cells #[.slice (some ⟨w.heap.size + 8,0,none⟩) 3 3] 262)
theorem yu (w : World) : (qbC w).heap = w.heap ++ #[.cells #[.int .i64 1] 3,.cells #[.func (.func 187) #[] #[]] 249,.cells #[.func (.func 188) #[] #[]] 250,.cells #[.int .i64 2] 3,.cells #[.func (.func 189) #[] #[]] 249,.cells #[.func (.func 190) #[] #[]] 250,.cells qeu 9,.cells #[.slice (some ⟨w.heap.size + 6,0,none⟩) 22 22] 98,.cells #[.func (.func 210) #[] #[.pointer (some ⟨w.heap.size + 1,0,none⟩),.pointer (some ⟨w.heap.size,0,none⟩),.pointer (some ⟨w.heap.size + 2,0,none⟩)],.func (.func 210) #[] #[.pointer (some ⟨w.heap.size + 4,0,none⟩),.pointer (some ⟨w.heap.size + 3,0,none⟩),.pointer (some ⟨w.heap.size + 5,0,none⟩)],.func (.func 211) #[] #[.pointer (some ⟨w.heap.size + 7,0,none⟩)]] 221,.cells #[.slice (some ⟨w.heap.size + 8,0,none⟩) 3 3] 262]:=by
 rfl
theorem qle (w : World) : (qbC w).heap.size = w.heap.size + 10:=by rw [yu,Array.size_append];rfl
theorem qj0 (w : World) : Below w.heap.size w (qbC w):=by
 unfold qbC
 exact (((((((((((Below.refl _ w).alloc (by simp) _).alloc (by simp <;> omega) _).alloc (by simp <;> omega) _).alloc (by simp <;> omega) _).alloc (by simp <;> omega) _).alloc (by simp <;> omega) _).alloc (by simp <;> omega) _).alloc (by simp <;> omega) _).alloc (by simp <;> omega) _).alloc (by simp <;> omega) _)
set_option maxHeartbeats 400000 in
theorem qhw (w : World) :
 Calls Tryz.prog 152 #[] w fun e w' => e = .returned (.func (.func 209) #[] #[.pointer (some ⟨w.heap.size + 9,0,none⟩)]) /\ w' = qbC w:=by
 go_enter Tryz.func152,Tryz.ntmps152
 go_wp2_with (first | (go_at_call 192;refine (qlf _).mono ?_;rintro e w' ⟨rfl,rfl⟩) | go_in)
 go_ret
 exact ⟨rfl,rfl⟩
theorem xo (w : World) (i j : Nat) (v : Value) (B : Array Obj) (hB : (qbC w).heap = w.heap ++ B) (h : (match B[i]? with | some (.cells c _ _) => c[j]? | _ => none) = some v) : (qbC w).cell? ⟨w.heap.size + i,j,none⟩ = some v:=by
 have e : (qbC w).heap[w.heap.size + i]? = B[i]?:=by rw [hB,Array.getElem?_append_right (by omega),Nat.add_sub_cancel_left]
 unfold World.cell?
 simp only [e]
 revert h
 cases B[i]? with
 | none => exact id
 | some o => cases o <;> exact id
theorem qpS : ∀ k,k < 22 -> qeu[k]? = some (.string ⟨(jI.getD k []).toArray⟩):=by
 intro k hk
 have h2 : k < jI.length:=hk
 unfold qeu
 rw [List.getElem?_toArray,List.getElem?_map,List.getD_eq_getElem?_getD,List.getElem?_eq_getElem h2]
 rfl
theorem qnM (w : World) : TakerAt (qbC w) w.heap.size where
 k1:=xo w 0 0 _ _ (yu w) rfl
 b1:=xo w 1 0 _ _ (yu w) rfl
 c1:=xo w 2 0 _ _ (yu w) rfl
 k2:=xo w 3 0 _ _ (yu w) rfl
 b2:=xo w 4 0 _ _ (yu w) rfl
 c2:=xo w 5 0 _ _ (yu w) rfl
 sy:=fun k hk => xo w 6 k _ _ (yu w) (qpS k hk)
 sl:=xo w 7 0 _ _ (yu w) rfl
 t0:=xo w 8 0 _ _ (yu w) rfl
 t1:=xo w 8 1 _ _ (yu w) rfl
 t2:=xo w 8 2 _ _ (yu w) rfl
 ts:=xo w 9 0 _ _ (yu w) rfl
theorem qjB (w : World) :
 Calls Tryz.prog 152 #[] w fun e w' => e = .returned (.func (.func 209) #[] #[.pointer (some ⟨w.heap.size + 9,0,none⟩)]) /\ TakerAt w' w.heap.size /\ Below w.heap.size w w' /\ w.heap.size + 10 <= w'.heap.size :=
 (qhw w).mono fun _ _ ⟨he,hw⟩ => ⟨he,hw ▸ qnM w,hw ▸ qj0 w,hw ▸ Nat.le_of_eq (qle w).symm⟩
end
section
open Go.RowKit
theorem qd2 (p : UInt8 -> Bool) (s : ByteArray) (h : 0 < s.size) : xk p s.data.toList = p s[0]:=by
 have := qiD s h
 cases hl : s.data.toList with
 | nil => rw [hl] at this;cases this
 | cons c l => rw [hl] at this;rw [<- Option.some.inj this];rfl
theorem qhZ {p : UInt8 -> Bool} {s : ByteArray} (h : xk p s.data.toList = true) : 0 < s.size:=by
 cases hl : s.data.toList with
 | nil => rw [hl] at h;cases h
 | cons c l => rw [<- qaC,hl];exact Nat.succ_pos _
theorem qc9 {s : ByteArray} (h : 0 < s.size) : s.toList.isEmpty = false:=by
 rw [Lib.toList_data]
 cases hl : s.data.toList with
 | nil => rw [<- qaC,hl] at h;cases h
 | cons c l => rfl
theorem qpv (s : ByteArray) (W : World) (n : Nat) (hT : TakerAt W n) (hs : s.size <= maxLen) (h : xk ltr s.data.toList = true) :
 Calls Tryz.prog 210 #[.string s,.pointer (some ⟨n + 1,0,none⟩),.pointer (some ⟨n,0,none⟩),.pointer (some ⟨n + 2,0,none⟩)] W (Hit 1 (xQ s.data.toList) (vw (xQ s.data.toList)) W):=by
 have h0:=qhZ h
 rw [qd2 ltr s h0] at h
 exact qpx s W _ _ _ hT.b1 hT.k1 hT.c1 hs h0 (qc9 h0) h
theorem qir (s : ByteArray) (W : World) (n : Nat) (hT : TakerAt W n) (h : xk ltr s.data.toList = false) :
 Calls Tryz.prog 210 #[.string s,.pointer (some ⟨n + 1,0,none⟩),.pointer (some ⟨n,0,none⟩),.pointer (some ⟨n + 2,0,none⟩)] W (Hit 0 [] 3 W):=by
 by_cases h0 : 0 < s.size
 ·rw [qd2 ltr s h0] at h
  exact qpw s W _ _ _ hT.b1 h0 (qc9 h0) h
 ·refine qht s W _ _ _ ?_
  rw [Lib.toList_data]
  exact List.eq_nil_of_length_eq_zero (by rw [qaC];omega)
theorem qmV (s : ByteArray) (W : World) (n : Nat) (hT : TakerAt W n) (hs : s.size <= maxLen) (h : xk xV s.data.toList = true) :
 Calls Tryz.prog 210 #[.string s,.pointer (some ⟨n + 4,0,none⟩),.pointer (some ⟨n + 3,0,none⟩),.pointer (some ⟨n + 5,0,none⟩)] W (Hit 2 (xQ s.data.toList) (xI (xQ s.data.toList)) W):=by
 have h0:=qhZ h
 rw [qd2 xV s h0] at h
 exact qmX s W _ _ _ hT.b2 hT.k2 hT.c2 hs h0 (qc9 h0) h
theorem qi7 (s : ByteArray) (W : World) (n : Nat) (hT : TakerAt W n) (h : xk xV s.data.toList = false) :
 Calls Tryz.prog 210 #[.string s,.pointer (some ⟨n + 4,0,none⟩),.pointer (some ⟨n + 3,0,none⟩),.pointer (some ⟨n + 5,0,none⟩)] W (Hit 0 [] 3 W):=by
 by_cases h0 : 0 < s.size
 ·rw [qd2 xV s h0] at h
  exact qmW s W _ _ _ hT.b2 h0 (qc9 h0) h
 ·refine qht s W _ _ _ ?_
  rw [Lib.toList_data]
  exact List.eq_nil_of_length_eq_zero (by rw [qaC];omega)
theorem TakerAt.drewN {W : World} {n : Nat} (h : TakerAt W n) (m : Nat) : TakerAt (W.drewN m) n:=h.later (B:=n + 10) (Nat.le_refl _) (below_drewN (Below.refl _ W) m)
def Draws (P : Program) (f : FuncId) (args : Array Value) (k : Int) (r : List UInt8) (c : Int) (W : World) : Prop:=∀ m,Calls P f args (W.drewN m) (Hit k r c (W.drewN m))
set_option maxHeartbeats 1000000 in
theorem qnk (s : ByteArray) (W : World) (n : Nat) (hT : TakerAt W n) (hs : s.size <= maxLen) (h : xk ltr s.data.toList = true) :
 Calls Tryz.prog 209 #[.string s,.pointer (some ⟨n + 9,0,none⟩)] W (Hit 1 (xQ s.data.toList) (vw (xQ s.data.toList)) W):=by
 have HC0 : Hid (Calls Tryz.prog 210 #[.string s,.pointer (some ⟨n + 1,0,none⟩),.pointer (some ⟨n,0,none⟩),.pointer (some ⟨n + 2,0,none⟩)] W (Hit 1 (xQ s.data.toList) (vw (xQ s.data.toList)) W)):=hZ (qpv s W n hT hs h)
 generalize xQ s.data.toList = r at *
 have t0:=hT.t0
 have ts:=hT.ts
 clear hT h
 go_enter Tryz.func209,Tryz.ntmps209
 go_wp2
 refine wp_loop_rounds 1 ?_
 rw [rounds_succ]
 go_wp2_with (go_at_call 210;refine HC0.out.mono ?_;rintro e w' ⟨rfl,nq,rfl⟩)
 go_ret3
 exact ⟨rfl,_,rfl⟩
set_option maxHeartbeats 1000000 in
theorem qkF (s : ByteArray) (W : World) (n : Nat) (hT : TakerAt W n) (hs : s.size <= maxLen) (hn : xk ltr s.data.toList = false) (h : xk xV s.data.toList = true) :
 Calls Tryz.prog 209 #[.string s,.pointer (some ⟨n + 9,0,none⟩)] W (Hit 2 (xQ s.data.toList) (xI (xQ s.data.toList)) W):=by
 have HC0 : Hid (Calls Tryz.prog 210 #[.string s,.pointer (some ⟨n + 1,0,none⟩),.pointer (some ⟨n,0,none⟩),.pointer (some ⟨n + 2,0,none⟩)] W (Hit 0 [] 3 W)):=hZ (qir s W n hT hn)
 have zU : Draws Tryz.prog 210 #[.string s,.pointer (some ⟨n + 4,0,none⟩),.pointer (some ⟨n + 3,0,none⟩),.pointer (some ⟨n + 5,0,none⟩)] 2 (xQ s.data.toList) (xI (xQ s.data.toList)) W:=fun m => qmV s _ n (hT.drewN m) hs h
 generalize xQ s.data.toList = r at *
 have t0:=hT.t0
 have t1:=hT.t1
 have ts:=hT.ts
 clear hT h hn
 go_enter Tryz.func209,Tryz.ntmps209
 go_wp2
 refine wp_loop_rounds 2 ?_
 rw [rounds_succ]
 go_wp2_with (go_at_call 210;refine HC0.out.mono ?_;rintro e w' ⟨rfl,nq,rfl⟩)
 rw [rounds_succ]
 go_wp2_with (go_at_call 210;refine (zU _).mono ?_;rintro e w' ⟨rfl,nq2,rfl⟩)
 go_ret3
 exact ⟨rfl,_,rfl⟩
set_option maxHeartbeats 1000000 in
theorem qkE (s : ByteArray) (W : World) (n : Nat) (hT : TakerAt W n) (hn : xk ltr s.data.toList = false) (h : xk xV s.data.toList = false) (hy : (qbn s.data.toList).isSome = true) :
 Calls Tryz.prog 209 #[.string s,.pointer (some ⟨n + 9,0,none⟩)] W (Hit 3 (xX s.data.toList) 0 W):=by
 have HC0 : Hid (Calls Tryz.prog 210 #[.string s,.pointer (some ⟨n + 1,0,none⟩),.pointer (some ⟨n,0,none⟩),.pointer (some ⟨n + 2,0,none⟩)] W (Hit 0 [] 3 W)):=hZ (qir s W n hT hn)
 have zU : Draws Tryz.prog 210 #[.string s,.pointer (some ⟨n + 4,0,none⟩),.pointer (some ⟨n + 3,0,none⟩),.pointer (some ⟨n + 5,0,none⟩)] 0 [] 3 W:=fun m => qi7 s _ n (hT.drewN m) h
 have yp : Draws Tryz.prog 211 #[.string s,.pointer (some ⟨n + 7,0,none⟩)] 3 (xX s.data.toList) 0 W:=fun m => by
  have hh:=qhA s (W.drewN m) (n + 7) (n + 6) (hT.drewN m).sl (hT.drewN m).sy
  unfold vJ qaB at hh
  rw [hy] at hh
  exact hh
 generalize xX s.data.toList = r at *
 have t0:=hT.t0
 have t1:=hT.t1
 have t2:=hT.t2
 have ts:=hT.ts
 clear hT h hn hy
 go_enter Tryz.func209,Tryz.ntmps209
 go_wp2
 refine wp_loop_rounds 3 ?_
 rw [rounds_succ]
 go_wp2_with (go_at_call 210;refine HC0.out.mono ?_;rintro e w' ⟨rfl,nq,rfl⟩)
 rw [rounds_succ]
 go_wp2_with (go_at_call 210;refine (zU _).mono ?_;rintro e w' ⟨rfl,nq2,rfl⟩)
 rw [rounds_succ]
 go_wp2_with (go_at_call 211;refine (yp _).mono ?_;rintro e w' ⟨rfl,nq3,rfl⟩)
 go_ret3
 exact ⟨rfl,_,rfl⟩
set_option maxHeartbeats 1000000 in
theorem qnl (s : ByteArray) (W : World) (n : Nat) (hT : TakerAt W n) (hn : xk ltr s.data.toList = false) (h : xk xV s.data.toList = false) (hy : (qbn s.data.toList).isSome = false) :
 Calls Tryz.prog 209 #[.string s,.pointer (some ⟨n + 9,0,none⟩)] W (Hit 0 [] 3 W):=by
 have HC0 : Hid (Calls Tryz.prog 210 #[.string s,.pointer (some ⟨n + 1,0,none⟩),.pointer (some ⟨n,0,none⟩),.pointer (some ⟨n + 2,0,none⟩)] W (Hit 0 [] 3 W)):=hZ (qir s W n hT hn)
 have zU : Draws Tryz.prog 210 #[.string s,.pointer (some ⟨n + 4,0,none⟩),.pointer (some ⟨n + 3,0,none⟩),.pointer (some ⟨n + 5,0,none⟩)] 0 [] 3 W:=fun m => qi7 s _ n (hT.drewN m) h
 have yp : Draws Tryz.prog 211 #[.string s,.pointer (some ⟨n + 7,0,none⟩)] 0 [] 3 W:=fun m => by
  have hh:=qhA s (W.drewN m) (n + 7) (n + 6) (hT.drewN m).sl (hT.drewN m).sy
  unfold vJ qaB at hh
  rw [hy] at hh
  rw [show xX s.data.toList = [] by unfold xX;rw [Option.isNone_iff_eq_none.1 (Option.isSome_eq_false_iff.1 hy)];rfl] at hh
  exact hh
 have t0:=hT.t0
 have t1:=hT.t1
 have t2:=hT.t2
 have ts:=hT.ts
 clear hT h hn hy
 go_enter Tryz.func209,Tryz.ntmps209
 go_wp2
 refine wp_loop_rounds 4 ?_
 rw [rounds_succ]
 go_wp2_with (go_at_call 210;refine HC0.out.mono ?_;rintro e w' ⟨rfl,nq,rfl⟩)
 rw [rounds_succ]
 go_wp2_with (go_at_call 210;refine (zU _).mono ?_;rintro e w' ⟨rfl,nq2,rfl⟩)
 rw [rounds_succ]
 go_wp2_with (go_at_call 211;refine (yp _).mono ?_;rintro e w' ⟨rfl,nq3,rfl⟩)
 rw [rounds_succ]
 go_wp2
 go_ret3
 exact ⟨rfl,_,rfl⟩
theorem qoK (s : ByteArray) (W : World) (n : Nat) (hT : TakerAt W n) (hs : s.size <= maxLen) :
 Calls Tryz.prog 209 #[.string s,.pointer (some ⟨n + 9,0,none⟩)] W (Hit (qhy s.data.toList) (qhx s.data.toList) (qhz s.data.toList) W):=by
 unfold qhy qhx qhz
 cases hl : xk ltr s.data.toList with
 | true => exact qnk s W n hT hs hl
 | false =>
   cases hd : xk xV s.data.toList with
   | true => exact qkF s W n hT hs hl hd
   | false =>
     show Calls _ _ _ _ (Hit (vJ s.data.toList) (xX s.data.toList) (qaB s.data.toList) W)
     unfold vJ qaB
     cases hy : (qbn s.data.toList).isSome with
     | true => exact qkE s W n hT hl hd hy
     | false =>
       rw [show xX s.data.toList = [] by unfold xX;rw [Option.isNone_iff_eq_none.1 (Option.isSome_eq_false_iff.1 hy)];rfl]
       exact qnl s W n hT hl hd hy
end
end Go.Proofs.YtojjfdegkooknaaGreatDoor
