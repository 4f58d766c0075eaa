import Derived.Test.YtojjfdegkooknaaGreatDoorRows
import Derived.Test.YtojjfdegkooknaaGreatDoorQLexMZ
import Derived.WalkKit
import Derived.WalkSpells
import Derived.WalkLawsBesides
import Derived.Lib.Hide
import Derived.Deep.QuietTactic
import Derived.BigQuiet
import Derived.Test.YtojjfdegkooknaaGreatDoorQShelf
import Derived.LoopN
set_option linter.unusedVariables false
set_option linter.unusedSimpArgs false
namespace Go.Proofs.YtojjfdegkooknaaGreatDoor
open Go.RowKit
theorem ret_int {k : IntKind} {a b : Int} (h : a = b) : Ending.returned (.int k a) = .returned (.int k b):=by rw [h]
theorem flip_same {P : Program} {f : FuncId} {args : Array Value} {w : World} {v : Value}
 (h : Calls P f args w fun e w' => e = .returned v ∧ w = w') : Calls P f args w fun e w' => e = .returned v ∧ w' = w :=
 h.mono fun _ _ ⟨he,hm⟩ => ⟨he,hm.symm⟩
theorem quiet_again {P : Program} {f : FuncId} {args : Array Value} {w : World} {a n : Nat} {v : Value}
 (c : Calls P f args (w.drewN (a + n)) fun e w' => e = .returned v ∧ w.drewN (a + n) = w') :
 Calls P f args (w.drewN (a + n)) fun e w'' => e = .returned v ∧ ∃ m,w'' = w.drewN (a + m) :=
 c.mono fun _ _ ⟨he,hm⟩ => ⟨he,n,hm.symm⟩
set_option maxHeartbeats 400000 in
theorem letter_any (c : Int) (w : World) :
 Calls Tryz.prog 187 #[.int .u8 c] w fun e w' => e = .returned (.bool (isLetter c)) ∧ w = w':=by
 unfold isLetter
 by_cases h1 : 97 ≤ c <;> by_cases h2 : c ≤ 122 <;> by_cases h3 : 65 ≤ c <;> by_cases h4 : c ≤ 90
 all_goals
  go_enter Tryz.func187,Tryz.ntmps187
  go_wp2
  first
   | (exfalso;omega)
   | (go_ret;exact ⟨by simp [h1,h2,h3,h4],rfl⟩)
set_option maxHeartbeats 400000 in
theorem digit_any (c : Int) (w : World) :
 Calls Tryz.prog 189 #[.int .u8 c] w fun e w' => e = .returned (.bool (isDigit c)) ∧ w = w':=by
 unfold isDigit
 by_cases h1 : 48 ≤ c <;> by_cases h2 : c ≤ 57
 all_goals
  go_enter Tryz.func189,Tryz.ntmps189
  go_wp2
  first
   | (exfalso;omega)
   | (go_ret;exact ⟨by simp [h1,h2],rfl⟩)
set_option maxHeartbeats 400000 in
theorem checkWord_any (s : ByteArray) (w : World) (hs : s.size ≤ maxLen) :
 Calls Tryz.prog 188 #[.string s] w fun e w' => e = .returned (.int .i64 (checkLen s.data.toList)) ∧ w = w':=by
 unfold maxLen at hs
 by_cases h : s.size ≤ 20
 ·rw [show checkLen s.data.toList = 0 from if_pos h]
  have h' : ¬ (20 : Int) < s.size:=by omega
  go_enter Tryz.func188,Tryz.ntmps188
  go_wp2
  go_ret
  exact ⟨rfl,rfl⟩
 ·rw [show checkLen s.data.toList = 5 from if_neg h]
  have h' : (20 : Int) < s.size:=by omega
  go_enter Tryz.func188,Tryz.ntmps188
  go_wp2
  go_ret
  exact ⟨rfl,rfl⟩
theorem checkNum_ne (s : ByteArray) (h0 : 0 < s.size) (h : ¬ ((s[0].toNat : Int) = 48 ∧ 1 < s.size)) : checkNum s.data.toList = if s.data.toList.all dgt then (if numF s.data.toList ≤ 1048576 then 0 else 10) else 3:=by
 unfold checkNum
 rw [if_neg]
 rintro ⟨hh,h1⟩
 rw [head_eq s h0] at hh
 refine h ⟨?_,h1⟩
 rw [Option.some.inj hh];rfl
set_option maxHeartbeats 400000 in
theorem checkNumber_zero (s : ByteArray) (w : World) (hs : s.size ≤ maxLen) (h1 : 1 < s.size) (hz : ((s[0].toNat : Int) == 48) = true) :
 Calls Tryz.prog 190 #[.string s] w fun e w' => e = .returned (.int .i64 3) ∧ w = w':=by
 unfold maxLen at hs
 have h1' : (1 : Int) < s.size:=by omega
 have h0 : 0 < s.size:=by omega
 go_enter Tryz.func190,Tryz.ntmps190
 go_wp2
 go_ret
 exact ⟨rfl,rfl⟩
set_option maxHeartbeats 1000000 in
theorem checkNumber_else (s : ByteArray) (w : World) (hs : s.size ≤ maxLen) (h0 : 0 < s.size) (hn : ¬ ((s[0].toNat : Int) = 48 ∧ 1 < s.size)) :
 Calls Tryz.prog 190 #[.string s] w fun e w' => e = .returned (.int .i64 (checkNum s.data.toList)) ∧ w = w':=by
 unfold maxLen at hs
 have HC:=Lib.hid (checkNum_ne s h0 hn)
 generalize hc : checkNum s.data.toList = c at *
 clear hc
 by_cases hz : (s[0].toNat : Int) = 48
 ·have h1 : ¬ (1 : Int) < s.size:=by omega
  have hz' : ((s[0].toNat : Int) == 48) = true:=by rw [beq_iff_eq];exact hz
  clear hz hn
  go_enter Tryz.func190,Tryz.ntmps190
  go_wp2
  clear hz' h1
  go_loop [3,15] (fun n j => ∃ k : Nat,k ≤ s.size ∧ j = .int .i64 k ∧ n = .int .i64 (numF (s.data.toList.take k)) ∧ Hid ((s.data.toList.take k).all dgt = true)) (fun _ j => s.size - (intOf j).toNat)
  case atStart => exact ⟨0,Nat.zero_le _,rfl,rfl,rfl⟩
  case round =>
   obtain ⟨k,hk,rfl,rfl,HA⟩:=hrel
   have hb:=numF_bd _ HA.out
   generalize hm : numF (s.data.toList.take k) = m at *
   have HM:=Lib.hid hm
   clear hm
   by_cases hlt : k < s.size
   ·by_cases hd : dgt s[k] = true
    ·have hbd:=dgt_bd hd
     have hd' : isDigit (s[k].toNat : Int) = true:=hd
     have HS : Hid (numF (s.data.toList.take (k + 1)) = min (10 * m + ((s[k].toNat : Int) - 48)) 1048577):=by
      rw [take_snoc s k hlt,numF_snoc,HM.out];rfl
     have HT:=Lib.hid (all_take_snoc s k hlt HA.out hd)
     clear hd
     go_wp2_with (go_at_call 189;refine (digit_any _ _).mono ?_;rintro e w' ⟨rfl,rfl⟩)
     go_round
     case rel => exact ⟨k + 1,by omega,by go_num,by rw [HS.out] <;> (congr 1 <;> omega),HT⟩
     case measure => simp [intOf];omega
    ·have hd' : isDigit (s[k].toNat : Int) = false:=by simpa [dgt] using hd
     have hfin : c = 3:=by rw [HC.out,if_neg (by rw [not_all_of s k hlt (by simpa using hd)];decide)]
     have HF:=Lib.hid hfin
     clear hd hfin
     go_wp2_with (go_at_call 189;refine (digit_any _ _).mono ?_;rintro e w' ⟨rfl,rfl⟩)
     go_ret
     exact ⟨ret_int HF.out.symm,rfl⟩
   ·have hke : k = s.size:=by omega
    have hall : s.data.toList.take k = s.data.toList:=List.take_of_length_le (by rw [size_list];omega)
    have HA' : Hid (s.data.toList.all dgt = true):=by rw [← hall];exact HA
    have HM' : Hid (numF s.data.toList = m):=by rw [← hall];exact HM
    have HE : Hid (c = if m ≤ 1048576 then 0 else 10):=by rw [HC.out,if_pos HA'.out,HM'.out];rfl
    clear hall hke
    by_cases hg : 1048576 < m
    ·have HF : Hid (c = 10):=by rw [HE.out,if_neg (by omega)];rfl
     go_wp2
     go_ret
     exact ⟨ret_int HF.out.symm,rfl⟩
    ·have HF : Hid (c = 0):=by rw [HE.out,if_pos (by omega)];rfl
     go_wp2
     go_ret
     exact ⟨ret_int HF.out.symm,rfl⟩
 ·have hz' : ((s[0].toNat : Int) == 48) = false:=by rw [beq_eq_false_iff_ne];exact hz
  clear hz hn
  go_enter Tryz.func190,Tryz.ntmps190
  go_wp2
  clear hz'
  go_loop [3,15] (fun n j => ∃ k : Nat,k ≤ s.size ∧ j = .int .i64 k ∧ n = .int .i64 (numF (s.data.toList.take k)) ∧ Hid ((s.data.toList.take k).all dgt = true)) (fun _ j => s.size - (intOf j).toNat)
  case atStart => exact ⟨0,Nat.zero_le _,rfl,rfl,rfl⟩
  case round =>
   obtain ⟨k,hk,rfl,rfl,HA⟩:=hrel
   have hb:=numF_bd _ HA.out
   generalize hm : numF (s.data.toList.take k) = m at *
   have HM:=Lib.hid hm
   clear hm
   by_cases hlt : k < s.size
   ·by_cases hd : dgt s[k] = true
    ·have hbd:=dgt_bd hd
     have hd' : isDigit (s[k].toNat : Int) = true:=hd
     have HS : Hid (numF (s.data.toList.take (k + 1)) = min (10 * m + ((s[k].toNat : Int) - 48)) 1048577):=by
      rw [take_snoc s k hlt,numF_snoc,HM.out];rfl
     have HT:=Lib.hid (all_take_snoc s k hlt HA.out hd)
     clear hd
     go_wp2_with (go_at_call 189;refine (digit_any _ _).mono ?_;rintro e w' ⟨rfl,rfl⟩)
     go_round
     case rel => exact ⟨k + 1,by omega,by go_num,by rw [HS.out] <;> (congr 1 <;> omega),HT⟩
     case measure => simp [intOf];omega
    ·have hd' : isDigit (s[k].toNat : Int) = false:=by simpa [dgt] using hd
     have hfin : c = 3:=by rw [HC.out,if_neg (by rw [not_all_of s k hlt (by simpa using hd)];decide)]
     have HF:=Lib.hid hfin
     clear hd hfin
     go_wp2_with (go_at_call 189;refine (digit_any _ _).mono ?_;rintro e w' ⟨rfl,rfl⟩)
     go_ret
     exact ⟨ret_int HF.out.symm,rfl⟩
   ·have hke : k = s.size:=by omega
    have hall : s.data.toList.take k = s.data.toList:=List.take_of_length_le (by rw [size_list];omega)
    have HA' : Hid (s.data.toList.all dgt = true):=by rw [← hall];exact HA
    have HM' : Hid (numF s.data.toList = m):=by rw [← hall];exact HM
    have HE : Hid (c = if m ≤ 1048576 then 0 else 10):=by rw [HC.out,if_pos HA'.out,HM'.out];rfl
    clear hall hke
    by_cases hg : 1048576 < m
    ·have HF : Hid (c = 10):=by rw [HE.out,if_neg (by omega)];rfl
     go_wp2
     go_ret
     exact ⟨ret_int HF.out.symm,rfl⟩
    ·have HF : Hid (c = 0):=by rw [HE.out,if_pos (by omega)];rfl
     go_wp2
     go_ret
     exact ⟨ret_int HF.out.symm,rfl⟩
theorem checkNumber_any (s : ByteArray) (w : World) (hs : s.size ≤ maxLen) (h0 : 0 < s.size) :
 Calls Tryz.prog 190 #[.string s] w fun e w' => e = .returned (.int .i64 (checkNum s.data.toList)) ∧ w = w':=by
 by_cases hn : (s[0].toNat : Int) = 48 ∧ 1 < s.size
 ·have hfin : checkNum s.data.toList = 3:=by
   unfold checkNum
   rw [if_pos ⟨by rw [head_eq s h0];congr 1;apply UInt8.toNat_inj.1;show s[0].toNat = 48;omega,by rw [size_list];exact hn.2⟩]
  rw [hfin]
  exact checkNumber_zero s w hs hn.2 (by rw [beq_iff_eq];exact hn.1)
 ·exact checkNumber_else s w hs h0 hn
end Go.Proofs.YtojjfdegkooknaaGreatDoor
namespace Go.Proofs.YtojjfdegkooknaaGreatDoor
open Go.RowKit
set_option maxHeartbeats 400000 in
theorem word_empty (s : ByteArray) (W : World) (p1 p2 p3 : Value) (he : s.toList = []) :
 Calls Tryz.prog 210 #[.string s,p1,p2,p3] W fun e w' => e = .returned (.tuple #[.int .i64 0,.string ⟨#[]⟩,.int .i64 3]) ∧ ∃ n,w' = W.drewN n:=by
 go_enter Tryz.func210,Tryz.ntmps210
 go_wp2
 go_quiet (fail)
 go_wp2
 go_ret3
 exact ⟨rfl,_,rfl⟩
set_option maxHeartbeats 400000 in
theorem word_not (s : ByteArray) (W : World) (p2 p3 : Value) (b1 : Nat) (h1 : W.cell? ⟨b1,0,none⟩ = some (.func (.func 187) #[] #[])) (h0 : 0 < s.size) (he : s.toList.isEmpty = false) (hb : isLetter (s[0].toNat : Int) = false) :
 Calls Tryz.prog 210 #[.string s,.pointer (some ⟨b1,0,none⟩),p2,p3] W fun e w' => e = .returned (.tuple #[.int .i64 0,.string ⟨#[]⟩,.int .i64 3]) ∧ ∃ n,w' = W.drewN n:=by
 go_enter Tryz.func210,Tryz.ntmps210
 go_wp2
 go_quiet ((go_at_call 187;exact Calls.quiet_of_same (flip_same (letter_any _ _))))
 go_wp2
 go_ret3
 exact ⟨rfl,_,rfl⟩
theorem slice_list (s : ByteArray) (n : Nat) : s.extract 0 n = ⟨(s.data.toList.take n).toArray⟩:=by
 rw [show s.extract 0 n = (ByteArray.mk s.data).extract 0 n from rfl,ByteArray.extract_mk]
 congr 1
theorem slice_run (s : ByteArray) (n : Nat) (h : n ≤ s.size) (ha : (s.data.toList.take n).all prt = true) (hc : ∀ _ : n < s.size,prt s[n] = false) : s.extract 0 n = ⟨(runL s.data.toList).toArray⟩:=by
 rw [slice_list,runL_of s n h ha hc]
def Hit (k : Int) (r : List UInt8) (c : Int) (W : World) (e : Ending) (w' : World) : Prop:=e = .returned (.tuple #[.int .i64 k,.string ⟨r.toArray⟩,.int .i64 c]) ∧ ∃ n,w' = W.drewN n
set_option maxHeartbeats 2000000 in
theorem word_hit (s : ByteArray) (W : World) (b1 b2 b3 : Nat) (h1 : W.cell? ⟨b1,0,none⟩ = some (.func (.func 187) #[] #[])) (h2 : W.cell? ⟨b2,0,none⟩ = some (.int .i64 1)) (h3 : W.cell? ⟨b3,0,none⟩ = some (.func (.func 188) #[] #[]))
 (hs : s.size ≤ maxLen) (h0 : 0 < s.size) (he : s.toList.isEmpty = false) (hb : isLetter (s[0].toNat : Int) = true) :
 Calls Tryz.prog 210 #[.string s,.pointer (some ⟨b1,0,none⟩),.pointer (some ⟨b2,0,none⟩),.pointer (some ⟨b3,0,none⟩)] W (Hit 1 (runL s.data.toList) (checkLen (runL s.data.toList)) W):=by
 have HM:=Lib.hid hs
 unfold maxLen at hs
 have HP:=Lib.hid (first_prt s h0 (prt_of_ltr hb))
 have HR : Hid (∀ n,n ≤ s.size → (s.data.toList.take n).all prt = true → (∀ _ : n < s.size,prt s[n] = false) → s.extract 0 n = ⟨(runL s.data.toList).toArray⟩):=slice_run s
 generalize hr : runL s.data.toList = r at *
 clear hr
 go_enter Tryz.func210,Tryz.ntmps210
 go_wp2
 go_quiet ((go_at_call 187;exact Calls.quiet_of_same (flip_same (letter_any _ _))))
 clear hb
 go_wp2
 go_loop [8] (fun j => ∃ k : Nat,1 ≤ k ∧ k ≤ s.size ∧ j = .int .i64 k ∧ Hid ((s.data.toList.take k).all prt = true)) (fun j => s.size - (intOf j).toNat)
 case atStart => exact ⟨1,Nat.le_refl _,h0,rfl,HP⟩
 case round =>
  obtain ⟨k,hk1,hk,rfl,HA⟩:=hrel
  by_cases hlt : k < s.size
  ·by_cases hl : ltr s[k] = true
   ·have hl' : isLetter (s[k].toNat : Int) = true:=hl
    have HT:=Lib.hid (all_prt_snoc s k hlt HA.out (prt_of_ltr hl))
    clear hl
    go_wp2_with (go_at_call 187;refine (letter_any _ _).mono ?_;rintro e w' ⟨rfl,rfl⟩)
    go_round
    case rel => exact ⟨k + 1,by omega,by omega,by go_num,HT⟩
    case measure => simp [intOf];omega
   ·have hl' : isLetter (s[k].toNat : Int) = false:=by simpa [ltr] using hl
    by_cases hd : dgt s[k] = true
    ·have hd' : isDigit (s[k].toNat : Int) = true:=hd
     have HT:=Lib.hid (all_prt_snoc s k hlt HA.out (prt_of_dgt hd))
     clear hl hd
     go_wp2_with (first | (go_at_call 187;refine (letter_any _ _).mono ?_;rintro e w' ⟨rfl,rfl⟩) | (go_at_call 189;refine (digit_any _ _).mono ?_;rintro e w' ⟨rfl,rfl⟩))
     go_round
     case rel => exact ⟨k + 1,by omega,by omega,by go_num,HT⟩
     case measure => simp [intOf];omega
    ·have hd' : isDigit (s[k].toNat : Int) = false:=by simpa [dgt] using hd
     by_cases hu : s[k].toNat = 95
     ·have hu' : ((s[k].toNat : Int) == 95) = true:=by rw [beq_iff_eq];omega
      have HT:=Lib.hid (all_prt_snoc s k hlt HA.out (prt_of_us hu))
      clear hl hd hu
      go_wp2_with (first | (go_at_call 187;refine (letter_any _ _).mono ?_;rintro e w' ⟨rfl,rfl⟩) | (go_at_call 189;refine (digit_any _ _).mono ?_;rintro e w' ⟨rfl,rfl⟩))
      go_round
      case rel => exact ⟨k + 1,by omega,by omega,by go_num,HT⟩
      case measure => simp [intOf];omega
     ·have hu' : ((s[k].toNat : Int) == 95) = false:=by rw [beq_eq_false_iff_ne];omega
      have HE : Hid (s.extract 0 k = ⟨r.toArray⟩):=HR.out k hk HA.out (fun _ => prt_not (by simpa using hl) (by simpa using hd) hu)
      have HZ : Hid (∀ w,Calls Tryz.prog 188 #[.string (s.extract 0 k)] w fun e w' => e = .returned (.int .i64 (checkLen r)) ∧ w = w'):=Lib.hid (fun w => by
       have h:=checkWord_any (s.extract 0 k) w (by rw [ByteArray.size_extract];have := HM.out;omega)
       have e : (s.extract 0 k).data.toList = r:=by rw [HE.out]
       rw [e] at h
       exact h)
      clear hl hd hu
      go_wp2_with (first | (go_at_call 187;refine (letter_any _ _).mono ?_;rintro e w' ⟨rfl,rfl⟩) | (go_at_call 189;refine (digit_any _ _).mono ?_;rintro e w' ⟨rfl,rfl⟩))
      go_quiet ((go_at_call 188;exact quiet_again (HZ.out _)))
      go_wp2
      go_ret3
      exact ⟨by rw [← HE.out] <;> rfl,_,World.drewN_drewN ..⟩
  ·have hke : k = s.size:=by omega
   have HE : Hid (s.extract 0 k = ⟨r.toArray⟩):=HR.out k hk HA.out (fun h => absurd h hlt)
   have HZ : Hid (∀ w,Calls Tryz.prog 188 #[.string (s.extract 0 k)] w fun e w' => e = .returned (.int .i64 (checkLen r)) ∧ w = w'):=Lib.hid (fun w => by
    have h:=checkWord_any (s.extract 0 k) w (by rw [ByteArray.size_extract];have := HM.out;omega)
    have e : (s.extract 0 k).data.toList = r:=by rw [HE.out]
    rw [e] at h
    exact h)
   clear hke
   go_wp2
   go_quiet ((go_at_call 188;exact quiet_again (HZ.out _)))
   go_wp2
   go_ret3
   exact ⟨by rw [← HE.out] <;> rfl,_,World.drewN_drewN ..⟩
set_option maxHeartbeats 400000 in
theorem number_not (s : ByteArray) (W : World) (p2 p3 : Value) (b1 : Nat) (h1 : W.cell? ⟨b1,0,none⟩ = some (.func (.func 189) #[] #[])) (h0 : 0 < s.size) (he : s.toList.isEmpty = false) (hb : isDigit (s[0].toNat : Int) = false) :
 Calls Tryz.prog 210 #[.string s,.pointer (some ⟨b1,0,none⟩),p2,p3] W fun e w' => e = .returned (.tuple #[.int .i64 0,.string ⟨#[]⟩,.int .i64 3]) ∧ ∃ n,w' = W.drewN n:=by
 go_enter Tryz.func210,Tryz.ntmps210
 go_wp2
 go_quiet ((go_at_call 189;exact Calls.quiet_of_same (flip_same (digit_any _ _))))
 go_wp2
 go_ret3
 exact ⟨rfl,_,rfl⟩
set_option maxHeartbeats 2000000 in
theorem number_hit (s : ByteArray) (W : World) (b1 b2 b3 : Nat) (h1 : W.cell? ⟨b1,0,none⟩ = some (.func (.func 189) #[] #[])) (h2 : W.cell? ⟨b2,0,none⟩ = some (.int .i64 2)) (h3 : W.cell? ⟨b3,0,none⟩ = some (.func (.func 190) #[] #[]))
 (hs : s.size ≤ maxLen) (h0 : 0 < s.size) (he : s.toList.isEmpty = false) (hb : isDigit (s[0].toNat : Int) = true) :
 Calls Tryz.prog 210 #[.string s,.pointer (some ⟨b1,0,none⟩),.pointer (some ⟨b2,0,none⟩),.pointer (some ⟨b3,0,none⟩)] W (Hit 2 (runL s.data.toList) (checkNum (runL s.data.toList)) W):=by
 have HM:=Lib.hid hs
 unfold maxLen at hs
 have HP:=Lib.hid (first_prt s h0 (prt_of_dgt hb))
 have HR : Hid (∀ n,n ≤ s.size → (s.data.toList.take n).all prt = true → (∀ _ : n < s.size,prt s[n] = false) → s.extract 0 n = ⟨(runL s.data.toList).toArray⟩):=slice_run s
 generalize hr : runL s.data.toList = r at *
 clear hr
 go_enter Tryz.func210,Tryz.ntmps210
 go_wp2
 go_quiet ((go_at_call 189;exact Calls.quiet_of_same (flip_same (digit_any _ _))))
 clear hb
 go_wp2
 go_loop [8] (fun j => ∃ k : Nat,1 ≤ k ∧ k ≤ s.size ∧ j = .int .i64 k ∧ Hid ((s.data.toList.take k).all prt = true)) (fun j => s.size - (intOf j).toNat)
 case atStart => exact ⟨1,Nat.le_refl _,h0,rfl,HP⟩
 case round =>
  obtain ⟨k,hk1,hk,rfl,HA⟩:=hrel
  by_cases hlt : k < s.size
  ·by_cases hl : ltr s[k] = true
   ·have hl' : isLetter (s[k].toNat : Int) = true:=hl
    have HT:=Lib.hid (all_prt_snoc s k hlt HA.out (prt_of_ltr hl))
    clear hl
    go_wp2_with (go_at_call 187;refine (letter_any _ _).mono ?_;rintro e w' ⟨rfl,rfl⟩)
    go_round
    case rel => exact ⟨k + 1,by omega,by omega,by go_num,HT⟩
    case measure => simp [intOf];omega
   ·have hl' : isLetter (s[k].toNat : Int) = false:=by simpa [ltr] using hl
    by_cases hd : dgt s[k] = true
    ·have hd' : isDigit (s[k].toNat : Int) = true:=hd
     have HT:=Lib.hid (all_prt_snoc s k hlt HA.out (prt_of_dgt hd))
     clear hl hd
     go_wp2_with (first | (go_at_call 187;refine (letter_any _ _).mono ?_;rintro e w' ⟨rfl,rfl⟩) | (go_at_call 189;refine (digit_any _ _).mono ?_;rintro e w' ⟨rfl,rfl⟩))
     go_round
     case rel => exact ⟨k + 1,by omega,by omega,by go_num,HT⟩
     case measure => simp [intOf];omega
    ·have hd' : isDigit (s[k].toNat : Int) = false:=by simpa [dgt] using hd
     by_cases hu : s[k].toNat = 95
     ·have hu' : ((s[k].toNat : Int) == 95) = true:=by rw [beq_iff_eq];omega
      have HT:=Lib.hid (all_prt_snoc s k hlt HA.out (prt_of_us hu))
      clear hl hd hu
      go_wp2_with (first | (go_at_call 187;refine (letter_any _ _).mono ?_;rintro e w' ⟨rfl,rfl⟩) | (go_at_call 189;refine (digit_any _ _).mono ?_;rintro e w' ⟨rfl,rfl⟩))
      go_round
      case rel => exact ⟨k + 1,by omega,by omega,by go_num,HT⟩
      case measure => simp [intOf];omega
     ·have hu' : ((s[k].toNat : Int) == 95) = false:=by rw [beq_eq_false_iff_ne];omega
      have HE : Hid (s.extract 0 k = ⟨r.toArray⟩):=HR.out k hk HA.out (fun _ => prt_not (by simpa using hl) (by simpa using hd) hu)
      have HZ : Hid (∀ w,Calls Tryz.prog 190 #[.string (s.extract 0 k)] w fun e w' => e = .returned (.int .i64 (checkNum r)) ∧ w = w'):=Lib.hid (fun w => by
       have h:=checkNumber_any (s.extract 0 k) w (by rw [ByteArray.size_extract];have := HM.out;omega) (by rw [ByteArray.size_extract];omega)
       have e : (s.extract 0 k).data.toList = r:=by rw [HE.out]
       rw [e] at h
       exact h)
      clear hl hd hu
      go_wp2_with (first | (go_at_call 187;refine (letter_any _ _).mono ?_;rintro e w' ⟨rfl,rfl⟩) | (go_at_call 189;refine (digit_any _ _).mono ?_;rintro e w' ⟨rfl,rfl⟩))
      go_quiet ((go_at_call 190;exact quiet_again (HZ.out _)))
      go_wp2
      go_ret3
      exact ⟨by rw [← HE.out] <;> rfl,_,World.drewN_drewN ..⟩
  ·have hke : k = s.size:=by omega
   have HE : Hid (s.extract 0 k = ⟨r.toArray⟩):=HR.out k hk HA.out (fun h => absurd h hlt)
   have HZ : Hid (∀ w,Calls Tryz.prog 190 #[.string (s.extract 0 k)] w fun e w' => e = .returned (.int .i64 (checkNum r)) ∧ w = w'):=Lib.hid (fun w => by
    have h:=checkNumber_any (s.extract 0 k) w (by rw [ByteArray.size_extract];have := HM.out;omega) (by rw [ByteArray.size_extract];omega)
    have e : (s.extract 0 k).data.toList = r:=by rw [HE.out]
    rw [e] at h
    exact h)
   clear hke
   go_wp2
   go_quiet ((go_at_call 190;exact quiet_again (HZ.out _)))
   go_wp2
   go_ret3
   exact ⟨by rw [← HE.out] <;> rfl,_,World.drewN_drewN ..⟩
end Go.Proofs.YtojjfdegkooknaaGreatDoor
namespace Go.Proofs.YtojjfdegkooknaaGreatDoor
open Go.RowKit
def symVals : Array Value:=(syms.map fun l => Value.string ⟨l.toArray⟩).toArray
set_option maxHeartbeats 400000 in
theorem symbols_any (w : World) :
 Calls Tryz.prog 192 #[] w fun e w' => e = .returned (.slice (some ⟨w.heap.size,0,none⟩) 22 22) ∧ w' = w.alloc (.cells symVals 9):=by
 go_enter Tryz.func192,Tryz.ntmps192
 go_wp2
 go_ret
 exact ⟨rfl,rfl⟩
set_option maxHeartbeats 1000000 in
theorem symbol_any (s : ByteArray) (W : World) (b1 b2 : Nat) (h1 : W.cell? ⟨b1,0,none⟩ = some (.slice (some ⟨b2,0,none⟩) 22 22)) (h2 : ∀ k,k < 22 → W.cell? ⟨b2,k,none⟩ = some (.string ⟨(syms.getD k []).toArray⟩)) :
 Calls Tryz.prog 211 #[.string s,.pointer (some ⟨b1,0,none⟩)] W (Hit (symKind s.data.toList) (symText s.data.toList) (symErr s.data.toList) W):=by
 have HK:=Lib.hid (symText_at s.data.toList)
 have HN:=Lib.hid (symText_none s.data.toList)
 have H2:=Lib.hid h2
 clear h2
 generalize symKind s.data.toList = rk at *
 generalize symText s.data.toList = rt at *
 generalize symErr s.data.toList = re at *
 go_enter Tryz.func211,Tryz.ntmps211
 go_wp2
 go_loop [10] (fun j => ∃ k : Nat,k ≤ 22 ∧ j = .int .i64 k ∧ Hid (∀ i,i < k → Lib.hasPrefix s.data.toList (syms.getD i []) = false)) (fun j => 22 - (intOf j).toNat)
 case atStart => exact ⟨0,by omega,rfl,fun i hi => absurd hi (Nat.not_lt_zero i)⟩
 case round =>
  obtain ⟨k,hk,rfl,HA⟩:=hrel
  by_cases hlt : k < 22
  ·have hcell:=H2.out k hlt
   by_cases hp : Lib.hasPrefix s.data.toList (syms.getD k []) = true
   ·have HC : Hid (∀ w,Calls Tryz.prog 212 #[.string s,.string ⟨(syms.getD k []).toArray⟩] w fun e w' => e = .returned (.bool true) ∧ w' = w):=Lib.hid (fun w => by
     have h:=Tryz.strings_HasPrefix s ⟨(syms.getD k []).toArray⟩ w
     rw [List.toList_toArray,hp] at h
     exact h)
    have HF:=Lib.hid (HK.out k hlt HA.out hp)
    clear hp
    generalize hg : syms.getD k [] = t at *
    clear hg
    go_wp2_with (go_at_call 212;refine (HC.out _).mono ?_;rintro e w' ⟨rfl,rfl⟩)
    go_ret3
    exact ⟨by rw [HF.out.1,HF.out.2.1,HF.out.2.2] <;> rfl,0,rfl⟩
   ·have HC : Hid (∀ w,Calls Tryz.prog 212 #[.string s,.string ⟨(syms.getD k []).toArray⟩] w fun e w' => e = .returned (.bool false) ∧ w' = w):=Lib.hid (fun w => by
     have h:=Tryz.strings_HasPrefix s ⟨(syms.getD k []).toArray⟩ w
     rw [List.toList_toArray,show Lib.hasPrefix s.data.toList (syms.getD k []) = false by simpa using hp] at h
     exact h)
    have HT : Hid (∀ i,i < k + 1 → Lib.hasPrefix s.data.toList (syms.getD i []) = false):=Lib.hid (fun i hi => by
     by_cases e : i = k
     ·subst e;simpa using hp
     ·exact HA.out i (by omega))
    clear hp
    generalize hg : syms.getD k [] = t at *
    clear hg
    go_wp2_with (go_at_call 212;refine (HC.out _).mono ?_;rintro e w' ⟨rfl,rfl⟩)
    go_round
    case rel => exact ⟨k + 1,by omega,by go_num,HT⟩
    case measure => simp [intOf];omega
  ·have hke : k = 22:=by omega
   have HF:=Lib.hid (HN.out (fun i hi => HA.out i (by omega)))
   clear hke
   go_wp2
   go_ret3
   exact ⟨by rw [HF.out.1,HF.out.2.1,HF.out.2.2] <;> rfl,0,rfl⟩
structure TakerAt (W : World) (n : Nat) : Prop where
 k1 : W.cell? ⟨n,0,none⟩ = some (.int .i64 1)
 b1 : W.cell? ⟨n + 1,0,none⟩ = some (.func (.func 187) #[] #[])
 c1 : W.cell? ⟨n + 2,0,none⟩ = some (.func (.func 188) #[] #[])
 k2 : W.cell? ⟨n + 3,0,none⟩ = some (.int .i64 2)
 b2 : W.cell? ⟨n + 4,0,none⟩ = some (.func (.func 189) #[] #[])
 c2 : W.cell? ⟨n + 5,0,none⟩ = some (.func (.func 190) #[] #[])
 sy : ∀ k,k < 22 → W.cell? ⟨n + 6,k,none⟩ = some (.string ⟨(syms.getD k []).toArray⟩)
 sl : W.cell? ⟨n + 7,0,none⟩ = some (.slice (some ⟨n + 6,0,none⟩) 22 22)
 t0 : W.cell? ⟨n + 8,0,none⟩ = some (.func (.func 210) #[] #[.pointer (some ⟨n + 1,0,none⟩),.pointer (some ⟨n,0,none⟩),.pointer (some ⟨n + 2,0,none⟩)])
 t1 : W.cell? ⟨n + 8,1,none⟩ = some (.func (.func 210) #[] #[.pointer (some ⟨n + 4,0,none⟩),.pointer (some ⟨n + 3,0,none⟩),.pointer (some ⟨n + 5,0,none⟩)])
 t2 : W.cell? ⟨n + 8,2,none⟩ = some (.func (.func 211) #[] #[.pointer (some ⟨n + 7,0,none⟩)])
 ts : W.cell? ⟨n + 9,0,none⟩ = some (.slice (some ⟨n + 8,0,none⟩) 3 3)
theorem TakerAt.later {W W' : World} {n : Nat} (h : TakerAt W n) {B : Nat} (hB : n + 10 ≤ B) (hb : Below B W W') : TakerAt W' n where
 k1:=(hb.cell (p:=⟨n,0,none⟩) (by show n < B;omega)).trans h.k1
 b1:=(hb.cell (p:=⟨n + 1,0,none⟩) (by show n + 1 < B;omega)).trans h.b1
 c1:=(hb.cell (p:=⟨n + 2,0,none⟩) (by show n + 2 < B;omega)).trans h.c1
 k2:=(hb.cell (p:=⟨n + 3,0,none⟩) (by show n + 3 < B;omega)).trans h.k2
 b2:=(hb.cell (p:=⟨n + 4,0,none⟩) (by show n + 4 < B;omega)).trans h.b2
 c2:=(hb.cell (p:=⟨n + 5,0,none⟩) (by show n + 5 < B;omega)).trans h.c2
 sy:=fun k hk => (hb.cell (p:=⟨n + 6,k,none⟩) (by show n + 6 < B;omega)).trans (h.sy k hk)
 sl:=(hb.cell (p:=⟨n + 7,0,none⟩) (by show n + 7 < B;omega)).trans h.sl
 t0:=(hb.cell (p:=⟨n + 8,0,none⟩) (by show n + 8 < B;omega)).trans h.t0
 t1:=(hb.cell (p:=⟨n + 8,1,none⟩) (by show n + 8 < B;omega)).trans h.t1
 t2:=(hb.cell (p:=⟨n + 8,2,none⟩) (by show n + 8 < B;omega)).trans h.t2
 ts:=(hb.cell (p:=⟨n + 9,0,none⟩) (by show n + 9 < B;omega)).trans h.ts
def takerW (w : World) : World:=(((((((((w.alloc (.cells #[.int .i64 1] 3)).alloc (.cells #[.func (.func 187) #[] #[]] 249)).alloc (.cells #[.func (.func 188) #[] #[]] 250)).alloc (.cells #[.int .i64 2] 3)).alloc (.cells #[.func (.func 189) #[] #[]] 249)).alloc (.cells #[.func (.func 190) #[] #[]] 250)).alloc (.cells symVals 9)).alloc (.cells #[.slice (some ⟨w.heap.size + 6,0,none⟩) 22 22] 98)).alloc (.cells #[.func (.func 210) #[] #[.pointer (some ⟨w.heap.size + 1,0,none⟩),.pointer (some ⟨w.heap.size,0,none⟩),.pointer (some ⟨w.heap.size + 2,0,none⟩)],.func (.func 210) #[] #[.pointer (some ⟨w.heap.size + 4,0,none⟩),.pointer (some ⟨w.heap.size + 3,0,none⟩),.pointer (some ⟨w.heap.size + 5,0,none⟩)],.func (.func 211) #[] #[.pointer (some ⟨w.heap.size + 7,0,none⟩)]] 221)).alloc (.cells #[.slice (some ⟨w.heap.size + 8,0,none⟩) 3 3] 262)
theorem takerW_block (w : World) : (takerW w).heap = w.heap ++ #[.cells #[.int .i64 1] 3,.cells #[.func (.func 187) #[] #[]] 249,.cells #[.func (.func 188) #[] #[]] 250,.cells #[.int .i64 2] 3,.cells #[.func (.func 189) #[] #[]] 249,.cells #[.func (.func 190) #[] #[]] 250,.cells symVals 9,.cells #[.slice (some ⟨w.heap.size + 6,0,none⟩) 22 22] 98,.cells #[.func (.func 210) #[] #[.pointer (some ⟨w.heap.size + 1,0,none⟩),.pointer (some ⟨w.heap.size,0,none⟩),.pointer (some ⟨w.heap.size + 2,0,none⟩)],.func (.func 210) #[] #[.pointer (some ⟨w.heap.size + 4,0,none⟩),.pointer (some ⟨w.heap.size + 3,0,none⟩),.pointer (some ⟨w.heap.size + 5,0,none⟩)],.func (.func 211) #[] #[.pointer (some ⟨w.heap.size + 7,0,none⟩)]] 221,.cells #[.slice (some ⟨w.heap.size + 8,0,none⟩) 3 3] 262]:=by
 rfl
theorem takerW_size (w : World) : (takerW w).heap.size = w.heap.size + 10:=by rw [takerW_block,Array.size_append];rfl
theorem takerW_below (w : World) : Below w.heap.size w (takerW w):=by
 unfold takerW
 exact (((((((((((Below.refl _ w).alloc (by simp) _).alloc (by simp <;> omega) _).alloc (by simp <;> omega) _).alloc (by simp <;> omega) _).alloc (by simp <;> omega) _).alloc (by simp <;> omega) _).alloc (by simp <;> omega) _).alloc (by simp <;> omega) _).alloc (by simp <;> omega) _).alloc (by simp <;> omega) _)
set_option maxHeartbeats 400000 in
theorem takeToken_world (w : World) :
 Calls Tryz.prog 152 #[] w fun e w' => e = .returned (.func (.func 209) #[] #[.pointer (some ⟨w.heap.size + 9,0,none⟩)]) ∧ w' = takerW w:=by
 go_enter Tryz.func152,Tryz.ntmps152
 go_wp2_with (first | (go_at_call 192;refine (symbols_any _).mono ?_;rintro e w' ⟨rfl,rfl⟩) | go_in)
 go_ret
 exact ⟨rfl,rfl⟩
theorem taker_cell (w : World) (i j : Nat) (v : Value) (B : Array Obj) (hB : (takerW w).heap = w.heap ++ B) (h : (match B[i]? with | some (.cells c _ _) => c[j]? | _ => none) = some v) : (takerW w).cell? ⟨w.heap.size + i,j,none⟩ = some v:=by
 have e : (takerW w).heap[w.heap.size + i]? = B[i]?:=by rw [hB,Array.getElem?_append_right (by omega),Nat.add_sub_cancel_left]
 unfold World.cell?
 simp only [e]
 revert h
 cases B[i]? with
 | none => exact id
 | some o => cases o <;> exact id
theorem sym_cell : ∀ k,k < 22 → symVals[k]? = some (.string ⟨(syms.getD k []).toArray⟩):=by
 intro k hk
 have h2 : k < syms.length:=hk
 unfold symVals
 rw [List.getElem?_toArray,List.getElem?_map,List.getD_eq_getElem?_getD,List.getElem?_eq_getElem h2]
 rfl
theorem takerW_at (w : World) : TakerAt (takerW w) w.heap.size where
 k1:=taker_cell w 0 0 _ _ (takerW_block w) rfl
 b1:=taker_cell w 1 0 _ _ (takerW_block w) rfl
 c1:=taker_cell w 2 0 _ _ (takerW_block w) rfl
 k2:=taker_cell w 3 0 _ _ (takerW_block w) rfl
 b2:=taker_cell w 4 0 _ _ (takerW_block w) rfl
 c2:=taker_cell w 5 0 _ _ (takerW_block w) rfl
 sy:=fun k hk => taker_cell w 6 k _ _ (takerW_block w) (sym_cell k hk)
 sl:=taker_cell w 7 0 _ _ (takerW_block w) rfl
 t0:=taker_cell w 8 0 _ _ (takerW_block w) rfl
 t1:=taker_cell w 8 1 _ _ (takerW_block w) rfl
 t2:=taker_cell w 8 2 _ _ (takerW_block w) rfl
 ts:=taker_cell w 9 0 _ _ (takerW_block w) rfl
theorem takeToken_any (w : World) :
 Calls Tryz.prog 152 #[] w fun e w' => e = .returned (.func (.func 209) #[] #[.pointer (some ⟨w.heap.size + 9,0,none⟩)]) ∧ TakerAt w' w.heap.size ∧ Below w.heap.size w w' ∧ w.heap.size + 10 ≤ w'.heap.size :=
 (takeToken_world w).mono fun _ _ ⟨he,hw⟩ => ⟨he,hw ▸ takerW_at w,hw ▸ takerW_below w,hw ▸ Nat.le_of_eq (takerW_size w).symm⟩
end Go.Proofs.YtojjfdegkooknaaGreatDoor
namespace Go.Proofs.YtojjfdegkooknaaGreatDoor
open Go.RowKit
theorem headIs_eq (p : UInt8 → Bool) (s : ByteArray) (h : 0 < s.size) : headIs p s.data.toList = p s[0]:=by
 have := head_eq s h
 cases hl : s.data.toList with
 | nil => rw [hl] at this;cases this
 | cons c l => rw [hl] at this;rw [← Option.some.inj this];rfl
theorem headIs_pos {p : UInt8 → Bool} {s : ByteArray} (h : headIs p s.data.toList = true) : 0 < s.size:=by
 cases hl : s.data.toList with
 | nil => rw [hl] at h;cases h
 | cons c l => rw [← size_list,hl];exact Nat.succ_pos _
theorem list_empty {s : ByteArray} (h : 0 < s.size) : s.toList.isEmpty = false:=by
 rw [Lib.toList_data]
 cases hl : s.data.toList with
 | nil => rw [← size_list,hl] at h;cases h
 | cons c l => rfl
theorem word_yes (s : ByteArray) (W : World) (n : Nat) (hT : TakerAt W n) (hs : s.size ≤ maxLen) (h : headIs ltr s.data.toList = true) :
 Calls Tryz.prog 210 #[.string s,.pointer (some ⟨n + 1,0,none⟩),.pointer (some ⟨n,0,none⟩),.pointer (some ⟨n + 2,0,none⟩)] W (Hit 1 (runL s.data.toList) (checkLen (runL s.data.toList)) W):=by
 have h0:=headIs_pos h
 rw [headIs_eq ltr s h0] at h
 exact word_hit s W _ _ _ hT.b1 hT.k1 hT.c1 hs h0 (list_empty h0) h
theorem word_no (s : ByteArray) (W : World) (n : Nat) (hT : TakerAt W n) (h : headIs ltr s.data.toList = false) :
 Calls Tryz.prog 210 #[.string s,.pointer (some ⟨n + 1,0,none⟩),.pointer (some ⟨n,0,none⟩),.pointer (some ⟨n + 2,0,none⟩)] W (Hit 0 [] 3 W):=by
 by_cases h0 : 0 < s.size
 ·rw [headIs_eq ltr s h0] at h
  exact word_not s W _ _ _ hT.b1 h0 (list_empty h0) h
 ·refine word_empty s W _ _ _ ?_
  rw [Lib.toList_data]
  exact List.eq_nil_of_length_eq_zero (by rw [size_list];omega)
theorem number_yes (s : ByteArray) (W : World) (n : Nat) (hT : TakerAt W n) (hs : s.size ≤ maxLen) (h : headIs dgt s.data.toList = true) :
 Calls Tryz.prog 210 #[.string s,.pointer (some ⟨n + 4,0,none⟩),.pointer (some ⟨n + 3,0,none⟩),.pointer (some ⟨n + 5,0,none⟩)] W (Hit 2 (runL s.data.toList) (checkNum (runL s.data.toList)) W):=by
 have h0:=headIs_pos h
 rw [headIs_eq dgt s h0] at h
 exact number_hit s W _ _ _ hT.b2 hT.k2 hT.c2 hs h0 (list_empty h0) h
theorem number_no (s : ByteArray) (W : World) (n : Nat) (hT : TakerAt W n) (h : headIs dgt s.data.toList = false) :
 Calls Tryz.prog 210 #[.string s,.pointer (some ⟨n + 4,0,none⟩),.pointer (some ⟨n + 3,0,none⟩),.pointer (some ⟨n + 5,0,none⟩)] W (Hit 0 [] 3 W):=by
 by_cases h0 : 0 < s.size
 ·rw [headIs_eq dgt s h0] at h
  exact number_not s W _ _ _ hT.b2 h0 (list_empty h0) h
 ·refine word_empty s W _ _ _ ?_
  rw [Lib.toList_data]
  exact List.eq_nil_of_length_eq_zero (by rw [size_list];omega)
theorem TakerAt.drewN {W : World} {n : Nat} (h : TakerAt W n) (m : Nat) : TakerAt (W.drewN m) n:=h.later (B:=n + 10) (Nat.le_refl _) (below_drewN (Below.refl _ W) m)
def Draws (P : Program) (f : FuncId) (args : Array Value) (k : Int) (r : List UInt8) (c : Int) (W : World) : Prop:=∀ m,Calls P f args (W.drewN m) (Hit k r c (W.drewN m))
set_option maxHeartbeats 1000000 in
theorem first_word (s : ByteArray) (W : World) (n : Nat) (hT : TakerAt W n) (hs : s.size ≤ maxLen) (h : headIs ltr s.data.toList = true) :
 Calls Tryz.prog 209 #[.string s,.pointer (some ⟨n + 9,0,none⟩)] W (Hit 1 (runL s.data.toList) (checkLen (runL s.data.toList)) W):=by
 have HC0 : Hid (Calls Tryz.prog 210 #[.string s,.pointer (some ⟨n + 1,0,none⟩),.pointer (some ⟨n,0,none⟩),.pointer (some ⟨n + 2,0,none⟩)] W (Hit 1 (runL s.data.toList) (checkLen (runL s.data.toList)) W)):=Lib.hid (word_yes s W n hT hs h)
 generalize runL s.data.toList = r at *
 have t0:=hT.t0
 have ts:=hT.ts
 clear hT h
 go_enter Tryz.func209,Tryz.ntmps209
 go_wp2
 refine wp_loop_rounds 1 ?_
 rw [rounds_succ]
 go_wp2_with (go_at_call 210;refine HC0.out.mono ?_;rintro e w' ⟨rfl,nq,rfl⟩)
 go_ret3
 exact ⟨rfl,_,rfl⟩
set_option maxHeartbeats 1000000 in
theorem first_number (s : ByteArray) (W : World) (n : Nat) (hT : TakerAt W n) (hs : s.size ≤ maxLen) (hn : headIs ltr s.data.toList = false) (h : headIs dgt s.data.toList = true) :
 Calls Tryz.prog 209 #[.string s,.pointer (some ⟨n + 9,0,none⟩)] W (Hit 2 (runL s.data.toList) (checkNum (runL s.data.toList)) W):=by
 have HC0 : Hid (Calls Tryz.prog 210 #[.string s,.pointer (some ⟨n + 1,0,none⟩),.pointer (some ⟨n,0,none⟩),.pointer (some ⟨n + 2,0,none⟩)] W (Hit 0 [] 3 W)):=Lib.hid (word_no s W n hT hn)
 have HC1 : Draws Tryz.prog 210 #[.string s,.pointer (some ⟨n + 4,0,none⟩),.pointer (some ⟨n + 3,0,none⟩),.pointer (some ⟨n + 5,0,none⟩)] 2 (runL s.data.toList) (checkNum (runL s.data.toList)) W:=fun m => number_yes s _ n (hT.drewN m) hs h
 generalize runL s.data.toList = r at *
 have t0:=hT.t0
 have t1:=hT.t1
 have ts:=hT.ts
 clear hT h hn
 go_enter Tryz.func209,Tryz.ntmps209
 go_wp2
 refine wp_loop_rounds 2 ?_
 rw [rounds_succ]
 go_wp2_with (go_at_call 210;refine HC0.out.mono ?_;rintro e w' ⟨rfl,nq,rfl⟩)
 rw [rounds_succ]
 go_wp2_with (go_at_call 210;refine (HC1 _).mono ?_;rintro e w' ⟨rfl,nq2,rfl⟩)
 go_ret3
 exact ⟨rfl,_,rfl⟩
set_option maxHeartbeats 1000000 in
theorem first_symbol (s : ByteArray) (W : World) (n : Nat) (hT : TakerAt W n) (hn : headIs ltr s.data.toList = false) (h : headIs dgt s.data.toList = false) (hy : (symFind s.data.toList).isSome = true) :
 Calls Tryz.prog 209 #[.string s,.pointer (some ⟨n + 9,0,none⟩)] W (Hit 3 (symText s.data.toList) 0 W):=by
 have HC0 : Hid (Calls Tryz.prog 210 #[.string s,.pointer (some ⟨n + 1,0,none⟩),.pointer (some ⟨n,0,none⟩),.pointer (some ⟨n + 2,0,none⟩)] W (Hit 0 [] 3 W)):=Lib.hid (word_no s W n hT hn)
 have HC1 : Draws Tryz.prog 210 #[.string s,.pointer (some ⟨n + 4,0,none⟩),.pointer (some ⟨n + 3,0,none⟩),.pointer (some ⟨n + 5,0,none⟩)] 0 [] 3 W:=fun m => number_no s _ n (hT.drewN m) h
 have HC2 : Draws Tryz.prog 211 #[.string s,.pointer (some ⟨n + 7,0,none⟩)] 3 (symText s.data.toList) 0 W:=fun m => by
  have hh:=symbol_any s (W.drewN m) (n + 7) (n + 6) (hT.drewN m).sl (hT.drewN m).sy
  unfold symKind symErr at hh
  rw [hy] at hh
  exact hh
 generalize symText s.data.toList = r at *
 have t0:=hT.t0
 have t1:=hT.t1
 have t2:=hT.t2
 have ts:=hT.ts
 clear hT h hn hy
 go_enter Tryz.func209,Tryz.ntmps209
 go_wp2
 refine wp_loop_rounds 3 ?_
 rw [rounds_succ]
 go_wp2_with (go_at_call 210;refine HC0.out.mono ?_;rintro e w' ⟨rfl,nq,rfl⟩)
 rw [rounds_succ]
 go_wp2_with (go_at_call 210;refine (HC1 _).mono ?_;rintro e w' ⟨rfl,nq2,rfl⟩)
 rw [rounds_succ]
 go_wp2_with (go_at_call 211;refine (HC2 _).mono ?_;rintro e w' ⟨rfl,nq3,rfl⟩)
 go_ret3
 exact ⟨rfl,_,rfl⟩
set_option maxHeartbeats 1000000 in
theorem first_none (s : ByteArray) (W : World) (n : Nat) (hT : TakerAt W n) (hn : headIs ltr s.data.toList = false) (h : headIs dgt s.data.toList = false) (hy : (symFind s.data.toList).isSome = false) :
 Calls Tryz.prog 209 #[.string s,.pointer (some ⟨n + 9,0,none⟩)] W (Hit 0 [] 3 W):=by
 have HC0 : Hid (Calls Tryz.prog 210 #[.string s,.pointer (some ⟨n + 1,0,none⟩),.pointer (some ⟨n,0,none⟩),.pointer (some ⟨n + 2,0,none⟩)] W (Hit 0 [] 3 W)):=Lib.hid (word_no s W n hT hn)
 have HC1 : Draws Tryz.prog 210 #[.string s,.pointer (some ⟨n + 4,0,none⟩),.pointer (some ⟨n + 3,0,none⟩),.pointer (some ⟨n + 5,0,none⟩)] 0 [] 3 W:=fun m => number_no s _ n (hT.drewN m) h
 have HC2 : Draws Tryz.prog 211 #[.string s,.pointer (some ⟨n + 7,0,none⟩)] 0 [] 3 W:=fun m => by
  have hh:=symbol_any s (W.drewN m) (n + 7) (n + 6) (hT.drewN m).sl (hT.drewN m).sy
  unfold symKind symErr at hh
  rw [hy] at hh
  rw [show symText s.data.toList = [] by unfold symText;rw [Option.isNone_iff_eq_none.1 (Option.isSome_eq_false_iff.1 hy)];rfl] at hh
  exact hh
 have t0:=hT.t0
 have t1:=hT.t1
 have t2:=hT.t2
 have ts:=hT.ts
 clear hT h hn hy
 go_enter Tryz.func209,Tryz.ntmps209
 go_wp2
 refine wp_loop_rounds 4 ?_
 rw [rounds_succ]
 go_wp2_with (go_at_call 210;refine HC0.out.mono ?_;rintro e w' ⟨rfl,nq,rfl⟩)
 rw [rounds_succ]
 go_wp2_with (go_at_call 210;refine (HC1 _).mono ?_;rintro e w' ⟨rfl,nq2,rfl⟩)
 rw [rounds_succ]
 go_wp2_with (go_at_call 211;refine (HC2 _).mono ?_;rintro e w' ⟨rfl,nq3,rfl⟩)
 rw [rounds_succ]
 go_wp2
 go_ret3
 exact ⟨rfl,_,rfl⟩
theorem first_any (s : ByteArray) (W : World) (n : Nat) (hT : TakerAt W n) (hs : s.size ≤ maxLen) :
 Calls Tryz.prog 209 #[.string s,.pointer (some ⟨n + 9,0,none⟩)] W (Hit (takeK s.data.toList) (takeT s.data.toList) (takeE s.data.toList) W):=by
 unfold takeK takeT takeE
 cases hl : headIs ltr s.data.toList with
 | true => exact first_word s W n hT hs hl
 | false =>
   cases hd : headIs dgt s.data.toList with
   | true => exact first_number s W n hT hs hl hd
   | false =>
     show Calls _ _ _ _ (Hit (symKind s.data.toList) (symText s.data.toList) (symErr s.data.toList) W)
     unfold symKind symErr
     cases hy : (symFind s.data.toList).isSome with
     | true => exact first_symbol s W n hT hl hd hy
     | false =>
       rw [show symText s.data.toList = [] by unfold symText;rw [Option.isNone_iff_eq_none.1 (Option.isSome_eq_false_iff.1 hy)];rfl]
       exact first_none s W n hT hl hd hy
end Go.Proofs.YtojjfdegkooknaaGreatDoor
