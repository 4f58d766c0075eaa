import Derived.Test.YtojjfdegkooknaaGreatDoorQTypSp
import Derived.Laws.StructEq
set_option linter.unusedVariables false
set_option linter.unusedSimpArgs false
namespace Go.Proofs.YtojjfdegkooknaaGreatDoor
set_option maxRecDepth 100000
set_option maxHeartbeats 8000000
open Go.RowKit Go.Lib
theorem rRecord_any (p : Pg) (d : GAd) (s : List UInt8) (w : World) (own : PgOwn w w.heap.size d p) (nr ng nk nd nm nx : Nat) (hn : nr = p.rs.length) :
 Calls Tryz.prog 13 #[pgA d nr ng nk nd nm nx,.string ⟨s.toArray⟩] w fun e w' => e = .returned (.int .i64 (ixq (fun x => x.nm == s) p.rs)) ∧ Below w.heap.size w w':=by
 obtain ⟨W1,hW1⟩ : ∃ W1,W1 = w.alloc (pgO d nr ng nk nd nm nx):=⟨_,rfl⟩
 have hb1 : Below w.heap.size w W1:=by rw [hW1];exact below_alloc w _
 have hp1 : W1.heap[w.heap.size]? = some (pgO d nr ng nk nd nm nx):=by rw [hW1];exact heap_of_alloc w _
 obtain ⟨A,hA⟩ : ∃ A,A = d.r:=⟨_,rfl⟩
 have hm : nr ≤ maxLen:=by rw [hn];exact own.1.1
 have HH:=Lib.hid (And.intro (rc_rowV own.2.1) (And.intro hn (And.intro hA (And.intro hb1 hp1))))
 obtain ⟨Q,hQ⟩ : ∃ Q,Q = ixq (fun x => x.nm == s) p.rs:=⟨_,rfl⟩
 have HQ:=Lib.hid hQ
 rw [← hQ]
 clear own hn hA hb1 hp1 hQ
 unfold maxLen at hm
 go_enter Tryz.func13,Tryz.ntmps13
 go_wp2
 rw [← hW1]
 clear hW1
 go_loopg [5] nr (fun m j wr => ∃ k : Nat,m = nr - k ∧ k ≤ nr ∧ j = .int .i64 k ∧ Hid (Below W1.heap.size W1 wr ∧ (p.rs.take k).all (fun y => !(y.nm == s)) = true))
 case atStart => exact ⟨0,rfl,Nat.zero_le _,rfl,Lib.hid ⟨Below.refl _ _,by rw [List.take_zero];rfl⟩⟩
 case round =>
  obtain ⟨k,rfl,hk,rfl,HI⟩:=hrel
  have hk0 : (0 : Int) ≤ k:=by omega
  have z0:=cell_of_block (kept_box HI.out.1 HH.out.2.2.2.2) 0 (v:=.slice d.r nr d.nr) rfl
  rw [← HH.out.2.2.1] at z0
  by_cases hlt : k < nr
  ·have hki : (k : Int) < nr:=by omega
   obtain ⟨x,hx⟩ : ∃ x,p.rs[k]? = some x:=⟨p.rs[k]'(by rw [← HH.out.2.1];exact hlt),List.getElem?_eq_getElem _⟩
   obtain ⟨a,cs,hAa,hab,hcs,hca,hv⟩:=HH.out.1 k x hx
   obtain rfl : A = some a:=HH.out.2.2.1.trans hAa
   have e0 : wr.cell? (a.add (k * 2)) = some (.string ⟨x.nm.toArray⟩):=by
    have h:=hca 0 _ (vRecord_nm hv)
    rw [add_add_plain,Nat.add_zero] at h
    exact ((HH.out.2.2.2.1.chain HI.out.1).cell (by rw [block_adds];exact hab)).trans h
   obtain ⟨r,hr⟩ : ∃ r,r = (x.nm == s):=⟨_,rfl⟩
   have HX:=Lib.hid (And.intro hx hr)
   have hr':=hr.symm
   clear hx hr hca hcs hv hab
   cases r
   ·go_wp2
    go_roundg (nr - (k + 1))
    case measure => omega
    case rel => exact ⟨k + 1,rfl,by omega,by go_num,Lib.hid ⟨HI.out.1,by rw [all_take_succ (fun y => !(y.nm == s)) p.rs k x HX.out.1,HI.out.2,← HX.out.2];rfl⟩⟩
   ·go_wp2
    go_ret
    exact ⟨by rw [HQ.out,ixq_at _ p.rs k x HX.out.1 HI.out.2 HX.out.2.symm];rfl,HH.out.2.2.2.1.chain HI.out.1⟩
  ·have hlt' : ¬ (k : Int) < nr:=by omega
   obtain rfl : k = nr:=by omega
   have h:=HI.out.2
   rw [List.take_of_length_le (by rw [HH.out.2.1];exact Nat.le_refl _)] at h
   have HE:=Lib.hid h
   clear h
   go_wp2
   go_ret
   exact ⟨by rw [HQ.out,ixq_none _ p.rs HE.out];rfl,HH.out.2.2.2.1.chain HI.out.1⟩
theorem rProc_any (p : Pg) (d : GAd) (s : List UInt8) (w : World) (own : PgOwn w w.heap.size d p) (nr ng nk nd nm nx : Nat) (hn : nx = p.xs.length) :
 Calls Tryz.prog 14 #[pgA d nr ng nk nd nm nx,.string ⟨s.toArray⟩] w fun e w' => e = .returned (.int .i64 (ixq (fun x => x.nm == s) p.xs)) ∧ Below w.heap.size w w':=by
 obtain ⟨W1,hW1⟩ : ∃ W1,W1 = w.alloc (pgO d nr ng nk nd nm nx):=⟨_,rfl⟩
 have hb1 : Below w.heap.size w W1:=by rw [hW1];exact below_alloc w _
 have hp1 : W1.heap[w.heap.size]? = some (pgO d nr ng nk nd nm nx):=by rw [hW1];exact heap_of_alloc w _
 obtain ⟨A,hA⟩ : ∃ A,A = d.x:=⟨_,rfl⟩
 have hm : nx ≤ maxLen:=by rw [hn];exact own.1.2.2.2.2.2
 have HH:=Lib.hid (And.intro (pr_rowV own.2.2.2.2.2.2) (And.intro hn (And.intro hA (And.intro hb1 hp1))))
 obtain ⟨Q,hQ⟩ : ∃ Q,Q = ixq (fun x => x.nm == s) p.xs:=⟨_,rfl⟩
 have HQ:=Lib.hid hQ
 rw [← hQ]
 clear own hn hA hb1 hp1 hQ
 unfold maxLen at hm
 go_enter Tryz.func14,Tryz.ntmps14
 go_wp2
 rw [← hW1]
 clear hW1
 go_loopg [5] nx (fun m j wr => ∃ k : Nat,m = nx - k ∧ k ≤ nx ∧ j = .int .i64 k ∧ Hid (Below W1.heap.size W1 wr ∧ (p.xs.take k).all (fun y => !(y.nm == s)) = true))
 case atStart => exact ⟨0,rfl,Nat.zero_le _,rfl,Lib.hid ⟨Below.refl _ _,by rw [List.take_zero];rfl⟩⟩
 case round =>
  obtain ⟨k,rfl,hk,rfl,HI⟩:=hrel
  have hk0 : (0 : Int) ≤ k:=by omega
  have z0:=cell_of_block (kept_box HI.out.1 HH.out.2.2.2.2) 5 (v:=.slice d.x nx d.nx) rfl
  rw [← HH.out.2.2.1] at z0
  by_cases hlt : k < nx
  ·have hki : (k : Int) < nx:=by omega
   obtain ⟨x,hx⟩ : ∃ x,p.xs[k]? = some x:=⟨p.xs[k]'(by rw [← HH.out.2.1];exact hlt),List.getElem?_eq_getElem _⟩
   obtain ⟨a,cs,hAa,hab,hcs,hca,hv⟩:=HH.out.1 k x hx
   obtain rfl : A = some a:=HH.out.2.2.1.trans hAa
   have e0 : wr.cell? (a.add (k * 12)) = some (.string ⟨x.nm.toArray⟩):=by
    have h:=hca 0 _ (vProc_nm hv)
    rw [add_add_plain,Nat.add_zero] at h
    exact ((HH.out.2.2.2.1.chain HI.out.1).cell (by rw [block_adds];exact hab)).trans h
   obtain ⟨r,hr⟩ : ∃ r,r = (x.nm == s):=⟨_,rfl⟩
   have HX:=Lib.hid (And.intro hx hr)
   have hr':=hr.symm
   clear hx hr hca hcs hv hab
   cases r
   ·go_wp2
    go_roundg (nx - (k + 1))
    case measure => omega
    case rel => exact ⟨k + 1,rfl,by omega,by go_num,Lib.hid ⟨HI.out.1,by rw [all_take_succ (fun y => !(y.nm == s)) p.xs k x HX.out.1,HI.out.2,← HX.out.2];rfl⟩⟩
   ·go_wp2
    go_ret
    exact ⟨by rw [HQ.out,ixq_at _ p.xs k x HX.out.1 HI.out.2 HX.out.2.symm];rfl,HH.out.2.2.2.1.chain HI.out.1⟩
  ·have hlt' : ¬ (k : Int) < nx:=by omega
   obtain rfl : k = nx:=by omega
   have h:=HI.out.2
   rw [List.take_of_length_le (by rw [HH.out.2.1];exact Nat.le_refl _)] at h
   have HE:=Lib.hid h
   clear h
   go_wp2
   go_ret
   exact ⟨by rw [HQ.out,ixq_none _ p.xs HE.out];rfl,HH.out.2.2.2.1.chain HI.out.1⟩
end Go.Proofs.YtojjfdegkooknaaGreatDoor
namespace Go.Proofs.YtojjfdegkooknaaGreatDoor
set_option maxRecDepth 100000
set_option maxHeartbeats 8000000
open Go.RowKit Go.Lib
theorem ixq_cases {α : Type} (p : α → Bool) (l : List α) : (ixq p l = -1 ∧ l.find? p = none) ∨ ∃ (i : Nat) (x : α),ixq p l = i ∧ l[i]? = some x ∧ l.find? p = some x:=by
 unfold ixq
 cases h : l.findIdx? p with
 | none => exact .inl ⟨rfl,List.find?_eq_none.2 fun x hx => by rw [List.findIdx?_eq_none_iff.1 h x hx];simp⟩
 | some i =>
   obtain ⟨h1,h2,h3⟩:=List.findIdx?_eq_some_iff_getElem.1 h
   refine .inr ⟨i,l[i],rfl,List.getElem?_eq_getElem h1,?_⟩
   refine find_take p l i l[i] (List.getElem?_eq_getElem h1) ?_ h2
   rw [List.all_eq_true]
   intro y hy
   obtain ⟨j,hj,he⟩:=List.getElem_of_mem hy
   rw [List.length_take] at hj
   have := h3 j (by omega)
   rw [List.getElem_take] at he
   rw [← he]
   simpa using this
theorem rField_any (p : Pg) (d : GAd) (s f : List UInt8) (w : World) (own : PgOwn w w.heap.size d p) (nr ng nk nd nm nx : Nat) (hn : nr = p.rs.length) :
 Calls Tryz.prog 15 #[pgA d nr ng nk nd nm nx,.string ⟨s.toArray⟩,.string ⟨f.toArray⟩] w fun e w' => e = .returned (.int .i64 (fldQ p s f)) ∧ Below w.heap.size w w':=by
 obtain ⟨W1,hW1⟩ : ∃ W1,W1 = w.alloc (pgO d nr ng nk nd nm nx):=⟨_,rfl⟩
 have hb1 : Below w.heap.size w W1:=by rw [hW1];exact below_alloc w _
 have hp1 : W1.heap[w.heap.size]? = some (pgO d nr ng nk nd nm nx):=by rw [hW1];exact heap_of_alloc w _
 have HR:=Lib.hid (rRecord_any p d s W1 (own.on hb1) nr ng nk nd nm nx hn)
 obtain ⟨q0,hq0⟩ : ∃ q,q = ixq (fun x : Rc => x.nm == s) p.rs:=⟨_,rfl⟩
 rw [← hq0] at HR
 obtain ⟨A,hA⟩ : ∃ A,A = d.r:=⟨_,rfl⟩
 obtain ⟨Q,hQ⟩ : ∃ Q,Q = fldQ p s f:=⟨_,rfl⟩
 have HH:=Lib.hid (And.intro own (And.intro hn (And.intro hA (And.intro hb1 hp1))))
 have HQ:=Lib.hid (And.intro hQ hq0)
 rw [← hQ]
 clear own hn hb1 hp1 hQ hq0 hA
 go_enter Tryz.func15,Tryz.ntmps15
 go_wp2_with fail
 rw [← hW1]
 clear hW1
 (with_reducible refine HR.out.mono ?_)
 rintro e w2 ⟨rfl,hb⟩
 have H2:=Lib.hid (And.intro (HH.out.2.2.2.1.chain hb) (kept_box hb HH.out.2.2.2.2))
 clear hb
 rcases ixq_cases (fun x : Rc => x.nm == s) p.rs with ⟨h1,h2⟩ | ⟨k0,y,h1,h2,h3⟩
 ·have hq : q0 = -1:=HQ.out.2.trans h1
  subst hq
  have HE : Hid (Q = -1):=Lib.hid (by
   rw [HQ.out.1]
   unfold fldQ fldL fstO
   rw [h2]
   rfl)
  clear h1 h2
  go_wp2
  go_ret
  exact ⟨by rw [HE.out];rfl,H2.out.1⟩
 ·have hq : q0 = (k0 : Int):=HQ.out.2.trans h1
  subst hq
  have hfl : fldL p s = y.fs:=by unfold fldL fstO;rw [h3]
  obtain ⟨own,hn,hA',-,-⟩:=HH.out
  have hk0 : k0 < nr:=by rw [hn];exact (List.getElem?_eq_some_iff.1 h2).1
  obtain ⟨a,cs,hAa,hab,hcs,hca,A1,c1,hcs2,hnl,hfm,hrow⟩:=rc_rowV own.2.1 k0 y h2
  obtain rfl : A = some a:=hA'.trans hAa
  obtain ⟨n,hnf⟩ : ∃ n,n = y.fs.length:=⟨_,rfl⟩
  rw [← hnf] at hcs2
  have hki : (k0 : Int) < nr:=by omega
  have hk00 : ¬ (k0 : Int) < 0:=by omega
  have hk01 : (0 : Int) ≤ k0:=by omega
  obtain ⟨A1v,hA1v⟩ : ∃ A,A = A1:=⟨_,rfl⟩
  have HC : Hid (∀ W,Below w2.heap.size w2 W → W.cell? ⟨w.heap.size,0,none⟩ = some (.slice (some a) nr d.nr) ∧ W.cell? ⟨(a.add (k0 * 2)).block,(a.add (k0 * 2)).off + 1,none⟩ = some (.slice A1v n c1)):=Lib.hid (fun W hb => by
   refine ⟨?_,?_⟩
   ·have h:=cell_of_block (kept_box hb H2.out.2) 0 (v:=.slice d.r nr d.nr) rfl
    rw [← hA'] at h
    exact h
   ·have h:=hca 1 (.slice A1 n c1) (by rw [hcs2];rfl)
    have h4 : W.cell? ((a.add (k0 * 2)).add 1) = some (.slice A1 n c1):=((H2.out.1.chain hb).cell (by rw [block_adds,block_adds];exact hab)).trans h
    rw [hA1v]
    exact h4)
  have HRow:=Lib.hid (And.intro (pm_rowV hrow) (And.intro hnf (And.intro hA1v hfl)))
  have hm : n ≤ maxLen:=by rw [hnf];exact hfm
  clear own hn hA' hAa hab hcs hca hcs2 hnl hfm hrow h1 h2 h3 hfl hnf hA1v
  unfold maxLen at hm
  obtain ⟨z0,z1⟩:=HC.out _ (Below.refl _ _)
  go_wp2
  clear z0 z1
  go_loopg [8] n (fun m j wr => ∃ k : Nat,m = n - k ∧ k ≤ n ∧ j = .int .i64 k ∧ Hid (Below w2.heap.size w2 wr ∧ ((fldL p s).take k).all (fun x : Pm => !(x.nm == f)) = true))
  case atStart => exact ⟨0,rfl,Nat.zero_le _,rfl,Lib.hid ⟨Below.refl _ _,by rw [List.take_zero];rfl⟩⟩
  case round =>
   obtain ⟨k,rfl,hk,rfl,HI⟩:=hrel
   have hkk : (0 : Int) ≤ k:=by omega
   obtain ⟨z0,z1⟩:=HC.out _ HI.out.1
   by_cases hlt : k < n
   ·have hki2 : (k : Int) < n:=by omega
    have hln : (fldL p s).length = n:=by rw [HRow.out.2.2.2];exact HRow.out.2.1.symm
    obtain ⟨x,hx⟩ : ∃ x,(fldL p s)[k]? = some x:=⟨(fldL p s)[k]'(by rw [hln];exact hlt),List.getElem?_eq_getElem _⟩
    obtain ⟨b,cs,hAb,hab,hcs,hca,hv⟩:=HRow.out.1 k x (by rw [← HRow.out.2.2.2];exact hx)
    obtain rfl : A1v = some b:=HRow.out.2.2.1.trans hAb
    have e1 : wr.cell? ⟨(b.add (k * 2)).block,(b.add (k * 2)).off + 1,none⟩ = some (.string ⟨x.nm.toArray⟩):=by
     have h:=hca 1 (.string ⟨x.nm.toArray⟩) (by rw [hv.1];rfl)
     have h4 : wr.cell? ((b.add (k * 2)).add 1) = some (.string ⟨x.nm.toArray⟩):=((H2.out.1.chain HI.out.1).cell (by rw [block_adds,block_adds];exact hab)).trans h
     exact h4
    obtain ⟨r,hr⟩ : ∃ r,r = (x.nm == f):=⟨_,rfl⟩
    have HX:=Lib.hid (And.intro hx hr)
    have hr':=hr.symm
    clear hx hr hca hcs hv hab hln
    cases r
    ·go_wp2
     go_roundg (n - (k + 1))
     case measure => omega
     case rel => exact ⟨k + 1,rfl,by omega,by go_num,Lib.hid ⟨HI.out.1,by rw [all_take_succ (fun x : Pm => !(x.nm == f)) (fldL p s) k x HX.out.1,HI.out.2,← HX.out.2];rfl⟩⟩
    ·go_wp2
     go_ret
     exact ⟨by rw [HQ.out.1];unfold fldQ;rw [ixq_at _ (fldL p s) k x HX.out.1 HI.out.2 HX.out.2.symm];rfl,H2.out.1.chain HI.out.1⟩
   ·have hlt' : ¬ (k : Int) < n:=by omega
    obtain rfl : k = n:=by omega
    have h:=HI.out.2
    rw [List.take_of_length_le (by rw [HRow.out.2.2.2,← HRow.out.2.1];exact Nat.le_refl _)] at h
    have HE:=Lib.hid h
    clear h
    go_wp2
    go_ret
    exact ⟨by rw [HQ.out.1];unfold fldQ;rw [ixq_none _ (fldL p s) HE.out];rfl,H2.out.1.chain HI.out.1⟩
end Go.Proofs.YtojjfdegkooknaaGreatDoor
namespace Go.Proofs.YtojjfdegkooknaaGreatDoor
set_option maxRecDepth 100000
set_option maxHeartbeats 2000000
open Go.RowKit Go.Lib
theorem equalPm_same (A B : Option Addr) (c d n : Nat) (l : List Pm) (hn : n = l.length) (hl : n ≤ maxLen) (B0 : Nat) (w : World) (hB0 : B0 ≤ w.heap.size) (hA : RowV VPm 2 w B0 l A) (hB : RowV VPm 2 w B0 l B) :
 Calls Tryz.prog 16 #[.slice A n c,.slice B n d] w fun e w' => e = .returned (.bool true) ∧ Below w.heap.size w w':=by
 have HH:=Lib.hid (And.intro hA (And.intro hB (And.intro hB0 hn)))
 unfold maxLen at hl
 have hgd : Tryz.prog.eqGuardType Tryz.prog.depth 42 = false:=by kernel_rfl
 clear hA hB hn hB0
 go_enter Tryz.func16,Tryz.ntmps16
 go_wp2
 go_loopg [13] n (fun mm j wr => ∃ k : Nat,mm = n - k ∧ k ≤ n ∧ j = .int .i64 k ∧ Hid (∃ q,wr = w.drewN q))
 case atStart => exact ⟨0,rfl,Nat.zero_le _,rfl,Lib.hid ⟨0,rfl⟩⟩
 case round =>
  obtain ⟨k,rfl,hk,rfl,HI⟩:=hrel
  obtain ⟨q,rfl⟩:=HI.out
  by_cases hlt : k < n
  ·have hlt' : (k : Int) < n:=by omega
   obtain ⟨x,hx⟩ : ∃ x,l[k]? = some x:=⟨l[k]'(by rw [← HH.out.2.2.2];exact hlt),List.getElem?_eq_getElem _⟩
   obtain ⟨a,cs,rfl,_,hcs,hca,hv⟩:=HH.out.1 k x hx
   obtain ⟨b,cs',rfl,_,hcs',hcb,hv'⟩:=HH.out.2.1 k x hx
   have c0 : w.cell? (a.add (k * 2)) = some (.string ⟨x.t.toArray⟩):=by
    have h:=hca 0 _ (by rw [hv.1];rfl)
    rwa [add_add_plain,Nat.add_zero] at h
   have c1 : w.cell? ⟨(a.add (k * 2)).block,(a.add (k * 2)).off + 1,none⟩ = some (.string ⟨x.nm.toArray⟩):=hca 1 _ (by rw [hv.1];rfl)
   have d0 : w.cell? (b.add (k * 2)) = some (.string ⟨x.t.toArray⟩):=by
    have h:=hcb 0 _ (by rw [hv'.1];rfl)
    rwa [add_add_plain,Nat.add_zero] at h
   have d1 : w.cell? ⟨(b.add (k * 2)).block,(b.add (k * 2)).off + 1,none⟩ = some (.string ⟨x.nm.toArray⟩):=hcb 1 _ (by rw [hv'.1];rfl)
   obtain ⟨xn,hxn⟩ : ∃ xn,xn = x.nm:=⟨_,rfl⟩
   obtain ⟨xv,hxv⟩ : ∃ xv,xv = x.t:=⟨_,rfl⟩
   rw [← hxn] at c1 d1
   rw [← hxv] at c0 d0
   clear hx hxn hxv hca hcb hcs hcs' hv hv'
   have hk0 : (0 : Int) ≤ k:=by omega
   go_wp2
   go_quiet (fail)
   go_wp2
   go_roundg (n - (k + 1))
   case measure => omega
   case rel => exact ⟨k + 1,rfl,by omega,by go_num,Lib.hid ⟨_,rfl⟩⟩
  ·have hlt' : ¬ (k : Int) < n:=by omega
   go_wp2
   go_ret
   exact ⟨rfl,below_dn (Below.refl _ _) _⟩
end Go.Proofs.YtojjfdegkooknaaGreatDoor
namespace Go.Proofs.YtojjfdegkooknaaGreatDoor
set_option maxRecDepth 100000
set_option maxHeartbeats 8000000
open Go.RowKit Go.Lib
theorem own_empty (w : World) (e : TypeId) (size : Nat) (base : Nat) (hb : base ≤ w.heap.size) : (w.alloc (.cells #[] e)).ownsRow base e size (.slice (some ⟨w.heap.size,0,none⟩) 0 0) 0 []:=by
 refine ⟨by simp,.inr ⟨w.heap.size,0,#[],rfl,hb,heap_of_alloc w _,Nat.le_refl _,Nat.zero_le _,by simp,by simp⟩⟩
def RowPost (l : List Pm) (w : World) (e : Ending) (w' : World) : Prop :=
 (∃ (A : Option Addr) (m k : Nat),e = .returned (.slice A m k) ∧ m = l.length ∧ RowV VPm 2 w' w'.heap.size l A) ∧ Below w.heap.size w w'
theorem rScope_any (p : Pg) (d : GAd) (x : Pr) (dp : PAd) (w : World) (own : PgOwn w w.heap.size d p) (how : PrOwn w w.heap.size dp x) (nr ng nk nd nm nx : Nat) (hng : ng = p.gs.length) (hs : p.gs.length + x.ps.length + x.lg.length + x.lo.length ≤ 3999999999999) :
 Calls Tryz.prog 17 #[pgA d nr ng nk nd nm nx,.agg (prCs dp x)] w (RowPost (scopeL p.gs x) w):=by
 obtain ⟨W6,hW6⟩ : ∃ W6,W6 = (w.alloc (pgO d nr ng nk nd nm nx)).alloc (.cells (prCs dp x) 46):=⟨_,rfl⟩
 have hb6 : Below w.heap.size w W6:=by rw [hW6];exact (below_alloc w _).chain (below_alloc _ _)
 have hp5 : W6.heap[w.heap.size]? = some (pgO d nr ng nk nd nm nx):=by rw [hW6];exact heap_keep (heap_of_alloc w _)
 have hp6 : W6.heap[w.heap.size + 1]? = some (.cells (prCs dp x) 46):=by
  rw [hW6]
  have h:=heap_of_alloc (w.alloc (pgO d nr ng nk nd nm nx)) (.cells (prCs dp x) 46)
  rwa [size_of_alloc] at h
 have hmx : Tryz.prog.follows .mixedOrders = true:=by kernel_rfl
 obtain ⟨i0,hi,hiz,his,hib⟩:=info_parts infoPmV
 have HI0:=Lib.hid (And.intro hi (And.intro hiz (And.intro his hib)))
 obtain ⟨n1,h1⟩ : ∃ n,n = x.ps.length:=⟨_,rfl⟩
 obtain ⟨n2,h2⟩ : ∃ n,n = x.lg.length:=⟨_,rfl⟩
 obtain ⟨n3,h3⟩ : ∃ n,n = x.rq.length:=⟨_,rfl⟩
 obtain ⟨n4,h4⟩ : ∃ n,n = x.es.length:=⟨_,rfl⟩
 obtain ⟨n5,h5⟩ : ∃ n,n = x.lo.length:=⟨_,rfl⟩
 obtain ⟨n6,h6⟩ : ∃ n,n = x.bd.length:=⟨_,rfl⟩
 have HS0 : Hid (∀ W,Below W6.heap.size W6 W → Reads W W6.heap.size 2 d.g ng (pcL p.gs) ∧ Reads W W6.heap.size 2 dp.p n1 (pcL x.ps) ∧ Reads W W6.heap.size 2 dp.g n2 (pcL x.lg) ∧ Reads W W6.heap.size 2 dp.l n5 (pcL x.lo)):=Lib.hid (fun W hb => by
  have o1:=own.on hb6
  have o2:=how.on hb6
  rw [hng,h1,h2,h5]
  exact ⟨(pc_reads (pm_rowV o1.2.2.1)).below hb,(pc_reads (pm_rowV o2.2.1)).below hb,(pc_reads (pm_rowV o2.2.2.1)).below hb,(pc_reads (pm_rowV o2.2.2.2.2.2.1)).below hb⟩)
 have HL : Hid ((∀ y ∈ scopeL p.gs x,y.t.length ≤ maxLen ∧ y.nm.length ≤ maxLen) ∧ (scopeL p.gs x).length = ng + n1 + n2 + (resL x).length + n5 ∧ ng + n1 + n2 + n5 ≤ 3999999999999):=Lib.hid (by
  refine ⟨fun y hy => ?_,?_,?_⟩
  ·unfold scopeL at hy
   simp only [List.mem_append] at hy
   rcases hy with (((h | h) | h) | h) | h
   ·exact pm_lens' (pm_rowV own.2.2.1) y h
   ·exact pm_lens' (pm_rowV how.2.1) y h
   ·exact pm_lens' (pm_rowV how.2.2.1) y h
   ·unfold resL at h
    split at h
    ·cases h
    ·obtain rfl:=List.mem_singleton.1 h
     exact ⟨how.1.2.2.2.1,how.1.2.2.2.2.1⟩
   ·exact pm_lens' (pm_rowV how.2.2.2.2.2.1) y h
  ·unfold scopeL
   simp only [List.length_append]
   rw [← hng,← h1,← h2,← h5]
  ·rw [hng,h1,h2,h5]
   exact hs)
 obtain ⟨t2,ht2⟩ : ∃ t,t = ng + n1:=⟨_,rfl⟩
 obtain ⟨t3,ht3⟩ : ∃ t,t = t2 + n2:=⟨_,rfl⟩
 have HT:=Lib.hid (And.intro ht2 ht3)
 unfold prCs at hp6 hW6 ⊢
 rw [← h1,← h2,← h3,← h4,← h5,← h6] at hp6 hW6
 rw [← h1,← h2,← h3,← h4,← h5,← h6]
 clear h1 h2 h3 h4 h5 h6 hs own how hng hi hiz his hib ht2 ht3
 obtain ⟨S,hS⟩ : ∃ S : World → Prop,S = fun W => Below W6.heap.size W6 W:=⟨_,rfl⟩
 have HS2 : Hid (∀ W,Below W6.heap.size W6 W → S W):=Lib.hid (fun W hb => by rw [hS];exact hb)
 have HLD : Hid (∀ W,Below W6.heap.size W6 W → W.cell? ⟨w.heap.size,1,none⟩ = some (.slice d.g ng d.ng) ∧ W.cell? ⟨w.heap.size + 1,3,none⟩ = some (.slice dp.p n1 dp.np) ∧ W.cell? ⟨w.heap.size + 1,4,none⟩ = some (.slice dp.g n2 dp.ng) ∧ W.cell? ⟨w.heap.size + 1,5,none⟩ = some (.string ⟨x.rt.toArray⟩) ∧ W.cell? ⟨w.heap.size + 1,6,none⟩ = some (.string ⟨x.rn.toArray⟩) ∧ W.cell? ⟨w.heap.size + 1,10,none⟩ = some (.slice dp.l n5 dp.nl)):=Lib.hid (fun W hb => by
  have q5:=kept_box hb hp5
  have q6:=kept_box hb hp6
  exact ⟨cell_of_block q5 1 rfl,cell_of_block q6 3 rfl,cell_of_block q6 4 rfl,cell_of_block q6 5 rfl,cell_of_block q6 6 rfl,cell_of_block q6 10 rfl⟩)
 have HSB : Hid (∀ W,S W → Below W6.heap.size W6 W):=Lib.hid (fun W hb => by rw [hS] at hb;exact hb)
 have HX0:=Lib.hid (Below.refl W6.heap.size W6).drew
 have H6:=Lib.hid hb6
 have g0:=HS2.out _ HX0.out
 clear hb6 hp6 hp5 hS
 go_enter Tryz.func17,Tryz.ntmps17
 go_wp2
 rw [← hW6]
 clear hW6
 refine wp_region_held (S:=S) hmx ?_
 change wpAnyH _ _ _ _ _ 11 #[false,false,false,false,false,false,false,false,false,false,false] _ W6.drew
 refine tk 1 7 (.pointer (some ⟨w.heap.size,1,none⟩)) g0 ?v ?_
 case v => intro Wx hSx;go_simp
 refine tk 4 10 (.pointer (some ⟨w.heap.size + 1,3,none⟩)) g0 ?v ?_
 case v => intro Wx hSx;go_simp
 refine tk 7 13 (.pointer (some ⟨w.heap.size + 1,4,none⟩)) g0 ?v ?_
 case v => intro Wx hSx;go_simp
 try simp only [Act.put,List.setIfInBounds_toArray,List.set_cons_zero,List.set_cons_succ]
 refine tk 2 8 (.slice d.g ng d.ng) g0 ?v ?_
 case v => intro Wx hSx;have z:=(HLD.out Wx (HSB.out _ hSx)).1;go_simp
 refine tk 5 11 (.slice dp.p n1 dp.np) g0 ?v ?_
 case v => intro Wx hSx;have z:=(HLD.out Wx (HSB.out _ hSx)).2.1;go_simp
 refine tk 8 14 (.slice dp.g n2 dp.ng) g0 ?v ?_
 case v => intro Wx hSx;have z:=(HLD.out Wx (HSB.out _ hSx)).2.2.1;go_simp
 try simp only [Act.put,List.setIfInBounds_toArray,List.set_cons_zero,List.set_cons_succ]
 refine o1 0 (fun K hK => ?_)
 go_simp
 obtain ⟨W7,hW7⟩ : ∃ W,W = (W6.alloc (.cells #[] 42)).drew:=⟨_,rfl⟩
 rw [← hW7]
 have H7 : Hid (Below W6.heap.size W6 W7 ∧ W7.ownsRow W6.heap.size 42 2 (.slice (some ⟨W6.heap.size,0,none⟩) 0 0) 0 []):=Lib.hid (by
  rw [hW7]
  exact ⟨(below_alloc W6 _).drew,own_empty W6 _ _ _ (Nat.le_refl _)⟩)
 refine hK _ _ (HS2.out _ H7.out.1) ?_
 clear hK K hW7
 try simp only [Act.put,List.setIfInBounds_toArray,List.set_cons_zero,List.set_cons_succ]
 refine o1 3 (fun K hK => ?_)
 refine wp_append_any W7 _ _ 23 rfl W6.heap.size 42 i0 _ 2 32 Tryz.underlying23 HI0.out.1 HI0.out.2.1 HI0.out.2.2.1 HI0.out.2.2.2 rfl (by decide) _ 0 [] rfl H7.out.2 W6.heap.size d.g ng _ (pcL p.gs) rfl (HS0.out _ H7.out.1).1 (pcL_one _) (by unfold maxLen;have := HL.out.2.2;omega) (by have := HL.out.2.2;omega) H7.out.1.size ?_
 intro v1 W8 o8 g8 _
 have H8 : Hid (Below W6.heap.size W6 W8 ∧ W8.ownsRow W6.heap.size 42 2 v1 ng (pcL p.gs)):=Lib.hid ⟨H7.out.1.trans (below_grown H7.out.2 g8 H7.out.1.size),by simpa using o8⟩
 refine hK _ _ (HS2.out _ H8.out.1) ?_
 clear hK K o8 g8
 try simp only [Act.put,List.setIfInBounds_toArray,List.set_cons_zero,List.set_cons_succ]
 refine o1 6 (fun K hK => ?_)
 refine wp_append_any W8 _ _ 23 rfl W6.heap.size 42 i0 _ 2 32 Tryz.underlying23 HI0.out.1 HI0.out.2.1 HI0.out.2.2.1 HI0.out.2.2.2 rfl (by decide) _ ng (pcL p.gs) rfl H8.out.2 W6.heap.size dp.p n1 _ (pcL x.ps) rfl (HS0.out _ H8.out.1).2.1 (pcL_one _) (by unfold maxLen;have := HL.out.2.2;omega) (by have := HL.out.2.2;omega) H8.out.1.size ?_
 intro v2 W9 o9 g9 _
 have H9 : Hid (Below W6.heap.size W6 W9 ∧ W9.ownsRow W6.heap.size 42 2 v2 t2 (pcL p.gs ++ pcL x.ps)):=Lib.hid ⟨H8.out.1.trans (below_grown H8.out.2 g9 H8.out.1.size),by rw [HT.out.1];exact o9⟩
 refine hK _ _ (HS2.out _ H9.out.1) ?_
 clear hK K o9 g9
 try simp only [Act.put,List.setIfInBounds_toArray,List.set_cons_zero,List.set_cons_succ]
 refine o1 9 (fun K hK => ?_)
 refine wp_append_any W9 _ _ 23 rfl W6.heap.size 42 i0 _ 2 32 Tryz.underlying23 HI0.out.1 HI0.out.2.1 HI0.out.2.2.1 HI0.out.2.2.2 rfl (by decide) _ t2 (pcL p.gs ++ pcL x.ps) rfl H9.out.2 W6.heap.size dp.g n2 _ (pcL x.lg) rfl (HS0.out _ H9.out.1).2.2.1 (pcL_one _) (by unfold maxLen;have := HL.out.2.2;have := HT.out.1;omega) (by have := HL.out.2.2;have := HT.out.1;omega) H9.out.1.size ?_
 intro v3 W10 o10 g10 _
 have H10 : Hid (Below W6.heap.size W6 W10 ∧ W10.ownsRow W6.heap.size 42 2 v3 t3 (pcL p.gs ++ pcL x.ps ++ pcL x.lg)):=Lib.hid ⟨H9.out.1.trans (below_grown H9.out.2 g10 H9.out.1.size),by rw [HT.out.2];exact o10⟩
 have gx:=HS2.out _ H10.out.1
 refine hK _ _ gx ?_
 clear hK K o10 g10
 try simp only [Act.put,List.setIfInBounds_toArray,List.set_cons_zero,List.set_cons_succ]
 refine tk 10 5 v3 gx ?v ?_
 case v => intro Wx hSx;go_simp
 try simp only [Act.put,List.setIfInBounds_toArray,List.set_cons_zero,List.set_cons_succ]
 refine wpAnyH_done (by kernel_rfl) ?_ _
 clear gx g0 HSB HS2
 obtain ⟨z1,z2,z3,zt,zn,zl⟩:=HLD.out _ H10.out.1
 by_cases hz : x.rn = []
 ·have hb : (x.rn == []) = true:=by rw [hz];rfl
  have HR : Hid (resL x = []):=Lib.hid (if_pos hz)
  clear hz
  go_wp2_with (at_builtin;refine wpList_append_any (o:=⟨some 28,_,_,_,_,_⟩) _ rfl _ _ 23 rfl W6.heap.size 42 i0 _ 2 32 Tryz.underlying23 HI0.out.1 HI0.out.2.1 HI0.out.2.2.1 HI0.out.2.2.2 rfl (by decide) _ t3 (pcL p.gs ++ pcL x.ps ++ pcL x.lg) rfl H10.out.2 W6.heap.size dp.l n5 _ (pcL x.lo) rfl (HS0.out _ H10.out.1).2.2.2 (pcL_one _) (by unfold maxLen;have := HL.out.2.2;have := HT.out.1;have := HT.out.2;omega) (by have := HL.out.2.2;have := HT.out.1;have := HT.out.2;omega) H10.out.1.size ?_;intro v4 w4 o g _;have H11 : Hid (Below W6.heap.size W6 w4 ∧ w4.ownsRow W6.heap.size 42 2 v4 (t3 + n5) (pcL p.gs ++ pcL x.ps ++ pcL x.lg ++ pcL x.lo)):=Lib.hid ⟨H10.out.1.trans (below_grown H10.out.2 g H10.out.1.size),o⟩;clear o g)
  obtain ⟨l,hl⟩ : ∃ l,l = scopeL p.gs x:=⟨_,rfl⟩
  have HP : Hid (t3 + n5 = l.length ∧ pcL p.gs ++ pcL x.ps ++ pcL x.lg ++ pcL x.lo = pcL l ∧ ∀ y ∈ l,y.t.length ≤ maxLen ∧ y.nm.length ≤ maxLen):=Lib.hid (by
   refine ⟨?_,?_,by rw [hl];exact HL.out.1⟩
   ·rw [hl,HL.out.2.1,HR.out,HT.out.2,HT.out.1];simp
   ·rw [hl];unfold scopeL;rw [HR.out];simp only [pcL_append];simp [pcL])
  rw [← hl]
  obtain ⟨A,c,rfl,hrow,-⟩:=own_pm (l:=l) (by rw [← HP.out.2.1];exact H11.out.2) HP.out.1 HP.out.2.2
  have H12:=Lib.hid hrow
  clear hrow hl
  go_wp2
  go_ret
  exact ⟨⟨A,_,_,rfl,HP.out.1,H12.out⟩,H6.out.chain H11.out.1⟩
 ·have hb : (x.rn == []) = false:=beq_eq_false_iff_ne.2 hz
  have HR : Hid (resL x = [⟨x.rt,x.rn⟩]):=Lib.hid (if_neg hz)
  clear hz
  obtain ⟨W11,hW11⟩ : ∃ W,W = W10.alloc (.cells #[.string ⟨x.rt.toArray⟩,.string ⟨x.rn.toArray⟩] 42):=⟨_,rfl⟩
  have hb11 : Below W10.heap.size W10 W11:=by rw [hW11];exact below_alloc _ _
  have H11 : Hid (Below W6.heap.size W6 W11 ∧ W11.ownsRow W6.heap.size 42 2 v3 t3 (pcL p.gs ++ pcL x.ps ++ pcL x.lg)):=Lib.hid ⟨H10.out.1.chain hb11,own_below H10.out.2 hb11 (fun g hg => (own_lt H10.out.2 g hg).2)⟩
  have hln:=HL.out.1 ⟨x.rt,x.rn⟩ (by unfold scopeL;rw [HR.out];simp)
  have HRD : Hid (Reads W11 W11.heap.size 2 (some ⟨W10.heap.size,0,none⟩) 1 (pcL [⟨x.rt,x.rn⟩])):=Lib.hid (by
   rw [hW11]
   exact pc_reads (pm_one W10 _ hln.1 hln.2 rfl))
  clear hb11 hln
  go_wp2_with (at_builtin;first | (rw [← hW11];refine wpList_append_any (o:=⟨some 24,_,_,_,_,_⟩) _ rfl _ _ 23 rfl W6.heap.size 42 i0 _ 2 32 Tryz.underlying23 HI0.out.1 HI0.out.2.1 HI0.out.2.2.1 HI0.out.2.2.2 rfl (by decide) _ t3 (pcL p.gs ++ pcL x.ps ++ pcL x.lg) rfl H11.out.2 W11.heap.size (some ⟨W10.heap.size,0,none⟩) 1 _ (pcL [⟨x.rt,x.rn⟩]) rfl HRD.out (pcL_one _) (by unfold maxLen;have := HL.out.2.2;have := HT.out.1;have := HT.out.2;omega) (by have := HL.out.2.2;have := HT.out.1;have := HT.out.2;omega) H11.out.1.size ?_;intro v4 w4 o g _;have H12 : Hid (Below W6.heap.size W6 w4 ∧ w4.ownsRow W6.heap.size 42 2 v4 (t3 + 1) (pcL p.gs ++ pcL x.ps ++ pcL x.lg ++ pcL [⟨x.rt,x.rn⟩])):=Lib.hid ⟨H11.out.1.trans (below_grown H11.out.2 g H11.out.1.size),o⟩;clear o g z1 z2 z3 zt zn zl hW11;obtain ⟨-,-,-,-,-,zl⟩:=HLD.out _ H12.out.1) | (refine wpList_append_any (o:=⟨some 28,_,_,_,_,_⟩) _ rfl _ _ 23 rfl W6.heap.size 42 i0 _ 2 32 Tryz.underlying23 HI0.out.1 HI0.out.2.1 HI0.out.2.2.1 HI0.out.2.2.2 rfl (by decide) _ (t3 + 1) (pcL p.gs ++ pcL x.ps ++ pcL x.lg ++ pcL [⟨x.rt,x.rn⟩]) rfl H12.out.2 W6.heap.size dp.l n5 _ (pcL x.lo) rfl (HS0.out _ H12.out.1).2.2.2 (pcL_one _) (by unfold maxLen;have := HL.out.2.2;have := HT.out.1;have := HT.out.2;omega) (by have := HL.out.2.2;have := HT.out.1;have := HT.out.2;omega) H12.out.1.size ?_;intro v5 w5 o g _;have H13 : Hid (Below W6.heap.size W6 w5 ∧ w5.ownsRow W6.heap.size 42 2 v5 (t3 + 1 + n5) (pcL p.gs ++ pcL x.ps ++ pcL x.lg ++ pcL [⟨x.rt,x.rn⟩] ++ pcL x.lo)):=Lib.hid ⟨H12.out.1.trans (below_grown H12.out.2 g H12.out.1.size),o⟩;clear o g))
  obtain ⟨l,hl⟩ : ∃ l,l = scopeL p.gs x:=⟨_,rfl⟩
  have HP : Hid (t3 + 1 + n5 = l.length ∧ pcL p.gs ++ pcL x.ps ++ pcL x.lg ++ pcL [⟨x.rt,x.rn⟩] ++ pcL x.lo = pcL l ∧ ∀ y ∈ l,y.t.length ≤ maxLen ∧ y.nm.length ≤ maxLen):=Lib.hid (by
   refine ⟨?_,?_,by rw [hl];exact HL.out.1⟩
   ·rw [hl,HL.out.2.1,HR.out,HT.out.2,HT.out.1];simp
   ·rw [hl];unfold scopeL;rw [HR.out];simp only [pcL_append])
  rw [← hl]
  obtain ⟨A,c,rfl,hrow,-⟩:=own_pm (l:=l) (by rw [← HP.out.2.1];exact H13.out.2) HP.out.1 HP.out.2.2
  have H14:=Lib.hid hrow
  clear hrow hl
  go_wp2
  go_ret
  exact ⟨⟨A,_,_,rfl,HP.out.1,H14.out⟩,H6.out.chain H13.out.1⟩
end Go.Proofs.YtojjfdegkooknaaGreatDoor
namespace Go.Proofs.YtojjfdegkooknaaGreatDoor
set_option maxRecDepth 100000
set_option maxHeartbeats 16000000
open Go.RowKit Go.Lib
def WPr (x : Pr) : Prop:=x.ps.length * 32 ≤ 140737488355328 ∧ x.lg.length * 32 ≤ 140737488355328 ∧ x.rq.length * 72 ≤ 140737488355328 ∧ x.es.length * 72 ≤ 140737488355328 ∧ x.lo.length * 32 ≤ 140737488355328 ∧ (∀ y ∈ x.rq ++ x.es,WF y) ∧ WS x.bd
def RetRow (n : Nat) (w : World) (e : Ending) (w' : World) : Prop:=∃ (A : Option Addr) (c : Nat),e = .returned (.slice A n c) ∧ Below w.heap.size w w'
def BoxOk (N : Nat) (x : Pr) (cs : Array Value) : Prop:=cs.size = N ∧ cs.all (·.oneCell') = true ∧ cs[0]? = some (.string ⟨x.nm.toArray⟩)
theorem BoxOk.set {N : Nat} {x : Pr} {cs : Array Value} (h : BoxOk N x cs) (i : Nat) (hi : 0 < i) (v : Value) (hv : v.oneCell' = true) : BoxOk N x (cs.setIfInBounds i v):=by
 refine ⟨by rw [Array.size_setIfInBounds];exact h.1,?_,?_⟩
 ·rw [Array.all_eq_true_iff_forall_mem] at *
  intro u hu
  obtain ⟨j,hj,he⟩:=Array.getElem_of_mem hu
  rw [Array.getElem_setIfInBounds] at he
  split at he
  ·rw [← he];exact hv
  ·rw [← he];exact (Array.all_eq_true_iff_forall_mem.1 h.2.1) _ (Array.getElem_mem _)
  ·rw [Array.size_setIfInBounds] at hj;exact hj
 ·rw [Array.getElem?_setIfInBounds_ne (by omega)]
  exact h.2.2
def Same (k : Nat) (cs cs' : Array Value) : Prop:=∀ j v,k < j → cs[j]? = some v → cs'[j]? = some v
theorem Same.set {k i : Nat} {cs cs' : Array Value} (h : Same k cs cs') (hki : k < i) (v : Value) : Same i cs (cs'.setIfInBounds i v):=by
 intro j u hj hu
 rw [Array.getElem?_setIfInBounds_ne (by omega)]
 exact h j u (by omega) hu
def NamePost (x : Pr) (w : World) (e : Ending) (w' : World) : Prop:=∃ cs' : Array Value,e = .returned (.agg cs') ∧ BoxOk 12 x cs' ∧ Below w.heap.size w w'
theorem cproc_any (x : Pr) (hw : WPr x) (cs : Array Value) (w : World) (hv : VPr w w.heap.size cs x) :
 Calls Tryz.prog 48 #[.agg cs] w (NamePost x w):=by
 have hsz:=vProc_size hv
 have hone:=vProc_one hv
 have hnm:=vProc_nm hv
 obtain ⟨dp,hcs,how⟩:=hv
 obtain ⟨T,N,zc,hT,hN,hzc,hzz,hag,hsT,hzv⟩:=hid_ProcT
 have e1 : ∀ y : Operand,Op.load 46 y = Op.load T y:=fun y => by rw [hT]
 have e2 : ∀ y z : Operand,Op.store 46 y z = Op.store T y z:=fun y z => by rw [hT]
 have e3 : Op.alloc 46 = Op.alloc T:=by rw [hT]
 have e4 : ∀ y : Operand,Op.box 46 y = Op.box T y:=fun y => by rw [hT]
 obtain ⟨nps,hnps⟩ : ∃ n,n = x.ps.length:=⟨_,rfl⟩
 obtain ⟨nlg,hnlg⟩ : ∃ n,n = x.lg.length:=⟨_,rfl⟩
 obtain ⟨nrq,hnrq⟩ : ∃ n,n = x.rq.length:=⟨_,rfl⟩
 obtain ⟨nes,hnes⟩ : ∃ n,n = x.es.length:=⟨_,rfl⟩
 obtain ⟨nlo,hnlo⟩ : ∃ n,n = x.lo.length:=⟨_,rfl⟩
 obtain ⟨nbd,hnbd⟩ : ∃ n,n = x.bd.length:=⟨_,rfl⟩
 have HK : Hid (cs[3]? = some (.slice dp.p nps dp.np) ∧ cs[4]? = some (.slice dp.g nlg dp.ng) ∧ cs[8]? = some (.slice dp.r nrq dp.nr) ∧ cs[9]? = some (.slice dp.e nes dp.ne) ∧ cs[10]? = some (.slice dp.l nlo dp.nl) ∧ cs[11]? = some (.slice dp.b nbd dp.nb)):=Lib.hid (by
  rw [hcs,hnps,hnlg,hnrq,hnes,hnlo,hnbd]
  exact ⟨rfl,rfl,rfl,rfl,rfl,rfl⟩)
 have HN:=Lib.hid (And.intro hnps (And.intro hnlg (And.intro hnrq (And.intro hnes (And.intro hnlo hnbd)))))
 have hszc : cs.size = N:=hsz.trans hN.symm
 obtain ⟨U0,hU0⟩ : ∃ W,W = (w.alloc (.cells cs T)).alloc (.cells zc T):=⟨_,rfl⟩
 obtain ⟨c0,hc0⟩ : ∃ c,c = cs:=⟨_,rfl⟩
 have HB0 : Hid (Below w.heap.size w U0):=Lib.hid (by rw [hU0];exact (below_alloc w _).chain (below_alloc _ _))
 have HP0 : Hid (U0.heap[w.heap.size]? = some (.cells c0 T) ∧ U0.heap[w.heap.size + 1]? = some (.cells zc T) ∧ BoxOk N x c0 ∧ Same 2 cs c0):=Lib.hid (by
  rw [hc0,hU0]
  refine ⟨heap_keep (heap_of_alloc w _),?_,⟨hszc,hone,hnm⟩,fun j v _ h => h⟩
  have h:=heap_of_alloc (w.alloc (.cells cs T)) (.cells zc T)
  rwa [size_of_alloc] at h)
 have z0 : ((w.alloc (.cells cs T)).alloc (.cells zc T)).cell? ⟨w.heap.size,3,none⟩ = some (.slice dp.p nps dp.np):=by
  rw [← hU0]
  exact cell_of_block HP0.out.1 3 (HP0.out.2.2.2 3 _ (by decide) HK.out.1)
 have HW : Hid (WPr x):=Lib.hid hw
 have HH:=Lib.hid (And.intro hN (And.intro how (And.intro hzc hN)))
 clear hnps hnlg hnrq hnes hnlo hnbd hw how hcs hc0 hsz hone hnm hN hzc hzz hszc
 go_enter Tryz.func48,Tryz.ntmps48
 simp only [e1,e2,e3,e4]
 clear e1 e2 e3 e4 hT
 have HC0 : Hid (Calls Tryz.prog 20 #[.slice dp.p nps dp.np] U0 (RetRow nps U0)):=Lib.hid ((cparams_any dp.p dp.np nps x.ps HN.out.1 (by rw [HN.out.1];exact HW.out.1) (pm_lens' (pm_rowV (HH.out.2.1.on HB0.out).2.1)) U0 (pm_rowV (HH.out.2.1.on HB0.out).2.1)).mono (fun e w' ⟨A,c,h1,_,h3⟩ => ⟨A,c,by rw [HN.out.1];exact h1,h3⟩))
 go_wp2_with fail
 rw [← hU0]
 clear hU0 z0
 (with_reducible refine HC0.out.mono ?_)
 rintro e V0 ⟨A0,e0,rfl,hb⟩
 have q1:=kept_box hb HP0.out.1
 have q2:=kept_box hb HP0.out.2.1
 have zz0:=cell_of_block q1 3 (v:=.slice dp.p nps dp.np) (HP0.out.2.2.2 3 _ (by decide) HK.out.1)
 have ff0:=frozen_at q1 3
 have r1:=heap_setCell_at q1 3 (.slice A0 nps e0)
 have r2:=heap_setCell_off q2 (show w.heap.size + 1 ≠ w.heap.size by omega) 3 (.slice A0 nps e0)
 obtain ⟨U1,hU1⟩ : ∃ W,W = V0.setCell ⟨w.heap.size,3,none⟩ (.slice A0 nps e0):=⟨_,rfl⟩
 obtain ⟨c1,hc1⟩ : ∃ c,c = c0.setIfInBounds 3 (.slice A0 nps e0):=⟨_,rfl⟩
 have HB1 : Hid (Below w.heap.size w U1):=Lib.hid (by rw [hU1];exact (HB0.out.chain hb).setCell (p:=⟨w.heap.size,3,none⟩) (Nat.le_refl _) _)
 have HP1 : Hid (U1.heap[w.heap.size]? = some (.cells c1 T) ∧ U1.heap[w.heap.size + 1]? = some (.cells zc T) ∧ BoxOk N x c1 ∧ Same 3 cs c1):=Lib.hid (by
  rw [hU1,hc1]
  exact ⟨r1,r2,HP0.out.2.2.1.set 3 (by decide) _ rfl,HP0.out.2.2.2.set (by decide) _⟩)
 have z1 : (V0.setCell ⟨w.heap.size,3,none⟩ (.slice A0 nps e0)).cell? ⟨w.heap.size,4,none⟩ = some (.slice dp.g nlg dp.ng):=by
  rw [← hU1]
  exact cell_of_block HP1.out.1 4 (HP1.out.2.2.2 4 _ (by decide) HK.out.2.1)
 clear q1 q2 r1 r2 hb hc1
 have HC1 : Hid (Calls Tryz.prog 20 #[.slice dp.g nlg dp.ng] U1 (RetRow nlg U1)):=Lib.hid ((cparams_any dp.g dp.ng nlg x.lg HN.out.2.1 (by rw [HN.out.2.1];exact HW.out.2.1) (pm_lens' (pm_rowV (HH.out.2.1.on HB1.out).2.2.1)) U1 (pm_rowV (HH.out.2.1.on HB1.out).2.2.1)).mono (fun e w' ⟨A,c,h1,_,h3⟩ => ⟨A,c,by rw [HN.out.2.1];exact h1,h3⟩))
 go_wp2_with fail
 rw [← hU1]
 clear hU1 z1 zz0 ff0
 (with_reducible refine HC1.out.mono ?_)
 rintro e V1 ⟨A1,e1,rfl,hb⟩
 have q1:=kept_box hb HP1.out.1
 have q2:=kept_box hb HP1.out.2.1
 have zz1:=cell_of_block q1 4 (v:=.slice dp.g nlg dp.ng) (HP1.out.2.2.2 4 _ (by decide) HK.out.2.1)
 have ff1:=frozen_at q1 4
 have r1:=heap_setCell_at q1 4 (.slice A1 nlg e1)
 have r2:=heap_setCell_off q2 (show w.heap.size + 1 ≠ w.heap.size by omega) 4 (.slice A1 nlg e1)
 obtain ⟨U2,hU2⟩ : ∃ W,W = V1.setCell ⟨w.heap.size,4,none⟩ (.slice A1 nlg e1):=⟨_,rfl⟩
 obtain ⟨c2,hc2⟩ : ∃ c,c = c1.setIfInBounds 4 (.slice A1 nlg e1):=⟨_,rfl⟩
 have HB2 : Hid (Below w.heap.size w U2):=Lib.hid (by rw [hU2];exact (HB1.out.chain hb).setCell (p:=⟨w.heap.size,4,none⟩) (Nat.le_refl _) _)
 have HP2 : Hid (U2.heap[w.heap.size]? = some (.cells c2 T) ∧ U2.heap[w.heap.size + 1]? = some (.cells zc T) ∧ BoxOk N x c2 ∧ Same 4 cs c2):=Lib.hid (by
  rw [hU2,hc2]
  exact ⟨r1,r2,HP1.out.2.2.1.set 4 (by decide) _ rfl,HP1.out.2.2.2.set (by decide) _⟩)
 have z2 : (V1.setCell ⟨w.heap.size,4,none⟩ (.slice A1 nlg e1)).cell? ⟨w.heap.size,8,none⟩ = some (.slice dp.r nrq dp.nr):=by
  rw [← hU2]
  exact cell_of_block HP2.out.1 8 (HP2.out.2.2.2 8 _ (by decide) HK.out.2.2.1)
 clear q1 q2 r1 r2 hb hc2
 have HC2 : Hid (Calls Tryz.prog 65 #[.slice dp.r nrq dp.nr,.func (.func 66) #[] #[]] U2 (RetRow nrq U2)):=Lib.hid (by
  rw [HN.out.2.2.1]
  exact (clist_Formula x.rq dp.r dp.nr U2 (fm_rowV (HH.out.2.1.on HB2.out).2.2.2.1) HW.out.2.2.1 (fun y hy cs W hb hv => cformula_any y (HW.out.2.2.2.2.2.1 y (by simp [hy])) cs W hv)).mono (fun e w' ⟨A,c,h1,_,h3⟩ => ⟨A,c,h1,h3⟩))
 go_wp2_with fail
 rw [← hU2]
 clear hU2 z2 zz1 ff1
 (with_reducible refine HC2.out.mono ?_)
 rintro e V2 ⟨A2,e2,rfl,hb⟩
 have q1:=kept_box hb HP2.out.1
 have q2:=kept_box hb HP2.out.2.1
 have zz2:=cell_of_block q1 8 (v:=.slice dp.r nrq dp.nr) (HP2.out.2.2.2 8 _ (by decide) HK.out.2.2.1)
 have ff2:=frozen_at q1 8
 have r1:=heap_setCell_at q1 8 (.slice A2 nrq e2)
 have r2:=heap_setCell_off q2 (show w.heap.size + 1 ≠ w.heap.size by omega) 8 (.slice A2 nrq e2)
 obtain ⟨U3,hU3⟩ : ∃ W,W = V2.setCell ⟨w.heap.size,8,none⟩ (.slice A2 nrq e2):=⟨_,rfl⟩
 obtain ⟨c3,hc3⟩ : ∃ c,c = c2.setIfInBounds 8 (.slice A2 nrq e2):=⟨_,rfl⟩
 have HB3 : Hid (Below w.heap.size w U3):=Lib.hid (by rw [hU3];exact (HB2.out.chain hb).setCell (p:=⟨w.heap.size,8,none⟩) (Nat.le_refl _) _)
 have HP3 : Hid (U3.heap[w.heap.size]? = some (.cells c3 T) ∧ U3.heap[w.heap.size + 1]? = some (.cells zc T) ∧ BoxOk N x c3 ∧ Same 8 cs c3):=Lib.hid (by
  rw [hU3,hc3]
  exact ⟨r1,r2,HP2.out.2.2.1.set 8 (by decide) _ rfl,HP2.out.2.2.2.set (by decide) _⟩)
 have z3 : (V2.setCell ⟨w.heap.size,8,none⟩ (.slice A2 nrq e2)).cell? ⟨w.heap.size,9,none⟩ = some (.slice dp.e nes dp.ne):=by
  rw [← hU3]
  exact cell_of_block HP3.out.1 9 (HP3.out.2.2.2 9 _ (by decide) HK.out.2.2.2.1)
 clear q1 q2 r1 r2 hb hc3
 have HC3 : Hid (Calls Tryz.prog 65 #[.slice dp.e nes dp.ne,.func (.func 66) #[] #[]] U3 (RetRow nes U3)):=Lib.hid (by
  rw [HN.out.2.2.2.1]
  exact (clist_Formula x.es dp.e dp.ne U3 (fm_rowV (HH.out.2.1.on HB3.out).2.2.2.2.1) HW.out.2.2.2.1 (fun y hy cs W hb hv => cformula_any y (HW.out.2.2.2.2.2.1 y (by simp [hy])) cs W hv)).mono (fun e w' ⟨A,c,h1,_,h3⟩ => ⟨A,c,h1,h3⟩))
 go_wp2_with fail
 rw [← hU3]
 clear hU3 z3 zz2 ff2
 (with_reducible refine HC3.out.mono ?_)
 rintro e V3 ⟨A3,e3,rfl,hb⟩
 have q1:=kept_box hb HP3.out.1
 have q2:=kept_box hb HP3.out.2.1
 have zz3:=cell_of_block q1 9 (v:=.slice dp.e nes dp.ne) (HP3.out.2.2.2 9 _ (by decide) HK.out.2.2.2.1)
 have ff3:=frozen_at q1 9
 have r1:=heap_setCell_at q1 9 (.slice A3 nes e3)
 have r2:=heap_setCell_off q2 (show w.heap.size + 1 ≠ w.heap.size by omega) 9 (.slice A3 nes e3)
 obtain ⟨U4,hU4⟩ : ∃ W,W = V3.setCell ⟨w.heap.size,9,none⟩ (.slice A3 nes e3):=⟨_,rfl⟩
 obtain ⟨c4,hc4⟩ : ∃ c,c = c3.setIfInBounds 9 (.slice A3 nes e3):=⟨_,rfl⟩
 have HB4 : Hid (Below w.heap.size w U4):=Lib.hid (by rw [hU4];exact (HB3.out.chain hb).setCell (p:=⟨w.heap.size,9,none⟩) (Nat.le_refl _) _)
 have HP4 : Hid (U4.heap[w.heap.size]? = some (.cells c4 T) ∧ U4.heap[w.heap.size + 1]? = some (.cells zc T) ∧ BoxOk N x c4 ∧ Same 9 cs c4):=Lib.hid (by
  rw [hU4,hc4]
  exact ⟨r1,r2,HP3.out.2.2.1.set 9 (by decide) _ rfl,HP3.out.2.2.2.set (by decide) _⟩)
 have z4 : (V3.setCell ⟨w.heap.size,9,none⟩ (.slice A3 nes e3)).cell? ⟨w.heap.size,10,none⟩ = some (.slice dp.l nlo dp.nl):=by
  rw [← hU4]
  exact cell_of_block HP4.out.1 10 (HP4.out.2.2.2 10 _ (by decide) HK.out.2.2.2.2.1)
 clear q1 q2 r1 r2 hb hc4
 have HC4 : Hid (Calls Tryz.prog 20 #[.slice dp.l nlo dp.nl] U4 (RetRow nlo U4)):=Lib.hid ((cparams_any dp.l dp.nl nlo x.lo HN.out.2.2.2.2.1 (by rw [HN.out.2.2.2.2.1];exact HW.out.2.2.2.2.1) (pm_lens' (pm_rowV (HH.out.2.1.on HB4.out).2.2.2.2.2.1)) U4 (pm_rowV (HH.out.2.1.on HB4.out).2.2.2.2.2.1)).mono (fun e w' ⟨A,c,h1,_,h3⟩ => ⟨A,c,by rw [HN.out.2.2.2.2.1];exact h1,h3⟩))
 go_wp2_with fail
 rw [← hU4]
 clear hU4 z4 zz3 ff3
 (with_reducible refine HC4.out.mono ?_)
 rintro e V4 ⟨A4,e4,rfl,hb⟩
 have q1:=kept_box hb HP4.out.1
 have q2:=kept_box hb HP4.out.2.1
 have zz4:=cell_of_block q1 10 (v:=.slice dp.l nlo dp.nl) (HP4.out.2.2.2 10 _ (by decide) HK.out.2.2.2.2.1)
 have ff4:=frozen_at q1 10
 have r1:=heap_setCell_at q1 10 (.slice A4 nlo e4)
 have r2:=heap_setCell_off q2 (show w.heap.size + 1 ≠ w.heap.size by omega) 10 (.slice A4 nlo e4)
 obtain ⟨U5,hU5⟩ : ∃ W,W = V4.setCell ⟨w.heap.size,10,none⟩ (.slice A4 nlo e4):=⟨_,rfl⟩
 obtain ⟨c5,hc5⟩ : ∃ c,c = c4.setIfInBounds 10 (.slice A4 nlo e4):=⟨_,rfl⟩
 have HB5 : Hid (Below w.heap.size w U5):=Lib.hid (by rw [hU5];exact (HB4.out.chain hb).setCell (p:=⟨w.heap.size,10,none⟩) (Nat.le_refl _) _)
 have HP5 : Hid (U5.heap[w.heap.size]? = some (.cells c5 T) ∧ U5.heap[w.heap.size + 1]? = some (.cells zc T) ∧ BoxOk N x c5 ∧ Same 10 cs c5):=Lib.hid (by
  rw [hU5,hc5]
  exact ⟨r1,r2,HP4.out.2.2.1.set 10 (by decide) _ rfl,HP4.out.2.2.2.set (by decide) _⟩)
 have z5 : (V4.setCell ⟨w.heap.size,10,none⟩ (.slice A4 nlo e4)).cell? ⟨w.heap.size,11,none⟩ = some (.slice dp.b nbd dp.nb):=by
  rw [← hU5]
  exact cell_of_block HP5.out.1 11 (HP5.out.2.2.2 11 _ (by decide) HK.out.2.2.2.2.2)
 clear q1 q2 r1 r2 hb hc5
 have HC5 : Hid (Calls Tryz.prog 67 #[.slice dp.b nbd dp.nb] U5 (RetRow nbd U5)):=Lib.hid (by
  rw [HN.out.2.2.2.2.2]
  exact (cstmts_top HW.out.2.2.2.2.2.2 U5.heap.size dp.b dp.nb U5 (Nat.le_refl _) (HH.out.2.1.on HB5.out).2.2.2.2.2.2).mono (fun e w' ⟨A,c,h1,_,h3⟩ => ⟨A,c,h1,h3⟩))
 go_wp2_with fail
 rw [← hU5]
 clear hU5 z5 zz4 ff4
 (with_reducible refine HC5.out.mono ?_)
 rintro e V5 ⟨A5,e5,rfl,hb⟩
 have q1:=kept_box hb HP5.out.1
 have q2:=kept_box hb HP5.out.2.1
 have zz5:=cell_of_block q1 11 (v:=.slice dp.b nbd dp.nb) (HP5.out.2.2.2 11 _ (by decide) HK.out.2.2.2.2.2)
 have ff5:=frozen_at q1 11
 have r1:=heap_setCell_at q1 11 (.slice A5 nbd e5)
 have r2:=heap_setCell_off q2 (show w.heap.size + 1 ≠ w.heap.size by omega) 11 (.slice A5 nbd e5)
 obtain ⟨U6,hU6⟩ : ∃ W,W = V5.setCell ⟨w.heap.size,11,none⟩ (.slice A5 nbd e5):=⟨_,rfl⟩
 obtain ⟨c6,hc6⟩ : ∃ c,c = c5.setIfInBounds 11 (.slice A5 nbd e5):=⟨_,rfl⟩
 have HB6 : Hid (Below w.heap.size w U6):=Lib.hid (by rw [hU6];exact (HB5.out.chain hb).setCell (p:=⟨w.heap.size,11,none⟩) (Nat.le_refl _) _)
 have HP6 : Hid (U6.heap[w.heap.size]? = some (.cells c6 T) ∧ U6.heap[w.heap.size + 1]? = some (.cells zc T) ∧ BoxOk N x c6 ∧ Same 11 cs c6):=Lib.hid (by
  rw [hU6,hc6]
  exact ⟨r1,r2,HP5.out.2.2.1.set 11 (by decide) _ rfl,HP5.out.2.2.2.set (by decide) _⟩)
 clear q1 q2 r1 r2 hb hc6
 have hc6 : c6.size = N:=HP6.out.2.2.1.1
 have hld : (loadCellsFrom ⟨w.heap.size,0,none⟩ 0 N #[]).run Tryz.prog (V5.setCell ⟨w.heap.size,11,none⟩ (.slice A5 nbd e5)) = .ok c6 (V5.setCell ⟨w.heap.size,11,none⟩ (.slice A5 nbd e5)):=by
  rw [← hU6]
  exact ld_new HP6.out.1 HP6.out.2.2.1.1
 have hst : (storeCells ⟨w.heap.size + 1,0,none⟩ c6.toList).run Tryz.prog (V5.setCell ⟨w.heap.size,11,none⟩ (.slice A5 nbd e5)) = .ok () (U6.setRow (w.heap.size + 1) c6):=by
  rw [← hU6]
  exact store_row HP6.out.2.1 (HH.out.2.2.1.trans HP6.out.2.2.1.1.symm) HP6.out.2.2.1.2.1
 clear hU6
 go_wp2
 refine bodyPost_ret (results_cell_row rfl _ _ (w.heap.size + 1) T c6 (0,0) _ rfl (setRow_heap _ _ zc _ _ _ HP6.out.2.1) Tryz.underlying46 rfl (by rw [HP6.out.2.2.1.1,HH.out.1];kernel_rfl)) rfl ?_
 refine ⟨c6,rfl,?_,below_setRow HB6.out (Nat.le_succ _) _⟩
 have h:=HP6.out.2.2.1
 rw [HH.out.1] at h
 exact h
/-! ### types.Proc -/
def zPr : Pr:=⟨[],0,0,[],[],[],[],false,[],[],[],[]⟩
theorem vpr_zero (w : World) (B : Nat) : VPr w B zProc zPr:=by
 refine ⟨⟨none,none,none,none,none,none,0,0,0,0,0,0⟩,rfl,?_⟩
 exact ⟨⟨Nat.zero_le _,Nat.zero_le _,Nat.zero_le _,Nat.zero_le _,Nat.zero_le _,Nat.zero_le _,Nat.zero_le _,Nat.zero_le _,Nat.zero_le _⟩,.nil _,.nil _,.nil _,.nil _,.nil _,.nil _⟩
theorem wpr_zero : WPr zPr :=
 ⟨Nat.zero_le _,Nat.zero_le _,Nat.zero_le _,Nat.zero_le _,Nat.zero_le _,fun y hy => by simp [zPr] at hy,.mk [] (fun x hx => by simp at hx) (Nat.zero_le _) (fun x hx => by simp at hx) (fun x hx => by simp at hx)⟩
def NElemPost (o : Option Pr) (w : World) (e : Ending) (w' : World) : Prop :=
 (∃ (cs : Array Value) (b : Bool) (y : Pr),e = .returned (.tuple #[.agg cs,.bool b]) ∧ BoxOk 12 y cs ∧ ((o = none ∧ b = false ∧ y = zPr) ∨ (o = some y ∧ b = true))) ∧ Below w.heap.size w w'
theorem Proc_any (p : Pg) (d : GAd) (s : List UInt8) (hs : ∀ x ∈ p.xs,WPr x) (w : World) (own : PgOwn w w.heap.size d p) (nr ng nk nd nm nx : Nat) (hnx : nx = p.xs.length) :
 Calls Tryz.prog 11 #[pgA d nr ng nk nd nm nx,.string ⟨s.toArray⟩] w (NElemPost (fstO (·.nm) p.xs s) w):=by
 obtain ⟨T,N,zc,hT,hN,hzc,hzz,hag,hsz,hzv⟩:=hid_ProcT
 have e1 : ∀ y : Operand,Op.load 46 y = Op.load T y:=fun y => by rw [hT]
 have e2 : ∀ y z : Operand,Op.store 46 y z = Op.store T y z:=fun y z => by rw [hT]
 have e3 : Op.alloc 46 = Op.alloc T:=by rw [hT]
 obtain ⟨W1,hW1⟩ : ∃ W1,W1 = (w.alloc (pgO d nr ng nk nd nm nx)).alloc (.cells zc T):=⟨_,rfl⟩
 have hb1 : Below w.heap.size w W1:=by rw [hW1];exact (below_alloc w _).chain (below_alloc _ _)
 have hp1 : W1.heap[w.heap.size + 1]? = some (.cells zc T):=by
  rw [hW1]
  have h:=heap_of_alloc (w.alloc (pgO d nr ng nk nd nm nx)) (.cells zc T)
  rwa [size_of_alloc] at h
 have HF:=Lib.hid (fst_Proc 43 (enters_of Tryz.func43 (by kernel_rfl) rfl) (·.nm) nm_Proc s p.xs d.x d.nx nx hnx (by rw [hnx];exact own.1.2.2.2.2.2) w.heap.size W1 hb1.size (pr_rowV (own.keep (fun q hq => hb1.cell hq) (Nat.le_refl _)).2.2.2.2.2.2))
 have HH:=Lib.hid (And.intro hb1 (And.intro hp1 (And.intro hN (And.intro hzc (And.intro hzz hs)))))
 have z0 : W1.cell? ⟨w.heap.size,5,none⟩ = some (.slice d.x nx d.nx):=by rw [hW1];exact cell_of_block (heap_keep (heap_of_alloc w (pgO d nr ng nk nd nm nx))) 5 rfl
 rw [hW1] at z0
 clear own hs hb1 hp1 hnx hN hzc hzz
 go_enter Tryz.func11,Tryz.ntmps11
 simp only [e1,e2,e3]
 clear e1 e2 e3 hT
 go_wp2_with fail
 rw [← hW1]
 clear hW1 z0
 (with_reducible refine HF.out.mono ?_)
 rintro e w3 ⟨⟨cs,b,rfl,hr⟩,hb⟩
 obtain ⟨y,hy,hcase⟩ : ∃ y,VPr w3 w.heap.size cs y ∧ ((fstO (fun z : Pr => z.nm) p.xs s = none ∧ b = false ∧ y = zPr) ∨ (fstO (fun z : Pr => z.nm) p.xs s = some y ∧ b = true)):=by
  rcases hr with ⟨h1,h2,h3⟩ | ⟨h1,x,h2,h3⟩
  ·exact ⟨zPr,by rw [h2];exact vpr_zero _ _,.inl ⟨h3,h1,rfl⟩⟩
  ·exact ⟨x,h3,.inr ⟨h2,h1⟩⟩
 have hfl : WPr y:=by
  rcases hcase with ⟨_,_,rfl⟩ | ⟨h,_⟩
  ·exact wpr_zero
  ·exact HH.out.2.2.2.2.2 y (List.mem_of_find?_eq_some h)
 have hszc : cs.size = N:=(vProc_size hy).trans HH.out.2.2.1.symm
 have hone:=(vProc_one hy)
 have hst:=st_new (w:=w3) (t:=T) (HH.out.2.2.2.1.trans hszc.symm) hone
 have hld:=ld_new (heap_of_alloc w3 (.cells cs T)) hszc
 obtain ⟨W4,hW4⟩ : ∃ W,W = w3.alloc (.cells cs T):=⟨_,rfl⟩
 have hb34 : Below w3.heap.size w3 W4:=by rw [hW4];exact below_alloc _ _
 have hb4 : Below w.heap.size w W4:=HH.out.1.chain (hb.chain hb34)
 have hsw : w.heap.size ≤ w3.heap.size:=(HH.out.1.chain hb).size
 have HC:=Lib.hid (cproc_any y hfl cs W4 (vpr_keeps _ _ _ _ _ _ (fun q hq => hb34.cell (Nat.lt_of_lt_of_le hq hsw)) hb4.size hy))
 have HE:=Lib.hid (And.intro hcase (And.intro hb4 (kept_box (hb.chain hb34) HH.out.2.1)))
 clear hr hb hy hcase hfl hone hb34 hb4 hsw
 go_wp2_with fail
 rw [← hW4]
 clear hW4 hst hld
 (with_reducible refine HC.out.mono ?_)
 rintro e w5 ⟨cs',rfl,hv,hb⟩
 have hsz5 : cs'.size = N:=hv.1.trans HH.out.2.2.1.symm
 have p5:=kept_box hb HE.out.2.2
 have hst5:=store_row p5 (HH.out.2.2.2.1.trans hsz5.symm) hv.2.1
 have H5:=Lib.hid (And.intro hv (And.intro (HE.out.2.1.chain hb) p5))
 clear hv hb p5
 go_wp2
 refine bodyPost_ret (results_row_tmp rfl _ _ (w.heap.size + 1) T cs' (0,0) _ rfl (setRow_heap _ _ zc _ _ _ H5.out.2.2) Tryz.underlying46 rfl (by rw [hsz5,HH.out.2.2.1];kernel_rfl)) rfl ?_
 exact ⟨⟨cs',b,y,rfl,H5.out.1,HE.out.1⟩,below_setRow H5.out.2.1 (Nat.le_succ _) _⟩
end Go.Proofs.YtojjfdegkooknaaGreatDoor
