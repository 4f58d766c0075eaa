import Derived.Test.YtojjfdegkooknaaGreatDoorSTypTg
import Derived.Test.YtojjfdegkooknaaGreatDoorSTypFq
import Derived.Test.YtojjfdegkooknaaGreatDoorSTypBc
set_option linter.unusedVariables false
set_option linter.unusedSimpArgs false
namespace Go.Proofs.YtojjfdegkooknaaGreatDoor
set_option maxRecDepth 100000
set_option maxHeartbeats 8000000
open Go.RowKit Go.Lib
theorem qnR (p : Pg) (d : GAd) (B0 B1 cb : Nat) (sc br asn : List Pm) (b : BAd) (ln co : Int) (nm fd fr : List UInt8) (e : Ex) (c : Cn) (cl : List Cal) (iv : List Fm) (bo el : List St) : qa3 p d B0 B1 cb sc br asn b (.mk 2 ln co nm fd fr e c cl iv bo el):=by
 obtain ⟨A,n,c1,D,m,d1,E,k,ec⟩:=b
 intro cs w q hv hC hB
 obtain ⟨ek,en,es,exl⟩:=e
 obtain ⟨ck,⟨ak,an,sa,al⟩,⟨bk,bn,sb,bl⟩,cls⟩:=c
 obtain ⟨sd,qn,⟨qE,hex,hea,heb,jf,qP,vz⟩,_,_⟩:=hv
 show Calls Tryz.prog _ #[zT cb A n c1 D m d1 E k ec,.agg cs] w (qV (ldC p sc br asn nm fd fr) w)
 obtain ⟨T,N,hT,hN,hag,qK⟩:=yo
 have e1 : ∀ y : Operand,Op.load 90 y = Op.load T y:=fun y => by rw [hT]
 have e4 : ∀ y : Operand,Op.box 90 y = Op.box T y:=fun y => by rw [hT]
 have qM : cs.size = 24:=by rw [qn];exact zO _ _
 have qu : cs.size = N:=qM.trans hN.symm
 have zE : Tryz.prog.follows .mixedOrders = true:=by kernel_rfl
 obtain ⟨W1,qh⟩ : ∃ W1,W1 = (w.alloc (qS cb A n c1 D m d1 E k ec)).alloc (.cells cs T):=⟨_,rfl⟩
 have qk : Below w.heap.size w W1:=by rw [qh];exact (qd w _).chain (qd _ _)
 have q1:=qr (o:=.cells cs T) (qe w (qS cb A n c1 D m d1 E k ec))
 have q2:=qe (w.alloc (qS cb A n c1 D m d1 E k ec)) (.cells cs T)
 rw [qj] at q2
 rw [<- qh] at q1 q2
 have zU : Hid (∀ W,Below W1.heap.size W1 W -> (W.cell? ⟨w.heap.size,0,none⟩ = some (.pointer (some ⟨cb,0,none⟩)) /\ W.cell? ⟨w.heap.size,1,none⟩ = some (.slice A n c1) /\ W.cell? ⟨w.heap.size,2,none⟩ = some (.slice D m d1) /\ W.cell? ⟨w.heap.size,3,none⟩ = some (.slice E k ec)) /\ (loadCellsFrom ⟨w.heap.size + 1,0,none⟩ 0 N #[]).run Tryz.prog W = .ok cs W /\ W.cell? ⟨w.heap.size + 1,0,none⟩ = some (.int .i64 2)):=hZ (fun W hb => by
  have p1:=qg hb q1
  have p2:=qg hb q2
  exact ⟨⟨qc p1 0 rfl,qc p1 1 rfl,qc p1 2 rfl,qc p1 3 rfl⟩,zI p2 qu,qc p2 0 (by rw [qn];rfl)⟩)
 have yw : B0 <= w.heap.size:=Nat.le_trans hC.le (Nat.le_of_lt hC.lt)
 have HA:=hZ (qo3 p d B0 cb nm fd fr cs qM (by rw [qn];rfl) (by rw [qn];rfl) (by rw [qn];rfl) sc br asn A n c1 D m d1 E k ec B1 q W1 (hB.on qk) (hC.on qk))
 obtain ⟨R,hR⟩ : ∃ R : Ck,R = ldC p sc br asn nm fd fr:=⟨_,rfl⟩
 rw [<- hR] at HA ⊢
 have qw:=hZ qk
 obtain ⟨⟨a0,a1,a2,a3⟩,ye,c0⟩:=zU.out _ (Below.refl _ _)
 clear qn qE hex hea heb jf qP vz hC hB qM hN qk q1 q2 yw hR
 rw [qh] at a0 a1 a2 a3 ye c0
 go_enter Tryz.func136,Tryz.ntmps136
 simp only [e1,e4]
 clear e1 e4 hT
 go_wp2_with fail
 rw [<- qh]
 clear a0 a1 a2 a3 ye c0 qh
 (with_reducible refine HA.out.mono ?_)
 rintro ee w2 ⟨he,hb⟩
 have H2:=hZ (qw.out.chain hb)
 clear hb
 cases R with
 | some t =>
   obtain rfl : ee = _:=he
   exact ⟨rfl,rfl,H2.out⟩
 | none =>
   obtain rfl : ee = _:=he
   go_wp2
   exact bodyPost_end (results_none rfl _ _ _) rfl ⟨rfl,H2.out⟩
theorem qnQ (p : Pg) (d : GAd) (B0 B1 cb : Nat) (sc br asn : List Pm) (b : BAd) (ln co : Int) (nm fd fr : List UInt8) (e : Ex) (c : Cn) (cl : List Cal) (iv : List Fm) (bo el : List St) : qa3 p d B0 B1 cb sc br asn b (.mk 3 ln co nm fd fr e c cl iv bo el):=by
 obtain ⟨A,n,c1,D,m,d1,E,k,ec⟩:=b
 intro cs w q hv hC hB
 obtain ⟨ek,en,es,exl⟩:=e
 obtain ⟨ck,⟨ak,an,sa,al⟩,⟨bk,bn,sb,bl⟩,cls⟩:=c
 obtain ⟨sd,qn,⟨qE,hex,hea,heb,jf,qP,vz⟩,_,_⟩:=hv
 show Calls Tryz.prog _ #[zT cb A n c1 D m d1 E k ec,.agg cs] w (qV (svC p sc br nm fd (.mk ek en es exl)) w)
 obtain ⟨T,N,hT,hN,hag,qK⟩:=yo
 have e1 : ∀ y : Operand,Op.load 90 y = Op.load T y:=fun y => by rw [hT]
 have e4 : ∀ y : Operand,Op.box 90 y = Op.box T y:=fun y => by rw [hT]
 have qM : cs.size = 24:=by rw [qn];exact zO _ _
 have qu : cs.size = N:=qM.trans hN.symm
 have zE : Tryz.prog.follows .mixedOrders = true:=by kernel_rfl
 obtain ⟨W1,qh⟩ : ∃ W1,W1 = (w.alloc (qS cb A n c1 D m d1 E k ec)).alloc (.cells cs T):=⟨_,rfl⟩
 have qk : Below w.heap.size w W1:=by rw [qh];exact (qd w _).chain (qd _ _)
 have q1:=qr (o:=.cells cs T) (qe w (qS cb A n c1 D m d1 E k ec))
 have q2:=qe (w.alloc (qS cb A n c1 D m d1 E k ec)) (.cells cs T)
 rw [qj] at q2
 rw [<- qh] at q1 q2
 have zU : Hid (∀ W,Below W1.heap.size W1 W -> (W.cell? ⟨w.heap.size,0,none⟩ = some (.pointer (some ⟨cb,0,none⟩)) /\ W.cell? ⟨w.heap.size,1,none⟩ = some (.slice A n c1) /\ W.cell? ⟨w.heap.size,2,none⟩ = some (.slice D m d1) /\ W.cell? ⟨w.heap.size,3,none⟩ = some (.slice E k ec)) /\ (loadCellsFrom ⟨w.heap.size + 1,0,none⟩ 0 N #[]).run Tryz.prog W = .ok cs W /\ W.cell? ⟨w.heap.size + 1,0,none⟩ = some (.int .i64 3)):=hZ (fun W hb => by
  have p1:=qg hb q1
  have p2:=qg hb q2
  exact ⟨⟨qc p1 0 rfl,qc p1 1 rfl,qc p1 2 rfl,qc p1 3 rfl⟩,zI p2 qu,qc p2 0 (by rw [qn];rfl)⟩)
 have yw : B0 <= w.heap.size:=Nat.le_trans hC.le (Nat.le_of_lt hC.lt)
 have HA:=hZ (qo2 p d B0 cb nm fd ek en es exl sd.e exl.length sd.ne rfl qE.2.2.2.1 qE.2.2.2.2.1 cs qM (by rw [qn];rfl) (by rw [qn];rfl) (by rw [qn];rfl) (by rw [qn];rfl) (by rw [qn];rfl) (by rw [qn];rfl) sc br asn A n c1 D m d1 E k ec B1 q W1 (hex.keep (fun z hz => qk.cell (Nat.lt_of_lt_of_le hz yw)) (Nat.le_refl _)) (hB.on qk) (hC.on qk))
 obtain ⟨R,hR⟩ : ∃ R : Ck,R = svC p sc br nm fd (.mk ek en es exl):=⟨_,rfl⟩
 rw [<- hR] at HA ⊢
 have qw:=hZ qk
 obtain ⟨⟨a0,a1,a2,a3⟩,ye,c0⟩:=zU.out _ (Below.refl _ _)
 clear qn qE hex hea heb jf qP vz hC hB qM hN qk q1 q2 yw hR
 rw [qh] at a0 a1 a2 a3 ye c0
 go_enter Tryz.func136,Tryz.ntmps136
 simp only [e1,e4]
 clear e1 e4 hT
 go_wp2_with fail
 rw [<- qh]
 clear a0 a1 a2 a3 ye c0 qh
 (with_reducible refine HA.out.mono ?_)
 rintro ee w2 ⟨he,hb⟩
 have H2:=hZ (qw.out.chain hb)
 clear hb
 cases R with
 | some t =>
   obtain rfl : ee = _:=he
   exact ⟨rfl,rfl,H2.out⟩
 | none =>
   obtain rfl : ee = _:=he
   go_wp2
   exact bodyPost_end (results_none rfl _ _ _) rfl ⟨rfl,H2.out⟩
theorem qpX (p : Pg) (d : GAd) (B0 B1 cb : Nat) (sc br asn : List Pm) (b : BAd) (ln co : Int) (nm fd fr : List UInt8) (e : Ex) (c : Cn) (cl : List Cal) (iv : List Fm) (bo el : List St) : qa3 p d B0 B1 cb sc br asn b (.mk 4 ln co nm fd fr e c cl iv bo el):=by
 obtain ⟨A,n,c1,D,m,d1,E,k,ec⟩:=b
 intro cs w q hv hC hB
 obtain ⟨ek,en,es,exl⟩:=e
 obtain ⟨ck,⟨ak,an,sa,al⟩,⟨bk,bn,sb,bl⟩,cls⟩:=c
 obtain ⟨sd,qn,⟨qE,hex,hea,heb,jf,qP,vz⟩,_,_⟩:=hv
 show Calls Tryz.prog _ #[zT cb A n c1 D m d1 E k ec,.agg cs] w (qV (nwC p sc asn nm fr) w)
 obtain ⟨T,N,hT,hN,hag,qK⟩:=yo
 have e1 : ∀ y : Operand,Op.load 90 y = Op.load T y:=fun y => by rw [hT]
 have e4 : ∀ y : Operand,Op.box 90 y = Op.box T y:=fun y => by rw [hT]
 have qM : cs.size = 24:=by rw [qn];exact zO _ _
 have qu : cs.size = N:=qM.trans hN.symm
 have zE : Tryz.prog.follows .mixedOrders = true:=by kernel_rfl
 obtain ⟨W1,qh⟩ : ∃ W1,W1 = (w.alloc (qS cb A n c1 D m d1 E k ec)).alloc (.cells cs T):=⟨_,rfl⟩
 have qk : Below w.heap.size w W1:=by rw [qh];exact (qd w _).chain (qd _ _)
 have q1:=qr (o:=.cells cs T) (qe w (qS cb A n c1 D m d1 E k ec))
 have q2:=qe (w.alloc (qS cb A n c1 D m d1 E k ec)) (.cells cs T)
 rw [qj] at q2
 rw [<- qh] at q1 q2
 have zU : Hid (∀ W,Below W1.heap.size W1 W -> (W.cell? ⟨w.heap.size,0,none⟩ = some (.pointer (some ⟨cb,0,none⟩)) /\ W.cell? ⟨w.heap.size,1,none⟩ = some (.slice A n c1) /\ W.cell? ⟨w.heap.size,2,none⟩ = some (.slice D m d1) /\ W.cell? ⟨w.heap.size,3,none⟩ = some (.slice E k ec)) /\ (loadCellsFrom ⟨w.heap.size + 1,0,none⟩ 0 N #[]).run Tryz.prog W = .ok cs W /\ W.cell? ⟨w.heap.size + 1,0,none⟩ = some (.int .i64 4)):=hZ (fun W hb => by
  have p1:=qg hb q1
  have p2:=qg hb q2
  exact ⟨⟨qc p1 0 rfl,qc p1 1 rfl,qc p1 2 rfl,qc p1 3 rfl⟩,zI p2 qu,qc p2 0 (by rw [qn];rfl)⟩)
 have yw : B0 <= w.heap.size:=Nat.le_trans hC.le (Nat.le_of_lt hC.lt)
 have HA:=hZ (qjI p d B0 cb nm fr cs qM (by rw [qn];rfl) (by rw [qn];rfl) sc br asn A n c1 D m d1 E k ec B1 q W1 (hB.on qk) (hC.on qk))
 obtain ⟨R,hR⟩ : ∃ R : Ck,R = nwC p sc asn nm fr:=⟨_,rfl⟩
 rw [<- hR] at HA ⊢
 have qw:=hZ qk
 obtain ⟨⟨a0,a1,a2,a3⟩,ye,c0⟩:=zU.out _ (Below.refl _ _)
 clear qn qE hex hea heb jf qP vz hC hB qM hN qk q1 q2 yw hR
 rw [qh] at a0 a1 a2 a3 ye c0
 go_enter Tryz.func136,Tryz.ntmps136
 simp only [e1,e4]
 clear e1 e4 hT
 go_wp2_with fail
 rw [<- qh]
 clear a0 a1 a2 a3 ye c0 qh
 (with_reducible refine HA.out.mono ?_)
 rintro ee w2 ⟨he,hb⟩
 have H2:=hZ (qw.out.chain hb)
 clear hb
 cases R with
 | some t =>
   obtain rfl : ee = _:=he
   exact ⟨rfl,rfl,H2.out⟩
 | none =>
   obtain rfl : ee = _:=he
   go_wp2
   exact bodyPost_end (results_none rfl _ _ _) rfl ⟨rfl,H2.out⟩
theorem qnS (p : Pg) (d : GAd) (B0 B1 cb : Nat) (sc br asn : List Pm) (b : BAd) (ln co : Int) (nm fd fr : List UInt8) (e : Ex) (c : Cn) (cl : List Cal) (iv : List Fm) (bo el : List St) : qa3 p d B0 B1 cb sc br asn b (.mk 5 ln co nm fd fr e c cl iv bo el):=by
 obtain ⟨A,n,c1,D,m,d1,E,k,ec⟩:=b
 intro cs w q hv hC hB
 obtain ⟨ek,en,es,exl⟩:=e
 obtain ⟨ck,⟨ak,an,sa,al⟩,⟨bk,bn,sb,bl⟩,cls⟩:=c
 obtain ⟨sd,qn,⟨qE,hex,hea,heb,jf,qP,vz⟩,_,_⟩:=hv
 show Calls Tryz.prog _ #[zT cb A n c1 D m d1 E k ec,.agg cs] w (qV (frC p sc br nm) w)
 obtain ⟨T,N,hT,hN,hag,qK⟩:=yo
 have e1 : ∀ y : Operand,Op.load 90 y = Op.load T y:=fun y => by rw [hT]
 have e4 : ∀ y : Operand,Op.box 90 y = Op.box T y:=fun y => by rw [hT]
 have qM : cs.size = 24:=by rw [qn];exact zO _ _
 have qu : cs.size = N:=qM.trans hN.symm
 have zE : Tryz.prog.follows .mixedOrders = true:=by kernel_rfl
 obtain ⟨W1,qh⟩ : ∃ W1,W1 = (w.alloc (qS cb A n c1 D m d1 E k ec)).alloc (.cells cs T):=⟨_,rfl⟩
 have qk : Below w.heap.size w W1:=by rw [qh];exact (qd w _).chain (qd _ _)
 have q1:=qr (o:=.cells cs T) (qe w (qS cb A n c1 D m d1 E k ec))
 have q2:=qe (w.alloc (qS cb A n c1 D m d1 E k ec)) (.cells cs T)
 rw [qj] at q2
 rw [<- qh] at q1 q2
 have zU : Hid (∀ W,Below W1.heap.size W1 W -> (W.cell? ⟨w.heap.size,0,none⟩ = some (.pointer (some ⟨cb,0,none⟩)) /\ W.cell? ⟨w.heap.size,1,none⟩ = some (.slice A n c1) /\ W.cell? ⟨w.heap.size,2,none⟩ = some (.slice D m d1) /\ W.cell? ⟨w.heap.size,3,none⟩ = some (.slice E k ec)) /\ (loadCellsFrom ⟨w.heap.size + 1,0,none⟩ 0 N #[]).run Tryz.prog W = .ok cs W /\ W.cell? ⟨w.heap.size + 1,0,none⟩ = some (.int .i64 5) /\ W.cell? ⟨w.heap.size + 1,3,none⟩ = some (.string ⟨nm.toArray⟩)):=hZ (fun W hb => by
  have p1:=qg hb q1
  have p2:=qg hb q2
  exact ⟨⟨qc p1 0 rfl,qc p1 1 rfl,qc p1 2 rfl,qc p1 3 rfl⟩,zI p2 qu,qc p2 0 (by rw [qn];rfl),qc p2 3 (by rw [qn];rfl)⟩)
 have yw : B0 <= w.heap.size:=Nat.le_trans hC.le (Nat.le_of_lt hC.lt)
 have HA:=hZ (qep p d B0 cb nm sc br asn A n c1 D m d1 E k ec B1 q W1 (hB.on qk) (hC.on qk))
 obtain ⟨r,hr⟩ : ∃ r,r = qa2 p sc br nm:=⟨_,rfl⟩
 have hR : frC p sc br nm = zy r fun _ => none:=by rw [hr];rfl
 rw [hR]
 rw [<- hr] at HA
 have qw:=hZ qk
 obtain ⟨⟨a0,a1,a2,a3⟩,ye,c0,c3⟩:=zU.out _ (Below.refl _ _)
 clear qn qE hex hea heb jf qP vz hC hB qM hN qk q1 q2 yw hR hr
 rw [qh] at a0 a1 a2 a3 ye c0 c3
 go_enter Tryz.func136,Tryz.ntmps136
 simp only [e1,e4]
 clear e1 e4 hT
 go_wp2_with fail
 rw [<- qh]
 clear a0 a1 a2 a3 ye c0 c3 qh
 (with_reducible refine HA.out.mono ?_)
 rintro ee w2 ⟨hp,hb⟩
 have H2:=hZ (qw.out.chain hb)
 clear hb
 rcases hp with ⟨cs3,f,rfl,rfl,hv3⟩ | ⟨t,rfl,rfl⟩
 rotate_left
 ·exact ⟨rfl,rfl,H2.out⟩
 ·clear hv3
  go_wp2
  exact bodyPost_end (results_none rfl _ _ _) rfl ⟨rfl,H2.out⟩
theorem qmE (p : Pg) (d : GAd) (B0 B1 cb : Nat) (sc br asn : List Pm) (b : BAd) (ln co : Int) (nm fd fr : List UInt8) (e : Ex) (c : Cn) (cl : List Cal) (iv : List Fm) (bo el : List St) : qa3 p d B0 B1 cb sc br asn b (.mk 6 ln co nm fd fr e c cl iv bo el):=by
 obtain ⟨A,n,c1,D,m,d1,E,k,ec⟩:=b
 intro cs w q hv hC hB
 obtain ⟨ek,en,es,exl⟩:=e
 obtain ⟨ck,⟨ak,an,sa,al⟩,⟨bk,bn,sb,bl⟩,cls⟩:=c
 obtain ⟨sd,qn,⟨qE,hex,hea,heb,jf,qP,vz⟩,_,_⟩:=hv
 show Calls Tryz.prog _ #[zT cb A n c1 D m d1 E k ec,.agg cs] w (qV (inC sc asn nm) w)
 obtain ⟨T,N,hT,hN,hag,qK⟩:=yo
 have e1 : ∀ y : Operand,Op.load 90 y = Op.load T y:=fun y => by rw [hT]
 have e4 : ∀ y : Operand,Op.box 90 y = Op.box T y:=fun y => by rw [hT]
 have qM : cs.size = 24:=by rw [qn];exact zO _ _
 have qu : cs.size = N:=qM.trans hN.symm
 have zE : Tryz.prog.follows .mixedOrders = true:=by kernel_rfl
 obtain ⟨W1,qh⟩ : ∃ W1,W1 = (w.alloc (qS cb A n c1 D m d1 E k ec)).alloc (.cells cs T):=⟨_,rfl⟩
 have qk : Below w.heap.size w W1:=by rw [qh];exact (qd w _).chain (qd _ _)
 have q1:=qr (o:=.cells cs T) (qe w (qS cb A n c1 D m d1 E k ec))
 have q2:=qe (w.alloc (qS cb A n c1 D m d1 E k ec)) (.cells cs T)
 rw [qj] at q2
 rw [<- qh] at q1 q2
 have zU : Hid (∀ W,Below W1.heap.size W1 W -> (W.cell? ⟨w.heap.size,0,none⟩ = some (.pointer (some ⟨cb,0,none⟩)) /\ W.cell? ⟨w.heap.size,1,none⟩ = some (.slice A n c1) /\ W.cell? ⟨w.heap.size,2,none⟩ = some (.slice D m d1) /\ W.cell? ⟨w.heap.size,3,none⟩ = some (.slice E k ec)) /\ (loadCellsFrom ⟨w.heap.size + 1,0,none⟩ 0 N #[]).run Tryz.prog W = .ok cs W /\ W.cell? ⟨w.heap.size + 1,0,none⟩ = some (.int .i64 6) /\ W.cell? ⟨w.heap.size + 1,3,none⟩ = some (.string ⟨nm.toArray⟩)):=hZ (fun W hb => by
  have p1:=qg hb q1
  have p2:=qg hb q2
  exact ⟨⟨qc p1 0 rfl,qc p1 1 rfl,qc p1 2 rfl,qc p1 3 rfl⟩,zI p2 qu,qc p2 0 (by rw [qn];rfl),qc p2 3 (by rw [qn];rfl)⟩)
 have yw : B0 <= w.heap.size:=Nat.le_trans hC.le (Nat.le_of_lt hC.lt)
 have HT : Hid (∀ W,Below W1.heap.size W1 W -> Calls Tryz.prog 164 #[zT cb A n c1 D m d1 E k ec,.string ⟨nm.toArray⟩] W (jH (jV sc asn nm) W)):=hZ (fun W hb => qbB cb nm sc br asn A n c1 D m d1 E k ec B1 W (hB.on (qk.chain hb)))
 obtain ⟨r,hr⟩ : ∃ r,r = jV sc asn nm:=⟨_,rfl⟩
 have hR : inC sc asn nm = zy r fun t => zQ (t == jy) 9 nm:=by rw [hr];rfl
 rw [hR]
 rw [<- hr] at HT
 obtain ⟨S,hS⟩ : ∃ S : World -> Prop,S = fun W => Below W1.heap.size W1 W:=⟨_,rfl⟩
 have qo : Hid (∀ W,Below W1.heap.size W1 W -> S W):=hZ (fun W hb => by rw [hS];exact hb)
 have HSB : Hid (∀ W,S W -> Below W1.heap.size W1 W):=hZ (fun W hs => by rw [hS] at hs;exact hs)
 have ze:=hZ (Below.refl W1.heap.size W1).drew
 have g0:=qo.out _ ze.out
 clear hS
 have qw:=hZ qk
 obtain ⟨⟨a0,a1,a2,a3⟩,ye,c0,c3⟩:=zU.out _ (Below.refl _ _)
 clear qn qE hex hea heb jf qP vz hC hB qM hN qk q1 q2 yw hR hr
 rw [qh] at a0 a1 a2 a3 ye c0 c3
 go_enter Tryz.func136,Tryz.ntmps136
 simp only [e1,e4]
 clear e1 e4 hT
 go_upto_region 13 with fail
 rw [<- qh]
 clear a0 a1 a2 a3 ye c0 c3 qh
 refine wp_region_held (S:=S) zE ?_
 change wpAnyH _ _ _ _ _ 8 #[false,false,false,false,false,false,false,false] _ W1.drew
 refine tk 0 34 (zT cb A n c1 D m d1 E k ec) g0 ?v ?_
 case v => intro Wx hSx;obtain ⟨⟨a0,a1,a2,a3⟩,-,c0,c3⟩:=zU.out Wx (HSB.out Wx hSx);go_simp
 refine tk 1 35 (.pointer (some ⟨w.heap.size + 1,3,none⟩)) g0 ?v ?_
 case v => intro Wx hSx;go_simp
 refine tk 2 36 (.string ⟨nm.toArray⟩) g0 ?v ?_
 case v => intro Wx hSx;obtain ⟨⟨a0,a1,a2,a3⟩,-,c0,c3⟩:=zU.out Wx (HSB.out Wx hSx);go_simp
 refine tk 5 39 (.pointer (some ⟨w.heap.size + 1,3,none⟩)) g0 ?v ?_
 case v => intro Wx hSx;go_simp
 try simp only [qf]
 refine tk 6 40 (.string ⟨nm.toArray⟩) g0 ?v ?_
 case v => intro Wx hSx;obtain ⟨⟨a0,a1,a2,a3⟩,-,c0,c3⟩:=zU.out Wx (HSB.out Wx hSx);go_simp
 try simp only [qf]
 refine o1 3 (fun K hK => ?_)
 go_simp
 (with_reducible refine (HT.out _ ze.out).mono ?_)
 rintro ee w2 ⟨he,hb⟩
 have H2:=hZ (ze.out.chain hb)
 clear hb
 cases r with
 | error t =>
   obtain rfl : ee = _:=he
   exact ⟨rfl,rfl,qw.out.chain H2.out⟩
 | ok t =>
 obtain rfl : ee = _:=he
 refine hK _ _ (qo.out _ H2.out) ?_
 clear hK K
 try simp only [qf]
 obtain ⟨v,hv⟩ : ∃ v,v = (t == jy):=⟨_,rfl⟩
 have HV : Hid ((zy (.ok t) fun t => zQ (t == jy) 9 nm) = zQ v 9 nm):=hZ (by rw [hv];rfl)
 have hv' : (t == [105,110,116]) = v:=hv.symm
 clear hv
 refine tk 4 38 (.bool v) (qo.out _ H2.out) ?v ?_
 case v => intro Wx hSx;go_simp
 clear hv'
 try simp only [qf]
 refine o1 7 (fun K hK => ?_)
 go_simp
 (with_reducible refine (qU v 9 nm w2).mono ?_)
 rintro ee w5 ⟨he,hw⟩
 subst hw
 cases v
 ·obtain rfl : ee = _:=he
  exact ⟨rfl,by rw [HV.out];exact rfl,qw.out.chain H2.out⟩
 ·obtain rfl : ee = _:=he
  refine hK _ _ (qo.out _ H2.out) ?_
  clear hK K
  refine wpAnyH_done (by kernel_rfl) ?_ _
  go_wp2
  exact bodyPost_end (results_none rfl _ _ _) rfl ⟨by rw [HV.out];exact rfl,qw.out.chain H2.out⟩
theorem qlh (p : Pg) (d : GAd) (B0 B1 cb : Nat) (sc br asn : List Pm) (b : BAd) (ln co : Int) (nm fd fr : List UInt8) (e : Ex) (c : Cn) (x : Cal) (cr : List Cal) (iv : List Fm) (bo el : List St) : qa3 p d B0 B1 cb sc br asn b (.mk 7 ln co nm fd fr e c (x :: cr) iv bo el):=by
 obtain ⟨A,n,c1,D,m,d1,E,k,ec⟩:=b
 intro cs w q hv hC hB
 obtain ⟨ek,en,es,exl⟩:=e
 obtain ⟨ck,⟨ak,an,sa,al⟩,⟨bk,bn,sb,bl⟩,cls⟩:=c
 obtain ⟨sd,qn,⟨qE,hex,hea,heb,jf,qP,vz⟩,_,_⟩:=hv
 show Calls Tryz.prog _ #[zT cb A n c1 D m d1 E k ec,.agg cs] w (qV (qag p sc br asn x) w)
 obtain ⟨T,N,hT,hN,hag,qK⟩:=yo
 have e1 : ∀ y : Operand,Op.load 90 y = Op.load T y:=fun y => by rw [hT]
 have e4 : ∀ y : Operand,Op.box 90 y = Op.box T y:=fun y => by rw [hT]
 have qM : cs.size = 24:=by rw [qn];exact zO _ _
 have qu : cs.size = N:=qM.trans hN.symm
 have zE : Tryz.prog.follows .mixedOrders = true:=by kernel_rfl
 obtain ⟨W1,qh⟩ : ∃ W1,W1 = (w.alloc (qS cb A n c1 D m d1 E k ec)).alloc (.cells cs T):=⟨_,rfl⟩
 have qk : Below w.heap.size w W1:=by rw [qh];exact (qd w _).chain (qd _ _)
 have q1:=qr (o:=.cells cs T) (qe w (qS cb A n c1 D m d1 E k ec))
 have q2:=qe (w.alloc (qS cb A n c1 D m d1 E k ec)) (.cells cs T)
 rw [qj] at q2
 rw [<- qh] at q1 q2
 have zU : Hid (∀ W,Below W1.heap.size W1 W -> (W.cell? ⟨w.heap.size,0,none⟩ = some (.pointer (some ⟨cb,0,none⟩)) /\ W.cell? ⟨w.heap.size,1,none⟩ = some (.slice A n c1) /\ W.cell? ⟨w.heap.size,2,none⟩ = some (.slice D m d1) /\ W.cell? ⟨w.heap.size,3,none⟩ = some (.slice E k ec)) /\ (loadCellsFrom ⟨w.heap.size + 1,0,none⟩ 0 N #[]).run Tryz.prog W = .ok cs W /\ W.cell? ⟨w.heap.size + 1,0,none⟩ = some (.int .i64 7) /\ W.cell? ⟨w.heap.size + 1,20,none⟩ = some (.slice sd.c (x :: cr).length sd.nc)):=hZ (fun W hb => by
  have p1:=qg hb q1
  have p2:=qg hb q2
  exact ⟨⟨qc p1 0 rfl,qc p1 1 rfl,qc p1 2 rfl,qc p1 3 rfl⟩,zI p2 qu,qc p2 0 (by rw [qn];rfl),qc p2 20 (by rw [qn];rfl)⟩)
 have yw : B0 <= w.heap.size:=Nat.le_trans hC.le (Nat.le_of_lt hC.lt)
 obtain ⟨a,hA,qx,Al,kl,u0,u1,u2,hr0,hp0,jT,qL⟩:=qP.at_ (i:=0) (x:=x) rfl
 obtain ⟨nl,yL⟩ : ∃ z,z = x.l.length:=⟨_,rfl⟩
 obtain ⟨nn,zS⟩ : ∃ z,z = (x :: cr).length:=⟨_,rfl⟩
 have hn0 : ¬ nn = 0:=by rw [zS];simp
 rw [<- zS] at zU
 have ea : a.add (0 * 3) = a:=by simp [Addr.add]
 rw [ea] at u0 u1 u2
 have HX : Hid (∀ W,Below W1.heap.size W1 W -> W.cell? a = some (.string ⟨x.r.toArray⟩) /\ W.cell? ⟨a.block,a.off + 1,none⟩ = some (.string ⟨x.p.toArray⟩) /\ W.cell? ⟨a.block,a.off + 2,none⟩ = some (.slice Al nl kl)):=hZ (fun W hb => by
  have hk : ∀ q : Addr,q.block = a.block -> W.cell? q = w.cell? q:=fun q hq => (qk.chain hb).cell (by rw [hq];exact Nat.lt_of_lt_of_le qx yw)
  exact ⟨(hk _ rfl).trans u0,(hk (a.add 1) (by rw [qm])).trans u1,by rw [yL];exact (hk (a.add 2) (by rw [qm])).trans u2⟩)
 have HCa : Hid (∀ W,Below W1.heap.size W1 W -> Calls Tryz.prog 165 #[zT cb A n c1 D m d1 E k ec,.agg #[.string ⟨x.r.toArray⟩,.string ⟨x.p.toArray⟩,.slice Al nl kl]] W (qV (qag p sc br asn x) W)):=hZ (fun W hb => qgd p d B0 cb x Al nl kl yL jT sc br asn A n c1 D m d1 E k ec B1 q W (qL.keep (fun z hz => (qk.chain hb).cell (Nat.lt_of_lt_of_le hz yw)) (Nat.le_refl _)) (hB.on (qk.chain hb)) (hC.on (qk.chain hb)))
 obtain ⟨R,hR⟩ : ∃ R : Ck,R = qag p sc br asn x:=⟨_,rfl⟩
 rw [<- hR] at HCa ⊢
 obtain ⟨S,hS⟩ : ∃ S : World -> Prop,S = fun W => Below W1.heap.size W1 W:=⟨_,rfl⟩
 have qo : Hid (∀ W,Below W1.heap.size W1 W -> S W):=hZ (fun W hb => by rw [hS];exact hb)
 have HSB : Hid (∀ W,S W -> Below W1.heap.size W1 W):=hZ (fun W hs => by rw [hS] at hs;exact hs)
 have ze:=hZ (Below.refl W1.heap.size W1).drew
 have g0:=qo.out _ ze.out
 clear hS
 obtain ⟨Ac,hAc⟩ : ∃ z,z = sd.c:=⟨_,rfl⟩
 rw [<- hAc] at zU hA
 subst hA
 have qw:=hZ qk
 obtain ⟨⟨a0,a1,a2,a3⟩,ye,c0,c20⟩:=zU.out _ (Below.refl _ _)
 clear qn qE hex hea heb jf qP vz hC hB qM hN qk q1 q2 yw hR u0 u1 u2 hr0 hp0 jT qL ea qx yL zS hAc
 rw [qh] at a0 a1 a2 a3 ye c0 c20
 go_enter Tryz.func136,Tryz.ntmps136
 simp only [e1,e4]
 clear e1 e4 hT
 go_upto_region 15 with fail
 rw [<- qh]
 clear a0 a1 a2 a3 ye c0 c20 qh
 refine wp_region_held (S:=S) zE ?_
 change wpAnyH _ _ _ _ _ 6 #[false,false,false,false,false,false] _ W1.drew
 refine tk 0 44 (zT cb A n c1 D m d1 E k ec) g0 ?v ?_
 case v => intro Wx hSx;obtain ⟨⟨a0,a1,a2,a3⟩,-,c0,c20⟩:=zU.out Wx (HSB.out Wx hSx);go_simp
 refine tk 1 45 (.pointer (some ⟨w.heap.size + 1,20,none⟩)) g0 ?v ?_
 case v => intro Wx hSx;go_simp
 refine tk 2 46 (.slice (some a) nn sd.nc) g0 ?v ?_
 case v => intro Wx hSx;obtain ⟨⟨a0,a1,a2,a3⟩,-,c0,c20⟩:=zU.out Wx (HSB.out Wx hSx);go_simp
 refine tk 3 47 (.pointer (some a)) g0 ?v ?_
 case v => intro Wx hSx;go_simp
 try simp only [qf]
 refine tk 4 48 (.agg #[.string ⟨x.r.toArray⟩,.string ⟨x.p.toArray⟩,.slice Al nl kl]) g0 ?v ?_
 case v => intro Wx hSx;obtain ⟨x0,x1,x2⟩:=HX.out Wx (HSB.out Wx hSx);go_simp
 try simp only [qf]
 refine o1 5 (fun K hK => ?_)
 go_simp
 (with_reducible refine (HCa.out _ ze.out).mono ?_)
 rintro ee w2 ⟨he,hb⟩
 have H2:=hZ (ze.out.chain hb)
 clear hb
 cases R with
 | some t =>
   obtain rfl : ee = _:=he
   exact ⟨rfl,rfl,qw.out.chain H2.out⟩
 | none =>
   obtain rfl : ee = _:=he
   refine hK _ _ (qo.out _ H2.out) ?_
   clear hK K
   refine wpAnyH_done (by kernel_rfl) ?_ _
   go_wp2
   exact bodyPost_end (results_none rfl _ _ _) rfl ⟨rfl,qw.out.chain H2.out⟩
theorem qsn (p : Pg) (d : GAd) (B0 B1 cb : Nat) (sc br asn : List Pm) (b : BAd) (ln co : Int) (nm fd fr : List UInt8) (e : Ex) (c : Cn) (cl : List Cal) (iv : List Fm) (bo el : List St) : qa3 p d B0 B1 cb sc br asn b (.mk 8 ln co nm fd fr e c cl iv bo el):=by
 obtain ⟨A,n,c1,D,m,d1,E,k,ec⟩:=b
 intro cs w q hv hC hB
 obtain ⟨ek,en,es,exl⟩:=e
 obtain ⟨ck,⟨ak,an,sa,al⟩,⟨bk,bn,sb,bl⟩,cls⟩:=c
 obtain ⟨sd,qn,⟨qE,hex,hea,heb,jf,qP,vz⟩,_,_⟩:=hv
 show Calls Tryz.prog _ #[zT cb A n c1 D m d1 E k ec,.agg cs] w (qV (vY sc br (.mk ck (.mk ak an sa al) (.mk bk bn sb bl) cls)) w)
 obtain ⟨T,N,hT,hN,hag,qK⟩:=yo
 have e1 : ∀ y : Operand,Op.load 90 y = Op.load T y:=fun y => by rw [hT]
 have e4 : ∀ y : Operand,Op.box 90 y = Op.box T y:=fun y => by rw [hT]
 have qM : cs.size = 24:=by rw [qn];exact zO _ _
 have qu : cs.size = N:=qM.trans hN.symm
 have zE : Tryz.prog.follows .mixedOrders = true:=by kernel_rfl
 obtain ⟨W1,qh⟩ : ∃ W1,W1 = (w.alloc (qS cb A n c1 D m d1 E k ec)).alloc (.cells cs T):=⟨_,rfl⟩
 have qk : Below w.heap.size w W1:=by rw [qh];exact (qd w _).chain (qd _ _)
 have q1:=qr (o:=.cells cs T) (qe w (qS cb A n c1 D m d1 E k ec))
 have q2:=qe (w.alloc (qS cb A n c1 D m d1 E k ec)) (.cells cs T)
 rw [qj] at q2
 rw [<- qh] at q1 q2
 have zU : Hid (∀ W,Below W1.heap.size W1 W -> (W.cell? ⟨w.heap.size,0,none⟩ = some (.pointer (some ⟨cb,0,none⟩)) /\ W.cell? ⟨w.heap.size,1,none⟩ = some (.slice A n c1) /\ W.cell? ⟨w.heap.size,2,none⟩ = some (.slice D m d1) /\ W.cell? ⟨w.heap.size,3,none⟩ = some (.slice E k ec)) /\ (loadCellsFrom ⟨w.heap.size + 1,0,none⟩ 0 N #[]).run Tryz.prog W = .ok cs W /\ W.cell? ⟨w.heap.size + 1,0,none⟩ = some (.int .i64 8) /\ W.cell? ⟨w.heap.size + 1,10,none⟩ = some (.int .i64 ck) /\ W.cell? ⟨w.heap.size + 1,11,none⟩ = some (.int .i64 ak) /\ W.cell? ⟨w.heap.size + 1,12,none⟩ = some (.int .i64 an) /\ W.cell? ⟨w.heap.size + 1,13,none⟩ = some (.string ⟨sa.toArray⟩) /\ W.cell? ⟨w.heap.size + 1,14,none⟩ = some (.slice sd.a al.length sd.na) /\ W.cell? ⟨w.heap.size + 1,15,none⟩ = some (.int .i64 bk) /\ W.cell? ⟨w.heap.size + 1,16,none⟩ = some (.int .i64 bn) /\ W.cell? ⟨w.heap.size + 1,17,none⟩ = some (.string ⟨sb.toArray⟩) /\ W.cell? ⟨w.heap.size + 1,18,none⟩ = some (.slice sd.b bl.length sd.nb) /\ W.cell? ⟨w.heap.size + 1,19,none⟩ = some (.slice sd.l cls.length sd.nl)):=hZ (fun W hb => by
  have p1:=qg hb q1
  have p2:=qg hb q2
  exact ⟨⟨qc p1 0 rfl,qc p1 1 rfl,qc p1 2 rfl,qc p1 3 rfl⟩,zI p2 qu,qc p2 0 (by rw [qn];rfl),qc p2 10 (by rw [qn];rfl),qc p2 11 (by rw [qn];rfl),qc p2 12 (by rw [qn];rfl),qc p2 13 (by rw [qn];rfl),qc p2 14 (by rw [qn];rfl),qc p2 15 (by rw [qn];rfl),qc p2 16 (by rw [qn];rfl),qc p2 17 (by rw [qn];rfl),qc p2 18 (by rw [qn];rfl),qc p2 19 (by rw [qn];rfl)⟩)
 have yw : B0 <= w.heap.size:=Nat.le_trans hC.le (Nat.le_of_lt hC.lt)
 have HA:=hZ (qiH sc br A n c1 D m d1 B1 _ cls (Nat.lt_succ_self _) ck ak an sa al bk bn sb bl sd.a sd.na sd.b sd.nb sd.l sd.nl W1 (hB.on qk).v ((hea.keep (fun z hz => qk.cell (Nat.lt_of_lt_of_le hz yw)) (Nat.le_refl _)).more (Nat.le_trans yw qk.size)) ((heb.keep (fun z hz => qk.cell (Nat.lt_of_lt_of_le hz yw)) (Nat.le_refl _)).more (Nat.le_trans yw qk.size)) (jf.keep (fun z hz => qk.cell (Nat.lt_of_lt_of_le hz yw)) (Nat.le_trans yw qk.size)) qE.2.2.2.2.2.1 qE.2.2.2.2.2.2.1 qE.2.2.2.2.2.2.2.1 qE.2.2.2.2.2.2.2.2.1 qE.2.2.2.2.2.2.2.2.2.1)
 obtain ⟨R,hR⟩ : ∃ R : Ck,R = vY sc br (.mk ck (.mk ak an sa al) (.mk bk bn sb bl) cls):=⟨_,rfl⟩
 rw [<- hR] at HA ⊢
 have qw:=hZ qk
 obtain ⟨⟨a0,a1,a2,a3⟩,ye,c0,c10,c11,c12,c13,c14,c15,c16,c17,c18,c19⟩:=zU.out _ (Below.refl _ _)
 clear qn qE hex hea heb jf qP vz hC hB qM hN qk q1 q2 yw hR
 rw [qh] at a0 a1 a2 a3 ye c0 c10 c11 c12 c13 c14 c15 c16 c17 c18 c19
 go_enter Tryz.func136,Tryz.ntmps136
 simp only [e1,e4]
 clear e1 e4 hT
 go_wp2_with fail
 rw [<- qh]
 clear a0 a1 a2 a3 ye c0 c10 c11 c12 c13 c14 c15 c16 c17 c18 c19 qh
 (with_reducible refine HA.out.mono ?_)
 rintro ee w2 ⟨he,hb⟩
 have H2:=hZ (qw.out.chain hb)
 clear hb
 cases R with
 | some t =>
   obtain rfl : ee = _:=he
   exact ⟨rfl,rfl,H2.out⟩
 | none =>
   obtain rfl : ee = _:=he
   go_wp2
   exact bodyPost_end (results_none rfl _ _ _) rfl ⟨rfl,H2.out⟩
theorem qli (p : Pg) (d : GAd) (B0 B1 cb : Nat) (sc br asn : List Pm) (b : BAd) (ln co : Int) (nm fd fr : List UInt8) (e : Ex) (c : Cn) (cl : List Cal) (iv : List Fm) (bo el : List St) : qa3 p d B0 B1 cb sc br asn b (.mk 10 ln co nm fd fr e c cl iv bo el):=by
 obtain ⟨A,n,c1,D,m,d1,E,k,ec⟩:=b
 intro cs w q hv hC hB
 obtain ⟨ek,en,es,exl⟩:=e
 obtain ⟨ck,⟨ak,an,sa,al⟩,⟨bk,bn,sb,bl⟩,cls⟩:=c
 obtain ⟨sd,qn,⟨qE,hex,hea,heb,jf,qP,vz⟩,_,_⟩:=hv
 show Calls Tryz.prog _ #[zT cb A n c1 D m d1 E k ec,.agg cs] w (qV (vY sc br (.mk ck (.mk ak an sa al) (.mk bk bn sb bl) cls)) w)
 obtain ⟨T,N,hT,hN,hag,qK⟩:=yo
 have e1 : ∀ y : Operand,Op.load 90 y = Op.load T y:=fun y => by rw [hT]
 have e4 : ∀ y : Operand,Op.box 90 y = Op.box T y:=fun y => by rw [hT]
 have qM : cs.size = 24:=by rw [qn];exact zO _ _
 have qu : cs.size = N:=qM.trans hN.symm
 have zE : Tryz.prog.follows .mixedOrders = true:=by kernel_rfl
 obtain ⟨W1,qh⟩ : ∃ W1,W1 = (w.alloc (qS cb A n c1 D m d1 E k ec)).alloc (.cells cs T):=⟨_,rfl⟩
 have qk : Below w.heap.size w W1:=by rw [qh];exact (qd w _).chain (qd _ _)
 have q1:=qr (o:=.cells cs T) (qe w (qS cb A n c1 D m d1 E k ec))
 have q2:=qe (w.alloc (qS cb A n c1 D m d1 E k ec)) (.cells cs T)
 rw [qj] at q2
 rw [<- qh] at q1 q2
 have zU : Hid (∀ W,Below W1.heap.size W1 W -> (W.cell? ⟨w.heap.size,0,none⟩ = some (.pointer (some ⟨cb,0,none⟩)) /\ W.cell? ⟨w.heap.size,1,none⟩ = some (.slice A n c1) /\ W.cell? ⟨w.heap.size,2,none⟩ = some (.slice D m d1) /\ W.cell? ⟨w.heap.size,3,none⟩ = some (.slice E k ec)) /\ (loadCellsFrom ⟨w.heap.size + 1,0,none⟩ 0 N #[]).run Tryz.prog W = .ok cs W /\ W.cell? ⟨w.heap.size + 1,0,none⟩ = some (.int .i64 10) /\ W.cell? ⟨w.heap.size + 1,10,none⟩ = some (.int .i64 ck) /\ W.cell? ⟨w.heap.size + 1,11,none⟩ = some (.int .i64 ak) /\ W.cell? ⟨w.heap.size + 1,12,none⟩ = some (.int .i64 an) /\ W.cell? ⟨w.heap.size + 1,13,none⟩ = some (.string ⟨sa.toArray⟩) /\ W.cell? ⟨w.heap.size + 1,14,none⟩ = some (.slice sd.a al.length sd.na) /\ W.cell? ⟨w.heap.size + 1,15,none⟩ = some (.int .i64 bk) /\ W.cell? ⟨w.heap.size + 1,16,none⟩ = some (.int .i64 bn) /\ W.cell? ⟨w.heap.size + 1,17,none⟩ = some (.string ⟨sb.toArray⟩) /\ W.cell? ⟨w.heap.size + 1,18,none⟩ = some (.slice sd.b bl.length sd.nb) /\ W.cell? ⟨w.heap.size + 1,19,none⟩ = some (.slice sd.l cls.length sd.nl)):=hZ (fun W hb => by
  have p1:=qg hb q1
  have p2:=qg hb q2
  exact ⟨⟨qc p1 0 rfl,qc p1 1 rfl,qc p1 2 rfl,qc p1 3 rfl⟩,zI p2 qu,qc p2 0 (by rw [qn];rfl),qc p2 10 (by rw [qn];rfl),qc p2 11 (by rw [qn];rfl),qc p2 12 (by rw [qn];rfl),qc p2 13 (by rw [qn];rfl),qc p2 14 (by rw [qn];rfl),qc p2 15 (by rw [qn];rfl),qc p2 16 (by rw [qn];rfl),qc p2 17 (by rw [qn];rfl),qc p2 18 (by rw [qn];rfl),qc p2 19 (by rw [qn];rfl)⟩)
 have yw : B0 <= w.heap.size:=Nat.le_trans hC.le (Nat.le_of_lt hC.lt)
 have HA:=hZ (qiH sc br A n c1 D m d1 B1 _ cls (Nat.lt_succ_self _) ck ak an sa al bk bn sb bl sd.a sd.na sd.b sd.nb sd.l sd.nl W1 (hB.on qk).v ((hea.keep (fun z hz => qk.cell (Nat.lt_of_lt_of_le hz yw)) (Nat.le_refl _)).more (Nat.le_trans yw qk.size)) ((heb.keep (fun z hz => qk.cell (Nat.lt_of_lt_of_le hz yw)) (Nat.le_refl _)).more (Nat.le_trans yw qk.size)) (jf.keep (fun z hz => qk.cell (Nat.lt_of_lt_of_le hz yw)) (Nat.le_trans yw qk.size)) qE.2.2.2.2.2.1 qE.2.2.2.2.2.2.1 qE.2.2.2.2.2.2.2.1 qE.2.2.2.2.2.2.2.2.1 qE.2.2.2.2.2.2.2.2.2.1)
 obtain ⟨R,hR⟩ : ∃ R : Ck,R = vY sc br (.mk ck (.mk ak an sa al) (.mk bk bn sb bl) cls):=⟨_,rfl⟩
 rw [<- hR] at HA ⊢
 have qw:=hZ qk
 obtain ⟨⟨a0,a1,a2,a3⟩,ye,c0,c10,c11,c12,c13,c14,c15,c16,c17,c18,c19⟩:=zU.out _ (Below.refl _ _)
 clear qn qE hex hea heb jf qP vz hC hB qM hN qk q1 q2 yw hR
 rw [qh] at a0 a1 a2 a3 ye c0 c10 c11 c12 c13 c14 c15 c16 c17 c18 c19
 go_enter Tryz.func136,Tryz.ntmps136
 simp only [e1,e4]
 clear e1 e4 hT
 go_wp2_with fail
 rw [<- qh]
 clear a0 a1 a2 a3 ye c0 c10 c11 c12 c13 c14 c15 c16 c17 c18 c19 qh
 (with_reducible refine HA.out.mono ?_)
 rintro ee w2 ⟨he,hb⟩
 have H2:=hZ (qw.out.chain hb)
 clear hb
 cases R with
 | some t =>
   obtain rfl : ee = _:=he
   exact ⟨rfl,rfl,H2.out⟩
 | none =>
   obtain rfl : ee = _:=he
   go_wp2
   exact bodyPost_end (results_none rfl _ _ _) rfl ⟨rfl,H2.out⟩
theorem qmC (p : Pg) (d : GAd) (B0 B1 cb : Nat) (sc br asn : List Pm) (b : BAd) (ln co : Int) (nm fd fr : List UInt8) (e : Ex) (c : Cn) (cl : List Cal) (iv : List Fm) (bo el : List St) (hok : ∀ f ∈ iv,qc0 p d B0 cb f) (hsc : sc.length <= 3999999000000) : qa3 p d B0 B1 cb sc br asn b (.mk 9 ln co nm fd fr e c cl iv bo el):=by
 obtain ⟨A,n,c1,D,m,d1,E,k,ec⟩:=b
 intro cs w q hv hC hB
 obtain ⟨ek,en,es,exl⟩:=e
 obtain ⟨ck,⟨ak,an,sa,al⟩,⟨bk,bn,sb,bl⟩,cls⟩:=c
 obtain ⟨sd,qn,⟨qE,hex,hea,heb,jf,qP,vz⟩,_,_⟩:=hv
 show Calls Tryz.prog _ #[zT cb A n c1 D m d1 E k ec,.agg cs] w (qV (zw (vY sc br (.mk ck (.mk ak an sa al) (.mk bk bn sb bl) cls)) (xH p sc iv)) w)
 obtain ⟨T,N,hT,hN,hag,qK⟩:=yo
 have e1 : ∀ y : Operand,Op.load 90 y = Op.load T y:=fun y => by rw [hT]
 have e4 : ∀ y : Operand,Op.box 90 y = Op.box T y:=fun y => by rw [hT]
 have qM : cs.size = 24:=by rw [qn];exact zO _ _
 have qu : cs.size = N:=qM.trans hN.symm
 have zE : Tryz.prog.follows .mixedOrders = true:=by kernel_rfl
 obtain ⟨W1,qh⟩ : ∃ W1,W1 = (w.alloc (qS cb A n c1 D m d1 E k ec)).alloc (.cells cs T):=⟨_,rfl⟩
 have qk : Below w.heap.size w W1:=by rw [qh];exact (qd w _).chain (qd _ _)
 have q1:=qr (o:=.cells cs T) (qe w (qS cb A n c1 D m d1 E k ec))
 have q2:=qe (w.alloc (qS cb A n c1 D m d1 E k ec)) (.cells cs T)
 rw [qj] at q2
 rw [<- qh] at q1 q2
 have zU : Hid (∀ W,Below W1.heap.size W1 W -> (W.cell? ⟨w.heap.size,0,none⟩ = some (.pointer (some ⟨cb,0,none⟩)) /\ W.cell? ⟨w.heap.size,1,none⟩ = some (.slice A n c1) /\ W.cell? ⟨w.heap.size,2,none⟩ = some (.slice D m d1) /\ W.cell? ⟨w.heap.size,3,none⟩ = some (.slice E k ec)) /\ (loadCellsFrom ⟨w.heap.size + 1,0,none⟩ 0 N #[]).run Tryz.prog W = .ok cs W /\ W.cell? ⟨w.heap.size + 1,0,none⟩ = some (.int .i64 9) /\ W.cell? ⟨w.heap.size + 1,10,none⟩ = some (.int .i64 ck) /\ W.cell? ⟨w.heap.size + 1,11,none⟩ = some (.int .i64 ak) /\ W.cell? ⟨w.heap.size + 1,12,none⟩ = some (.int .i64 an) /\ W.cell? ⟨w.heap.size + 1,13,none⟩ = some (.string ⟨sa.toArray⟩) /\ W.cell? ⟨w.heap.size + 1,14,none⟩ = some (.slice sd.a al.length sd.na) /\ W.cell? ⟨w.heap.size + 1,15,none⟩ = some (.int .i64 bk) /\ W.cell? ⟨w.heap.size + 1,16,none⟩ = some (.int .i64 bn) /\ W.cell? ⟨w.heap.size + 1,17,none⟩ = some (.string ⟨sb.toArray⟩) /\ W.cell? ⟨w.heap.size + 1,18,none⟩ = some (.slice sd.b bl.length sd.nb) /\ W.cell? ⟨w.heap.size + 1,19,none⟩ = some (.slice sd.l cls.length sd.nl) /\ W.cell? ⟨w.heap.size + 1,21,none⟩ = some (.slice sd.i iv.length sd.ni)):=hZ (fun W hb => by
  have p1:=qg hb q1
  have p2:=qg hb q2
  exact ⟨⟨qc p1 0 rfl,qc p1 1 rfl,qc p1 2 rfl,qc p1 3 rfl⟩,zI p2 qu,qc p2 0 (by rw [qn];rfl),qc p2 10 (by rw [qn];rfl),qc p2 11 (by rw [qn];rfl),qc p2 12 (by rw [qn];rfl),qc p2 13 (by rw [qn];rfl),qc p2 14 (by rw [qn];rfl),qc p2 15 (by rw [qn];rfl),qc p2 16 (by rw [qn];rfl),qc p2 17 (by rw [qn];rfl),qc p2 18 (by rw [qn];rfl),qc p2 19 (by rw [qn];rfl),qc p2 21 (by rw [qn];rfl)⟩)
 have yw : B0 <= w.heap.size:=Nat.le_trans hC.le (Nat.le_of_lt hC.lt)
 have HA:=hZ (qiH sc br A n c1 D m d1 B1 _ cls (Nat.lt_succ_self _) ck ak an sa al bk bn sb bl sd.a sd.na sd.b sd.nb sd.l sd.nl W1 (hB.on qk).v ((hea.keep (fun z hz => qk.cell (Nat.lt_of_lt_of_le hz yw)) (Nat.le_refl _)).more (Nat.le_trans yw qk.size)) ((heb.keep (fun z hz => qk.cell (Nat.lt_of_lt_of_le hz yw)) (Nat.le_refl _)).more (Nat.le_trans yw qk.size)) (jf.keep (fun z hz => qk.cell (Nat.lt_of_lt_of_le hz yw)) (Nat.le_trans yw qk.size)) qE.2.2.2.2.2.1 qE.2.2.2.2.2.2.1 qE.2.2.2.2.2.2.2.1 qE.2.2.2.2.2.2.2.2.1 qE.2.2.2.2.2.2.2.2.2.1)
 have HF : Hid (∀ W,Below W1.heap.size W1 W -> Calls Tryz.prog 74 #[.pointer (some ⟨cb,0,none⟩),.slice A n c1,.slice sd.i iv.length sd.ni] W (qV (xH p sc iv) W)):=hZ (fun W hb => by
  have yA:=qk.chain hb
  exact qaL p d B0 cb iv hok sc A n c1 B1 sd.i iv.length sd.ni rfl qE.2.2.2.2.2.2.2.2.2.2.2.1 W hB.v.hn (by have h : n = sc.length:=hB.v.hn;omega) (Nat.le_trans hB.v.hB yA.size) (hB.on yA).v.r1 (hC.on yA).at_ (vz.keep yk (fun z hz => yA.cell (Nat.lt_of_lt_of_le hz yw)) (Nat.le_refl _)))
 obtain ⟨R,hR⟩ : ∃ R : Ck,R = vY sc br (.mk ck (.mk ak an sa al) (.mk bk bn sb bl) cls):=⟨_,rfl⟩
 obtain ⟨R2,hR2⟩ : ∃ R : Ck,R = xH p sc iv:=⟨_,rfl⟩
 obtain ⟨ni,hni⟩ : ∃ z,z = iv.length:=⟨_,rfl⟩
 rw [<- hR] at HA ⊢
 rw [<- hR2] at HF ⊢
 rw [<- hni] at HF zU
 have qw:=hZ qk
 obtain ⟨⟨a0,a1,a2,a3⟩,ye,c0,c10,c11,c12,c13,c14,c15,c16,c17,c18,c19,c21⟩:=zU.out _ (Below.refl _ _)
 clear qn qE hex hea heb jf qP vz hC hB qM hN qk q1 q2 yw hR hR2 hni hok hsc
 rw [qh] at a0 a1 a2 a3 ye c0 c10 c11 c12 c13 c14 c15 c16 c17 c18 c19 c21
 go_enter Tryz.func136,Tryz.ntmps136
 simp only [e1,e4]
 clear e1 e4 hT
 go_wp2_with fail
 rw [<- qh]
 clear a0 a1 a2 a3 ye c0 c10 c11 c12 c13 c14 c15 c16 c17 c18 c19 c21 qh
 (with_reducible refine HA.out.mono ?_)
 rintro ee w2 ⟨he,hb⟩
 have H2:=hZ hb
 clear hb
 cases R with
 | some t =>
   obtain rfl : ee = _:=he
   exact ⟨rfl,rfl,qw.out.chain H2.out⟩
 | none =>
 obtain rfl : ee = _:=he
 obtain ⟨⟨a0,a1,a2,a3⟩,ye,c0,c10,c11,c12,c13,c14,c15,c16,c17,c18,c19,c21⟩:=zU.out _ H2.out
 go_wp2_with fail
 clear a0 a1 a2 a3 ye c0 c10 c11 c12 c13 c14 c15 c16 c17 c18 c19 c21
 (with_reducible refine (HF.out _ H2.out).mono ?_)
 rintro ee w3 ⟨he,hb⟩
 have H3:=hZ (qw.out.chain (H2.out.chain hb))
 clear hb
 cases R2 with
 | some t =>
   obtain rfl : ee = _:=he
   exact ⟨rfl,rfl,H3.out⟩
 | none =>
   obtain rfl : ee = _:=he
   go_wp2
   exact bodyPost_end (results_none rfl _ _ _) rfl ⟨rfl,H3.out⟩
theorem qnP (p : Pg) (d : GAd) (B0 B1 cb : Nat) (sc br asn : List Pm) (b : BAd) (ln co : Int) (nm fd fr : List UInt8) (e : Ex) (c : Cn) (cl : List Cal) (iv : List Fm) (bo el : List St) : qa3 p d B0 B1 cb sc br asn b (.mk 11 ln co nm fd fr e c cl iv bo el):=by
 obtain ⟨A,n,c1,D,m,d1,E,k,ec⟩:=b
 intro cs w q hv hC hB
 obtain ⟨ek,en,es,exl⟩:=e
 obtain ⟨ck,⟨ak,an,sa,al⟩,⟨bk,bn,sb,bl⟩,cls⟩:=c
 obtain ⟨sd,qn,⟨qE,hex,hea,heb,jf,qP,vz⟩,_,_⟩:=hv
 show Calls Tryz.prog _ #[zT cb A n c1 D m d1 E k ec,.agg cs] w (qV (wiC p nm) w)
 obtain ⟨T,N,hT,hN,hag,qK⟩:=yo
 have e1 : ∀ y : Operand,Op.load 90 y = Op.load T y:=fun y => by rw [hT]
 have e4 : ∀ y : Operand,Op.box 90 y = Op.box T y:=fun y => by rw [hT]
 have qM : cs.size = 24:=by rw [qn];exact zO _ _
 have qu : cs.size = N:=qM.trans hN.symm
 have zE : Tryz.prog.follows .mixedOrders = true:=by kernel_rfl
 obtain ⟨W1,qh⟩ : ∃ W1,W1 = (w.alloc (qS cb A n c1 D m d1 E k ec)).alloc (.cells cs T):=⟨_,rfl⟩
 have qk : Below w.heap.size w W1:=by rw [qh];exact (qd w _).chain (qd _ _)
 have q1:=qr (o:=.cells cs T) (qe w (qS cb A n c1 D m d1 E k ec))
 have q2:=qe (w.alloc (qS cb A n c1 D m d1 E k ec)) (.cells cs T)
 rw [qj] at q2
 rw [<- qh] at q1 q2
 have zU : Hid (∀ W,Below W1.heap.size W1 W -> (W.cell? ⟨w.heap.size,0,none⟩ = some (.pointer (some ⟨cb,0,none⟩)) /\ W.cell? ⟨w.heap.size,1,none⟩ = some (.slice A n c1) /\ W.cell? ⟨w.heap.size,2,none⟩ = some (.slice D m d1) /\ W.cell? ⟨w.heap.size,3,none⟩ = some (.slice E k ec)) /\ (loadCellsFrom ⟨w.heap.size + 1,0,none⟩ 0 N #[]).run Tryz.prog W = .ok cs W /\ W.cell? ⟨w.heap.size + 1,0,none⟩ = some (.int .i64 11) /\ W.cell? ⟨w.heap.size + 1,3,none⟩ = some (.string ⟨nm.toArray⟩)):=hZ (fun W hb => by
  have p1:=qg hb q1
  have p2:=qg hb q2
  exact ⟨⟨qc p1 0 rfl,qc p1 1 rfl,qc p1 2 rfl,qc p1 3 rfl⟩,zI p2 qu,qc p2 0 (by rw [qn];rfl),qc p2 3 (by rw [qn];rfl)⟩)
 have yw : B0 <= w.heap.size:=Nat.le_trans hC.le (Nat.le_of_lt hC.lt)
 obtain ⟨nk,hnk⟩ : ∃ z,z = p.ks.length:=⟨_,rfl⟩
 obtain ⟨o,ho⟩ : ∃ o,o = qG (fun z : Lk => z.nm) p.ks nm:=⟨_,rfl⟩
 have HK2 : Hid (∀ W,Below W1.heap.size W1 W -> W.cell? ⟨cb,2,none⟩ = some (.slice d.k nk d.nk)):=hZ (fun W hb => by rw [hnk];exact (hC.on (qk.chain hb)).at_.c2)
 have HF : Hid (∀ W,Below W1.heap.size W1 W -> Calls Tryz.prog 167 #[.slice d.k nk d.nk,.string ⟨nm.toArray⟩,.func (.func 97) #[] #[]] W (jr vA nm o B0 W)):=hZ (fun W hb => by
  have hk:=hC.on (qk.chain hb)
  rw [hnk,ho]
  exact qqI 97 (enters_of Tryz.func97 (by kernel_rfl) rfl) (·.nm) qlR nm p.ks d.k d.nk p.ks.length rfl hk.own.1.2.2.1 B0 W (Nat.le_trans hk.le (Nat.le_of_lt hk.lt)) (qeB hk.own.2.2.2.1))
 have hR : wiC p nm = zy (xx o nm 7) fun _ => none:=by rw [ho];rfl
 rw [hR]
 obtain ⟨S,hS⟩ : ∃ S : World -> Prop,S = fun W => Below W1.heap.size W1 W:=⟨_,rfl⟩
 have qo : Hid (∀ W,Below W1.heap.size W1 W -> S W):=hZ (fun W hb => by rw [hS];exact hb)
 have HSB : Hid (∀ W,S W -> Below W1.heap.size W1 W):=hZ (fun W hs => by rw [hS] at hs;exact hs)
 have ze:=hZ (Below.refl W1.heap.size W1).drew
 have g0:=qo.out _ ze.out
 clear hS
 have qw:=hZ qk
 obtain ⟨⟨a0,a1,a2,a3⟩,ye,c0,c3⟩:=zU.out _ (Below.refl _ _)
 clear qn qE hex hea heb jf qP vz hC hB qM hN qk q1 q2 yw hR ho hnk
 rw [qh] at a0 a1 a2 a3 ye c0 c3
 go_enter Tryz.func136,Tryz.ntmps136
 simp only [e1,e4]
 clear e1 e4 hT
 go_upto_region 23 with fail
 rw [<- qh]
 clear a0 a1 a2 a3 ye c0 c3 qh
 refine wp_region_held (S:=S) zE ?_
 change wpAnyH _ _ _ _ _ 9 #[false,false,false,false,false,false,false,false,false] _ W1.drew
 refine tk 0 75 (.pointer (some ⟨w.heap.size,0,none⟩)) g0 ?v ?_
 case v => intro Wx hSx;go_simp
 refine tk 1 76 (.pointer (some ⟨cb,0,none⟩)) g0 ?v ?_
 case v => intro Wx hSx;obtain ⟨⟨a0,a1,a2,a3⟩,-,c0,c3⟩:=zU.out Wx (HSB.out Wx hSx);go_simp
 refine tk 2 77 (.pointer (some ⟨cb,0,none⟩)) g0 ?v ?_
 case v => intro Wx hSx;go_simp
 refine tk 3 78 (.pointer (some ⟨cb,0,none⟩)) g0 ?v ?_
 case v => intro Wx hSx;go_simp
 try simp only [qf]
 refine tk 4 79 (.pointer (some ⟨cb,2,none⟩)) g0 ?v ?_
 case v => intro Wx hSx;go_simp
 refine tk 5 80 (.slice d.k nk d.nk) g0 ?v ?_
 case v => intro Wx hSx;have x0:=HK2.out Wx (HSB.out Wx hSx);go_simp
 refine tk 6 81 (.pointer (some ⟨w.heap.size + 1,3,none⟩)) g0 ?v ?_
 case v => intro Wx hSx;go_simp
 refine tk 7 82 (.string ⟨nm.toArray⟩) g0 ?v ?_
 case v => intro Wx hSx;obtain ⟨⟨a0,a1,a2,a3⟩,-,c0,c3⟩:=zU.out Wx (HSB.out Wx hSx);go_simp
 try simp only [qf]
 try simp only [qf]
 refine o1 8 (fun K hK => ?_)
 go_simp
 (with_reducible refine (HF.out _ ze.out).mono ?_)
 rintro ee w2 ⟨he,hb⟩
 have H2:=hZ (ze.out.chain hb)
 clear hb
 rcases he with ⟨cs3,f,rfl,rfl,hv3⟩ | ⟨rfl,rfl⟩
 rotate_left
 ·exact ⟨rfl,rfl,qw.out.chain H2.out⟩
 ·clear hv3
  refine hK _ _ (qo.out _ H2.out) ?_
  clear hK K
  refine wpAnyH_done (by kernel_rfl) ?_ _
  go_wp2
  exact bodyPost_end (results_none rfl _ _ _) rfl ⟨rfl,qw.out.chain H2.out⟩
theorem qpV (p : Pg) (d : GAd) (B0 B1 cb : Nat) (sc br asn : List Pm) (b : BAd) (ln co : Int) (nm fd fr : List UInt8) (e : Ex) (c : Cn) (x y : Cal) (cr : List Cal) (iv : List Fm) (bo el : List St) : qa3 p d B0 B1 cb sc br asn b (.mk 12 ln co nm fd fr e c (x :: y :: cr) iv bo el):=by
 obtain ⟨A,n,c1,D,m,d1,E,k,ec⟩:=b
 intro cs w q hv hC hB
 obtain ⟨ek,en,es,exl⟩:=e
 obtain ⟨ck,⟨ak,an,sa,al⟩,⟨bk,bn,sb,bl⟩,cls⟩:=c
 obtain ⟨sd,qn,⟨qE,hex,hea,heb,jf,qP,vz⟩,_,_⟩:=hv
 show Calls Tryz.prog _ #[zT cb A n c1 D m d1 E k ec,.agg cs] w (qV (qg6 p sc br asn x y) w)
 obtain ⟨T,N,hT,hN,hag,qK⟩:=yo
 have e1 : ∀ y : Operand,Op.load 90 y = Op.load T y:=fun y => by rw [hT]
 have e4 : ∀ y : Operand,Op.box 90 y = Op.box T y:=fun y => by rw [hT]
 have qM : cs.size = 24:=by rw [qn];exact zO _ _
 have qu : cs.size = N:=qM.trans hN.symm
 have zE : Tryz.prog.follows .mixedOrders = true:=by kernel_rfl
 obtain ⟨W1,qh⟩ : ∃ W1,W1 = (w.alloc (qS cb A n c1 D m d1 E k ec)).alloc (.cells cs T):=⟨_,rfl⟩
 have qk : Below w.heap.size w W1:=by rw [qh];exact (qd w _).chain (qd _ _)
 have q1:=qr (o:=.cells cs T) (qe w (qS cb A n c1 D m d1 E k ec))
 have q2:=qe (w.alloc (qS cb A n c1 D m d1 E k ec)) (.cells cs T)
 rw [qj] at q2
 rw [<- qh] at q1 q2
 have zU : Hid (∀ W,Below W1.heap.size W1 W -> (W.cell? ⟨w.heap.size,0,none⟩ = some (.pointer (some ⟨cb,0,none⟩)) /\ W.cell? ⟨w.heap.size,1,none⟩ = some (.slice A n c1) /\ W.cell? ⟨w.heap.size,2,none⟩ = some (.slice D m d1) /\ W.cell? ⟨w.heap.size,3,none⟩ = some (.slice E k ec)) /\ (loadCellsFrom ⟨w.heap.size + 1,0,none⟩ 0 N #[]).run Tryz.prog W = .ok cs W /\ W.cell? ⟨w.heap.size + 1,0,none⟩ = some (.int .i64 12) /\ W.cell? ⟨w.heap.size + 1,20,none⟩ = some (.slice sd.c (x :: y :: cr).length sd.nc)):=hZ (fun W hb => by
  have p1:=qg hb q1
  have p2:=qg hb q2
  exact ⟨⟨qc p1 0 rfl,qc p1 1 rfl,qc p1 2 rfl,qc p1 3 rfl⟩,zI p2 qu,qc p2 0 (by rw [qn];rfl),qc p2 20 (by rw [qn];rfl)⟩)
 have yw : B0 <= w.heap.size:=Nat.le_trans hC.le (Nat.le_of_lt hC.lt)
 obtain ⟨a,hA,qx,Al,kl,u0,u1,u2,hr0,hp0,jT,qL⟩:=qP.at_ (i:=0) (x:=x) rfl
 obtain ⟨a',hA',hab',Al',kl',u0',u1',u2',hr0',hp0',hl0',hrow'⟩:=qP.at_ (i:=1) (x:=y) rfl
 obtain ⟨nl,yL⟩ : ∃ z,z = x.l.length:=⟨_,rfl⟩
 obtain ⟨ml,hml⟩ : ∃ z,z = y.l.length:=⟨_,rfl⟩
 obtain ⟨nn,zS⟩ : ∃ z,z = (x :: y :: cr).length:=⟨_,rfl⟩
 have hn0 : ¬ nn = 0:=by rw [zS];simp
 have jZ : (1 : Int) < nn:=by rw [zS];simp only [List.length_cons];omega
 rw [<- zS] at zU
 obtain rfl : a = a':=Option.some.inj (hA.symm.trans hA')
 have ea : a.add (0 * 3) = a:=by simp [Addr.add]
 rw [ea] at u0 u1 u2
 obtain ⟨a2,ha2⟩ : ∃ z,z = a.add (1 * 3):=⟨_,rfl⟩
 rw [<- ha2] at u0' u1' u2'
 have HA2:=hZ ha2
 have qni : a2.block < B0:=by rw [ha2,qm];exact qx
 have HX : Hid (∀ W,Below W1.heap.size W1 W -> W.cell? a = some (.string ⟨x.r.toArray⟩) /\ W.cell? ⟨a.block,a.off + 1,none⟩ = some (.string ⟨x.p.toArray⟩) /\ W.cell? ⟨a.block,a.off + 2,none⟩ = some (.slice Al nl kl)):=hZ (fun W hb => by
  have hk : ∀ q : Addr,q.block = a.block -> W.cell? q = w.cell? q:=fun q hq => (qk.chain hb).cell (by rw [hq];exact Nat.lt_of_lt_of_le qx yw)
  exact ⟨(hk _ rfl).trans u0,(hk (a.add 1) (by rw [qm])).trans u1,by rw [yL];exact (hk (a.add 2) (by rw [qm])).trans u2⟩)
 have HY : Hid (∀ W,Below W1.heap.size W1 W -> W.cell? a2 = some (.string ⟨y.r.toArray⟩) /\ W.cell? ⟨a2.block,a2.off + 1,none⟩ = some (.string ⟨y.p.toArray⟩) /\ W.cell? ⟨a2.block,a2.off + 2,none⟩ = some (.slice Al' ml kl')):=hZ (fun W hb => by
  have hk : ∀ q : Addr,q.block = a2.block -> W.cell? q = w.cell? q:=fun q hq => (qk.chain hb).cell (by rw [hq];exact Nat.lt_of_lt_of_le qni yw)
  exact ⟨(hk _ rfl).trans u0',(hk (a2.add 1) (by rw [qm])).trans u1',by rw [hml];exact (hk (a2.add 2) (by rw [qm])).trans u2'⟩)
 have HCa : Hid (∀ W,Below W1.heap.size W1 W -> Calls Tryz.prog 168 #[zT cb A n c1 D m d1 E k ec,.agg #[.string ⟨x.r.toArray⟩,.string ⟨x.p.toArray⟩,.slice Al nl kl],.agg #[.string ⟨y.r.toArray⟩,.string ⟨y.p.toArray⟩,.slice Al' ml kl']] W (qV (qg6 p sc br asn x y) W)):=hZ (fun W hb => qq2 p d B0 cb x y Al nl kl yL jT Al' ml kl' hml hl0' sc br asn A n c1 D m d1 E k ec B1 q W (qL.keep (fun z hz => (qk.chain hb).cell (Nat.lt_of_lt_of_le hz yw)) (Nat.le_refl _)) (hrow'.keep (fun z hz => (qk.chain hb).cell (Nat.lt_of_lt_of_le hz yw)) (Nat.le_refl _)) (hB.on (qk.chain hb)) (hC.on (qk.chain hb)))
 obtain ⟨R,hR⟩ : ∃ R : Ck,R = qg6 p sc br asn x y:=⟨_,rfl⟩
 rw [<- hR] at HCa ⊢
 obtain ⟨S,hS⟩ : ∃ S : World -> Prop,S = fun W => Below W1.heap.size W1 W:=⟨_,rfl⟩
 have qo : Hid (∀ W,Below W1.heap.size W1 W -> S W):=hZ (fun W hb => by rw [hS];exact hb)
 have HSB : Hid (∀ W,S W -> Below W1.heap.size W1 W):=hZ (fun W hs => by rw [hS] at hs;exact hs)
 have ze:=hZ (Below.refl W1.heap.size W1).drew
 have g0:=qo.out _ ze.out
 clear hS
 obtain ⟨Ac,hAc⟩ : ∃ z,z = sd.c:=⟨_,rfl⟩
 rw [<- hAc] at zU hA
 subst hA
 have qw:=hZ qk
 obtain ⟨⟨a0,a1,a2,a3⟩,ye,c0,c20⟩:=zU.out _ (Below.refl _ _)
 clear qn qE hex hea heb jf qP vz hC hB qM hN qk q1 q2 yw hR u0 u1 u2 hr0 hp0 jT qL u0' u1' u2' hr0' hp0' hl0' hrow' hA' hab' ea qx qni yL hml zS hAc ha2
 rw [qh] at a0 a1 a2 a3 ye c0 c20
 go_enter Tryz.func136,Tryz.ntmps136
 simp only [e1,e4]
 clear e1 e4 hT
 go_upto_region 25 with fail
 rw [<- qh]
 clear a0 a1 a2 a3 ye c0 c20 qh
 refine wp_region_held (S:=S) zE ?_
 change wpAnyH _ _ _ _ _ 10 #[false,false,false,false,false,false,false,false,false,false] _ W1.drew
 refine tk 0 86 (zT cb A n c1 D m d1 E k ec) g0 ?v ?_
 case v => intro Wx hSx;obtain ⟨⟨a0,a1,a2,a3⟩,-,c0,c20⟩:=zU.out Wx (HSB.out Wx hSx);go_simp
 refine tk 1 87 (.pointer (some ⟨w.heap.size + 1,20,none⟩)) g0 ?v ?_
 case v => intro Wx hSx;go_simp
 refine tk 2 88 (.slice (some a) nn sd.nc) g0 ?v ?_
 case v => intro Wx hSx;obtain ⟨⟨a0,a1,a2,a3⟩,-,c0,c20⟩:=zU.out Wx (HSB.out Wx hSx);go_simp
 refine tk 3 89 (.pointer (some a)) g0 ?v ?_
 case v => intro Wx hSx;go_simp
 try simp only [qf]
 refine tk 4 90 (.agg #[.string ⟨x.r.toArray⟩,.string ⟨x.p.toArray⟩,.slice Al nl kl]) g0 ?v ?_
 case v => intro Wx hSx;obtain ⟨x0,x1,x2⟩:=HX.out Wx (HSB.out Wx hSx);go_simp
 refine tk 5 91 (.pointer (some ⟨w.heap.size + 1,20,none⟩)) g0 ?v ?_
 case v => intro Wx hSx;go_simp
 refine tk 6 92 (.slice (some a) nn sd.nc) g0 ?v ?_
 case v => intro Wx hSx;obtain ⟨⟨a0,a1,a2,a3⟩,-,c0,c20⟩:=zU.out Wx (HSB.out Wx hSx);go_simp
 try simp only [qf]
 refine tk 7 93 (.pointer (some a2)) g0 ?v ?_
 case v => intro Wx hSx;rw [HA2.out];go_simp
 try simp only [qf]
 refine tk 8 94 (.agg #[.string ⟨y.r.toArray⟩,.string ⟨y.p.toArray⟩,.slice Al' ml kl']) g0 ?v ?_
 case v => intro Wx hSx;obtain ⟨x0,x1,x2⟩:=HY.out Wx (HSB.out Wx hSx);go_simp
 try simp only [qf]
 refine o1 9 (fun K hK => ?_)
 go_simp
 (with_reducible refine (HCa.out _ ze.out).mono ?_)
 rintro ee w2 ⟨he,hb⟩
 have H2:=hZ (ze.out.chain hb)
 clear hb
 cases R with
 | some t =>
   obtain rfl : ee = _:=he
   exact ⟨rfl,rfl,qw.out.chain H2.out⟩
 | none =>
   obtain rfl : ee = _:=he
   refine hK _ _ (qo.out _ H2.out) ?_
   clear hK K
   refine wpAnyH_done (by kernel_rfl) ?_ _
   go_wp2
   exact bodyPost_end (results_none rfl _ _ _) rfl ⟨rfl,qw.out.chain H2.out⟩
theorem qmD (p : Pg) (d : GAd) (B0 B1 cb : Nat) (sc br asn : List Pm) (b : BAd) (ln co : Int) (nm fd fr : List UInt8) (e : Ex) (c : Cn) (cl : List Cal) (iv : List Fm) (bo el : List St) (kk : Int) (hk : ∀ i : Int,1 <= i -> i <= 12 -> kk ≠ i) : qa3 p d B0 B1 cb sc br asn b (.mk kk ln co nm fd fr e c cl iv bo el):=by
 obtain ⟨A,n,c1,D,m,d1,E,k,ec⟩:=b
 intro cs w q hv hC hB
 obtain ⟨ek,en,es,exl⟩:=e
 obtain ⟨ck,⟨ak,an,sa,al⟩,⟨bk,bn,sb,bl⟩,cls⟩:=c
 obtain ⟨sd,qn,⟨qE,hex,hea,heb,jf,qP,vz⟩,_,_⟩:=hv
 have h1 : ¬ kk = 1:=hk 1 (by decide) (by decide)
 have h2 : ¬ kk = 2:=hk 2 (by decide) (by decide)
 have h3 : ¬ kk = 3:=hk 3 (by decide) (by decide)
 have h4 : ¬ kk = 4:=hk 4 (by decide) (by decide)
 have h5 : ¬ kk = 5:=hk 5 (by decide) (by decide)
 have h6 : ¬ kk = 6:=hk 6 (by decide) (by decide)
 have h7 : ¬ kk = 7:=hk 7 (by decide) (by decide)
 have h8 : ¬ kk = 8:=hk 8 (by decide) (by decide)
 have h9 : ¬ kk = 9:=hk 9 (by decide) (by decide)
 have h10 : ¬ kk = 10:=hk 10 (by decide) (by decide)
 have h11 : ¬ kk = 11:=hk 11 (by decide) (by decide)
 have h12 : ¬ kk = 12:=hk 12 (by decide) (by decide)
 have zv : stC p sc br asn (.mk kk ln co nm fd fr (.mk ek en es exl) (.mk ck (.mk ak an sa al) (.mk bk bn sb bl) cls) cl iv bo el) = none:=by
  simp only [stC,h1,h2,h3,h4,h5,h6,h7,h8,h9,h10,h11,h12,if_false,or_self]
 rw [zv]
 show Calls Tryz.prog _ #[zT cb A n c1 D m d1 E k ec,.agg cs] w (qV none w)
 obtain ⟨T,N,hT,hN,hag,qK⟩:=yo
 have e1 : ∀ y : Operand,Op.load 90 y = Op.load T y:=fun y => by rw [hT]
 have e4 : ∀ y : Operand,Op.box 90 y = Op.box T y:=fun y => by rw [hT]
 have qM : cs.size = 24:=by rw [qn];exact zO _ _
 have qu : cs.size = N:=qM.trans hN.symm
 have zE : Tryz.prog.follows .mixedOrders = true:=by kernel_rfl
 obtain ⟨W1,qh⟩ : ∃ W1,W1 = (w.alloc (qS cb A n c1 D m d1 E k ec)).alloc (.cells cs T):=⟨_,rfl⟩
 have qk : Below w.heap.size w W1:=by rw [qh];exact (qd w _).chain (qd _ _)
 have q1:=qr (o:=.cells cs T) (qe w (qS cb A n c1 D m d1 E k ec))
 have q2:=qe (w.alloc (qS cb A n c1 D m d1 E k ec)) (.cells cs T)
 rw [qj] at q2
 rw [<- qh] at q1 q2
 have zU : Hid (∀ W,Below W1.heap.size W1 W -> (W.cell? ⟨w.heap.size,0,none⟩ = some (.pointer (some ⟨cb,0,none⟩)) /\ W.cell? ⟨w.heap.size,1,none⟩ = some (.slice A n c1) /\ W.cell? ⟨w.heap.size,2,none⟩ = some (.slice D m d1) /\ W.cell? ⟨w.heap.size,3,none⟩ = some (.slice E k ec)) /\ (loadCellsFrom ⟨w.heap.size + 1,0,none⟩ 0 N #[]).run Tryz.prog W = .ok cs W /\ W.cell? ⟨w.heap.size + 1,0,none⟩ = some (.int .i64 kk)):=hZ (fun W hb => by
  have p1:=qg hb q1
  have p2:=qg hb q2
  exact ⟨⟨qc p1 0 rfl,qc p1 1 rfl,qc p1 2 rfl,qc p1 3 rfl⟩,zI p2 qu,qc p2 0 (by rw [qn];rfl)⟩)
 have yw : B0 <= w.heap.size:=Nat.le_trans hC.le (Nat.le_of_lt hC.lt)
 have qw:=hZ qk
 obtain ⟨⟨a0,a1,a2,a3⟩,ye,c0⟩:=zU.out _ (Below.refl _ _)
 clear qn qE hex hea heb jf qP vz hC hB qM hN qk q1 q2 yw zv hk
 rw [qh] at a0 a1 a2 a3 ye c0
 go_enter Tryz.func136,Tryz.ntmps136
 simp only [e1,e4]
 clear e1 e4 hT
 go_wp2
 have HE : Hid (Below w.heap.size w W1):=qw
 exact bodyPost_end (results_none rfl _ _ _) rfl ⟨rfl,by rw [qh] at HE;exact HE.out⟩
def qrO (p : Pg) (d : GAd) (B0 cb : Nat) : St -> Prop
 | .mk k _ _ _ _ _ _ _ cl iv _ _ => (k = 7 -> cl ≠ []) /\ (k = 12 -> 2 <= cl.length) /\ (k = 9 -> ∀ f ∈ iv,qc0 p d B0 cb f)
theorem qnO (p : Pg) (d : GAd) (B0 B1 cb : Nat) (sc br asn : List Pm) (b : BAd) (hsc : sc.length <= 3999999000000) (s : St) (hs : qrO p d B0 cb s) : qa3 p d B0 B1 cb sc br asn b s:=by
 obtain ⟨k,ln,co,nm,fd,fr,e,c,cl,iv,bo,el⟩:=s
 obtain ⟨s1,s2,s3⟩:=hs
 by_cases k1 : k = 1
 ·subst k1;exact qgK p d B0 B1 cb sc br asn b ln co nm fd fr e c cl iv bo el
 by_cases k2 : k = 2
 ·subst k2;exact qnR p d B0 B1 cb sc br asn b ln co nm fd fr e c cl iv bo el
 by_cases k3 : k = 3
 ·subst k3;exact qnQ p d B0 B1 cb sc br asn b ln co nm fd fr e c cl iv bo el
 by_cases k4 : k = 4
 ·subst k4;exact qpX p d B0 B1 cb sc br asn b ln co nm fd fr e c cl iv bo el
 by_cases k5 : k = 5
 ·subst k5;exact qnS p d B0 B1 cb sc br asn b ln co nm fd fr e c cl iv bo el
 by_cases k6 : k = 6
 ·subst k6;exact qmE p d B0 B1 cb sc br asn b ln co nm fd fr e c cl iv bo el
 by_cases k7 : k = 7
 ·subst k7
  cases cl with
  | nil => exact absurd rfl (s1 rfl)
  | cons x cr => exact qlh p d B0 B1 cb sc br asn b ln co nm fd fr e c x cr iv bo el
 by_cases k8 : k = 8
 ·subst k8;exact qsn p d B0 B1 cb sc br asn b ln co nm fd fr e c cl iv bo el
 by_cases k9 : k = 9
 ·subst k9;exact qmC p d B0 B1 cb sc br asn b ln co nm fd fr e c cl iv bo el (s3 rfl) hsc
 by_cases k10 : k = 10
 ·subst k10;exact qli p d B0 B1 cb sc br asn b ln co nm fd fr e c cl iv bo el
 by_cases k11 : k = 11
 ·subst k11;exact qnP p d B0 B1 cb sc br asn b ln co nm fd fr e c cl iv bo el
 by_cases k12 : k = 12
 ·subst k12
  match cl,s2 rfl with
  | x :: y :: cr,_ => exact qpV p d B0 B1 cb sc br asn b ln co nm fd fr e c x y cr iv bo el
 exact qmD p d B0 B1 cb sc br asn b ln co nm fd fr e c cl iv bo el k (fun i h1 h2 => by omega)
end Go.Proofs.YtojjfdegkooknaaGreatDoor
