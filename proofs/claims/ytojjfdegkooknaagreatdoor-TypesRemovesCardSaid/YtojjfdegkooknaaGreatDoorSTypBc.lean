import Derived.Test.YtojjfdegkooknaaGreatDoorSTypTg
import Derived.Test.YtojjfdegkooknaaGreatDoorSTypSp
set_option linter.unusedVariables false
set_option linter.unusedSimpArgs false
namespace Go.Proofs.YtojjfdegkooknaaGreatDoor
section
set_option maxRecDepth 100000
set_option maxHeartbeats 8000000
open Go.RowKit Go.Lib
def qkW (r : Except jl Rc) (B0 : Nat) (w : World) (e : Ending) (w' : World) : Prop :=
 ((∃ (cs : Array Value) (x : Rc),r = .ok x /\ e = .returned (.agg cs) /\ yW w' B0 cs x) \/ ∃ t,r = .error t /\ e = .panicked [{ v:=qfI t,recovered:=false }]) /\ Below w.heap.size w w'
def recO (r : Except jl (List UInt8)) (l : List Rc) (s : List UInt8) : Except jl Rc:=match r with
 | .error t => .error t
 | .ok t => xx (qG (·.nm) l t) s 9
theorem qep (p : Pg) (d : GAd) (B0 cb : Nat) (s : List UInt8) (sc br asn : List Pm) (A : Option Addr) (n c : Nat) (D : Option Addr) (m dc : Nat) (E : Option Addr) (k ec : Nat) (B1 : Nat) (q : Int × Int) (w : World) (hV : BodyAt w B1 cb sc br asn A n D m E k) (hC : ChkW w B0 cb d p q) :
 Calls Tryz.prog 163 #[zT cb A n c D m dc E k ec,.string ⟨s.toArray⟩] w (qkW (qa2 p sc br s) B0 w):=by
 obtain ⟨T,N,zc,hT,hN,zd,hzz,hag,qK,yR⟩:=jE
 have e1 : ∀ y : Operand,Op.load 36 y = Op.load T y:=fun y => by rw [hT]
 have e2 : ∀ y z : Operand,Op.store 36 y z = Op.store T y z:=fun y z => by rw [hT]
 have e3 : Op.alloc 36 = Op.alloc T:=by rw [hT]
 obtain ⟨nr,xU⟩ : ∃ nr,nr = p.rs.length:=⟨_,rfl⟩
 obtain ⟨W1,qh⟩ : ∃ W1,W1 = (w.alloc (qS cb A n c D m dc E k ec)).alloc (.cells zc T):=⟨_,rfl⟩
 have qk : Below w.heap.size w W1:=by rw [qh];exact (qd w _).chain (qd _ _)
 have hp0 : W1.heap[w.heap.size]? = some (qS cb A n c D m dc E k ec):=by rw [qh];exact qr (qe w _)
 have yc : W1.heap[w.heap.size + 1]? = some (.cells zc T):=by
  rw [qh]
  have h:=qe (w.alloc (qS cb A n c D m dc E k ec)) (.cells zc T)
  rwa [qj] at h
 have zE : Tryz.prog.follows .mixedOrders = true:=by kernel_rfl
 obtain ⟨S,hS⟩ : ∃ S : World -> Prop,S = fun W => Below W1.heap.size W1 W:=⟨_,rfl⟩
 have qo : Hid (∀ W,Below W1.heap.size W1 W -> S W):=hZ (fun W hb => by rw [hS];exact hb)
 have qX : Hid (∀ W,S W -> W.cell? ⟨w.heap.size,0,none⟩ = some (.pointer (some ⟨cb,0,none⟩)) /\ W.cell? ⟨w.heap.size,1,none⟩ = some (.slice A n c) /\ W.cell? ⟨w.heap.size,2,none⟩ = some (.slice D m dc) /\ W.cell? ⟨cb,0,none⟩ = some (.slice d.r nr d.nr)):=hZ (fun W hs => by
  rw [hS] at hs
  have h:=qg hs hp0
  exact ⟨qc h 0 rfl,qc h 1 rfl,qc h 2 rfl,by rw [xU];exact (hC.on (qk.chain hs)).at_.c0⟩)
 have HK : Hid (∀ W,Below W1.heap.size W1 W -> Calls Tryz.prog 144 #[jw A n c D m dc,.string ⟨s.toArray⟩] W (jH (vG sc br s) W)):=hZ (fun W hb => qki s sc br A n c D m dc B1 W (hV.on (qk.chain hb)).v)
 have HF : Hid (∀ W t,Below W1.heap.size W1 W -> Calls Tryz.prog 45 #[.slice d.r nr d.nr,.string ⟨t.toArray⟩,.func (.func 46) #[] #[]] W (qdl yW vI (qG (·.nm) p.rs t) B0 W)):=hZ (fun W t hb => by
  have hk:=hC.on (qk.chain hb)
  rw [xU]
  exact qh9 46 (enters_of Tryz.func46 (by kernel_rfl) rfl) (·.nm) qcC t p.rs d.r d.nr p.rs.length rfl hk.own.1.1 B0 W (Nat.le_trans hk.le (Nat.le_of_lt hk.lt)) (qbp hk.own.2.1))
 have zo : Hid (B0 <= w.heap.size):=hZ (Nat.le_trans hC.le (Nat.le_of_lt hC.lt))
 obtain ⟨ro,hro⟩ : ∃ r,r = vG sc br s:=⟨_,rfl⟩
 have HR : Hid (qa2 p sc br s = recO ro p.rs s):=hZ (by rw [hro];rfl)
 obtain ⟨R,hR⟩ : ∃ R,R = qa2 p sc br s:=⟨_,rfl⟩
 rw [<- hR] at HR ⊢
 rw [<- hro] at HK
 have HH:=hZ (aZ qk (aZ yc (aZ hN (aZ zd hzz))))
 have ze:=hZ (Below.refl W1.heap.size W1).drew
 have g0:=qo.out _ ze.out
 clear qk hp0 yc hS hC hV xU hR hro hT hN zd hzz
 go_enter Tryz.func163,Tryz.ntmps163
 simp only [e1,e2,e3]
 clear e1 e2 e3
 go_upto_region 1 with fail
 rw [<- qh]
 clear qh
 go_cut [5,6] from 8 to 20 (fun v5 v6 wx => ∃ (g : Nat) (W : World) (cs : Array Value) (b : Bool) (t : List UInt8) (y : Rc),W = wx /\ v5 = .pointer (some ⟨g,0,none⟩) /\ v6 = .bool b /\ Hid (W.heap[g]? = some (.cells cs T) /\ W1.heap.size <= g /\ Below W1.heap.size W1 W /\ ro = .ok t /\ yW W B0 cs y /\ ((b = false /\ qG (fun r : Rc => r.nm) p.rs t = none) \/ (b = true /\ qG (fun r : Rc => r.nm) p.rs t = some y))))
 case first =>
  refine wp_region_held (S:=S) zE ?_
  change wpAnyH _ _ _ _ _ 17 #[false,false,false,false,false,false,false,false,false,false,false,false,false,false,false,false,false] _ W1.drew
  refine tk 0 8 (.pointer (some ⟨w.heap.size,0,none⟩)) g0 ?v ?_
  case v => intro Wx hSx;go_simp
  refine tk 1 9 (.pointer (some ⟨cb,0,none⟩)) g0 ?v ?_
  case v => intro Wx hSx;obtain ⟨z0,z1,z2,z3⟩:=qX.out Wx hSx;go_simp
  refine tk 2 10 (.pointer (some ⟨cb,0,none⟩)) g0 ?v ?_
  case v => intro Wx hSx;go_simp
  refine tk 3 11 (.pointer (some ⟨cb,0,none⟩)) g0 ?v ?_
  case v => intro Wx hSx;go_simp
  try simp only [qf]
  refine tk 4 12 (.pointer (some ⟨cb,0,none⟩)) g0 ?v ?_
  case v => intro Wx hSx;go_simp
  refine tk 5 13 (.slice d.r nr d.nr) g0 ?v ?_
  case v => intro Wx hSx;obtain ⟨z0,z1,z2,z3⟩:=qX.out Wx hSx;go_simp
  refine tk 6 14 (.pointer (some ⟨w.heap.size,1,none⟩)) g0 ?v ?_
  case v => intro Wx hSx;go_simp
  refine tk 7 15 (jw A n c D m dc) g0 ?v ?_
  case v => intro Wx hSx;obtain ⟨z0,z1,z2,z3⟩:=qX.out Wx hSx;go_simp
  try simp only [qf]
  refine tk 8 16 (.string ⟨s.toArray⟩) g0 ?v ?_
  case v => intro Wx hSx;go_simp
  try simp only [qf]
  refine zM 9 14 (by kernel_rfl) rfl rfl (by kernel_rfl) (by kernel_rfl) (fun K hK => ?_) (fun K hK => ?_)
  ·go_simp
   (with_reducible refine (HK.out _ ze.out).mono ?_)
   rintro e xn ⟨he,hb⟩
   have Kn:=hZ (ze.out.chain hb)
   clear hb
   rcases ro with t | t
   ·obtain rfl : e = _:=he
    exact ⟨rfl,.inr ⟨t,HR.out,rfl⟩,HH.out.1.chain Kn.out⟩
   obtain rfl : e = _:=he
   refine hK _ _ (qo.out _ Kn.out) ?_
   clear hK K
   try simp only [qf]
   refine zM 10 14 (by kernel_rfl) rfl rfl (by kernel_rfl) (by kernel_rfl) (fun K hK => ?_) (fun K hK => ?_)
   ·go_simp
    (with_reducible refine (HF.out _ t Kn.out).mono ?_)
    rintro e xnc ⟨⟨cs,b,rfl,hr⟩,hb⟩
    have Knc:=hZ (Kn.out.chain hb)
    obtain ⟨y,hy,qd4⟩ : ∃ y,yW xnc B0 cs y /\ ((b = false /\ qG (fun r : Rc => r.nm) p.rs t = none) \/ (b = true /\ qG (fun r : Rc => r.nm) p.rs t = some y)):=by
     rcases hr with ⟨h1,h2,h3⟩ | ⟨h1,x,h2,h3⟩
     ·exact ⟨⟨[],[]⟩,by rw [h2];exact qg1 _ _,.inl ⟨h1,h3⟩⟩
     ·exact ⟨x,h3,.inr ⟨h1,h2⟩⟩
    have qu : cs.size = N:=(js hy).1.trans HH.out.2.2.1.symm
    have HY:=hZ hy
    have HCS:=hZ qd4
    clear hb hr hy qd4
    have gz:=qo.out _ Knc.out
    refine hK _ _ gz ?_
    clear hK K
    try simp only [qf]
    refine tk 11 7 (.tuple #[.agg cs,.bool b]) gz ?v ?_
    case v => intro Wx hSx;go_simp
    refine tk 12 19 (.agg cs) gz ?v ?_
    case v => intro Wx hSx;go_simp
    refine tk 13 20 (.bool b) gz ?v ?_
    case v => intro Wx hSx;go_simp
    try simp only [qf]
    have LE : Hid (W1.heap.size <= xnc.heap.size):=hZ Knc.out.size
    refine o1 14 (fun K hK => ?_)
    go_simp
    obtain ⟨yncc,hx⟩ : ∃ X,X = xnc.alloc (.cells zc T):=⟨_,rfl⟩
    rw [<- hx]
    have Bncc : Hid (Below W1.heap.size W1 yncc /\ yncc.heap[xnc.heap.size]? = some (.cells zc T)):=hZ (by rw [hx];exact ⟨Knc.out.chain (qd _ _),qe _ _⟩)
    have Kncc:=hZ Bncc.out.1
    have Ancc:=hZ Bncc.out.2
    have HY : Hid (yW yncc B0 cs y):=hZ (yC xnc yncc B0 B0 _ _ (fun z hz => by rw [hx];exact (qd xnc _).cell (Nat.lt_of_lt_of_le hz (Nat.le_trans zo.out (HH.out.1.chain Knc.out).size))) (Nat.le_refl _) HY.out)
    clear hx
    refine hK _ _ (qo.out _ Kncc.out) ?_
    clear hK K
    try simp only [qf]
    have zv:=zl Ancc.out (HH.out.2.2.2.1.trans qu.symm) (js HY.out).2
    obtain ⟨xz,zZ⟩ : ∃ X,X = yncc.setRow (xnc.heap.size) cs:=⟨_,rfl⟩
    have zL : W1.heap.size <= xnc.heap.size:=by first | exact Nat.le_refl _ | exact LE.out
    have KZ : Hid (Below W1.heap.size W1 xz):=hZ (by rw [zZ];exact below_setRow Kncc.out zL _)
    have PZ : Hid (xz.heap[xnc.heap.size]? = some (.cells cs T)):=hZ (by rw [zZ];exact setRow_heap _ _ zc _ _ _ Ancc.out)
    have HYZ : Hid (yW xz B0 cs y):=hZ (yC _ _ B0 B0 _ _ (fun z hz => by rw [zZ];exact (below_setRow (Below.refl W1.heap.size _) zL _).cell (Nat.lt_of_lt_of_le hz (Nat.le_trans zo.out HH.out.1.size))) (Nat.le_refl _) HY.out)
    have HLE:=hZ zL
    refine o1 15 (fun K hK => ?_)
    go_simp
    rw [<- zZ]
    clear zZ zv zL
    have gx:=qo.out _ KZ.out
    refine hK _ _ gx ?_
    clear hK K
    try simp only [qf]
    refine tk 16 6 (.bool b) gx ?v ?_
    case v => intro Wx hSx;go_simp
    try simp only [qf]
    refine wpAnyH_done (by kernel_rfl) ?_ _
    go_wp2
    go_meet
    exact ⟨_,_,cs,b,t,y,rfl,rfl,rfl,hZ ⟨PZ.out,HLE.out,KZ.out,rfl,HYZ.out,HCS.out⟩⟩
   ·have LE : Hid (W1.heap.size <= xn.heap.size):=hZ Kn.out.size
    go_simp
    obtain ⟨ync,hx⟩ : ∃ X,X = xn.alloc (.cells zc T):=⟨_,rfl⟩
    rw [<- hx]
    have Bnc : Hid (Below W1.heap.size W1 ync /\ ync.heap[xn.heap.size]? = some (.cells zc T)):=hZ (by rw [hx];exact ⟨Kn.out.chain (qd _ _),qe _ _⟩)
    have Knc:=hZ Bnc.out.1
    have Anc:=hZ Bnc.out.2
    clear hx
    refine hK _ _ (qo.out _ Knc.out) ?_
    clear hK K
    try simp only [qf]
    refine o1 10 (fun K hK => ?_)
    go_simp
    (with_reducible refine (HF.out _ t Knc.out).mono ?_)
    rintro e xnca ⟨⟨cs,b,rfl,hr⟩,hb⟩
    have Knca:=hZ (Knc.out.chain hb)
    have Anca:=hZ (qg hb Anc.out)
    obtain ⟨y,hy,qd4⟩ : ∃ y,yW xnca B0 cs y /\ ((b = false /\ qG (fun r : Rc => r.nm) p.rs t = none) \/ (b = true /\ qG (fun r : Rc => r.nm) p.rs t = some y)):=by
     rcases hr with ⟨h1,h2,h3⟩ | ⟨h1,x,h2,h3⟩
     ·exact ⟨⟨[],[]⟩,by rw [h2];exact qg1 _ _,.inl ⟨h1,h3⟩⟩
     ·exact ⟨x,h3,.inr ⟨h1,h2⟩⟩
    have qu : cs.size = N:=(js hy).1.trans HH.out.2.2.1.symm
    have HY:=hZ hy
    have HCS:=hZ qd4
    clear hb hr hy qd4
    have gz:=qo.out _ Knca.out
    refine hK _ _ gz ?_
    clear hK K
    try simp only [qf]
    refine tk 11 7 (.tuple #[.agg cs,.bool b]) gz ?v ?_
    case v => intro Wx hSx;go_simp
    refine tk 12 19 (.agg cs) gz ?v ?_
    case v => intro Wx hSx;go_simp
    refine tk 13 20 (.bool b) gz ?v ?_
    case v => intro Wx hSx;go_simp
    try simp only [qf]
    have zv:=zl Anca.out (HH.out.2.2.2.1.trans qu.symm) (js HY.out).2
    obtain ⟨xz,zZ⟩ : ∃ X,X = xnca.setRow (xn.heap.size) cs:=⟨_,rfl⟩
    have zL : W1.heap.size <= xn.heap.size:=by first | exact Nat.le_refl _ | exact LE.out
    have KZ : Hid (Below W1.heap.size W1 xz):=hZ (by rw [zZ];exact below_setRow Knca.out zL _)
    have PZ : Hid (xz.heap[xn.heap.size]? = some (.cells cs T)):=hZ (by rw [zZ];exact setRow_heap _ _ zc _ _ _ Anca.out)
    have HYZ : Hid (yW xz B0 cs y):=hZ (yC _ _ B0 B0 _ _ (fun z hz => by rw [zZ];exact (below_setRow (Below.refl W1.heap.size _) zL _).cell (Nat.lt_of_lt_of_le hz (Nat.le_trans zo.out HH.out.1.size))) (Nat.le_refl _) HY.out)
    have HLE:=hZ zL
    refine o1 15 (fun K hK => ?_)
    go_simp
    rw [<- zZ]
    clear zZ zv zL
    have gx:=qo.out _ KZ.out
    refine hK _ _ gx ?_
    clear hK K
    try simp only [qf]
    refine tk 16 6 (.bool b) gx ?v ?_
    case v => intro Wx hSx;go_simp
    try simp only [qf]
    refine wpAnyH_done (by kernel_rfl) ?_ _
    go_wp2
    go_meet
    exact ⟨_,_,cs,b,t,y,rfl,rfl,rfl,hZ ⟨PZ.out,HLE.out,KZ.out,rfl,HYZ.out,HCS.out⟩⟩
  ·go_simp
   obtain ⟨yn,hx⟩ : ∃ X,X = (W1.alloc (.cells zc T)).drew:=⟨_,rfl⟩
   rw [<- hx]
   have Bn : Hid (Below W1.heap.size W1 yn /\ yn.heap[W1.heap.size]? = some (.cells zc T)):=hZ (by rw [hx];exact ⟨(qd W1 _).drew,qe W1 _⟩)
   have Kn:=hZ Bn.out.1
   have An:=hZ Bn.out.2
   clear hx
   refine hK _ _ (qo.out _ Kn.out) ?_
   clear hK K
   try simp only [qf]
   refine o1 9 (fun K hK => ?_)
   go_simp
   (with_reducible refine (HK.out _ Kn.out).mono ?_)
   rintro e xna ⟨he,hb⟩
   have Kna:=hZ (Kn.out.chain hb)
   have Ana:=hZ (qg hb An.out)
   clear hb
   rcases ro with t | t
   ·obtain rfl : e = _:=he
    exact ⟨rfl,.inr ⟨t,HR.out,rfl⟩,HH.out.1.chain Kna.out⟩
   obtain rfl : e = _:=he
   refine hK _ _ (qo.out _ Kna.out) ?_
   clear hK K
   try simp only [qf]
   refine o1 10 (fun K hK => ?_)
   go_simp
   (with_reducible refine (HF.out _ t Kna.out).mono ?_)
   rintro e xnac ⟨⟨cs,b,rfl,hr⟩,hb⟩
   have Knac:=hZ (Kna.out.chain hb)
   have Anac:=hZ (qg hb Ana.out)
   obtain ⟨y,hy,qd4⟩ : ∃ y,yW xnac B0 cs y /\ ((b = false /\ qG (fun r : Rc => r.nm) p.rs t = none) \/ (b = true /\ qG (fun r : Rc => r.nm) p.rs t = some y)):=by
    rcases hr with ⟨h1,h2,h3⟩ | ⟨h1,x,h2,h3⟩
    ·exact ⟨⟨[],[]⟩,by rw [h2];exact qg1 _ _,.inl ⟨h1,h3⟩⟩
    ·exact ⟨x,h3,.inr ⟨h1,h2⟩⟩
   have qu : cs.size = N:=(js hy).1.trans HH.out.2.2.1.symm
   have HY:=hZ hy
   have HCS:=hZ qd4
   clear hb hr hy qd4
   have gz:=qo.out _ Knac.out
   refine hK _ _ gz ?_
   clear hK K
   try simp only [qf]
   refine tk 11 7 (.tuple #[.agg cs,.bool b]) gz ?v ?_
   case v => intro Wx hSx;go_simp
   refine tk 12 19 (.agg cs) gz ?v ?_
   case v => intro Wx hSx;go_simp
   refine tk 13 20 (.bool b) gz ?v ?_
   case v => intro Wx hSx;go_simp
   try simp only [qf]
   have zv:=zl Anac.out (HH.out.2.2.2.1.trans qu.symm) (js HY.out).2
   obtain ⟨xz,zZ⟩ : ∃ X,X = xnac.setRow (W1.heap.size) cs:=⟨_,rfl⟩
   have zL : W1.heap.size <= W1.heap.size:=by first | exact Nat.le_refl _ | exact LE.out
   have KZ : Hid (Below W1.heap.size W1 xz):=hZ (by rw [zZ];exact below_setRow Knac.out zL _)
   have PZ : Hid (xz.heap[W1.heap.size]? = some (.cells cs T)):=hZ (by rw [zZ];exact setRow_heap _ _ zc _ _ _ Anac.out)
   have HYZ : Hid (yW xz B0 cs y):=hZ (yC _ _ B0 B0 _ _ (fun z hz => by rw [zZ];exact (below_setRow (Below.refl W1.heap.size _) zL _).cell (Nat.lt_of_lt_of_le hz (Nat.le_trans zo.out HH.out.1.size))) (Nat.le_refl _) HY.out)
   have HLE:=hZ zL
   refine o1 15 (fun K hK => ?_)
   go_simp
   rw [<- zZ]
   clear zZ zv zL
   have gx:=qo.out _ KZ.out
   refine hK _ _ gx ?_
   clear hK K
   try simp only [qf]
   refine tk 16 6 (.bool b) gx ?v ?_
   case v => intro Wx hSx;go_simp
   try simp only [qf]
   refine wpAnyH_done (by kernel_rfl) ?_ _
   go_wp2
   go_meet
   exact ⟨_,_,cs,b,t,y,rfl,rfl,rfl,hZ ⟨PZ.out,HLE.out,KZ.out,rfl,HYZ.out,HCS.out⟩⟩
 case rest =>
  obtain ⟨g,W,cs,b,t,y,rfl,rfl,rfl,H⟩:=hcut
  have qu : cs.size = N:=(js H.out.2.2.2.2.1).1.trans HH.out.2.2.1.symm
  have ye:=zI H.out.1 qu
  have hq1:=qg H.out.2.2.1 HH.out.2.1
  have zv:=zl hq1 (HH.out.2.2.2.1.trans qu.symm) (js H.out.2.2.2.2.1).2
  have HP:=hZ hq1
  clear hq1
  go_wp2_with fail
  (with_reducible refine (qU b 9 s W).mono ?_)
  rintro e w4 ⟨he,rfl⟩
  cases b
  ·obtain rfl : e = _:=he
   refine ⟨rfl,.inr ⟨(s,9),?_,rfl⟩,HH.out.1.chain H.out.2.2.1⟩
   rw [HR.out,H.out.2.2.2.1]
   rcases H.out.2.2.2.2.2 with ⟨_,h⟩ | ⟨h,_⟩
   ·show xx (qG (fun r : Rc => r.nm) p.rs t) s 9 = _
    rw [h]
    rfl
   ·cases h
  ·obtain rfl : e = _:=he
   go_wp2
   refine bodyPost_ret (results_cell_row rfl _ _ (w.heap.size + 1) T cs (0,0) _ rfl (setRow_heap _ _ zc _ _ _ HP.out) Tryz.underlying36 rfl (by rw [qu,HH.out.2.2.1];kernel_rfl)) rfl ?_
   refine ⟨.inl ⟨cs,y,?_,rfl,?_⟩,below_setRow (HH.out.1.chain H.out.2.2.1) (Nat.le_succ _) _⟩
   ·rw [HR.out,H.out.2.2.2.1]
    rcases H.out.2.2.2.2.2 with ⟨h,_⟩ | ⟨_,h⟩
    ·cases h
    ·show xx (qG (fun r : Rc => r.nm) p.rs t) s 9 = _
     rw [h]
     rfl
   ·exact yC _ _ B0 B0 _ _ (fun z hz => (below_setRow (Below.refl w.heap.size _) (Nat.le_succ _) _).cell (Nat.lt_of_lt_of_le hz zo.out)) (Nat.le_refl _) H.out.2.2.2.2.1
end
section
set_option maxRecDepth 100000
set_option maxHeartbeats 16000000
open Go.RowKit Go.Lib
theorem qfa (u : ByteArray) (v : Value) (w : World) : (Instr.field 36 (.agg #[.string u,v]) 1).run Tryz.prog w = .ok v w:=by kernel_rfl
theorem qoz : ∃ (T N : Nat) (zc : Array Value) (T2 N2 : Nat),(42 = T /\ N = 2 /\ zc.size = 2 /\ (∀ w : World,(isAgg T).run Tryz.prog w = .ok true w) /\ (∀ w : World,(sizeOf T).run Tryz.prog w = .ok N w) /\ (∀ w : World,(zeroValue T).run Tryz.prog w = .ok (.agg zc) w)) /\ 90 = T2 /\ N2 = 24 /\ (∀ w : World,(isAgg T2).run Tryz.prog w = .ok true w) /\ (∀ w : World,(sizeOf T2).run Tryz.prog w = .ok N2 w):=by
 obtain ⟨T,N,zc,hT,hN,zd,-,hag,qK,yR⟩:=qad
 obtain ⟨T2,N2,hT2,hN2,hag2,qhc⟩:=yo
 exact ⟨T,N,zc,T2,N2,⟨hT,hN,zd.trans hN,hag,qK,yR⟩,hT2,hN2,hag2,qhc⟩
theorem qo3 (p : Pg) (d : GAd) (B0 cb : Nat) (nm fd fr : List UInt8) (cs : Array Value) (qM : cs.size = 24) (k3 : cs[3]? = some (.string ⟨nm.toArray⟩)) (k4 : cs[4]? = some (.string ⟨fd.toArray⟩)) (k5 : cs[5]? = some (.string ⟨fr.toArray⟩))
 (sc br asn : List Pm) (A : Option Addr) (n c : Nat) (D : Option Addr) (m dc : Nat) (E : Option Addr) (k ec : Nat) (B1 : Nat) (q : Int × Int) (w : World) (hV : BodyAt w B1 cb sc br asn A n D m E k) (hC : ChkW w B0 cb d p q) :
 Calls Tryz.prog 160 #[zT cb A n c D m dc E k ec,.agg cs] w (qV (ldC p sc br asn nm fd fr) w):=by
 obtain ⟨T,N,zc,T2,N2,⟨hT,hN,zd,hag,qK,yR⟩,hT2,hN2,hag2,qhc⟩:=qoz
 have e2 : ∀ y z : Operand,Op.store 42 y z = Op.store T y z:=fun y z => by rw [hT]
 have e3 : Op.alloc 42 = Op.alloc T:=by rw [hT]
 have e4 : ∀ y : Operand,Op.box 90 y = Op.box T2 y:=fun y => by rw [hT2]
 obtain ⟨W1,qh⟩ : ∃ W1,W1 = (w.alloc (qS cb A n c D m dc E k ec)).alloc (.cells cs T2):=⟨_,rfl⟩
 have qk : Below w.heap.size w W1:=by rw [qh];exact (qd w _).chain (qd _ _)
 have q1:=qr (o:=.cells cs T2) (qe w (qS cb A n c D m dc E k ec))
 have q2:=qe (w.alloc (qS cb A n c D m dc E k ec)) (.cells cs T2)
 rw [qj] at q2
 rw [<- qh] at q1 q2
 have zU : Hid (∀ W,Below W1.heap.size W1 W -> (W.cell? ⟨w.heap.size,0,none⟩ = some (.pointer (some ⟨cb,0,none⟩)) /\ W.cell? ⟨w.heap.size,1,none⟩ = some (.slice A n c) /\ W.cell? ⟨w.heap.size,2,none⟩ = some (.slice D m dc) /\ W.cell? ⟨w.heap.size,3,none⟩ = some (.slice E k ec)) /\ (W.cell? ⟨w.heap.size + 1,3,none⟩ = some (.string ⟨nm.toArray⟩) /\ W.cell? ⟨w.heap.size + 1,4,none⟩ = some (.string ⟨fd.toArray⟩) /\ W.cell? ⟨w.heap.size + 1,5,none⟩ = some (.string ⟨fr.toArray⟩))):=hZ (fun W hb => by
  have p1:=qg hb q1
  have p2:=qg hb q2
  exact ⟨⟨qc p1 0 rfl,qc p1 1 rfl,qc p1 2 rfl,qc p1 3 rfl⟩,⟨qc p2 3 k3,qc p2 4 k4,qc p2 5 k5⟩⟩)
 have HT:=hZ (qbB cb nm sc br asn A n c D m dc E k ec B1 W1 (hV.on qk))
 obtain ⟨r1,yO⟩ : ∃ r,r = jV sc asn nm:=⟨_,rfl⟩
 obtain ⟨r2,zW⟩ : ∃ r,r = qa2 p sc br fr:=⟨_,rfl⟩
 have qij : Hid (∀ W,Below W1.heap.size W1 W -> Calls Tryz.prog 163 #[zT cb A n c D m dc E k ec,.string ⟨fr.toArray⟩] W (qkW r2 B0 W)):=hZ (fun W hb => by
  rw [zW]
  exact qep p d B0 cb fr sc br asn A n c D m dc E k ec B1 q W (hV.on (qk.chain hb)) (hC.on (qk.chain hb)))
 have zo : Hid (B0 <= w.heap.size):=hZ (Nat.le_trans hC.le (Nat.le_of_lt hC.lt))
 have qcp : Hid (∀ W (l : List Pm) (A : Option Addr) (c n : Nat),Below W1.heap.size W1 W -> n = l.length -> l.length <= maxLen -> qD zp 2 W B0 l A -> Calls Tryz.prog 178 #[.slice A n c,.string ⟨fd.toArray⟩,.func (.func 95) #[] #[]] W (jr zp fd (qG (fun z : Pm => z.nm) l fd) B0 W)):=hZ (fun W l A c n hb hn hm hA => qd7 95 (enters_of Tryz.func95 (by kernel_rfl) rfl) (·.nm) qbh fd l A c n hn (by rw [hn];exact hm) B0 W (Nat.le_trans zo.out (qk.chain hb).size) hA)
 obtain ⟨R,hR⟩ : ∃ R,R = ldC p sc br asn nm fd fr:=⟨_,rfl⟩
 have HR : Hid (R = zy r1 fun t => zy r2 fun r => zy (xx (qG (fun z : Pm => z.nm) r.fs fd) fd 7) fun f => zQ (f.t == t) 9 nm):=hZ (by rw [hR,yO,zW];rfl)
 rw [<- yO] at HT
 rw [<- hR]
 have qw:=hZ qk
 have HN:=hZ (aZ hN zd)
 have zE : Tryz.prog.follows .mixedOrders = true:=by kernel_rfl
 obtain ⟨⟨a0,a1,a2,a3⟩,b0,b1,b2⟩:=zU.out _ (Below.refl _ _)
 clear hV hC qk q1 q2 hN zd hN2 k3 k4 k5 qM yO zW hR
 go_enter Tryz.func160,Tryz.ntmps160
 simp only [e2,e3,e4]
 clear e2 e3 e4 hT hT2
 rw [qh] at a0 a1 a2 a3 b0 b1 b2
 go_wp2_with fail
 rw [<- qh] at a0 a1 a2 a3 b0 b1 b2 ⊢
 clear qh a0 a1 a2 a3 b0 b1 b2
 (with_reducible refine HT.out.mono ?_)
 rintro ee w2 ⟨he,zF⟩
 have H2:=hZ zF
 clear zF
 cases r1 with
 | error t =>
   obtain rfl : ee = _:=he
   exact ⟨rfl,by rw [HR.out];exact rfl,qw.out.chain H2.out⟩
 | ok t =>
 obtain rfl : ee = _:=he
 obtain ⟨G,hG⟩ : ∃ G : Pm -> Ck,G = fun f => zQ (f.t == t) 9 nm:=⟨_,rfl⟩
 have xW : Hid (R = zy r2 fun r => zy (xx (qG (fun z : Pm => z.nm) r.fs fd) fd 7) G):=hZ (by rw [HR.out,hG];rfl)
 have HG:=hZ hG
 obtain ⟨S,hS⟩ : ∃ S : World -> Prop,S = fun W => Below W1.heap.size W1 W:=⟨_,rfl⟩
 have qo : Hid (∀ W,Below w2.heap.size w2 W -> S W):=hZ (fun W hb => by rw [hS];exact H2.out.chain hb)
 have qX : Hid (∀ W,S W -> (W.cell? ⟨w.heap.size,0,none⟩ = some (.pointer (some ⟨cb,0,none⟩)) /\ W.cell? ⟨w.heap.size,1,none⟩ = some (.slice A n c) /\ W.cell? ⟨w.heap.size,2,none⟩ = some (.slice D m dc) /\ W.cell? ⟨w.heap.size,3,none⟩ = some (.slice E k ec)) /\ (W.cell? ⟨w.heap.size + 1,3,none⟩ = some (.string ⟨nm.toArray⟩) /\ W.cell? ⟨w.heap.size + 1,4,none⟩ = some (.string ⟨fd.toArray⟩) /\ W.cell? ⟨w.heap.size + 1,5,none⟩ = some (.string ⟨fr.toArray⟩))):=hZ (fun W hs => by rw [hS] at hs;exact zU.out W hs)
 have ze:=hZ (Below.refl w2.heap.size w2).drew
 have g0:=qo.out _ ze.out
 clear hS hG
 go_upto_region 2 with fail
 go_cut [5] from 10 to 17 (fun v5 wx => ∃ (g : Nat) (W : World) (f : Pm),W = wx /\ v5 = .pointer (some ⟨g,0,none⟩) /\ Hid (W.heap[g]? = some (.cells #[.string ⟨f.t.toArray⟩,.string ⟨f.nm.toArray⟩] T) /\ Below W1.heap.size W1 W /\ R = G f))
 case first =>
  refine wp_region_held (S:=S) zE ?_
  change wpAnyH _ _ _ _ _ 10 #[false,false,false,false,false,false,false,false,false,false] _ w2.drew
  refine tk 0 10 (zT cb A n c D m dc E k ec) g0 ?v ?_
  case v => intro Wx hSx;obtain ⟨⟨a0,a1,a2,a3⟩,b0,b1,b2⟩:=qX.out Wx hSx;go_simp
  refine tk 1 11 (.pointer (some ⟨w.heap.size + 1,5,none⟩)) g0 ?v ?_
  case v => intro Wx hSx;go_simp
  refine tk 2 12 (.string ⟨fr.toArray⟩) g0 ?v ?_
  case v => intro Wx hSx;obtain ⟨⟨a0,a1,a2,a3⟩,b0,b1,b2⟩:=qX.out Wx hSx;go_simp
  refine tk 5 15 (.pointer (some ⟨w.heap.size + 1,4,none⟩)) g0 ?v ?_
  case v => intro Wx hSx;go_simp
  try simp only [qf]
  refine tk 6 16 (.string ⟨fd.toArray⟩) g0 ?v ?_
  case v => intro Wx hSx;obtain ⟨⟨a0,a1,a2,a3⟩,b0,b1,b2⟩:=qX.out Wx hSx;go_simp
  try simp only [qf]
  refine zM 3 8 (by kernel_rfl) rfl rfl (by kernel_rfl) (by kernel_rfl) (fun K hK => ?_) (fun K hK => ?_)
  ·go_simp
   (with_reducible refine (qij.out _ (H2.out.chain ze.out)).mono ?_)
   rintro e xn ⟨he,hb⟩
   have Kn:=hZ (ze.out.chain hb)
   clear hb
   rcases he with ⟨cs2,y,zW,rfl,AR,cR,qn,yL,vW,qL⟩ | ⟨t2,zW,he⟩
   rotate_left
   ·subst he
    exact ⟨rfl,by rw [xW.out,zW];exact rfl,qw.out.chain (H2.out.chain Kn.out)⟩
   subst qn
   obtain ⟨nf,vy⟩ : ∃ nf,nf = y.fs.length:=⟨_,rfl⟩
   rw [<- vy]
   have HW:=hZ (zm qL)
   have HY:=hZ (aZ zW (aZ vW vy))
   clear zW vW vy qL yL
   have Gn:=qo.out _ Kn.out
   refine hK _ _ Gn ?_
   clear hK K
   try simp only [qf]
   have hfr:=fun w => qfa ⟨y.nm.toArray⟩ (.slice AR nf cR) w
   refine tk 4 14 (.slice AR nf cR) Gn ?v ?_
   case v => intro Wx hSx;go_simp
   try simp only [qf]
   refine zM 7 8 (by kernel_rfl) rfl rfl (by kernel_rfl) (by kernel_rfl) (fun K hK => ?_) (fun K hK => ?_)
   ·go_simp
    (with_reducible refine (qcp.out _ y.fs AR cR nf (H2.out.chain Kn.out) HY.out.2.2 HY.out.2.1 HW.out).mono ?_)
    rintro e xnc ⟨he,hb⟩
    have Knc:=hZ (Kn.out.chain hb)
    clear hb
    rcases he with ⟨cs3,f,rfl,ho,qn,hft,hfn⟩ | ⟨ho,he⟩
    rotate_left
    ·subst he
     refine ⟨rfl,?_,qw.out.chain (H2.out.chain Knc.out)⟩
     rw [xW.out,HY.out.1]
     show qbe (zy (xx (qG (fun z : Pm => z.nm) y.fs fd) fd 7) G) _
     rw [ho]
     exact rfl
    have vD:=hZ qn
    have xw : cs3.size = N:=by rw [qn,HN.out.1];rfl
    clear qn
    have HRG : Hid (R = G f):=hZ (by rw [xW.out,HY.out.1];show zy (xx (qG (fun z : Pm => z.nm) y.fs fd) fd 7) G = _;rw [ho];rfl)
    clear ho hft hfn
    have Gnc:=qo.out _ Knc.out
    refine hK _ _ Gnc ?_
    clear hK K
    try simp only [qf]
    have LE : Hid (w2.heap.size <= xnc.heap.size):=hZ Knc.out.size
    refine o1 8 (fun K hK => ?_)
    go_simp
    obtain ⟨yncc,hx⟩ : ∃ X,X = xnc.alloc (.cells zc T):=⟨_,rfl⟩
    rw [<- hx]
    have Bncc : Hid (Below w2.heap.size w2 yncc /\ yncc.heap[xnc.heap.size]? = some (.cells zc T)):=hZ (by rw [hx];exact ⟨Knc.out.chain (qd _ _),qe _ _⟩)
    have Kncc:=hZ Bncc.out.1
    have Ancc:=hZ Bncc.out.2
    have Gncc:=qo.out _ Kncc.out
    clear hx
    refine hK _ _ Gncc ?_
    clear hK K
    try simp only [qf]
    have zv:=zl (cs:=cs3) Ancc.out (HN.out.2.trans (HN.out.1.symm.trans xw.symm)) (by rw [vD.out,List.all_toArray];rfl)
    obtain ⟨xz,zZ⟩ : ∃ X,X = yncc.setRow (xnc.heap.size) cs3:=⟨_,rfl⟩
    have zL : w2.heap.size <= xnc.heap.size:=by first | exact Nat.le_refl _ | exact LE.out
    have KZ : Hid (Below w2.heap.size w2 xz):=hZ (by rw [zZ];exact below_setRow Kncc.out zL _)
    have PZ : Hid (xz.heap[xnc.heap.size]? = some (.cells cs3 T)):=hZ (by rw [zZ];exact setRow_heap _ _ zc _ _ _ Ancc.out)
    refine o1 9 (fun K hK => ?_)
    go_simp
    rw [<- zZ]
    clear zZ zv zL xw
    have gx:=qo.out _ KZ.out
    refine hK _ _ gx ?_
    clear hK K
    try simp only [qf]
    refine wpAnyH_done (by kernel_rfl) ?_ _
    go_wp2
    go_meet
    exact ⟨_,_,f,rfl,rfl,hZ ⟨by rw [<- vD.out];exact PZ.out,H2.out.chain KZ.out,HRG.out⟩⟩
   ·have LE : Hid (w2.heap.size <= xn.heap.size):=hZ Kn.out.size
    go_simp
    obtain ⟨ync,hx⟩ : ∃ X,X = xn.alloc (.cells zc T):=⟨_,rfl⟩
    rw [<- hx]
    have Bnc : Hid (Below w2.heap.size w2 ync /\ ync.heap[xn.heap.size]? = some (.cells zc T)):=hZ (by rw [hx];exact ⟨Kn.out.chain (qd _ _),qe _ _⟩)
    have Knc:=hZ Bnc.out.1
    have Anc:=hZ Bnc.out.2
    have HW : Hid (qD zp 2 ync B0 y.fs AR):=hZ (yB qT (Nat.le_trans zo.out (qw.out.chain (H2.out.chain Kn.out)).size) (by rw [hx];exact qd xn _) HW.out)
    have Gnc:=qo.out _ Knc.out
    clear hx
    refine hK _ _ Gnc ?_
    clear hK K
    try simp only [qf]
    refine o1 7 (fun K hK => ?_)
    go_simp
    (with_reducible refine (qcp.out _ y.fs AR cR nf (H2.out.chain Knc.out) HY.out.2.2 HY.out.2.1 HW.out).mono ?_)
    rintro e xnca ⟨he,hb⟩
    have Knca:=hZ (Knc.out.chain hb)
    have Anca:=hZ (qg hb Anc.out)
    clear hb
    rcases he with ⟨cs3,f,rfl,ho,qn,hft,hfn⟩ | ⟨ho,he⟩
    rotate_left
    ·subst he
     refine ⟨rfl,?_,qw.out.chain (H2.out.chain Knca.out)⟩
     rw [xW.out,HY.out.1]
     show qbe (zy (xx (qG (fun z : Pm => z.nm) y.fs fd) fd 7) G) _
     rw [ho]
     exact rfl
    have vD:=hZ qn
    have xw : cs3.size = N:=by rw [qn,HN.out.1];rfl
    clear qn
    have HRG : Hid (R = G f):=hZ (by rw [xW.out,HY.out.1];show zy (xx (qG (fun z : Pm => z.nm) y.fs fd) fd 7) G = _;rw [ho];rfl)
    clear ho hft hfn
    have Gnca:=qo.out _ Knca.out
    refine hK _ _ Gnca ?_
    clear hK K
    try simp only [qf]
    have zv:=zl (cs:=cs3) Anca.out (HN.out.2.trans (HN.out.1.symm.trans xw.symm)) (by rw [vD.out,List.all_toArray];rfl)
    obtain ⟨xz,zZ⟩ : ∃ X,X = xnca.setRow (xn.heap.size) cs3:=⟨_,rfl⟩
    have zL : w2.heap.size <= xn.heap.size:=by first | exact Nat.le_refl _ | exact LE.out
    have KZ : Hid (Below w2.heap.size w2 xz):=hZ (by rw [zZ];exact below_setRow Knca.out zL _)
    have PZ : Hid (xz.heap[xn.heap.size]? = some (.cells cs3 T)):=hZ (by rw [zZ];exact setRow_heap _ _ zc _ _ _ Anca.out)
    refine o1 9 (fun K hK => ?_)
    go_simp
    rw [<- zZ]
    clear zZ zv zL xw
    have gx:=qo.out _ KZ.out
    refine hK _ _ gx ?_
    clear hK K
    try simp only [qf]
    refine wpAnyH_done (by kernel_rfl) ?_ _
    go_wp2
    go_meet
    exact ⟨_,_,f,rfl,rfl,hZ ⟨by rw [<- vD.out];exact PZ.out,H2.out.chain KZ.out,HRG.out⟩⟩
  ·go_simp
   obtain ⟨yn,hx⟩ : ∃ X,X = (w2.alloc (.cells zc T)).drew:=⟨_,rfl⟩
   rw [<- hx]
   have Bn : Hid (Below w2.heap.size w2 yn /\ yn.heap[w2.heap.size]? = some (.cells zc T)):=hZ (by rw [hx];exact ⟨(qd _ _).drew,qe _ _⟩)
   have Kn:=hZ Bn.out.1
   have An:=hZ Bn.out.2
   have Gn:=qo.out _ Kn.out
   clear hx
   refine hK _ _ Gn ?_
   clear hK K
   try simp only [qf]
   refine o1 3 (fun K hK => ?_)
   go_simp
   (with_reducible refine (qij.out _ (H2.out.chain Kn.out)).mono ?_)
   rintro e xna ⟨he,hb⟩
   have Kna:=hZ (Kn.out.chain hb)
   have Ana:=hZ (qg hb An.out)
   clear hb
   rcases he with ⟨cs2,y,zW,rfl,AR,cR,qn,yL,vW,qL⟩ | ⟨t2,zW,he⟩
   rotate_left
   ·subst he
    exact ⟨rfl,by rw [xW.out,zW];exact rfl,qw.out.chain (H2.out.chain Kna.out)⟩
   subst qn
   obtain ⟨nf,vy⟩ : ∃ nf,nf = y.fs.length:=⟨_,rfl⟩
   rw [<- vy]
   have HW:=hZ (zm qL)
   have HY:=hZ (aZ zW (aZ vW vy))
   clear zW vW vy qL yL
   have Gna:=qo.out _ Kna.out
   refine hK _ _ Gna ?_
   clear hK K
   try simp only [qf]
   have hfr:=fun w => qfa ⟨y.nm.toArray⟩ (.slice AR nf cR) w
   refine tk 4 14 (.slice AR nf cR) Gna ?v ?_
   case v => intro Wx hSx;go_simp
   try simp only [qf]
   refine o1 7 (fun K hK => ?_)
   go_simp
   (with_reducible refine (qcp.out _ y.fs AR cR nf (H2.out.chain Kna.out) HY.out.2.2 HY.out.2.1 HW.out).mono ?_)
   rintro e xnac ⟨he,hb⟩
   have Knac:=hZ (Kna.out.chain hb)
   have Anac:=hZ (qg hb Ana.out)
   clear hb
   rcases he with ⟨cs3,f,rfl,ho,qn,hft,hfn⟩ | ⟨ho,he⟩
   rotate_left
   ·subst he
    refine ⟨rfl,?_,qw.out.chain (H2.out.chain Knac.out)⟩
    rw [xW.out,HY.out.1]
    show qbe (zy (xx (qG (fun z : Pm => z.nm) y.fs fd) fd 7) G) _
    rw [ho]
    exact rfl
   have vD:=hZ qn
   have xw : cs3.size = N:=by rw [qn,HN.out.1];rfl
   clear qn
   have HRG : Hid (R = G f):=hZ (by rw [xW.out,HY.out.1];show zy (xx (qG (fun z : Pm => z.nm) y.fs fd) fd 7) G = _;rw [ho];rfl)
   clear ho hft hfn
   have Gnac:=qo.out _ Knac.out
   refine hK _ _ Gnac ?_
   clear hK K
   try simp only [qf]
   have zv:=zl (cs:=cs3) Anac.out (HN.out.2.trans (HN.out.1.symm.trans xw.symm)) (by rw [vD.out,List.all_toArray];rfl)
   obtain ⟨xz,zZ⟩ : ∃ X,X = xnac.setRow (w2.heap.size) cs3:=⟨_,rfl⟩
   have zL : w2.heap.size <= w2.heap.size:=by first | exact Nat.le_refl _ | exact LE.out
   have KZ : Hid (Below w2.heap.size w2 xz):=hZ (by rw [zZ];exact below_setRow Knac.out zL _)
   have PZ : Hid (xz.heap[w2.heap.size]? = some (.cells cs3 T)):=hZ (by rw [zZ];exact setRow_heap _ _ zc _ _ _ Anac.out)
   refine o1 9 (fun K hK => ?_)
   go_simp
   rw [<- zZ]
   clear zZ zv zL xw
   have gx:=qo.out _ KZ.out
   refine hK _ _ gx ?_
   clear hK K
   try simp only [qf]
   refine wpAnyH_done (by kernel_rfl) ?_ _
   go_wp2
   go_meet
   exact ⟨_,_,f,rfl,rfl,hZ ⟨by rw [<- vD.out];exact PZ.out,H2.out.chain KZ.out,HRG.out⟩⟩
 case rest =>
  obtain ⟨g,W,f,rfl,rfl,H⟩:=hcut
  obtain ⟨-,b0,b1,b2⟩:=zU.out _ H.out.2.1
  have x0:=qc H.out.1 0 (v:=.string ⟨f.t.toArray⟩) rfl
  obtain ⟨v,hv⟩ : ∃ v,v = (f.t == t):=⟨_,rfl⟩
  have HV : Hid (R = zQ v 9 nm):=hZ (by rw [H.out.2.2,HG.out,hv])
  have hv':=hv.symm
  clear hv
  go_wp2_with fail
  (with_reducible refine (qU v 9 nm W).mono ?_)
  rintro e w4 ⟨he,rfl⟩
  cases v
  ·obtain rfl : e = _:=he
   exact ⟨rfl,by rw [HV.out];exact rfl,qw.out.chain H.out.2.1⟩
  ·obtain rfl : e = _:=he
   go_wp2
   exact bodyPost_end (results_none rfl _ _ _) rfl ⟨by rw [HV.out];exact rfl,qw.out.chain H.out.2.1⟩
end
section
set_option maxRecDepth 100000
set_option maxHeartbeats 16000000
open Go.RowKit Go.Lib
theorem qo2 (p : Pg) (d : GAd) (B0 cb : Nat) (nm fd : List UInt8) (ek en : Int) (es : List UInt8) (el : List Ex) (Ae : Option Addr) (ne ce : Nat) (zN : ne = el.length) (hes : es.length <= maxLen) (jf : el.length <= maxLen) (cs : Array Value) (qM : cs.size = 24) (k3 : cs[3]? = some (.string ⟨nm.toArray⟩)) (k4 : cs[4]? = some (.string ⟨fd.toArray⟩)) (k6 : cs[6]? = some (.int .i64 ek)) (k7 : cs[7]? = some (.int .i64 en)) (k8 : cs[8]? = some (.string ⟨es.toArray⟩)) (k9 : cs[9]? = some (.slice Ae ne ce))
 (sc br asn : List Pm) (A : Option Addr) (n c : Nat) (D : Option Addr) (m dc : Nat) (E : Option Addr) (k ec : Nat) (B1 : Nat) (q : Int × Int) (w : World) (hr : ExRow w B0 el Ae) (hV : BodyAt w B1 cb sc br asn A n D m E k) (hC : ChkW w B0 cb d p q) :
 Calls Tryz.prog 161 #[zT cb A n c D m dc E k ec,.agg cs] w (qV (svC p sc br nm fd (.mk ek en es el)) w):=by
 obtain ⟨T,N,zc,T2,N2,⟨hT,hN,zd,hag,qK,yR⟩,hT2,hN2,hag2,qhc⟩:=qoz
 have e2 : ∀ y z : Operand,Op.store 42 y z = Op.store T y z:=fun y z => by rw [hT]
 have e3 : Op.alloc 42 = Op.alloc T:=by rw [hT]
 have e4 : ∀ y : Operand,Op.box 90 y = Op.box T2 y:=fun y => by rw [hT2]
 have qz : B0 <= w.heap.size:=Nat.le_trans hC.le (Nat.le_of_lt hC.lt)
 obtain ⟨W1,qh⟩ : ∃ W1,W1 = (w.alloc (qS cb A n c D m dc E k ec)).alloc (.cells cs T2):=⟨_,rfl⟩
 have qk : Below w.heap.size w W1:=by rw [qh];exact (qd w _).chain (qd _ _)
 have q1:=qr (o:=.cells cs T2) (qe w (qS cb A n c D m dc E k ec))
 have q2:=qe (w.alloc (qS cb A n c D m dc E k ec)) (.cells cs T2)
 rw [qj] at q2
 rw [<- qh] at q1 q2
 have zU : Hid (∀ W,Below W1.heap.size W1 W -> (W.cell? ⟨w.heap.size,0,none⟩ = some (.pointer (some ⟨cb,0,none⟩)) /\ W.cell? ⟨w.heap.size,1,none⟩ = some (.slice A n c) /\ W.cell? ⟨w.heap.size,2,none⟩ = some (.slice D m dc) /\ W.cell? ⟨w.heap.size,3,none⟩ = some (.slice E k ec)) /\ (W.cell? ⟨w.heap.size + 1,3,none⟩ = some (.string ⟨nm.toArray⟩) /\ W.cell? ⟨w.heap.size + 1,4,none⟩ = some (.string ⟨fd.toArray⟩) /\ W.cell? ⟨w.heap.size + 1,6,none⟩ = some (.int .i64 ek) /\ W.cell? ⟨w.heap.size + 1,7,none⟩ = some (.int .i64 en) /\ W.cell? ⟨w.heap.size + 1,8,none⟩ = some (.string ⟨es.toArray⟩) /\ W.cell? ⟨w.heap.size + 1,9,none⟩ = some (.slice Ae ne ce))):=hZ (fun W hb => by
  have p1:=qg hb q1
  have p2:=qg hb q2
  exact ⟨⟨qc p1 0 rfl,qc p1 1 rfl,qc p1 2 rfl,qc p1 3 rfl⟩,⟨qc p2 3 k3,qc p2 4 k4,qc p2 6 k6,qc p2 7 k7,qc p2 8 k8,qc p2 9 k9⟩⟩)
 obtain ⟨r2,zW⟩ : ∃ r,r = qa2 p sc br nm:=⟨_,rfl⟩
 obtain ⟨r3,hr3⟩ : ∃ r,r = yZ sc br (.mk ek en es el):=⟨_,rfl⟩
 have qij : Hid (∀ W,Below W1.heap.size W1 W -> Calls Tryz.prog 163 #[zT cb A n c D m dc E k ec,.string ⟨nm.toArray⟩] W (qkW r2 B0 W)):=hZ (fun W hb => by
  rw [zW]
  exact qep p d B0 cb nm sc br asn A n c D m dc E k ec B1 q W (hV.on (qk.chain hb)) (hC.on (qk.chain hb)))
 have zo : Hid (B0 <= w.heap.size):=hZ qz
 have qcp : Hid (∀ W (l : List Pm) (A : Option Addr) (c n : Nat),Below W1.heap.size W1 W -> n = l.length -> l.length <= maxLen -> qD zp 2 W B0 l A -> Calls Tryz.prog 178 #[.slice A n c,.string ⟨fd.toArray⟩,.func (.func 95) #[] #[]] W (jr zp fd (qG (fun z : Pm => z.nm) l fd) B0 W)):=hZ (fun W l A c n hb hn hm hA => qd7 95 (enters_of Tryz.func95 (by kernel_rfl) rfl) (·.nm) qbh fd l A c n hn (by rw [hn];exact hm) B0 W (Nat.le_trans zo.out (qk.chain hb).size) hA)
 have HE : Hid (∀ W,Below W1.heap.size W1 W -> Calls Tryz.prog 114 #[jw A n c D m dc,zG ek en ⟨es.toArray⟩ (.slice Ae ne ce)] W (jH r3 W)):=hZ (fun W hb => by
  rw [zN,hr3]
  exact qcN sc br A n c D m dc B1 ek en es el Ae ce W (hV.on (qk.chain hb)).v (hr.keep (fun q hq => (qk.chain hb).cell (Nat.lt_of_lt_of_le hq qz)) (Nat.le_trans qz (qk.chain hb).size)) hes jf)
 obtain ⟨R,hR⟩ : ∃ R,R = svC p sc br nm fd (.mk ek en es el):=⟨_,rfl⟩
 obtain ⟨G,hG⟩ : ∃ G : Pm -> Ck,G = fun f => zy r3 fun y => zQ (jP y f.t) 9 fd:=⟨_,rfl⟩
 have xW : Hid (R = zy r2 fun r => zy (xx (qG (fun z : Pm => z.nm) r.fs fd) fd 7) G):=hZ (by rw [hR,zW,hG,hr3];rfl)
 have HG:=hZ hG
 rw [<- hR]
 have qw:=hZ qk
 have HN:=hZ (aZ hN zd)
 have zE : Tryz.prog.follows .mixedOrders = true:=by kernel_rfl
 have K1:=hZ (Below.refl W1.heap.size W1)
 obtain ⟨S,hS⟩ : ∃ S : World -> Prop,S = fun W => Below W1.heap.size W1 W:=⟨_,rfl⟩
 have qo : Hid (∀ W,Below W1.heap.size W1 W -> S W):=hZ (fun W hb => by rw [hS];exact hb)
 have qX : Hid (∀ W,S W -> (W.cell? ⟨w.heap.size,0,none⟩ = some (.pointer (some ⟨cb,0,none⟩)) /\ W.cell? ⟨w.heap.size,1,none⟩ = some (.slice A n c) /\ W.cell? ⟨w.heap.size,2,none⟩ = some (.slice D m dc) /\ W.cell? ⟨w.heap.size,3,none⟩ = some (.slice E k ec)) /\ (W.cell? ⟨w.heap.size + 1,3,none⟩ = some (.string ⟨nm.toArray⟩) /\ W.cell? ⟨w.heap.size + 1,4,none⟩ = some (.string ⟨fd.toArray⟩) /\ W.cell? ⟨w.heap.size + 1,6,none⟩ = some (.int .i64 ek) /\ W.cell? ⟨w.heap.size + 1,7,none⟩ = some (.int .i64 en) /\ W.cell? ⟨w.heap.size + 1,8,none⟩ = some (.string ⟨es.toArray⟩) /\ W.cell? ⟨w.heap.size + 1,9,none⟩ = some (.slice Ae ne ce))):=hZ (fun W hs => by rw [hS] at hs;exact zU.out W hs)
 have ze:=hZ (Below.refl W1.heap.size W1).drew
 have g0:=qo.out _ ze.out
 clear hV hC qk q1 q2 hN zd hN2 k3 k4 k6 k7 k8 k9 qM zW hr3 hR hG hS hr hes jf zN qz
 go_enter Tryz.func161,Tryz.ntmps161
 simp only [e2,e3,e4]
 clear e2 e3 e4 hT hT2
 go_upto_region 1 with fail
 rw [<- qh]
 clear qh
 go_cut [4] from 5 to 12 (fun v4 wx => ∃ (g : Nat) (W : World) (f : Pm),W = wx /\ v4 = .pointer (some ⟨g,0,none⟩) /\ Hid (W.heap[g]? = some (.cells #[.string ⟨f.t.toArray⟩,.string ⟨f.nm.toArray⟩] T) /\ Below W1.heap.size W1 W /\ R = G f))
 case first =>
  refine wp_region_held (S:=S) zE ?_
  change wpAnyH _ _ _ _ _ 10 #[false,false,false,false,false,false,false,false,false,false] _ W1.drew
  refine tk 0 5 (zT cb A n c D m dc E k ec) g0 ?v ?_
  case v => intro Wx hSx;obtain ⟨⟨a0,a1,a2,a3⟩,b0,b1,b2⟩:=qX.out Wx hSx;go_simp
  refine tk 1 6 (.pointer (some ⟨w.heap.size + 1,3,none⟩)) g0 ?v ?_
  case v => intro Wx hSx;go_simp
  refine tk 2 7 (.string ⟨nm.toArray⟩) g0 ?v ?_
  case v => intro Wx hSx;obtain ⟨⟨a0,a1,a2,a3⟩,b0,b1,b2⟩:=qX.out Wx hSx;go_simp
  refine tk 5 10 (.pointer (some ⟨w.heap.size + 1,4,none⟩)) g0 ?v ?_
  case v => intro Wx hSx;go_simp
  try simp only [qf]
  refine tk 6 11 (.string ⟨fd.toArray⟩) g0 ?v ?_
  case v => intro Wx hSx;obtain ⟨⟨a0,a1,a2,a3⟩,b0,b1,b2⟩:=qX.out Wx hSx;go_simp
  try simp only [qf]
  refine zM 3 8 (by kernel_rfl) rfl rfl (by kernel_rfl) (by kernel_rfl) (fun K hK => ?_) (fun K hK => ?_)
  ·go_simp
   (with_reducible refine (qij.out _ (K1.out.chain ze.out)).mono ?_)
   rintro e xn ⟨he,hb⟩
   have Kn:=hZ (ze.out.chain hb)
   clear hb
   rcases he with ⟨cs2,y,zW,rfl,AR,cR,qn,yL,vW,qL⟩ | ⟨t2,zW,he⟩
   rotate_left
   ·subst he
    exact ⟨rfl,by rw [xW.out,zW];exact rfl,qw.out.chain (K1.out.chain Kn.out)⟩
   subst qn
   obtain ⟨nf,vy⟩ : ∃ nf,nf = y.fs.length:=⟨_,rfl⟩
   rw [<- vy]
   have HW:=hZ (zm qL)
   have HY:=hZ (aZ zW (aZ vW vy))
   clear zW vW vy qL yL
   have Gn:=qo.out _ Kn.out
   refine hK _ _ Gn ?_
   clear hK K
   try simp only [qf]
   have hfr:=fun w => qfa ⟨y.nm.toArray⟩ (.slice AR nf cR) w
   refine tk 4 9 (.slice AR nf cR) Gn ?v ?_
   case v => intro Wx hSx;go_simp
   try simp only [qf]
   refine zM 7 8 (by kernel_rfl) rfl rfl (by kernel_rfl) (by kernel_rfl) (fun K hK => ?_) (fun K hK => ?_)
   ·go_simp
    (with_reducible refine (qcp.out _ y.fs AR cR nf (K1.out.chain Kn.out) HY.out.2.2 HY.out.2.1 HW.out).mono ?_)
    rintro e xnc ⟨he,hb⟩
    have Knc:=hZ (Kn.out.chain hb)
    clear hb
    rcases he with ⟨cs3,f,rfl,ho,qn,hft,hfn⟩ | ⟨ho,he⟩
    rotate_left
    ·subst he
     refine ⟨rfl,?_,qw.out.chain (K1.out.chain Knc.out)⟩
     rw [xW.out,HY.out.1]
     show qbe (zy (xx (qG (fun z : Pm => z.nm) y.fs fd) fd 7) G) _
     rw [ho]
     exact rfl
    have vD:=hZ qn
    have xw : cs3.size = N:=by rw [qn,HN.out.1];rfl
    clear qn
    have HRG : Hid (R = G f):=hZ (by rw [xW.out,HY.out.1];show zy (xx (qG (fun z : Pm => z.nm) y.fs fd) fd 7) G = _;rw [ho];rfl)
    clear ho hft hfn
    have Gnc:=qo.out _ Knc.out
    refine hK _ _ Gnc ?_
    clear hK K
    try simp only [qf]
    have LE : Hid (W1.heap.size <= xnc.heap.size):=hZ Knc.out.size
    refine o1 8 (fun K hK => ?_)
    go_simp
    obtain ⟨yncc,hx⟩ : ∃ X,X = xnc.alloc (.cells zc T):=⟨_,rfl⟩
    rw [<- hx]
    have Bncc : Hid (Below W1.heap.size W1 yncc /\ yncc.heap[xnc.heap.size]? = some (.cells zc T)):=hZ (by rw [hx];exact ⟨Knc.out.chain (qd _ _),qe _ _⟩)
    have Kncc:=hZ Bncc.out.1
    have Ancc:=hZ Bncc.out.2
    have Gncc:=qo.out _ Kncc.out
    clear hx
    refine hK _ _ Gncc ?_
    clear hK K
    try simp only [qf]
    have zv:=zl (cs:=cs3) Ancc.out (HN.out.2.trans (HN.out.1.symm.trans xw.symm)) (by rw [vD.out,List.all_toArray];rfl)
    obtain ⟨xz,zZ⟩ : ∃ X,X = yncc.setRow (xnc.heap.size) cs3:=⟨_,rfl⟩
    have zL : W1.heap.size <= xnc.heap.size:=by first | exact Nat.le_refl _ | exact LE.out
    have KZ : Hid (Below W1.heap.size W1 xz):=hZ (by rw [zZ];exact below_setRow Kncc.out zL _)
    have PZ : Hid (xz.heap[xnc.heap.size]? = some (.cells cs3 T)):=hZ (by rw [zZ];exact setRow_heap _ _ zc _ _ _ Ancc.out)
    refine o1 9 (fun K hK => ?_)
    go_simp
    rw [<- zZ]
    clear zZ zv zL xw
    have gx:=qo.out _ KZ.out
    refine hK _ _ gx ?_
    clear hK K
    try simp only [qf]
    refine wpAnyH_done (by kernel_rfl) ?_ _
    go_wp2
    go_meet
    exact ⟨_,_,f,rfl,rfl,hZ ⟨by rw [<- vD.out];exact PZ.out,K1.out.chain KZ.out,HRG.out⟩⟩
   ·have LE : Hid (W1.heap.size <= xn.heap.size):=hZ Kn.out.size
    go_simp
    obtain ⟨ync,hx⟩ : ∃ X,X = xn.alloc (.cells zc T):=⟨_,rfl⟩
    rw [<- hx]
    have Bnc : Hid (Below W1.heap.size W1 ync /\ ync.heap[xn.heap.size]? = some (.cells zc T)):=hZ (by rw [hx];exact ⟨Kn.out.chain (qd _ _),qe _ _⟩)
    have Knc:=hZ Bnc.out.1
    have Anc:=hZ Bnc.out.2
    have HW : Hid (qD zp 2 ync B0 y.fs AR):=hZ (yB qT (Nat.le_trans zo.out (qw.out.chain (K1.out.chain Kn.out)).size) (by rw [hx];exact qd xn _) HW.out)
    have Gnc:=qo.out _ Knc.out
    clear hx
    refine hK _ _ Gnc ?_
    clear hK K
    try simp only [qf]
    refine o1 7 (fun K hK => ?_)
    go_simp
    (with_reducible refine (qcp.out _ y.fs AR cR nf (K1.out.chain Knc.out) HY.out.2.2 HY.out.2.1 HW.out).mono ?_)
    rintro e xnca ⟨he,hb⟩
    have Knca:=hZ (Knc.out.chain hb)
    have Anca:=hZ (qg hb Anc.out)
    clear hb
    rcases he with ⟨cs3,f,rfl,ho,qn,hft,hfn⟩ | ⟨ho,he⟩
    rotate_left
    ·subst he
     refine ⟨rfl,?_,qw.out.chain (K1.out.chain Knca.out)⟩
     rw [xW.out,HY.out.1]
     show qbe (zy (xx (qG (fun z : Pm => z.nm) y.fs fd) fd 7) G) _
     rw [ho]
     exact rfl
    have vD:=hZ qn
    have xw : cs3.size = N:=by rw [qn,HN.out.1];rfl
    clear qn
    have HRG : Hid (R = G f):=hZ (by rw [xW.out,HY.out.1];show zy (xx (qG (fun z : Pm => z.nm) y.fs fd) fd 7) G = _;rw [ho];rfl)
    clear ho hft hfn
    have Gnca:=qo.out _ Knca.out
    refine hK _ _ Gnca ?_
    clear hK K
    try simp only [qf]
    have zv:=zl (cs:=cs3) Anca.out (HN.out.2.trans (HN.out.1.symm.trans xw.symm)) (by rw [vD.out,List.all_toArray];rfl)
    obtain ⟨xz,zZ⟩ : ∃ X,X = xnca.setRow (xn.heap.size) cs3:=⟨_,rfl⟩
    have zL : W1.heap.size <= xn.heap.size:=by first | exact Nat.le_refl _ | exact LE.out
    have KZ : Hid (Below W1.heap.size W1 xz):=hZ (by rw [zZ];exact below_setRow Knca.out zL _)
    have PZ : Hid (xz.heap[xn.heap.size]? = some (.cells cs3 T)):=hZ (by rw [zZ];exact setRow_heap _ _ zc _ _ _ Anca.out)
    refine o1 9 (fun K hK => ?_)
    go_simp
    rw [<- zZ]
    clear zZ zv zL xw
    have gx:=qo.out _ KZ.out
    refine hK _ _ gx ?_
    clear hK K
    try simp only [qf]
    refine wpAnyH_done (by kernel_rfl) ?_ _
    go_wp2
    go_meet
    exact ⟨_,_,f,rfl,rfl,hZ ⟨by rw [<- vD.out];exact PZ.out,K1.out.chain KZ.out,HRG.out⟩⟩
  ·go_simp
   obtain ⟨yn,hx⟩ : ∃ X,X = (W1.alloc (.cells zc T)).drew:=⟨_,rfl⟩
   rw [<- hx]
   have Bn : Hid (Below W1.heap.size W1 yn /\ yn.heap[W1.heap.size]? = some (.cells zc T)):=hZ (by rw [hx];exact ⟨(qd _ _).drew,qe _ _⟩)
   have Kn:=hZ Bn.out.1
   have An:=hZ Bn.out.2
   have Gn:=qo.out _ Kn.out
   clear hx
   refine hK _ _ Gn ?_
   clear hK K
   try simp only [qf]
   refine o1 3 (fun K hK => ?_)
   go_simp
   (with_reducible refine (qij.out _ (K1.out.chain Kn.out)).mono ?_)
   rintro e xna ⟨he,hb⟩
   have Kna:=hZ (Kn.out.chain hb)
   have Ana:=hZ (qg hb An.out)
   clear hb
   rcases he with ⟨cs2,y,zW,rfl,AR,cR,qn,yL,vW,qL⟩ | ⟨t2,zW,he⟩
   rotate_left
   ·subst he
    exact ⟨rfl,by rw [xW.out,zW];exact rfl,qw.out.chain (K1.out.chain Kna.out)⟩
   subst qn
   obtain ⟨nf,vy⟩ : ∃ nf,nf = y.fs.length:=⟨_,rfl⟩
   rw [<- vy]
   have HW:=hZ (zm qL)
   have HY:=hZ (aZ zW (aZ vW vy))
   clear zW vW vy qL yL
   have Gna:=qo.out _ Kna.out
   refine hK _ _ Gna ?_
   clear hK K
   try simp only [qf]
   have hfr:=fun w => qfa ⟨y.nm.toArray⟩ (.slice AR nf cR) w
   refine tk 4 9 (.slice AR nf cR) Gna ?v ?_
   case v => intro Wx hSx;go_simp
   try simp only [qf]
   refine o1 7 (fun K hK => ?_)
   go_simp
   (with_reducible refine (qcp.out _ y.fs AR cR nf (K1.out.chain Kna.out) HY.out.2.2 HY.out.2.1 HW.out).mono ?_)
   rintro e xnac ⟨he,hb⟩
   have Knac:=hZ (Kna.out.chain hb)
   have Anac:=hZ (qg hb Ana.out)
   clear hb
   rcases he with ⟨cs3,f,rfl,ho,qn,hft,hfn⟩ | ⟨ho,he⟩
   rotate_left
   ·subst he
    refine ⟨rfl,?_,qw.out.chain (K1.out.chain Knac.out)⟩
    rw [xW.out,HY.out.1]
    show qbe (zy (xx (qG (fun z : Pm => z.nm) y.fs fd) fd 7) G) _
    rw [ho]
    exact rfl
   have vD:=hZ qn
   have xw : cs3.size = N:=by rw [qn,HN.out.1];rfl
   clear qn
   have HRG : Hid (R = G f):=hZ (by rw [xW.out,HY.out.1];show zy (xx (qG (fun z : Pm => z.nm) y.fs fd) fd 7) G = _;rw [ho];rfl)
   clear ho hft hfn
   have Gnac:=qo.out _ Knac.out
   refine hK _ _ Gnac ?_
   clear hK K
   try simp only [qf]
   have zv:=zl (cs:=cs3) Anac.out (HN.out.2.trans (HN.out.1.symm.trans xw.symm)) (by rw [vD.out,List.all_toArray];rfl)
   obtain ⟨xz,zZ⟩ : ∃ X,X = xnac.setRow (W1.heap.size) cs3:=⟨_,rfl⟩
   have zL : W1.heap.size <= W1.heap.size:=by first | exact Nat.le_refl _ | exact LE.out
   have KZ : Hid (Below W1.heap.size W1 xz):=hZ (by rw [zZ];exact below_setRow Knac.out zL _)
   have PZ : Hid (xz.heap[W1.heap.size]? = some (.cells cs3 T)):=hZ (by rw [zZ];exact setRow_heap _ _ zc _ _ _ Anac.out)
   refine o1 9 (fun K hK => ?_)
   go_simp
   rw [<- zZ]
   clear zZ zv zL xw
   have gx:=qo.out _ KZ.out
   refine hK _ _ gx ?_
   clear hK K
   try simp only [qf]
   refine wpAnyH_done (by kernel_rfl) ?_ _
   go_wp2
   go_meet
   exact ⟨_,_,f,rfl,rfl,hZ ⟨by rw [<- vD.out];exact PZ.out,K1.out.chain KZ.out,HRG.out⟩⟩
 case rest =>
  obtain ⟨g,W,f,rfl,rfl,H⟩:=hcut
  obtain ⟨S2,hS2⟩ : ∃ S2 : World -> Prop,S2 = fun W' => Below W.heap.size W W':=⟨_,rfl⟩
  have HS3 : Hid (∀ W',Below W.heap.size W W' -> S2 W'):=hZ (fun W' hb => by rw [hS2];exact hb)
  have qbZ : Hid (∀ W',S2 W' -> ((W'.cell? ⟨w.heap.size,0,none⟩ = some (.pointer (some ⟨cb,0,none⟩)) /\ W'.cell? ⟨w.heap.size,1,none⟩ = some (.slice A n c) /\ W'.cell? ⟨w.heap.size,2,none⟩ = some (.slice D m dc) /\ W'.cell? ⟨w.heap.size,3,none⟩ = some (.slice E k ec)) /\ (W'.cell? ⟨w.heap.size + 1,3,none⟩ = some (.string ⟨nm.toArray⟩) /\ W'.cell? ⟨w.heap.size + 1,4,none⟩ = some (.string ⟨fd.toArray⟩) /\ W'.cell? ⟨w.heap.size + 1,6,none⟩ = some (.int .i64 ek) /\ W'.cell? ⟨w.heap.size + 1,7,none⟩ = some (.int .i64 en) /\ W'.cell? ⟨w.heap.size + 1,8,none⟩ = some (.string ⟨es.toArray⟩) /\ W'.cell? ⟨w.heap.size + 1,9,none⟩ = some (.slice Ae ne ce))) /\ W'.cell? ⟨g,0,none⟩ = some (.string ⟨f.t.toArray⟩)):=hZ (fun W' hs => by
   rw [hS2] at hs
   exact ⟨zU.out W' (H.out.2.1.chain hs),qc (qg hs H.out.1) 0 rfl⟩)
  have X0:=hZ (Below.refl W.heap.size W).drew
  have gg:=HS3.out _ X0.out
  clear hS2 g0
  go_wp2
  refine wp_region_held (S:=S2) zE ?_
  change wpAnyH _ _ _ _ _ 11 #[false,false,false,false,false,false,false,false,false,false,false] _ W.drew
  refine tk 0 13 (.pointer (some ⟨w.heap.size,1,none⟩)) gg ?v ?_
  case v => intro Wx hSx;go_simp
  refine tk 1 14 (jw A n c D m dc) gg ?v ?_
  case v => intro Wx hSx;obtain ⟨⟨⟨a0,a1,a2,a3⟩,b0,b1,b2,b3,b4,b5⟩,x0⟩:=qbZ.out Wx hSx;go_simp
  refine tk 2 15 (.pointer (some ⟨w.heap.size + 1,6,none⟩)) gg ?v ?_
  case v => intro Wx hSx;go_simp
  refine tk 3 16 (zG ek en ⟨es.toArray⟩ (.slice Ae ne ce)) gg ?v ?_
  case v => intro Wx hSx;obtain ⟨⟨⟨a0,a1,a2,a3⟩,b0,b1,b2,b3,b4,b5⟩,x0⟩:=qbZ.out Wx hSx;go_simp
  try simp only [qf]
  refine tk 5 18 (.pointer (some ⟨g,0,none⟩)) gg ?v ?_
  case v => intro Wx hSx;go_simp
  refine tk 6 19 (.string ⟨f.t.toArray⟩) gg ?v ?_
  case v => intro Wx hSx;obtain ⟨⟨⟨a0,a1,a2,a3⟩,b0,b1,b2,b3,b4,b5⟩,x0⟩:=qbZ.out Wx hSx;go_simp
  refine tk 8 21 (.pointer (some ⟨w.heap.size + 1,4,none⟩)) gg ?v ?_
  case v => intro Wx hSx;go_simp
  refine tk 9 22 (.string ⟨fd.toArray⟩) gg ?v ?_
  case v => intro Wx hSx;obtain ⟨⟨⟨a0,a1,a2,a3⟩,b0,b1,b2,b3,b4,b5⟩,x0⟩:=qbZ.out Wx hSx;go_simp
  try simp only [qf]
  try simp only [qf]
  refine o1 4 (fun K hK => ?_)
  go_simp
  (with_reducible refine (HE.out _ (H.out.2.1.chain X0.out)).mono ?_)
  rintro ee w3 ⟨he,qt⟩
  have H3:=hZ (X0.out.chain qt)
  clear qt
  cases r3 with
  | error t2 =>
    obtain rfl : ee = _:=he
    exact ⟨rfl,by rw [H.out.2.2,HG.out];exact rfl,qw.out.chain (H.out.2.1.chain H3.out)⟩
  | ok y =>
  obtain rfl : ee = _:=he
  refine hK _ _ (HS3.out _ H3.out) ?_
  clear hK K
  try simp only [qf]
  refine o1 7 (fun K hK => ?_)
  go_simp
  (with_reducible refine (qdE y f.t w3).mono ?_)
  rintro ee w4 ⟨rfl,hw⟩
  subst hw
  refine hK _ _ (HS3.out _ H3.out) ?_
  clear hK K
  try simp only [qf]
  obtain ⟨v,hv⟩ : ∃ v,v = jP y f.t:=⟨_,rfl⟩
  have HV : Hid (R = zQ v 9 fd):=hZ (by rw [H.out.2.2,HG.out,hv];rfl)
  rw [<- hv]
  clear hv
  refine o1 10 (fun K hK => ?_)
  go_simp
  (with_reducible refine (qU v 9 fd w4).mono ?_)
  rintro ee w5 ⟨he,hw⟩
  subst hw
  cases v
  ·obtain rfl : ee = _:=he
   exact ⟨rfl,by rw [HV.out];exact rfl,qw.out.chain (H.out.2.1.chain H3.out)⟩
  ·obtain rfl : ee = _:=he
   refine hK _ _ (HS3.out _ H3.out) ?_
   clear hK K
   refine wpAnyH_done (by kernel_rfl) ?_ _
   go_wp2
   exact bodyPost_end (results_none rfl _ _ _) rfl ⟨by rw [HV.out];exact rfl,qw.out.chain (H.out.2.1.chain H3.out)⟩
end
section
set_option maxRecDepth 100000
set_option maxHeartbeats 16000000
open Go.RowKit Go.Lib
theorem qtD : ∃ (T N : Nat) (zc : Array Value) (T2 N2 : Nat),(36 = T /\ N = 2 /\ zc.size = 2 /\ (∀ w : World,(isAgg T).run Tryz.prog w = .ok true w) /\ (∀ w : World,(sizeOf T).run Tryz.prog w = .ok N w) /\ (∀ w : World,(zeroValue T).run Tryz.prog w = .ok (.agg zc) w)) /\ 90 = T2 /\ N2 = 24 /\ (∀ w : World,(isAgg T2).run Tryz.prog w = .ok true w) /\ (∀ w : World,(sizeOf T2).run Tryz.prog w = .ok N2 w):=by
 obtain ⟨T,N,zc,hT,hN,zd,-,hag,qK,yR⟩:=jE
 obtain ⟨T2,N2,hT2,hN2,hag2,qhc⟩:=yo
 exact ⟨T,N,zc,T2,N2,⟨hT,hN,zd.trans hN,hag,qK,yR⟩,hT2,hN2,hag2,qhc⟩
theorem qjI (p : Pg) (d : GAd) (B0 cb : Nat) (nm fr : List UInt8) (cs : Array Value) (qM : cs.size = 24) (k3 : cs[3]? = some (.string ⟨nm.toArray⟩)) (k5 : cs[5]? = some (.string ⟨fr.toArray⟩))
 (sc br asn : List Pm) (A : Option Addr) (n c : Nat) (D : Option Addr) (m dc : Nat) (E : Option Addr) (k ec : Nat) (B1 : Nat) (q : Int × Int) (w : World) (hV : BodyAt w B1 cb sc br asn A n D m E k) (hC : ChkW w B0 cb d p q) :
 Calls Tryz.prog 162 #[zT cb A n c D m dc E k ec,.agg cs] w (qV (nwC p sc asn nm fr) w):=by
 obtain ⟨T,N,zc,T2,N2,⟨hT,hN,zd,hag,qK,yR⟩,hT2,hN2,hag2,qhc⟩:=qtD
 have e2 : ∀ y z : Operand,Op.store 36 y z = Op.store T y z:=fun y z => by rw [hT]
 have e3 : Op.alloc 36 = Op.alloc T:=by rw [hT]
 have e4 : ∀ y : Operand,Op.box 90 y = Op.box T2 y:=fun y => by rw [hT2]
 have qz : B0 <= w.heap.size:=Nat.le_trans hC.le (Nat.le_of_lt hC.lt)
 obtain ⟨nr,xU⟩ : ∃ nr,nr = p.rs.length:=⟨_,rfl⟩
 obtain ⟨W1,qh⟩ : ∃ W1,W1 = (w.alloc (qS cb A n c D m dc E k ec)).alloc (.cells cs T2):=⟨_,rfl⟩
 have qk : Below w.heap.size w W1:=by rw [qh];exact (qd w _).chain (qd _ _)
 have q1:=qr (o:=.cells cs T2) (qe w (qS cb A n c D m dc E k ec))
 have q2:=qe (w.alloc (qS cb A n c D m dc E k ec)) (.cells cs T2)
 rw [qj] at q2
 rw [<- qh] at q1 q2
 have zU : Hid (∀ W,Below W1.heap.size W1 W -> (W.cell? ⟨w.heap.size,0,none⟩ = some (.pointer (some ⟨cb,0,none⟩)) /\ W.cell? ⟨w.heap.size,1,none⟩ = some (.slice A n c) /\ W.cell? ⟨w.heap.size,2,none⟩ = some (.slice D m dc) /\ W.cell? ⟨w.heap.size,3,none⟩ = some (.slice E k ec)) /\ (W.cell? ⟨w.heap.size + 1,3,none⟩ = some (.string ⟨nm.toArray⟩) /\ W.cell? ⟨w.heap.size + 1,5,none⟩ = some (.string ⟨fr.toArray⟩) /\ W.cell? ⟨cb,0,none⟩ = some (.slice d.r nr d.nr))):=hZ (fun W hb => by
  have p1:=qg hb q1
  have p2:=qg hb q2
  exact ⟨⟨qc p1 0 rfl,qc p1 1 rfl,qc p1 2 rfl,qc p1 3 rfl⟩,⟨qc p2 3 k3,qc p2 5 k5,by rw [xU];exact (hC.on (qk.chain hb)).at_.c0⟩⟩)
 obtain ⟨ro,hro⟩ : ∃ r,r = qG (fun z : Rc => z.nm) p.rs fr:=⟨_,rfl⟩
 obtain ⟨r1,yO⟩ : ∃ r,r = jV sc asn nm:=⟨_,rfl⟩
 have zo : Hid (B0 <= w.heap.size):=hZ qz
 have qcp : Hid (∀ W,Below W1.heap.size W1 W -> Calls Tryz.prog 103 #[.slice d.r nr d.nr,.string ⟨fr.toArray⟩,.func (.func 46) #[] #[]] W (jr yW fr ro B0 W)):=hZ (fun W hb => by
  have hk:=hC.on (qk.chain hb)
  rw [xU,hro]
  exact qe8 46 (enters_of Tryz.func46 (by kernel_rfl) rfl) (·.nm) qcC fr p.rs d.r d.nr p.rs.length rfl hk.own.1.1 B0 W (Nat.le_trans hk.le (Nat.le_of_lt hk.lt)) (qbp hk.own.2.1))
 have HT : Hid (∀ W,Below W1.heap.size W1 W -> Calls Tryz.prog 164 #[zT cb A n c D m dc E k ec,.string ⟨nm.toArray⟩] W (jH r1 W)):=hZ (fun W hb => by
  rw [yO]
  exact qbB cb nm sc br asn A n c D m dc E k ec B1 W (hV.on (qk.chain hb)))
 obtain ⟨R,hR⟩ : ∃ R,R = nwC p sc asn nm fr:=⟨_,rfl⟩
 obtain ⟨G,hG⟩ : ∃ G : Rc -> Ck,G = fun r => zy r1 fun t => zQ (t == r.nm) 9 nm:=⟨_,rfl⟩
 have xW : Hid (R = zy (xx ro fr 7) G):=hZ (by rw [hR,hro,hG,yO];rfl)
 have HG:=hZ hG
 rw [<- hR]
 have qw:=hZ qk
 have HN:=hZ (aZ hN zd)
 have zE : Tryz.prog.follows .mixedOrders = true:=by kernel_rfl
 obtain ⟨S,hS⟩ : ∃ S : World -> Prop,S = fun W => Below W1.heap.size W1 W:=⟨_,rfl⟩
 have qo : Hid (∀ W,Below W1.heap.size W1 W -> S W):=hZ (fun W hb => by rw [hS];exact hb)
 have qX : Hid (∀ W,S W -> (W.cell? ⟨w.heap.size,0,none⟩ = some (.pointer (some ⟨cb,0,none⟩)) /\ W.cell? ⟨w.heap.size,1,none⟩ = some (.slice A n c) /\ W.cell? ⟨w.heap.size,2,none⟩ = some (.slice D m dc) /\ W.cell? ⟨w.heap.size,3,none⟩ = some (.slice E k ec)) /\ (W.cell? ⟨w.heap.size + 1,3,none⟩ = some (.string ⟨nm.toArray⟩) /\ W.cell? ⟨w.heap.size + 1,5,none⟩ = some (.string ⟨fr.toArray⟩) /\ W.cell? ⟨cb,0,none⟩ = some (.slice d.r nr d.nr))):=hZ (fun W hs => by rw [hS] at hs;exact zU.out W hs)
 have ze:=hZ (Below.refl W1.heap.size W1).drew
 have g0:=qo.out _ ze.out
 clear hV hC qk q1 q2 hN zd hN2 k3 k5 qM hro yO hR hG hS qz xU
 go_enter Tryz.func162,Tryz.ntmps162
 simp only [e2,e3,e4]
 clear e2 e3 e4 hT hT2
 go_upto_region 1 with fail
 rw [<- qh]
 clear qh
 go_cut [4] from 5 to 13 (fun v4 wx => ∃ (g : Nat) (W : World) (f : Rc) (cs3 : Array Value),W = wx /\ v4 = .pointer (some ⟨g,0,none⟩) /\ Hid (W.heap[g]? = some (.cells cs3 T) /\ Below W1.heap.size W1 W /\ R = G f /\ cs3[0]? = some (.string ⟨f.nm.toArray⟩)))
 case first =>
  refine wp_region_held (S:=S) zE ?_
  change wpAnyH _ _ _ _ _ 11 #[false,false,false,false,false,false,false,false,false,false,false] _ W1.drew
  refine tk 0 5 (.pointer (some ⟨w.heap.size,0,none⟩)) g0 ?v ?_
  case v => intro Wx hSx;go_simp
  refine tk 1 6 (.pointer (some ⟨cb,0,none⟩)) g0 ?v ?_
  case v => intro Wx hSx;obtain ⟨⟨a0,a1,a2,a3⟩,b0,b1,b2⟩:=qX.out Wx hSx;go_simp
  refine tk 2 7 (.pointer (some ⟨cb,0,none⟩)) g0 ?v ?_
  case v => intro Wx hSx;go_simp
  refine tk 3 8 (.pointer (some ⟨cb,0,none⟩)) g0 ?v ?_
  case v => intro Wx hSx;go_simp
  try simp only [qf]
  refine tk 4 9 (.pointer (some ⟨cb,0,none⟩)) g0 ?v ?_
  case v => intro Wx hSx;go_simp
  refine tk 5 10 (.slice d.r nr d.nr) g0 ?v ?_
  case v => intro Wx hSx;obtain ⟨⟨a0,a1,a2,a3⟩,b0,b1,b2⟩:=qX.out Wx hSx;go_simp
  refine tk 6 11 (.pointer (some ⟨w.heap.size + 1,5,none⟩)) g0 ?v ?_
  case v => intro Wx hSx;go_simp
  refine tk 7 12 (.string ⟨fr.toArray⟩) g0 ?v ?_
  case v => intro Wx hSx;obtain ⟨⟨a0,a1,a2,a3⟩,b0,b1,b2⟩:=qX.out Wx hSx;go_simp
  try simp only [qf]
  try simp only [qf]
  refine zM 8 9 (by kernel_rfl) rfl rfl (by kernel_rfl) (by kernel_rfl) (fun K hK => ?_) (fun K hK => ?_)
  ·go_simp
   (with_reducible refine (qcp.out _ ze.out).mono ?_)
   rintro e xc ⟨he,hb⟩
   have Kc:=hZ (ze.out.chain hb)
   clear hb
   rcases he with ⟨cs3,f,rfl,ho,hv⟩ | ⟨ho,he⟩
   rotate_left
   ·subst he
    refine ⟨rfl,?_,qw.out.chain Kc.out⟩
    rw [xW.out,ho]
    exact rfl
   have HRG : Hid (R = G f):=hZ (by rw [xW.out,ho];rfl)
   have xw : cs3.size = N:=(js hv).1.trans HN.out.1.symm
   have HY:=hZ (aZ (js hv).2 (qeT hv))
   clear ho hv
   have Gc:=qo.out _ Kc.out
   refine hK _ _ Gc ?_
   clear hK K
   try simp only [qf]
   have LE : Hid (W1.heap.size <= xc.heap.size):=hZ Kc.out.size
   refine o1 9 (fun K hK => ?_)
   go_simp
   obtain ⟨y1,hx⟩ : ∃ X,X = xc.alloc (.cells zc T):=⟨_,rfl⟩
   rw [<- hx]
   have Bq : Hid (Below W1.heap.size W1 y1 /\ y1.heap[xc.heap.size]? = some (.cells zc T)):=hZ (by rw [hx];exact ⟨Kc.out.chain (qd _ _),qe _ _⟩)
   have Kq:=hZ Bq.out.1
   have Aq:=hZ Bq.out.2
   clear hx
   refine hK _ _ (qo.out _ Kq.out) ?_
   clear hK K
   try simp only [qf]
   have zv:=zl (cs:=cs3) Aq.out (HN.out.2.trans (HN.out.1.symm.trans xw.symm)) HY.out.1
   obtain ⟨xz,zZ⟩ : ∃ X,X = y1.setRow (xc.heap.size) cs3:=⟨_,rfl⟩
   have zL : W1.heap.size <= xc.heap.size:=by first | exact Nat.le_refl _ | exact LE.out
   have KZ : Hid (Below W1.heap.size W1 xz):=hZ (by rw [zZ];exact below_setRow Kq.out zL _)
   have PZ : Hid (xz.heap[xc.heap.size]? = some (.cells cs3 T)):=hZ (by rw [zZ];exact setRow_heap _ _ zc _ _ _ Aq.out)
   refine o1 10 (fun K hK => ?_)
   go_simp
   rw [<- zZ]
   clear zZ zv zL xw
   have gx:=qo.out _ KZ.out
   refine hK _ _ gx ?_
   clear hK K
   try simp only [qf]
   refine wpAnyH_done (by kernel_rfl) ?_ _
   go_wp2
   go_meet
   exact ⟨_,_,f,cs3,rfl,rfl,hZ ⟨PZ.out,KZ.out,HRG.out,HY.out.2⟩⟩
  ·go_simp
   obtain ⟨y1,hx⟩ : ∃ X,X = (W1.alloc (.cells zc T)).drew:=⟨_,rfl⟩
   rw [<- hx]
   have Bq : Hid (Below W1.heap.size W1 y1 /\ y1.heap[W1.heap.size]? = some (.cells zc T)):=hZ (by rw [hx];exact ⟨(qd _ _).drew,qe _ _⟩)
   have Kq:=hZ Bq.out.1
   have Aq:=hZ Bq.out.2
   clear hx
   refine hK _ _ (qo.out _ Kq.out) ?_
   clear hK K
   try simp only [qf]
   refine o1 8 (fun K hK => ?_)
   go_simp
   (with_reducible refine (qcp.out _ Kq.out).mono ?_)
   rintro e xd ⟨he,hb⟩
   have Kd:=hZ (Kq.out.chain hb)
   have Ad:=hZ (qg hb Aq.out)
   clear hb
   rcases he with ⟨cs3,f,rfl,ho,hv⟩ | ⟨ho,he⟩
   rotate_left
   ·subst he
    refine ⟨rfl,?_,qw.out.chain Kd.out⟩
    rw [xW.out,ho]
    exact rfl
   have HRG : Hid (R = G f):=hZ (by rw [xW.out,ho];rfl)
   have xw : cs3.size = N:=(js hv).1.trans HN.out.1.symm
   have HY:=hZ (aZ (js hv).2 (qeT hv))
   clear ho hv
   have Gd:=qo.out _ Kd.out
   refine hK _ _ Gd ?_
   clear hK K
   try simp only [qf]
   have zv:=zl (cs:=cs3) Ad.out (HN.out.2.trans (HN.out.1.symm.trans xw.symm)) HY.out.1
   obtain ⟨xz,zZ⟩ : ∃ X,X = xd.setRow (W1.heap.size) cs3:=⟨_,rfl⟩
   have zL : W1.heap.size <= W1.heap.size:=by first | exact Nat.le_refl _ | exact LE.out
   have KZ : Hid (Below W1.heap.size W1 xz):=hZ (by rw [zZ];exact below_setRow Kd.out zL _)
   have PZ : Hid (xz.heap[W1.heap.size]? = some (.cells cs3 T)):=hZ (by rw [zZ];exact setRow_heap _ _ zc _ _ _ Ad.out)
   refine o1 10 (fun K hK => ?_)
   go_simp
   rw [<- zZ]
   clear zZ zv zL xw
   have gx:=qo.out _ KZ.out
   refine hK _ _ gx ?_
   clear hK K
   try simp only [qf]
   refine wpAnyH_done (by kernel_rfl) ?_ _
   go_wp2
   go_meet
   exact ⟨_,_,f,cs3,rfl,rfl,hZ ⟨PZ.out,KZ.out,HRG.out,HY.out.2⟩⟩
 case rest =>
  obtain ⟨g,W,f,cs3,rfl,rfl,H⟩:=hcut
  obtain ⟨S2,hS2⟩ : ∃ S2 : World -> Prop,S2 = fun W' => Below W.heap.size W W':=⟨_,rfl⟩
  have HS3 : Hid (∀ W',Below W.heap.size W W' -> S2 W'):=hZ (fun W' hb => by rw [hS2];exact hb)
  have qbZ : Hid (∀ W',S2 W' -> ((W'.cell? ⟨w.heap.size,0,none⟩ = some (.pointer (some ⟨cb,0,none⟩)) /\ W'.cell? ⟨w.heap.size,1,none⟩ = some (.slice A n c) /\ W'.cell? ⟨w.heap.size,2,none⟩ = some (.slice D m dc) /\ W'.cell? ⟨w.heap.size,3,none⟩ = some (.slice E k ec)) /\ (W'.cell? ⟨w.heap.size + 1,3,none⟩ = some (.string ⟨nm.toArray⟩) /\ W'.cell? ⟨w.heap.size + 1,5,none⟩ = some (.string ⟨fr.toArray⟩) /\ W'.cell? ⟨cb,0,none⟩ = some (.slice d.r nr d.nr))) /\ W'.cell? ⟨g,0,none⟩ = some (.string ⟨f.nm.toArray⟩)):=hZ (fun W' hs => by
   rw [hS2] at hs
   exact ⟨zU.out W' (H.out.2.1.chain hs),qc (qg hs H.out.1) 0 H.out.2.2.2⟩)
  have X0:=hZ (Below.refl W.heap.size W).drew
  have gg:=HS3.out _ X0.out
  clear hS2 g0
  go_wp2
  refine wp_region_held (S:=S2) zE ?_
  change wpAnyH _ _ _ _ _ 10 #[false,false,false,false,false,false,false,false,false,false] _ W.drew
  refine tk 0 14 (zT cb A n c D m dc E k ec) gg ?v ?_
  case v => intro Wx hSx;obtain ⟨⟨⟨a0,a1,a2,a3⟩,b0,b1,b2⟩,x0⟩:=qbZ.out Wx hSx;go_simp
  refine tk 1 15 (.pointer (some ⟨w.heap.size + 1,3,none⟩)) gg ?v ?_
  case v => intro Wx hSx;go_simp
  refine tk 2 16 (.string ⟨nm.toArray⟩) gg ?v ?_
  case v => intro Wx hSx;obtain ⟨⟨⟨a0,a1,a2,a3⟩,b0,b1,b2⟩,x0⟩:=qbZ.out Wx hSx;go_simp
  refine tk 4 18 (.pointer (some ⟨g,0,none⟩)) gg ?v ?_
  case v => intro Wx hSx;go_simp
  try simp only [qf]
  refine tk 5 19 (.string ⟨f.nm.toArray⟩) gg ?v ?_
  case v => intro Wx hSx;obtain ⟨⟨⟨a0,a1,a2,a3⟩,b0,b1,b2⟩,x0⟩:=qbZ.out Wx hSx;go_simp
  refine tk 7 21 (.pointer (some ⟨w.heap.size + 1,3,none⟩)) gg ?v ?_
  case v => intro Wx hSx;go_simp
  refine tk 8 22 (.string ⟨nm.toArray⟩) gg ?v ?_
  case v => intro Wx hSx;obtain ⟨⟨⟨a0,a1,a2,a3⟩,b0,b1,b2⟩,x0⟩:=qbZ.out Wx hSx;go_simp
  try simp only [qf]
  refine o1 3 (fun K hK => ?_)
  go_simp
  (with_reducible refine (HT.out _ (H.out.2.1.chain X0.out)).mono ?_)
  rintro ee w3 ⟨he,qt⟩
  have H3:=hZ (X0.out.chain qt)
  clear qt
  cases r1 with
  | error t2 =>
    obtain rfl : ee = _:=he
    exact ⟨rfl,by rw [H.out.2.2.1,HG.out];exact rfl,qw.out.chain (H.out.2.1.chain H3.out)⟩
  | ok t =>
  obtain rfl : ee = _:=he
  have g3:=HS3.out _ H3.out
  refine hK _ _ g3 ?_
  clear hK K
  try simp only [qf]
  obtain ⟨v,hv⟩ : ∃ v,v = (t == f.nm):=⟨_,rfl⟩
  have HV : Hid (R = zQ v 9 nm):=hZ (by rw [H.out.2.2.1,HG.out,hv];rfl)
  have hv':=hv.symm
  clear hv
  refine tk 6 20 (.bool v) g3 ?v ?_
  case v => intro Wx hSx;go_simp
  clear hv'
  try simp only [qf]
  refine o1 9 (fun K hK => ?_)
  go_simp
  (with_reducible refine (qU v 9 nm w3).mono ?_)
  rintro ee w5 ⟨he,hw⟩
  subst hw
  cases v
  ·obtain rfl : ee = _:=he
   exact ⟨rfl,by rw [HV.out];exact rfl,qw.out.chain (H.out.2.1.chain H3.out)⟩
  ·obtain rfl : ee = _:=he
   refine hK _ _ (HS3.out _ H3.out) ?_
   clear hK K
   refine wpAnyH_done (by kernel_rfl) ?_ _
   go_wp2
   exact bodyPost_end (results_none rfl _ _ _) rfl ⟨by rw [HV.out];exact rfl,qw.out.chain (H.out.2.1.chain H3.out)⟩
end
section
set_option maxRecDepth 100000
set_option maxHeartbeats 16000000
open Go.RowKit Go.Lib
theorem qlD {w w' : World} {B : Nat} (hk : ∀ q : Addr,q.block < B -> w'.cell? q = w.cell? q) {l : List Pm} {A : Option Addr} (h : qD zp 2 w B l A) : qD zp 2 w' B l A:=by
 intro i x hi
 obtain ⟨a,cs,h1,h2,h3,h4,h5⟩:=h i x hi
 exact ⟨a,cs,h1,h2,h3,fun j v hv => (hk _ (by rw [qm,qm];exact h2)).trans (h4 j v hv),h5⟩
theorem VarsAt.top {w : World} {B : Nat} {sc br : List Pm} {A : Option Addr} {n : Nat} {D : Option Addr} {m : Nat} (h : VarsAt w B sc br A n D m) : VarsAt w w.heap.size sc br A n D m :=
 ⟨h.hn,h.hm,h.hn2,h.hm2,Nat.le_refl _,xN h.hB h.r1,xN h.hB h.r2⟩
theorem qgd (p : Pg) (d : GAd) (B0 cb : Nat) (x : Cal) (Al : Option Addr) (nl cl : Nat) (yL : nl = x.l.length) (hml : x.l.length <= maxLen)
 (sc br asn : List Pm) (A : Option Addr) (n c : Nat) (D : Option Addr) (m dc : Nat) (E : Option Addr) (k ec : Nat) (B1 : Nat) (q : Int × Int) (w : World) (hr : ExRow w B0 x.l Al) (hV : BodyAt w B1 cb sc br asn A n D m E k) (hC : ChkW w B0 cb d p q) :
 Calls Tryz.prog 165 #[zT cb A n c D m dc E k ec,.agg #[.string ⟨x.r.toArray⟩,.string ⟨x.p.toArray⟩,.slice Al nl cl]] w (qV (qag p sc br asn x) w):=by
 obtain ⟨T,N,zc,hT,hN,zd,-,hag,qK,yR⟩:=qaG
 have e2 : ∀ y z : Operand,Op.store 46 y z = Op.store T y z:=fun y z => by rw [hT]
 have e3 : Op.alloc 46 = Op.alloc T:=by rw [hT]
 have qz : B0 <= w.heap.size:=Nat.le_trans hC.le (Nat.le_of_lt hC.lt)
 obtain ⟨nx,hnx⟩ : ∃ nx,nx = p.xs.length:=⟨_,rfl⟩
 obtain ⟨cr,hcr⟩ : ∃ s,s = x.r:=⟨_,rfl⟩
 obtain ⟨cp,hcp⟩ : ∃ s,s = x.p:=⟨_,rfl⟩
 rw [<- hcr,<- hcp]
 obtain ⟨W1,qh⟩ : ∃ W1,W1 = (w.alloc (qS cb A n c D m dc E k ec)).alloc (.cells #[.string ⟨cr.toArray⟩,.string ⟨cp.toArray⟩,.slice Al nl cl] 217):=⟨_,rfl⟩
 have qk : Below w.heap.size w W1:=by rw [qh];exact (qd w _).chain (qd _ _)
 have q1:=qr (o:=.cells #[.string ⟨cr.toArray⟩,.string ⟨cp.toArray⟩,.slice Al nl cl] 217) (qe w (qS cb A n c D m dc E k ec))
 have q2:=qe (w.alloc (qS cb A n c D m dc E k ec)) (.cells #[.string ⟨cr.toArray⟩,.string ⟨cp.toArray⟩,.slice Al nl cl] 217)
 rw [qj] at q2
 rw [<- qh] at q1 q2
 have zU : Hid (∀ W,Below W1.heap.size W1 W -> (W.cell? ⟨w.heap.size,0,none⟩ = some (.pointer (some ⟨cb,0,none⟩)) /\ W.cell? ⟨w.heap.size,1,none⟩ = some (.slice A n c) /\ W.cell? ⟨w.heap.size,2,none⟩ = some (.slice D m dc) /\ W.cell? ⟨w.heap.size,3,none⟩ = some (.slice E k ec)) /\ (W.cell? ⟨w.heap.size + 1,0,none⟩ = some (.string ⟨cr.toArray⟩) /\ W.cell? ⟨w.heap.size + 1,1,none⟩ = some (.string ⟨cp.toArray⟩) /\ W.cell? ⟨w.heap.size + 1,2,none⟩ = some (.slice Al nl cl) /\ W.cell? ⟨cb,5,none⟩ = some (.slice d.x nx d.nx))):=hZ (fun W hb => by
  have p1:=qg hb q1
  have p2:=qg hb q2
  exact ⟨⟨qc p1 0 rfl,qc p1 1 rfl,qc p1 2 rfl,qc p1 3 rfl⟩,⟨qc p2 0 rfl,qc p2 1 rfl,qc p2 2 rfl,by rw [hnx];exact (hC.on (qk.chain hb)).at_.c5⟩⟩)
 obtain ⟨ro,hro⟩ : ∃ r,r = qG (fun z : Pr => z.nm) p.xs cp:=⟨_,rfl⟩
 obtain ⟨r1,yO⟩ : ∃ r,r = jV sc asn cr:=⟨_,rfl⟩
 have zo : Hid (B0 <= w.heap.size):=hZ qz
 have qcp : Hid (∀ W,Below W1.heap.size W1 W -> Calls Tryz.prog 196 #[.slice d.x nx d.nx,.string ⟨cp.toArray⟩,.func (.func 43) #[] #[]] W (jr xP cp ro B0 W)):=hZ (fun W hb => by
  have hk:=hC.on (qk.chain hb)
  rw [hnx,hro]
  exact qqH 43 (enters_of Tryz.func43 (by kernel_rfl) rfl) (·.nm) qlQ cp p.xs d.x d.nx p.xs.length rfl hk.own.1.2.2.2.2.2 B0 W (Nat.le_trans hk.le (Nat.le_of_lt hk.lt)) (qde hk.own.2.2.2.2.2.2))
 have HT : Hid (∀ W,Below W1.heap.size W1 W -> Calls Tryz.prog 164 #[zT cb A n c D m dc E k ec,.string ⟨cr.toArray⟩] W (jH r1 W)):=hZ (fun W hb => by
  rw [yO]
  exact qbB cb cr sc br asn A n c D m dc E k ec B1 W (hV.on (qk.chain hb)))
 have HA : Hid (∀ W (ps : List Pm) (P : Option Addr) (kp np : Nat),Below W1.heap.size W1 W -> np = ps.length -> ps.length <= maxLen -> qD zp 2 W B0 ps P -> Calls Tryz.prog 82 #[jw A n c D m dc,.slice Al nl cl,.slice P np kp,.string ⟨cp.toArray⟩] W (qV (jp sc br cp x.l ps) W)):=hZ (fun W ps P kp np hb jS hmp hP => by
  have yA:=qk.chain hb
  exact qkR sc br A n c D m dc W.heap.size cp x.l Al cl nl yL (by rw [yL];exact hml) ps P kp np jS (by rw [jS];exact hmp) W (hV.on yA).v.top (hr.keep (fun q hq => yA.cell (Nat.lt_of_lt_of_le hq qz)) (Nat.le_trans qz yA.size)) (xN (Nat.le_trans qz yA.size) hP))
 obtain ⟨R,hR⟩ : ∃ R,R = qag p sc br asn x:=⟨_,rfl⟩
 obtain ⟨G,hG⟩ : ∃ G : Pr -> Ck,G = fun y => zw (jp sc br cp x.l y.ps) (if cr = [] then none else zy r1 fun t => zQ (t == y.rt) 9 cr):=⟨_,rfl⟩
 have xW : Hid (R = zy (xx ro cp 7) G):=hZ (by rw [hR,hro,hG,yO,hcr,hcp];rfl)
 have HG:=hZ hG
 rw [<- hR]
 have qw:=hZ qk
 have HN:=hZ (aZ hN zd)
 have zE : Tryz.prog.follows .mixedOrders = true:=by kernel_rfl
 obtain ⟨S,hS⟩ : ∃ S : World -> Prop,S = fun W => Below W1.heap.size W1 W:=⟨_,rfl⟩
 have qo : Hid (∀ W,Below W1.heap.size W1 W -> S W):=hZ (fun W hb => by rw [hS];exact hb)
 have qX : Hid (∀ W,S W -> (W.cell? ⟨w.heap.size,0,none⟩ = some (.pointer (some ⟨cb,0,none⟩)) /\ W.cell? ⟨w.heap.size,1,none⟩ = some (.slice A n c) /\ W.cell? ⟨w.heap.size,2,none⟩ = some (.slice D m dc) /\ W.cell? ⟨w.heap.size,3,none⟩ = some (.slice E k ec)) /\ (W.cell? ⟨w.heap.size + 1,0,none⟩ = some (.string ⟨cr.toArray⟩) /\ W.cell? ⟨w.heap.size + 1,1,none⟩ = some (.string ⟨cp.toArray⟩) /\ W.cell? ⟨w.heap.size + 1,2,none⟩ = some (.slice Al nl cl) /\ W.cell? ⟨cb,5,none⟩ = some (.slice d.x nx d.nx))):=hZ (fun W hs => by rw [hS] at hs;exact zU.out W hs)
 have ze:=hZ (Below.refl W1.heap.size W1).drew
 have g0:=qo.out _ ze.out
 clear hV hC qk q1 q2 hN zd hro yO hR hG hS qz hnx hcr hcp hr yL hml
 go_enter Tryz.func165,Tryz.ntmps165
 simp only [e2,e3]
 clear e2 e3 hT
 go_upto_region 1 with fail
 rw [<- qh]
 clear qh
 go_cut [4] from 5 to 13 (fun v4 wx => ∃ (g : Nat) (W : World) (f : Pr) (cs3 : Array Value) (P : Option Addr) (kp np : Nat),W = wx /\ v4 = .pointer (some ⟨g,0,none⟩) /\ Hid (W.heap[g]? = some (.cells cs3 T) /\ Below W1.heap.size W1 W /\ R = G f /\ cs3[3]? = some (.slice P np kp) /\ cs3[5]? = some (.string ⟨f.rt.toArray⟩) /\ np = f.ps.length /\ f.ps.length <= maxLen /\ qD zp 2 W B0 f.ps P))
 case first =>
  refine wp_region_held (S:=S) zE ?_
  change wpAnyH _ _ _ _ _ 11 #[false,false,false,false,false,false,false,false,false,false,false] _ W1.drew
  refine tk 0 5 (.pointer (some ⟨w.heap.size,0,none⟩)) g0 ?v ?_
  case v => intro Wx hSx;go_simp
  refine tk 1 6 (.pointer (some ⟨cb,0,none⟩)) g0 ?v ?_
  case v => intro Wx hSx;obtain ⟨⟨a0,a1,a2,a3⟩,b0,b1,b2,b3⟩:=qX.out Wx hSx;go_simp
  refine tk 2 7 (.pointer (some ⟨cb,0,none⟩)) g0 ?v ?_
  case v => intro Wx hSx;go_simp
  refine tk 3 8 (.pointer (some ⟨cb,0,none⟩)) g0 ?v ?_
  case v => intro Wx hSx;go_simp
  try simp only [qf]
  refine tk 4 9 (.pointer (some ⟨cb,5,none⟩)) g0 ?v ?_
  case v => intro Wx hSx;go_simp
  refine tk 5 10 (.slice d.x nx d.nx) g0 ?v ?_
  case v => intro Wx hSx;obtain ⟨⟨a0,a1,a2,a3⟩,b0,b1,b2,b3⟩:=qX.out Wx hSx;go_simp
  refine tk 6 11 (.pointer (some ⟨w.heap.size + 1,1,none⟩)) g0 ?v ?_
  case v => intro Wx hSx;go_simp
  refine tk 7 12 (.string ⟨cp.toArray⟩) g0 ?v ?_
  case v => intro Wx hSx;obtain ⟨⟨a0,a1,a2,a3⟩,b0,b1,b2,b3⟩:=qX.out Wx hSx;go_simp
  try simp only [qf]
  try simp only [qf]
  refine zM 8 9 (by kernel_rfl) rfl rfl (by kernel_rfl) (by kernel_rfl) (fun K hK => ?_) (fun K hK => ?_)
  ·go_simp
   (with_reducible refine (qcp.out _ ze.out).mono ?_)
   rintro e xc ⟨he,hb⟩
   have Kc:=hZ (ze.out.chain hb)
   clear hb
   rcases he with ⟨cs3,f,rfl,ho,hv⟩ | ⟨ho,he⟩
   rotate_left
   ·subst he
    refine ⟨rfl,?_,qw.out.chain Kc.out⟩
    rw [xW.out,ho]
    exact rfl
   have HRG : Hid (R = G f):=hZ (by rw [xW.out,ho];rfl)
   have xw : cs3.size = N:=(qbA hv).trans HN.out.1.symm
   have HY:=hZ (qaA hv)
   obtain ⟨dp,hdp,how⟩:=hv
   have HP:=hZ (aZ hdp (aZ how.1.2.1 (zm how.2.1)))
   clear ho hdp how
   have Gc:=qo.out _ Kc.out
   refine hK _ _ Gc ?_
   clear hK K
   try simp only [qf]
   have LE : Hid (W1.heap.size <= xc.heap.size):=hZ Kc.out.size
   refine o1 9 (fun K hK => ?_)
   go_simp
   obtain ⟨y1,hx⟩ : ∃ X,X = xc.alloc (.cells zc T):=⟨_,rfl⟩
   rw [<- hx]
   have Bq : Hid (Below W1.heap.size W1 y1 /\ y1.heap[xc.heap.size]? = some (.cells zc T)):=hZ (by rw [hx];exact ⟨Kc.out.chain (qd _ _),qe _ _⟩)
   have Kq:=hZ Bq.out.1
   have Aq:=hZ Bq.out.2
   clear hx
   refine hK _ _ (qo.out _ Kq.out) ?_
   clear hK K
   try simp only [qf]
   have zv:=zl (cs:=cs3) Aq.out ((HN.out.2.trans xw.symm)) HY.out
   obtain ⟨xz,zZ⟩ : ∃ X,X = y1.setRow (xc.heap.size) cs3:=⟨_,rfl⟩
   have zL : W1.heap.size <= xc.heap.size:=by first | exact Nat.le_refl _ | exact LE.out
   have KZ : Hid (Below W1.heap.size W1 xz):=hZ (by rw [zZ];exact below_setRow Kq.out zL _)
   have PZ : Hid (xz.heap[xc.heap.size]? = some (.cells cs3 T)):=hZ (by rw [zZ];exact setRow_heap _ _ zc _ _ _ Aq.out)
   have RZ : Hid (qD zp 2 xz B0 f.ps dp.p):=hZ (qlD (fun z hz => by have hz1:=Nat.lt_of_lt_of_le hz (Nat.le_trans zo.out qw.out.size);exact (KZ.out.cell hz1).trans (Kc.out.cell hz1).symm) HP.out.2.2)
   refine o1 10 (fun K hK => ?_)
   go_simp
   rw [<- zZ]
   clear zZ zv zL xw
   have gx:=qo.out _ KZ.out
   refine hK _ _ gx ?_
   clear hK K
   try simp only [qf]
   refine wpAnyH_done (by kernel_rfl) ?_ _
   go_wp2
   go_meet
   exact ⟨_,_,f,cs3,dp.p,dp.np,_,rfl,rfl,hZ ⟨PZ.out,KZ.out,HRG.out,by rw [HP.out.1];rfl,by rw [HP.out.1];rfl,rfl,HP.out.2.1,RZ.out⟩⟩
  ·go_simp
   obtain ⟨y1,hx⟩ : ∃ X,X = (W1.alloc (.cells zc T)).drew:=⟨_,rfl⟩
   rw [<- hx]
   have Bq : Hid (Below W1.heap.size W1 y1 /\ y1.heap[W1.heap.size]? = some (.cells zc T)):=hZ (by rw [hx];exact ⟨(qd _ _).drew,qe _ _⟩)
   have Kq:=hZ Bq.out.1
   have Aq:=hZ Bq.out.2
   clear hx
   refine hK _ _ (qo.out _ Kq.out) ?_
   clear hK K
   try simp only [qf]
   refine o1 8 (fun K hK => ?_)
   go_simp
   (with_reducible refine (qcp.out _ Kq.out).mono ?_)
   rintro e xd ⟨he,hb⟩
   have Kd:=hZ (Kq.out.chain hb)
   have Ad:=hZ (qg hb Aq.out)
   clear hb
   rcases he with ⟨cs3,f,rfl,ho,hv⟩ | ⟨ho,he⟩
   rotate_left
   ·subst he
    refine ⟨rfl,?_,qw.out.chain Kd.out⟩
    rw [xW.out,ho]
    exact rfl
   have HRG : Hid (R = G f):=hZ (by rw [xW.out,ho];rfl)
   have xw : cs3.size = N:=(qbA hv).trans HN.out.1.symm
   have HY:=hZ (qaA hv)
   obtain ⟨dp,hdp,how⟩:=hv
   have HP:=hZ (aZ hdp (aZ how.1.2.1 (zm how.2.1)))
   clear ho hdp how
   have Gd:=qo.out _ Kd.out
   refine hK _ _ Gd ?_
   clear hK K
   try simp only [qf]
   have zv:=zl (cs:=cs3) Ad.out ((HN.out.2.trans xw.symm)) HY.out
   obtain ⟨xz,zZ⟩ : ∃ X,X = xd.setRow (W1.heap.size) cs3:=⟨_,rfl⟩
   have zL : W1.heap.size <= W1.heap.size:=by first | exact Nat.le_refl _ | exact LE.out
   have KZ : Hid (Below W1.heap.size W1 xz):=hZ (by rw [zZ];exact below_setRow Kd.out zL _)
   have PZ : Hid (xz.heap[W1.heap.size]? = some (.cells cs3 T)):=hZ (by rw [zZ];exact setRow_heap _ _ zc _ _ _ Ad.out)
   have RZ : Hid (qD zp 2 xz B0 f.ps dp.p):=hZ (qlD (fun z hz => by have hz1:=Nat.lt_of_lt_of_le hz (Nat.le_trans zo.out qw.out.size);exact (KZ.out.cell hz1).trans (Kd.out.cell hz1).symm) HP.out.2.2)
   refine o1 10 (fun K hK => ?_)
   go_simp
   rw [<- zZ]
   clear zZ zv zL xw
   have gx:=qo.out _ KZ.out
   refine hK _ _ gx ?_
   clear hK K
   try simp only [qf]
   refine wpAnyH_done (by kernel_rfl) ?_ _
   go_wp2
   go_meet
   exact ⟨_,_,f,cs3,dp.p,dp.np,_,rfl,rfl,hZ ⟨PZ.out,KZ.out,HRG.out,by rw [HP.out.1];rfl,by rw [HP.out.1];rfl,rfl,HP.out.2.1,RZ.out⟩⟩
 case rest =>
  obtain ⟨g,W,f,cs3,P,kp,np,rfl,rfl,H⟩:=hcut
  obtain ⟨⟨a0,a1,a2,a3⟩,b0,b1,b2,-⟩:=zU.out _ H.out.2.1
  have y3:=qc H.out.1 3 H.out.2.2.2.1
  obtain ⟨ra,hra⟩ : ∃ r,r = jp sc br cp x.l f.ps:=⟨_,rfl⟩
  have HA1:=hZ (HA.out W f.ps P kp np H.out.2.1 H.out.2.2.2.2.2.1 H.out.2.2.2.2.2.2.1 H.out.2.2.2.2.2.2.2)
  rw [<- hra] at HA1
  have HR2 : Hid (R = zw ra (if cr = [] then none else zy r1 fun t => zQ (t == f.rt) 9 cr)):=hZ (by rw [H.out.2.2.1,HG.out,hra])
  clear hra g0
  go_wp2_with fail
  clear a0 a1 a2 a3 b0 b1 b2 y3
  (with_reducible refine HA1.out.mono ?_)
  rintro ee w3 ⟨he,qt⟩
  have H3:=hZ (H.out.2.1.chain qt)
  have qO:=hZ (qg qt H.out.1)
  clear qt
  cases ra with
  | some t2 =>
    obtain rfl : ee = _:=he
    exact ⟨rfl,by rw [HR2.out];exact rfl,qw.out.chain H3.out⟩
  | none =>
  obtain rfl : ee = _:=he
  obtain ⟨-,b0,-⟩:=zU.out _ H3.out
  by_cases hz : cr = []
  ·subst hz
   go_wp2
   exact bodyPost_end (results_none rfl _ _ _) rfl ⟨by rw [HR2.out];exact rfl,qw.out.chain H3.out⟩
  have hzb : (cr == []) = false:=beq_eq_false_iff_ne.2 hz
  have HR3 : Hid (R = zy r1 fun t => zQ (t == f.rt) 9 cr):=hZ (by rw [HR2.out,if_neg hz];rfl)
  obtain ⟨S2,hS2⟩ : ∃ S2 : World -> Prop,S2 = fun W' => Below w3.heap.size w3 W':=⟨_,rfl⟩
  have HS3 : Hid (∀ W',Below w3.heap.size w3 W' -> S2 W'):=hZ (fun W' hb => by rw [hS2];exact hb)
  have qbZ : Hid (∀ W',S2 W' -> ((W'.cell? ⟨w.heap.size,0,none⟩ = some (.pointer (some ⟨cb,0,none⟩)) /\ W'.cell? ⟨w.heap.size,1,none⟩ = some (.slice A n c) /\ W'.cell? ⟨w.heap.size,2,none⟩ = some (.slice D m dc) /\ W'.cell? ⟨w.heap.size,3,none⟩ = some (.slice E k ec)) /\ (W'.cell? ⟨w.heap.size + 1,0,none⟩ = some (.string ⟨cr.toArray⟩) /\ W'.cell? ⟨w.heap.size + 1,1,none⟩ = some (.string ⟨cp.toArray⟩) /\ W'.cell? ⟨w.heap.size + 1,2,none⟩ = some (.slice Al nl cl) /\ W'.cell? ⟨cb,5,none⟩ = some (.slice d.x nx d.nx))) /\ W'.cell? ⟨g,5,none⟩ = some (.string ⟨f.rt.toArray⟩)):=hZ (fun W' hs => by
   rw [hS2] at hs
   exact ⟨zU.out W' (H3.out.chain hs),qc (qg hs qO.out) 5 H.out.2.2.2.2.1⟩)
  have X0:=hZ (Below.refl w3.heap.size w3).drew
  have gg:=HS3.out _ X0.out
  clear hS2 hz
  go_wp2
  clear hzb b0
  refine wp_region_held (S:=S2) zE ?_
  change wpAnyH _ _ _ _ _ 11 #[false,false,false,false,false,false,false,false,false,false,false] _ w3.drew
  refine tk 0 26 (zT cb A n c D m dc E k ec) gg ?v ?_
  case v => intro Wx hSx;obtain ⟨⟨⟨a0,a1,a2,a3⟩,b0,b1,b2,b3⟩,x0⟩:=qbZ.out Wx hSx;go_simp
  refine tk 1 27 (.pointer (some ⟨w.heap.size + 1,0,none⟩)) gg ?v ?_
  case v => intro Wx hSx;go_simp
  refine tk 2 28 (.string ⟨cr.toArray⟩) gg ?v ?_
  case v => intro Wx hSx;obtain ⟨⟨⟨a0,a1,a2,a3⟩,b0,b1,b2,b3⟩,x0⟩:=qbZ.out Wx hSx;go_simp
  refine tk 4 30 (.pointer (some ⟨g,5,none⟩)) gg ?v ?_
  case v => intro Wx hSx;go_simp
  try simp only [qf]
  refine tk 5 31 (.pointer (some ⟨g,5,none⟩)) gg ?v ?_
  case v => intro Wx hSx;go_simp
  refine tk 6 32 (.string ⟨f.rt.toArray⟩) gg ?v ?_
  case v => intro Wx hSx;obtain ⟨⟨⟨a0,a1,a2,a3⟩,b0,b1,b2,b3⟩,x0⟩:=qbZ.out Wx hSx;go_simp
  refine tk 8 34 (.pointer (some ⟨w.heap.size + 1,0,none⟩)) gg ?v ?_
  case v => intro Wx hSx;go_simp
  refine tk 9 35 (.string ⟨cr.toArray⟩) gg ?v ?_
  case v => intro Wx hSx;obtain ⟨⟨⟨a0,a1,a2,a3⟩,b0,b1,b2,b3⟩,x0⟩:=qbZ.out Wx hSx;go_simp
  try simp only [qf]
  try simp only [qf]
  refine o1 3 (fun K hK => ?_)
  go_simp
  (with_reducible refine (HT.out _ (H3.out.chain X0.out)).mono ?_)
  rintro ee w4 ⟨he,qt⟩
  have H4:=hZ (X0.out.chain qt)
  clear qt
  cases r1 with
  | error t2 =>
    obtain rfl : ee = _:=he
    exact ⟨rfl,by rw [HR3.out];exact rfl,qw.out.chain (H3.out.chain H4.out)⟩
  | ok t =>
  obtain rfl : ee = _:=he
  have g3:=HS3.out _ H4.out
  refine hK _ _ g3 ?_
  clear hK K
  try simp only [qf]
  obtain ⟨v,hv⟩ : ∃ v,v = (t == f.rt):=⟨_,rfl⟩
  have HV : Hid (R = zQ v 9 cr):=hZ (by rw [HR3.out,hv];rfl)
  have hv':=hv.symm
  clear hv
  refine tk 7 33 (.bool v) g3 ?v ?_
  case v => intro Wx hSx;go_simp
  clear hv'
  try simp only [qf]
  refine o1 10 (fun K hK => ?_)
  go_simp
  (with_reducible refine (qU v 9 cr w4).mono ?_)
  rintro ee w5 ⟨he,hw⟩
  subst hw
  cases v
  ·obtain rfl : ee = _:=he
   exact ⟨rfl,by rw [HV.out];exact rfl,qw.out.chain (H3.out.chain H4.out)⟩
  ·obtain rfl : ee = _:=he
   refine hK _ _ (HS3.out _ H4.out) ?_
   clear hK K
   refine wpAnyH_done (by kernel_rfl) ?_ _
   go_wp2
   exact bodyPost_end (results_none rfl _ _ _) rfl ⟨by rw [HV.out];exact rfl,qw.out.chain (H3.out.chain H4.out)⟩
end
section
set_option maxRecDepth 100000
set_option maxHeartbeats 16000000
open Go.RowKit Go.Lib
theorem qq2 (p : Pg) (d : GAd) (B0 cb : Nat) (x y : Cal) (Al : Option Addr) (nl cl : Nat) (yL : nl = x.l.length) (hml : x.l.length <= maxLen) (Bl : Option Addr) (ml kl : Nat) (hnk : ml = y.l.length) (hmk : y.l.length <= maxLen)
 (sc br asn : List Pm) (A : Option Addr) (n c : Nat) (D : Option Addr) (m dc : Nat) (E : Option Addr) (k ec : Nat) (B1 : Nat) (q : Int × Int) (w : World) (hr : ExRow w B0 x.l Al) (hr' : ExRow w B0 y.l Bl) (hV : BodyAt w B1 cb sc br asn A n D m E k) (hC : ChkW w B0 cb d p q) :
 Calls Tryz.prog 168 #[zT cb A n c D m dc E k ec,.agg #[.string ⟨x.r.toArray⟩,.string ⟨x.p.toArray⟩,.slice Al nl cl],.agg #[.string ⟨y.r.toArray⟩,.string ⟨y.p.toArray⟩,.slice Bl ml kl]] w (qV (qg6 p sc br asn x y) w):=by
 have qz : B0 <= w.heap.size:=Nat.le_trans hC.le (Nat.le_of_lt hC.lt)
 obtain ⟨xr,hxr⟩ : ∃ s,s = x.r:=⟨_,rfl⟩
 obtain ⟨yr,hyr⟩ : ∃ s,s = y.r:=⟨_,rfl⟩
 rw [<- hxr,<- hyr]
 obtain ⟨W1,qh⟩ : ∃ W1,W1 = ((w.alloc (qS cb A n c D m dc E k ec)).alloc (.cells #[.string ⟨xr.toArray⟩,.string ⟨x.p.toArray⟩,.slice Al nl cl] 217)).alloc (.cells #[.string ⟨yr.toArray⟩,.string ⟨y.p.toArray⟩,.slice Bl ml kl] 217):=⟨_,rfl⟩
 have qk : Below w.heap.size w W1:=by rw [qh];exact ((qd w _).chain (qd _ _)).chain (qd _ _)
 have q1:=qr (o:=.cells #[.string ⟨yr.toArray⟩,.string ⟨y.p.toArray⟩,.slice Bl ml kl] 217) (qr (o:=.cells #[.string ⟨xr.toArray⟩,.string ⟨x.p.toArray⟩,.slice Al nl cl] 217) (qe w (qS cb A n c D m dc E k ec)))
 have q2:=qr (o:=.cells #[.string ⟨yr.toArray⟩,.string ⟨y.p.toArray⟩,.slice Bl ml kl] 217) (qe (w.alloc (qS cb A n c D m dc E k ec)) (.cells #[.string ⟨xr.toArray⟩,.string ⟨x.p.toArray⟩,.slice Al nl cl] 217))
 have q3:=qe ((w.alloc (qS cb A n c D m dc E k ec)).alloc (.cells #[.string ⟨xr.toArray⟩,.string ⟨x.p.toArray⟩,.slice Al nl cl] 217)) (.cells #[.string ⟨yr.toArray⟩,.string ⟨y.p.toArray⟩,.slice Bl ml kl] 217)
 rw [qj] at q2 q3
 rw [qj] at q3
 rw [<- qh] at q1 q2 q3
 have zU : Hid (∀ W,Below W1.heap.size W1 W -> (W.cell? ⟨w.heap.size,0,none⟩ = some (.pointer (some ⟨cb,0,none⟩)) /\ W.cell? ⟨w.heap.size,1,none⟩ = some (.slice A n c) /\ W.cell? ⟨w.heap.size,2,none⟩ = some (.slice D m dc) /\ W.cell? ⟨w.heap.size,3,none⟩ = some (.slice E k ec)) /\ (W.cell? ⟨w.heap.size + 1,0,none⟩ = some (.string ⟨xr.toArray⟩) /\ W.cell? ⟨w.heap.size + 1,1,none⟩ = some (.string ⟨x.p.toArray⟩) /\ W.cell? ⟨w.heap.size + 1,2,none⟩ = some (.slice Al nl cl)) /\ W.cell? ⟨w.heap.size + 1 + 1,0,none⟩ = some (.string ⟨yr.toArray⟩) /\ W.cell? ⟨w.heap.size + 1 + 1,1,none⟩ = some (.string ⟨y.p.toArray⟩) /\ W.cell? ⟨w.heap.size + 1 + 1,2,none⟩ = some (.slice Bl ml kl)):=hZ (fun W hb => by
  have p1:=qg hb q1
  have p2:=qg hb q2
  have p3:=qg hb q3
  exact ⟨⟨qc p1 0 rfl,qc p1 1 rfl,qc p1 2 rfl,qc p1 3 rfl⟩,⟨qc p2 0 rfl,qc p2 1 rfl,qc p2 2 rfl⟩,qc p3 0 rfl,qc p3 1 rfl,qc p3 2 rfl⟩)
 have HX : Hid (∀ W,Below W1.heap.size W1 W -> Calls Tryz.prog 165 #[zT cb A n c D m dc E k ec,.agg #[.string ⟨xr.toArray⟩,.string ⟨x.p.toArray⟩,.slice Al nl cl]] W (qV (qag p sc br asn x) W)):=hZ (fun W hb => by
  have yA:=qk.chain hb
  rw [hxr]
  exact qgd p d B0 cb x Al nl cl yL hml sc br asn A n c D m dc E k ec B1 q W (hr.keep (fun q hq => yA.cell (Nat.lt_of_lt_of_le hq qz)) (Nat.le_refl _)) (hV.on yA) (hC.on yA))
 have HY : Hid (∀ W,Below W1.heap.size W1 W -> Calls Tryz.prog 165 #[zT cb A n c D m dc E k ec,.agg #[.string ⟨yr.toArray⟩,.string ⟨y.p.toArray⟩,.slice Bl ml kl]] W (qV (qag p sc br asn y) W)):=hZ (fun W hb => by
  have yA:=qk.chain hb
  rw [hyr]
  exact qgd p d B0 cb y Bl ml kl hnk hmk sc br asn A n c D m dc E k ec B1 q W (hr'.keep (fun q hq => yA.cell (Nat.lt_of_lt_of_le hq qz)) (Nat.le_refl _)) (hV.on yA) (hC.on yA))
 obtain ⟨r1,yO⟩ : ∃ r,r = qag p sc br asn x:=⟨_,rfl⟩
 obtain ⟨r2,zW⟩ : ∃ r,r = qag p sc br asn y:=⟨_,rfl⟩
 obtain ⟨R,hR⟩ : ∃ R,R = qg6 p sc br asn x y:=⟨_,rfl⟩
 have HR : Hid (R = zw r1 (zw r2 (zQ (xr == [] || !(xr == yr)) 8 xr))):=hZ (by rw [hR,yO,zW,hxr,hyr];rfl)
 rw [<- yO] at HX
 rw [<- zW] at HY
 rw [<- hR]
 have qw:=hZ qk
 obtain ⟨⟨a0,a1,a2,a3⟩,⟨b0,b1,b2⟩,d0,d1,d2⟩:=zU.out _ (Below.refl _ _)
 clear hV hC qk q1 q2 q3 yO zW hR qz hr hr' yL hml hnk hmk hxr hyr
 go_enter Tryz.func168,Tryz.ntmps168
 rw [qh] at a0 a1 a2 a3 b0 b1 b2 d0 d1 d2
 go_wp2_with fail
 rw [<- qh]
 clear qh a0 a1 a2 a3 b0 b1 b2 d0 d1 d2
 (with_reducible refine (HX.out _ (Below.refl _ _)).mono ?_)
 rintro ee w2 ⟨he,zF⟩
 have H2:=hZ zF
 clear zF
 cases r1 with
 | some t =>
   obtain rfl : ee = _:=he
   exact ⟨rfl,by rw [HR.out];exact rfl,qw.out.chain H2.out⟩
 | none =>
 obtain rfl : ee = _:=he
 obtain ⟨⟨a0,a1,a2,a3⟩,⟨b0,b1,b2⟩,d0,d1,d2⟩:=zU.out _ H2.out
 go_wp2_with fail
 clear a0 a1 a2 a3 b0 b1 b2 d0 d1 d2
 (with_reducible refine (HY.out _ H2.out).mono ?_)
 rintro ee w3 ⟨he,zF⟩
 have H3:=hZ (H2.out.chain zF)
 clear zF
 cases r2 with
 | some t =>
   obtain rfl : ee = _:=he
   exact ⟨rfl,by rw [HR.out];exact rfl,qw.out.chain H3.out⟩
 | none =>
 obtain rfl : ee = _:=he
 obtain ⟨-,⟨b0,-,-⟩,d0,-,-⟩:=zU.out _ H3.out
 obtain ⟨v,hv⟩ : ∃ v,v = (xr == [] || !(xr == yr)):=⟨_,rfl⟩
 have HV : Hid (R = zQ v 8 xr):=hZ (by rw [HR.out,hv];rfl)
 by_cases hz : xr = []
 ·have hzb : (xr == []) = true:=by rw [hz];rfl
  have hvt : v = true:=by rw [hv,hzb];rfl
  subst hvt
  clear hz hv
  go_wp2_with fail
  (with_reducible refine (qU true 8 xr w3).mono ?_)
  rintro ee w5 ⟨he,hw⟩
  subst hw
  obtain rfl : ee = _:=he
  go_wp2
  exact bodyPost_end (results_none rfl _ _ _) rfl ⟨by rw [HV.out];exact rfl,qw.out.chain H3.out⟩
 ·have hzb : (xr == []) = false:=beq_eq_false_iff_ne.2 hz
  obtain ⟨u,hu⟩ : ∃ u,u = (xr == yr):=⟨_,rfl⟩
  have hvt : v = !u:=by rw [hv,hzb,hu];rfl
  subst hvt
  have hu':=hu.symm
  clear hz hv hu
  cases u
  ·go_wp2_with fail
   (with_reducible refine (qU true 8 xr w3).mono ?_)
   rintro ee w5 ⟨he,hw⟩
   subst hw
   obtain rfl : ee = _:=he
   go_wp2
   exact bodyPost_end (results_none rfl _ _ _) rfl ⟨by rw [HV.out];exact rfl,qw.out.chain H3.out⟩
  ·go_wp2_with fail
   (with_reducible refine (qU false 8 xr w3).mono ?_)
   rintro ee w5 ⟨he,hw⟩
   subst hw
   obtain rfl : ee = _:=he
   exact ⟨rfl,by rw [HV.out];exact rfl,qw.out.chain H3.out⟩
end
end Go.Proofs.YtojjfdegkooknaaGreatDoor
