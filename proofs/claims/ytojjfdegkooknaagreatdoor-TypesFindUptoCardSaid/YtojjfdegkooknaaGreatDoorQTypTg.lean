import Derived.Test.YtojjfdegkooknaaGreatDoorQTypN
import Derived.Test.YtojjfdegkooknaaGreatDoorQTypK
set_option linter.unusedVariables false
set_option linter.unusedSimpArgs false
namespace Go.Proofs.YtojjfdegkooknaaGreatDoor
set_option maxRecDepth 100000
set_option maxHeartbeats 8000000
open Go.RowKit Go.Lib
abbrev chkO (d : GAd) (p : Pg) (q : Int × Int) : Obj:=.cells #[.slice d.r p.rs.length d.nr,.slice d.g p.gs.length d.ng,.slice d.k p.ks.length d.nk,.slice d.d p.ds.length d.nd,.slice d.m p.ms.length d.nm,.slice d.x p.xs.length d.nx,.int .i64 q.1,.int .i64 q.2] 114
structure ChkW (w : World) (B0 cb : Nat) (d : GAd) (p : Pg) (q : Int × Int) : Prop where
 le : B0 ≤ cb
 box : w.heap[cb]? = some (chkO d p q)
 own : PgOwn w B0 d p
theorem ChkW.at_ {w : World} {B0 cb : Nat} {d : GAd} {p : Pg} {q : Int × Int} (h : ChkW w B0 cb d p q) : ChkAt w B0 cb d p :=
 ⟨(Array.getElem?_eq_some_iff.1 h.box).1,h.le,cell_of_block h.box 0 rfl,cell_of_block h.box 1 rfl,cell_of_block h.box 2 rfl,cell_of_block h.box 3 rfl,cell_of_block h.box 4 rfl,cell_of_block h.box 5 rfl,h.own⟩
theorem ChkW.lt {w : World} {B0 cb : Nat} {d : GAd} {p : Pg} {q : Int × Int} (h : ChkW w B0 cb d p q) : cb < w.heap.size:=(Array.getElem?_eq_some_iff.1 h.box).1
theorem ChkW.on {w w' : World} {B0 cb : Nat} {d : GAd} {p : Pg} {q : Int × Int} (h : ChkW w B0 cb d p q) (hb : Below w.heap.size w w') : ChkW w' B0 cb d p q :=
 ⟨h.le,kept_box hb h.box,h.own.keep (fun z hz => hb.cell (Nat.lt_of_lt_of_le hz (Nat.le_trans h.le (Nat.le_of_lt h.lt)))) (Nat.le_refl _)⟩
theorem near_cell {cb : Nat} {w w' : World} (h : Near cb w w') {q : Addr} (hq : q.block < w.heap.size) (hne : q.block ≠ cb) : w'.cell? q = w.cell? q :=
 World.cell?_of_block (w:=w) (h.block _ hq hne)
theorem ChkW.near {w w' : World} {B0 cb : Nat} {d : GAd} {p : Pg} {q q' : Int × Int} (h : ChkW w B0 cb d p q) (hn : Near cb w w') (hbox : w'.heap[cb]? = some (chkO d p q')) : ChkW w' B0 cb d p q' :=
 ⟨h.le,hbox,h.own.keep (fun z hz => near_cell hn (Nat.lt_of_lt_of_le hz (Nat.le_trans h.le (Nat.le_of_lt h.lt))) (Nat.ne_of_lt (Nat.lt_of_lt_of_le hz h.le))) (Nat.le_refl _)⟩
abbrev bodyV (cb : Nat) (A : Option Addr) (n c : Nat) (D : Option Addr) (m d : Nat) (E : Option Addr) (k ec : Nat) : Value:=.agg #[.pointer (some ⟨cb,0,none⟩),.slice A n c,.slice D m d,.slice E k ec]
abbrev bodyC (cb : Nat) (A : Option Addr) (n c : Nat) (D : Option Addr) (m d : Nat) (E : Option Addr) (k ec : Nat) : Obj:=.cells #[.pointer (some ⟨cb,0,none⟩),.slice A n c,.slice D m d,.slice E k ec] 171
structure BodyAt (w : World) (B1 cb : Nat) (sc br asn : List Pm) (A : Option Addr) (n : Nat) (D : Option Addr) (m : Nat) (E : Option Addr) (k : Nat) : Prop where
 v : VarsAt w B1 sc br A n D m
 r3 : RowV VPm 2 w B1 asn E
 hn3 : k = asn.length
 hm3 : k ≤ maxLen
 n1 : ∀ a,A = some a → sc ≠ [] → a.block ≠ cb
 n2 : ∀ a,D = some a → br ≠ [] → a.block ≠ cb
 n3 : ∀ a,E = some a → asn ≠ [] → a.block ≠ cb
theorem rowV_near {cb : Nat} {w w' : World} (h : Near cb w w') {B : Nat} (hB : B ≤ w.heap.size) {l : List Pm} {A : Option Addr} (hr : RowV VPm 2 w B l A) (hne : ∀ a,A = some a → l ≠ [] → a.block ≠ cb) : RowV VPm 2 w' B l A:=by
 intro i x hi
 have hl : l ≠ []:=fun e => by rw [e] at hi;simp at hi
 obtain ⟨a,cs,h1,h2,h3,h4,h5⟩:=hr i x hi
 refine ⟨a,cs,h1,h2,h3,fun j v hv => (near_cell h (by rw [block_adds,block_adds];exact Nat.lt_of_lt_of_le h2 hB) (by rw [block_adds,block_adds];exact hne a h1 hl)).trans (h4 j v hv),h5⟩
theorem BodyAt.on {w w' : World} {B1 cb : Nat} {sc br asn : List Pm} {A : Option Addr} {n : Nat} {D : Option Addr} {m : Nat} {E : Option Addr} {k : Nat} (h : BodyAt w B1 cb sc br asn A n D m E k) (hb : Below w.heap.size w w') : BodyAt w' B1 cb sc br asn A n D m E k :=
 ⟨h.v.on hb,rowB vpm_keeps h.v.hB hb h.r3,h.hn3,h.hm3,h.n1,h.n2,h.n3⟩
theorem BodyAt.near {w w' : World} {B1 cb : Nat} {sc br asn : List Pm} {A : Option Addr} {n : Nat} {D : Option Addr} {m : Nat} {E : Option Addr} {k : Nat} (h : BodyAt w B1 cb sc br asn A n D m E k) (hn : Near cb w w') : BodyAt w' B1 cb sc br asn A n D m E k :=
 ⟨⟨h.v.hn,h.v.hm,h.v.hn2,h.v.hm2,Nat.le_trans h.v.hB hn.size,rowV_near hn h.v.hB h.v.r1 h.n1,rowV_near hn h.v.hB h.v.r2 h.n2⟩,rowV_near hn h.v.hB h.r3 h.n3,h.hn3,h.hm3,h.n1,h.n2,h.n3⟩
theorem target_any (cb : Nat) (s : List UInt8) (sc br asn : List Pm) (A : Option Addr) (n c : Nat) (D : Option Addr) (m d : Nat) (E : Option Addr) (k ec : Nat) (B1 : Nat) (w : World) (hV : BodyAt w B1 cb sc br asn A n D m E k) :
 Calls Tryz.prog 164 #[bodyV cb A n c D m d E k ec,.string ⟨s.toArray⟩] w (StrPost (trgE sc asn s) w):=by
 obtain ⟨W1,hW1⟩ : ∃ W1,W1 = w.alloc (bodyC cb A n c D m d E k ec):=⟨_,rfl⟩
 have hb1 : Below w.heap.size w W1:=by rw [hW1];exact below_alloc w _
 have hp1 : W1.heap[w.heap.size]? = some (bodyC cb A n c D m d E k ec):=by rw [hW1];exact heap_of_alloc w _
 have HF:=Lib.hid (fnd_Param 95 (enters_of Tryz.func95 (by kernel_rfl) rfl) (·.nm) nm_Param s sc A c n hV.v.hn hV.v.hm B1 W1 (Nat.le_trans hV.v.hB hb1.size) (hV.v.on hb1).r1)
 have HH : Hid (∀ W,Below W1.heap.size W1 W → Calls Tryz.prog 80 #[.slice E k ec,.string ⟨s.toArray⟩] W fun e w' => e = .returned (.bool (fstO (·.nm) asn s).isSome) ∧ Below W.heap.size W w'):=Lib.hid (fun W hb => has_any' s asn E ec k hV.hn3 hV.hm3 B1 W (Nat.le_trans hV.v.hB (hb1.chain hb).size) (hV.on (hb1.chain hb)).r3)
 have HB1:=Lib.hid (And.intro hb1 hp1)
 obtain ⟨o,ho⟩ : ∃ o,o = fstO (fun x : Pm => x.nm) sc s:=⟨_,rfl⟩
 obtain ⟨h,hh⟩ : ∃ h,h = (fstO (fun x : Pm => x.nm) asn s).isSome:=⟨_,rfl⟩
 have hk : trgE sc asn s = trgO o h s:=by rw [ho,hh];rfl
 rw [hk]
 rw [← ho] at HF
 rw [← hh] at HH
 clear hV hb1 hp1 ho hh hk
 go_enter Tryz.func164,Tryz.ntmps164
 go_wp2_with fail
 rw [← hW1]
 clear hW1
 (with_reducible refine HF.out.mono ?_)
 rintro e w2 ⟨hr,hb2⟩
 have H2:=Lib.hid hb2
 have c3:=cell_of_block (kept_box hb2 HB1.out.2) 3 (v:=.slice E k ec) rfl
 clear hb2
 rcases hr with ⟨cs,x,rfl,ho,hv⟩ | ⟨ho,he⟩
 ·obtain ⟨hcs,_⟩:=hv
  subst hcs ho
  have hfl:=fun w => fld_Param0 ⟨x.t.toArray⟩ ⟨x.nm.toArray⟩ w
  go_wp2_with fail
  (with_reducible refine (HH.out _ H2.out).mono ?_)
  rintro e w3 ⟨rfl,hb3⟩
  have H3:=Lib.hid (HB1.out.1.chain (H2.out.chain hb3))
  clear hb3
  go_wp2_with fail
  (with_reducible refine (demand_any h 6 s w3).mono ?_)
  rintro e w4 ⟨he,rfl⟩
  cases h
  ·obtain rfl : e = _:=he
   exact ⟨rfl,rfl,H3.out⟩
  ·obtain rfl : e = _:=he
   go_wp2
   go_ret
   exact ⟨rfl,H3.out⟩
 ·subst he ho
  exact ⟨rfl,rfl,HB1.out.1.chain H2.out⟩
theorem hid_StmtV : ∃ (T N : Nat),90 = T ∧ N = 24 ∧ (∀ w : World,(isAgg T).run Tryz.prog w = .ok true w) ∧ (∀ w : World,(sizeOf T).run Tryz.prog w = .ok N w) :=
 ⟨_,24,rfl,rfl,fun w => by kernel_rfl,fun w => by kernel_rfl⟩
def StVal (w : World) (B0 : Nat) (s : St) (cs : Array Value) : Prop:=∃ sd : SAd,cs = stCs sd s ∧ StOwn w B0 sd s ∧ StRow w B0 s.body sd.s ∧ StRow w B0 s.els sd.t
theorem StVal.keep {w w' : World} {B0 : Nat} {s : St} {cs : Array Value} (h : StVal w B0 s cs) (hk : ∀ q : Addr,q.block < B0 → w'.cell? q = w.cell? q) : StVal w' B0 s cs:=by
 obtain ⟨sd,h1,h2,h3,h4⟩:=h
 exact ⟨sd,h1,h2.keep hk (Nat.le_refl _),h3.keep hk (Nat.le_refl _),h4.keep hk (Nat.le_refl _)⟩
theorem assign_any (cb : Nat) (nm : List UInt8) (ek en : Int) (es : List UInt8) (el : List Ex) (Ae : Option Addr) (ne ce : Nat) (hne : ne = el.length) (hes : es.length ≤ maxLen) (hel : el.length ≤ maxLen) (cs : Array Value) (h24 : cs.size = 24) (k3 : cs[3]? = some (.string ⟨nm.toArray⟩)) (k6 : cs[6]? = some (.int .i64 ek)) (k7 : cs[7]? = some (.int .i64 en)) (k8 : cs[8]? = some (.string ⟨es.toArray⟩)) (k9 : cs[9]? = some (.slice Ae ne ce))
 (sc br asn : List Pm) (A : Option Addr) (n c : Nat) (D : Option Addr) (m d : Nat) (E : Option Addr) (k ec : Nat) (B1 B0 : Nat) (w : World) (hB0 : B0 ≤ w.heap.size) (hr : ExRow w B0 el Ae) (hV : BodyAt w B1 cb sc br asn A n D m E k) :
 Calls Tryz.prog 159 #[bodyV cb A n c D m d E k ec,.agg cs] w (CkPost (asgC sc br asn nm (.mk ek en es el)) w):=by
 obtain ⟨T,N,hT,hN,_,_⟩:=hid_StmtV
 have e4 : ∀ y : Operand,Op.box 90 y = Op.box T y:=fun y => by rw [hT]
 obtain ⟨W1,hW1⟩ : ∃ W1,W1 = (w.alloc (bodyC cb A n c D m d E k ec)).alloc (.cells cs T):=⟨_,rfl⟩
 have hb1 : Below w.heap.size w W1:=by rw [hW1];exact (below_alloc w _).chain (below_alloc _ _)
 have q1:=heap_keep (o:=.cells cs T) (heap_of_alloc w (bodyC cb A n c D m d E k ec))
 have q2:=heap_of_alloc (w.alloc (bodyC cb A n c D m d E k ec)) (.cells cs T)
 rw [size_of_alloc] at q2
 rw [← hW1] at q1 q2
 have HC1 : Hid (∀ W,Below W1.heap.size W1 W → (W.cell? ⟨w.heap.size,0,none⟩ = some (.pointer (some ⟨cb,0,none⟩)) ∧ W.cell? ⟨w.heap.size,1,none⟩ = some (.slice A n c) ∧ W.cell? ⟨w.heap.size,2,none⟩ = some (.slice D m d) ∧ W.cell? ⟨w.heap.size,3,none⟩ = some (.slice E k ec)) ∧ (W.cell? ⟨w.heap.size + 1,3,none⟩ = some (.string ⟨nm.toArray⟩) ∧ W.cell? ⟨w.heap.size + 1,6,none⟩ = some (.int .i64 ek) ∧ W.cell? ⟨w.heap.size + 1,7,none⟩ = some (.int .i64 en) ∧ W.cell? ⟨w.heap.size + 1,8,none⟩ = some (.string ⟨es.toArray⟩) ∧ W.cell? ⟨w.heap.size + 1,9,none⟩ = some (.slice Ae ne ce))):=Lib.hid (fun W hb => by
  have p1:=kept_box hb q1
  have p2:=kept_box hb q2
  exact ⟨⟨cell_of_block p1 0 rfl,cell_of_block p1 1 rfl,cell_of_block p1 2 rfl,cell_of_block p1 3 rfl⟩,⟨cell_of_block p2 3 k3,cell_of_block p2 6 k6,cell_of_block p2 7 k7,cell_of_block p2 8 k8,cell_of_block p2 9 k9⟩⟩)
 have HT:=Lib.hid (target_any cb nm sc br asn A n c D m d E k ec B1 W1 (hV.on hb1))
 have HE : Hid (∀ W,Below W1.heap.size W1 W → Calls Tryz.prog 114 #[varsV A n c D m d,exprV ek en ⟨es.toArray⟩ (.slice Ae ne ce)] W (StrPost (exT sc br (.mk ek en es el)) W)):=Lib.hid (fun W hb => by
  rw [hne]
  exact expr_any' sc br A n c D m d B1 ek en es el Ae ce W (hV.on (hb1.chain hb)).v (hr.keep (fun q hq => (hb1.chain hb).cell (Nat.lt_of_lt_of_le hq hB0)) (Nat.le_trans hB0 (hb1.chain hb).size)) hes hel)
 obtain ⟨r1,hr1⟩ : ∃ r,r = trgE sc asn nm:=⟨_,rfl⟩
 obtain ⟨r2,hr2⟩ : ∃ r,r = exT sc br (.mk ek en es el):=⟨_,rfl⟩
 obtain ⟨R,hR⟩ : ∃ R,R = asgC sc br asn nm (.mk ek en es el):=⟨_,rfl⟩
 have HR : Hid (R = bindC r1 fun t => bindC r2 fun y => demC (fitsB y t) 9 nm):=Lib.hid (by rw [hR,hr1,hr2];rfl)
 rw [← hr1] at HT
 rw [← hr2] at HE
 rw [← hR]
 have HB1:=Lib.hid hb1
 have hmx : Tryz.prog.follows .mixedOrders = true:=by kernel_rfl
 obtain ⟨⟨a0,a1,a2,a3⟩,⟨b0,b1,b2,b3,b4⟩⟩:=HC1.out _ (Below.refl _ _)
 clear hV hb1 q1 q2 hr hes hel hne hN k3 k6 k7 k8 k9 h24 hr1 hr2 hR hB0
 go_enter Tryz.func159,Tryz.ntmps159
 simp only [e4]
 clear e4 hT
 rw [hW1] at a0 a1 a2 a3 b0 b1 b2 b3 b4
 go_wp2_with fail
 rw [← hW1] at a0 a1 a2 a3 b0 b1 b2 b3 b4 ⊢
 clear hW1 a0 a1 a2 a3 b0 b1 b2 b3 b4
 (with_reducible refine HT.out.mono ?_)
 rintro ee w2 ⟨he,hb2⟩
 have H2:=Lib.hid hb2
 clear hb2
 cases r1 with
 | error t =>
   obtain rfl : ee = _:=he
   exact ⟨rfl,by rw [HR.out];exact rfl,HB1.out.chain H2.out⟩
 | ok t =>
 obtain rfl : ee = _:=he
 obtain ⟨S,hS⟩ : ∃ S : World → Prop,S = fun W => Below W1.heap.size W1 W:=⟨_,rfl⟩
 have HS2 : Hid (∀ W,Below w2.heap.size w2 W → S W):=Lib.hid (fun W hb => by rw [hS];exact H2.out.chain hb)
 have HLD : Hid (∀ W,S W → (W.cell? ⟨w.heap.size,0,none⟩ = some (.pointer (some ⟨cb,0,none⟩)) ∧ W.cell? ⟨w.heap.size,1,none⟩ = some (.slice A n c) ∧ W.cell? ⟨w.heap.size,2,none⟩ = some (.slice D m d) ∧ W.cell? ⟨w.heap.size,3,none⟩ = some (.slice E k ec)) ∧ (W.cell? ⟨w.heap.size + 1,3,none⟩ = some (.string ⟨nm.toArray⟩) ∧ W.cell? ⟨w.heap.size + 1,6,none⟩ = some (.int .i64 ek) ∧ W.cell? ⟨w.heap.size + 1,7,none⟩ = some (.int .i64 en) ∧ W.cell? ⟨w.heap.size + 1,8,none⟩ = some (.string ⟨es.toArray⟩) ∧ W.cell? ⟨w.heap.size + 1,9,none⟩ = some (.slice Ae ne ce))):=Lib.hid (fun W hs => by rw [hS] at hs;exact HC1.out W hs)
 have HX0:=Lib.hid (Below.refl w2.heap.size w2).drew
 have g0:=HS2.out _ HX0.out
 clear hS
 go_wp2
 refine wp_region_held (S:=S) hmx ?_
 change wpAnyH _ _ _ _ _ 10 #[false,false,false,false,false,false,false,false,false,false] _ w2.drew
 refine tk 0 9 (.pointer (some ⟨w.heap.size,1,none⟩)) g0 ?v ?_
 case v => intro Wx hSx;go_simp
 refine tk 1 10 (varsV A n c D m d) g0 ?v ?_
 case v => intro Wx hSx;obtain ⟨⟨z0,z1,z2,z3⟩,⟨y0,y1,y2,y3,y4⟩⟩:=HLD.out Wx hSx;go_simp
 refine tk 2 11 (.pointer (some ⟨w.heap.size + 1,6,none⟩)) g0 ?v ?_
 case v => intro Wx hSx;go_simp
 refine tk 3 12 (exprV ek en ⟨es.toArray⟩ (.slice Ae ne ce)) g0 ?v ?_
 case v => intro Wx hSx;obtain ⟨⟨z0,z1,z2,z3⟩,⟨y0,y1,y2,y3,y4⟩⟩:=HLD.out Wx hSx;go_simp
 try simp only [Act.put,List.setIfInBounds_toArray,List.set_cons_zero,List.set_cons_succ]
 refine tk 5 14 (.string ⟨t.toArray⟩) g0 ?v ?_
 case v => intro Wx hSx;go_simp
 refine tk 7 16 (.pointer (some ⟨w.heap.size + 1,3,none⟩)) g0 ?v ?_
 case v => intro Wx hSx;go_simp
 refine tk 8 17 (.string ⟨nm.toArray⟩) g0 ?v ?_
 case v => intro Wx hSx;obtain ⟨⟨z0,z1,z2,z3⟩,⟨y0,y1,y2,y3,y4⟩⟩:=HLD.out Wx hSx;go_simp
 try simp only [Act.put,List.setIfInBounds_toArray,List.set_cons_zero,List.set_cons_succ]
 refine o1 4 (fun K hK => ?_)
 go_simp
 (with_reducible refine (HE.out _ (H2.out.chain HX0.out)).mono ?_)
 rintro ee w3 ⟨he,hb3⟩
 have H3:=Lib.hid (HX0.out.chain hb3)
 clear hb3
 cases r2 with
 | error t2 =>
   obtain rfl : ee = _:=he
   exact ⟨rfl,by rw [HR.out];exact rfl,HB1.out.chain (H2.out.chain H3.out)⟩
 | ok y =>
 obtain rfl : ee = _:=he
 refine hK _ _ (HS2.out _ H3.out) ?_
 clear hK K
 try simp only [Act.put,List.setIfInBounds_toArray,List.set_cons_zero,List.set_cons_succ]
 refine o1 6 (fun K hK => ?_)
 go_simp
 (with_reducible refine (fits_any y t w3).mono ?_)
 rintro ee w4 ⟨rfl,hw⟩
 subst hw
 refine hK _ _ (HS2.out _ H3.out) ?_
 clear hK K
 try simp only [Act.put,List.setIfInBounds_toArray,List.set_cons_zero,List.set_cons_succ]
 obtain ⟨v,hv⟩ : ∃ v,v = fitsB y t:=⟨_,rfl⟩
 have HV : Hid (R = demC v 9 nm):=Lib.hid (by rw [HR.out,hv];rfl)
 rw [← hv]
 clear hv
 refine o1 9 (fun K hK => ?_)
 go_simp
 (with_reducible refine (demand_any v 9 nm w4).mono ?_)
 rintro ee w5 ⟨he,hw⟩
 subst hw
 cases v
 ·obtain rfl : ee = _:=he
  exact ⟨rfl,by rw [HV.out];exact rfl,HB1.out.chain (H2.out.chain H3.out)⟩
 ·obtain rfl : ee = _:=he
  refine hK _ _ (HS2.out _ H3.out) ?_
  clear hK K
  refine wpAnyH_done (by kernel_rfl) ?_ _
  go_wp2
  exact bodyPost_end (results_none rfl _ _ _) rfl ⟨by rw [HV.out];exact rfl,HB1.out.chain (H2.out.chain H3.out)⟩
end Go.Proofs.YtojjfdegkooknaaGreatDoor
namespace Go.Proofs.YtojjfdegkooknaaGreatDoor
set_option maxRecDepth 100000
set_option maxHeartbeats 8000000
open Go.RowKit Go.Lib
structure BAd where
 A : Option Addr
 n : Nat
 c : Nat
 D : Option Addr
 m : Nat
 d : Nat
 E : Option Addr
 k : Nat
 ec : Nat
abbrev bV (cb : Nat) (b : BAd) : Value:=bodyV cb b.A b.n b.c b.D b.m b.d b.E b.k b.ec
abbrev BdAt (w : World) (B1 cb : Nat) (sc br asn : List Pm) (b : BAd) : Prop:=BodyAt w B1 cb sc br asn b.A b.n b.D b.m b.E b.k
def StAt (p : Pg) (d : GAd) (B0 B1 cb : Nat) (sc br asn : List Pm) (b : BAd) (s : St) : Prop :=
 ∀ (cs : Array Value) (w : World) (q : Int × Int),StVal w B0 s cs → ChkW w B0 cb d p q → BdAt w B1 cb sc br asn b →
  Calls Tryz.prog 136 #[bV cb b,.agg cs] w (CkPost (stC p sc br asn s) w)
theorem stmt_assign (p : Pg) (d : GAd) (B0 B1 cb : Nat) (sc br asn : List Pm) (b : BAd) (ln co : Int) (nm fd fr : List UInt8) (e : Ex) (c : Cn) (cl : List Cal) (iv : List Fm) (bo el : List St) : StAt p d B0 B1 cb sc br asn b (.mk 1 ln co nm fd fr e c cl iv bo el):=by
 obtain ⟨A,n,c1,D,m,d1,E,k,ec⟩:=b
 intro cs w q hv hC hB
 obtain ⟨ek,en,es,exl⟩:=e
 obtain ⟨ck,⟨ak,an,sa,al⟩,⟨bk,bn,sb,bl⟩,cls⟩:=c
 obtain ⟨sd,hcs,⟨hlen,hex,_⟩,_,_⟩:=hv
 show Calls Tryz.prog _ #[bodyV cb A n c1 D m d1 E k ec,.agg cs] w (CkPost (asgC sc br asn nm (.mk ek en es exl)) w)
 obtain ⟨T,N,hT,hN,hag,hsz⟩:=hid_StmtV
 have e1 : ∀ y : Operand,Op.load 90 y = Op.load T y:=fun y => by rw [hT]
 have e4 : ∀ y : Operand,Op.box 90 y = Op.box T y:=fun y => by rw [hT]
 have h24 : cs.size = 24:=by rw [hcs];exact stCs_size _ _
 have hszc : cs.size = N:=h24.trans hN.symm
 obtain ⟨W1,hW1⟩ : ∃ W1,W1 = (w.alloc (bodyC cb A n c1 D m d1 E k ec)).alloc (.cells cs T):=⟨_,rfl⟩
 have hb1 : Below w.heap.size w W1:=by rw [hW1];exact (below_alloc w _).chain (below_alloc _ _)
 have q1:=heap_keep (o:=.cells cs T) (heap_of_alloc w (bodyC cb A n c1 D m d1 E k ec))
 have q2:=heap_of_alloc (w.alloc (bodyC cb A n c1 D m d1 E k ec)) (.cells cs T)
 rw [size_of_alloc] at q2
 have k0 : cs[0]? = some (.int .i64 1):=by rw [hcs];rfl
 have c0:=cell_of_block q2 0 k0
 have a0:=cell_of_block q1 0 (v:=.pointer (some ⟨cb,0,none⟩)) rfl
 have a1:=cell_of_block q1 1 (v:=.slice A n c1) rfl
 have a2:=cell_of_block q1 2 (v:=.slice D m d1) rfl
 have a3:=cell_of_block q1 3 (v:=.slice E k ec) rfl
 have hld:=ld_new q2 hszc
 have hb0 : B0 ≤ w.heap.size:=Nat.le_trans hC.le (Nat.le_of_lt hC.lt)
 have HA:=Lib.hid (assign_any cb nm ek en es exl sd.e exl.length sd.ne rfl hlen.2.2.2.1 hlen.2.2.2.2.1 cs h24 (by rw [hcs];rfl) (by rw [hcs];rfl) (by rw [hcs];rfl) (by rw [hcs];rfl) (by rw [hcs];rfl) sc br asn A n c1 D m d1 E k ec B1 B0 W1 (Nat.le_trans hb0 hb1.size) (hex.keep (fun z hz => hb1.cell (Nat.lt_of_lt_of_le hz hb0)) (Nat.le_refl _)) (hB.on hb1))
 obtain ⟨R,hR⟩ : ∃ R,R = asgC sc br asn nm (.mk ek en es exl):=⟨_,rfl⟩
 rw [← hR] at HA ⊢
 have HB1:=Lib.hid hb1
 clear hR hcs hlen hex hC hB h24 hN hb1 q1 q2 k0 hb0
 go_enter Tryz.func136,Tryz.ntmps136
 simp only [e1,e4]
 clear e1 e4 hT
 go_wp2_with fail
 rw [← hW1]
 clear a0 a1 a2 a3 c0 hld hW1
 (with_reducible refine HA.out.mono ?_)
 rintro ee w2 ⟨he,hb⟩
 have H2:=Lib.hid (HB1.out.chain hb)
 clear hb
 cases R with
 | some t =>
   obtain rfl : ee = _:=he
   exact ⟨rfl,rfl,H2.out⟩
 | none =>
   obtain rfl : ee = _:=he
   go_wp2
   exact bodyPost_end (results_none rfl _ _ _) rfl ⟨rfl,H2.out⟩
/-! ### lists of statements -/
theorem stsP_append (p : Pg) (sc br asn : List Pm) : ∀ (l m : List St) (q : Int × Int),stsP p sc br asn q (l ++ m) = seqP (stsP p sc br asn q l) fun q => stsP p sc br asn q m
 | [],m,q => by rw [stsP];rfl
 | x :: l,m,q => by
   rw [List.cons_append,stsP,stsP]
   obtain ⟨c,q1⟩:=stP p sc br asn x
   cases c with
   | some t => rfl
   | none => exact stsP_append p sc br asn l m q1
theorem stsP_one (p : Pg) (sc br asn : List Pm) (q : Int × Int) (s : St) : stsP p sc br asn q [s] = stP p sc br asn s:=by
 rw [stsP]
 obtain ⟨c,q1⟩:=stP p sc br asn s
 cases c with
 | some t => rfl
 | none => rw [seqP_none,stsP]
theorem stsP_take (p : Pg) (sc br asn : List Pm) (q q1 : Int × Int) (l : List St) (i : Nat) (s : St) (h : l[i]? = some s) (h0 : stsP p sc br asn q (l.take i) = (none,q1)) : stsP p sc br asn q (l.take (i + 1)) = stP p sc br asn s:=by
 rw [List.take_add_one,h,stsP_append,h0,seqP_none]
 exact stsP_one p sc br asn q1 s
theorem stsP_stop (p : Pg) (sc br asn : List Pm) (q q1 : Int × Int) (l : List St) (i : Nat) (s : St) (t : Thr) (q2 : Int × Int) (h : l[i]? = some s) (h0 : stsP p sc br asn q (l.take i) = (none,q1)) (h1 : stP p sc br asn s = (some t,q2)) : stsP p sc br asn q l = (some t,q2):=by
 have e : l = l.take (i + 1) ++ l.drop (i + 1):=(List.take_append_drop ..).symm
 rw [e,stsP_append,stsP_take p sc br asn q q1 l i s h h0,h1,seqP_some]
def stLn : St → Int
 | .mk _ l _ _ _ _ _ _ _ _ _ _ => l
def stCo : St → Int
 | .mk _ _ c _ _ _ _ _ _ _ _ _ => c
theorem stP_eq (p : Pg) (sc br asn : List Pm) (s : St) (ln co : Int) (hln : stLn s = ln) (hco : stCo s = co) : stP p sc br asn s = seqP (stC p sc br asn s,(ln,co)) fun q => seqP (stsP p sc br asn q s.body) fun q => stsP p sc br asn q s.els:=by
 obtain ⟨k,l,c,nm,fd,fr,e,cn,cl,iv,b,o⟩:=s
 obtain rfl : l = ln:=hln
 obtain rfl : c = co:=hco
 rw [stP]
 rfl
end Go.Proofs.YtojjfdegkooknaaGreatDoor
