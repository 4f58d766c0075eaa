import Derived.Test.YtojjfdegkooknaaGreatDoorQTreeXv
set_option linter.unusedVariables false
set_option linter.unusedSimpArgs false
namespace Go.Proofs.YtojjfdegkooknaaGreatDoor
open Go.RowKit
inductive Cn where
 | mk (k : Int) (a b : Ex) (l : List Cn) : Cn
structure CCells (w : World) (p : Addr) (k ak an : Int) (sa : List UInt8) (la : Value) (bk bn : Int) (sb : List UInt8) (lb ll : Value) : Prop where
 c0 : w.cell? p = some (.int .i64 k)
 c1 : w.cell? (p.add 1) = some (.int .i64 ak)
 c2 : w.cell? (p.add 2) = some (.int .i64 an)
 c3 : w.cell? (p.add 3) = some (.string ⟨sa.toArray⟩)
 c4 : w.cell? (p.add 4) = some la
 c5 : w.cell? (p.add 5) = some (.int .i64 bk)
 c6 : w.cell? (p.add 6) = some (.int .i64 bn)
 c7 : w.cell? (p.add 7) = some (.string ⟨sb.toArray⟩)
 c8 : w.cell? (p.add 8) = some lb
 c9 : w.cell? (p.add 9) = some ll
theorem CCells.keep {w w' : World} {B : Nat} {p : Addr} {k ak an : Int} {sa : List UInt8} {la : Value} {bk bn : Int} {sb : List UInt8} {lb ll : Value} (hk : ∀ q : Addr,q.block < B → w'.cell? q = w.cell? q) (hp : p.block < B) (h : CCells w p k ak an sa la bk bn sb lb ll) : CCells w' p k ak an sa la bk bn sb lb ll:=by
 have e : ∀ j,(p.add j).block < B:=fun j => by rw [block_adds];exact hp
 exact ⟨(hk _ hp).trans h.c0,(hk _ (e 1)).trans h.c1,(hk _ (e 2)).trans h.c2,(hk _ (e 3)).trans h.c3,(hk _ (e 4)).trans h.c4,(hk _ (e 5)).trans h.c5,(hk _ (e 6)).trans h.c6,(hk _ (e 7)).trans h.c7,(hk _ (e 8)).trans h.c8,(hk _ (e 9)).trans h.c9⟩
theorem CCells.flat {w : World} {p : Addr} {k ak an : Int} {sa : List UInt8} {la : Value} {bk bn : Int} {sb : List UInt8} {lb ll : Value} (h : CCells w p k ak an sa la bk bn sb lb ll) :
 w.cell? p = some (.int .i64 k) ∧ w.cell? ⟨p.block,p.off + 1,none⟩ = some (.int .i64 ak) ∧ w.cell? ⟨p.block,p.off + 2,none⟩ = some (.int .i64 an) ∧ w.cell? ⟨p.block,p.off + 3,none⟩ = some (.string ⟨sa.toArray⟩) ∧ w.cell? ⟨p.block,p.off + 4,none⟩ = some la ∧
  w.cell? ⟨p.block,p.off + 5,none⟩ = some (.int .i64 bk) ∧ w.cell? ⟨p.block,p.off + 6,none⟩ = some (.int .i64 bn) ∧ w.cell? ⟨p.block,p.off + 7,none⟩ = some (.string ⟨sb.toArray⟩) ∧ w.cell? ⟨p.block,p.off + 8,none⟩ = some lb ∧ w.cell? ⟨p.block,p.off + 9,none⟩ = some ll :=
 ⟨h.c0,h.c1,h.c2,h.c3,h.c4,h.c5,h.c6,h.c7,h.c8,h.c9⟩
inductive CnRow (w : World) (B : Nat) : List Cn → Option Addr → Prop
 | nil (A : Option Addr) : CnRow w B [] A
 | row (a : Addr) (cs : List Cn) (Aa Ab Al : Nat → Option Addr) (Ca Cb Cl : Nat → Nat) (hb : a.block < B)
    (cells : ∀ i k ak an sa al bk bn sb bl l,cs[i]? = some (.mk k (.mk ak an sa al) (.mk bk bn sb bl) l) →
      CCells w (a.add (i * 10)) k ak an sa (.slice (Aa i) al.length (Ca i)) bk bn sb (.slice (Ab i) bl.length (Cb i)) (.slice (Al i) l.length (Cl i)) ∧ sa.length ≤ maxLen ∧ al.length ≤ maxLen ∧ sb.length ≤ maxLen ∧ bl.length ≤ maxLen ∧ l.length ≤ maxLen ∧ ExRow w B al (Aa i) ∧ ExRow w B bl (Ab i))
    (sub : ∀ i k ak an sa al bk bn sb bl l,cs[i]? = some (.mk k (.mk ak an sa al) (.mk bk bn sb bl) l) → CnRow w B l (Al i)) : CnRow w B cs (some a)
theorem CnRow.at_ {w : World} {B : Nat} {cs : List Cn} {A : Option Addr} (h : CnRow w B cs A) {i : Nat} {k ak an : Int} {sa : List UInt8} {al : List Ex} {bk bn : Int} {sb : List UInt8} {bl : List Ex} {l : List Cn} (hi : cs[i]? = some (.mk k (.mk ak an sa al) (.mk bk bn sb bl) l)) :
 ∃ a Aa Ca Ab Cb Al Cl,A = some a ∧ a.block < B ∧ CCells w (a.add (i * 10)) k ak an sa (.slice Aa al.length Ca) bk bn sb (.slice Ab bl.length Cb) (.slice Al l.length Cl) ∧ sa.length ≤ maxLen ∧ al.length ≤ maxLen ∧ sb.length ≤ maxLen ∧ bl.length ≤ maxLen ∧ l.length ≤ maxLen ∧ ExRow w B al Aa ∧ ExRow w B bl Ab ∧ CnRow w B l Al:=by
 cases h with
 | nil => simp at hi
 | row a cs Aa Ab Al Ca Cb Cl hb cells sub =>
   obtain ⟨h0,h1,h2,h3,h4,h5,h6,h7⟩:=cells i k ak an sa al bk bn sb bl l hi
   exact ⟨a,Aa i,Ca i,Ab i,Cb i,Al i,Cl i,rfl,hb,h0,h1,h2,h3,h4,h5,h6,h7,sub i k ak an sa al bk bn sb bl l hi⟩
theorem CnRow.keep {w w' : World} {B B' : Nat} (hk : ∀ p : Addr,p.block < B → w'.cell? p = w.cell? p) (hB : B ≤ B') {cs : List Cn} {A : Option Addr} (h : CnRow w B cs A) : CnRow w' B' cs A:=by
 induction h with
 | nil A => exact .nil A
 | row a cs Aa Ab Al Ca Cb Cl hb cells sub ih =>
   refine .row a cs Aa Ab Al Ca Cb Cl (Nat.lt_of_lt_of_le hb hB) (fun i k ak an sa al bk bn sb bl l hi => ?_) ih
   obtain ⟨h0,h1,h2,h3,h4,h5,h6,h7⟩:=cells i k ak an sa al bk bn sb bl l hi
   exact ⟨h0.keep hk (by rw [block_adds];exact hb),h1,h2,h3,h4,h5,h6.keep hk hB,h7.keep hk hB⟩
theorem CnRow.stay {w w' : World} {B C : Nat} (hb : Below C w w') (hC : B ≤ C) {cs : List Cn} {A : Option Addr} (h : CnRow w B cs A) : CnRow w' B cs A :=
 h.keep (fun _ hp => hb.cell (Nat.lt_of_lt_of_le hp hC)) (Nat.le_refl _)
theorem CnRow.more {w : World} {B B' : Nat} (hB : B ≤ B') {cs : List Cn} {A : Option Addr} (h : CnRow w B cs A) : CnRow w B' cs A:=h.keep (fun _ _ => rfl) hB
theorem CCells.stay {w w' : World} {B : Nat} {p : Addr} {k ak an : Int} {sa : List UInt8} {la : Value} {bk bn : Int} {sb : List UInt8} {lb ll : Value} (h : CCells w p k ak an sa la bk bn sb lb ll) (hb : Below B w w') (hp : p.block < B) : CCells w' p k ak an sa la bk bn sb lb ll :=
 h.keep (fun _ hq => hb.cell hq) hp
end Go.Proofs.YtojjfdegkooknaaGreatDoor
namespace Go.Proofs.YtojjfdegkooknaaGreatDoor
open Go.RowKit
abbrev condV2 (k ak an : Int) (sa : ByteArray) (la : Value) (bk bn : Int) (sb : ByteArray) (lb ll : Value) : Value:=.agg #[.int .i64 k,.int .i64 ak,.int .i64 an,.string sa,la,.int .i64 bk,.int .i64 bn,.string sb,lb,ll]
abbrev condC2 (k ak an : Int) (sa : ByteArray) (la : Value) (bk bn : Int) (sb : ByteArray) (lb ll : Value) : Obj:=.cells #[.int .i64 k,.int .i64 ak,.int .i64 an,.string sa,la,.int .i64 bk,.int .i64 bn,.string sb,lb,ll] 87
inductive RowX {α : Type} (P : World → Nat → Addr → α → Prop) (n : Nat) (w : World) (B : Nat) : List α → Option Addr → Prop
 | nil (A : Option Addr) : RowX P n w B [] A
 | row (a : Addr) (es : List α) (hb : a.block < B) (cells : ∀ i x,es[i]? = some x → P w B (a.add (i * n)) x) : RowX P n w B es (some a)
def Keeps {α : Type} (P : World → Nat → Addr → α → Prop) : Prop :=
 ∀ (w w' : World) (B B' : Nat) (p : Addr) (x : α),(∀ q : Addr,q.block < B → w'.cell? q = w.cell? q) → B ≤ B' → p.block < B → P w B p x → P w' B' p x
theorem RowX.at_ {α : Type} {P : World → Nat → Addr → α → Prop} {n : Nat} {w : World} {B : Nat} {es : List α} {A : Option Addr} (h : RowX P n w B es A) {i : Nat} {x : α} (hi : es[i]? = some x) :
 ∃ a,A = some a ∧ a.block < B ∧ P w B (a.add (i * n)) x:=by
 cases h with
 | nil => simp at hi
 | row a es hb cells => exact ⟨a,rfl,hb,cells i x hi⟩
theorem RowX.keep {α : Type} {P : World → Nat → Addr → α → Prop} (hP : Keeps P) {n : Nat} {w w' : World} {B B' : Nat} (hk : ∀ q : Addr,q.block < B → w'.cell? q = w.cell? q) (hB : B ≤ B') {es : List α} {A : Option Addr} (h : RowX P n w B es A) : RowX P n w' B' es A:=by
 cases h with
 | nil => exact .nil _
 | row a es hb cells => exact .row a es (Nat.lt_of_lt_of_le hb hB) (fun i x hi => hP w w' B B' _ x hk hB (by rw [block_adds];exact hb) (cells i x hi))
theorem RowX.stay {α : Type} {P : World → Nat → Addr → α → Prop} (hP : Keeps P) {n : Nat} {w w' : World} {B C : Nat} (hb : Below C w w') (hC : B ≤ C) {es : List α} {A : Option Addr} (h : RowX P n w B es A) : RowX P n w' B es A :=
 h.keep hP (fun _ hp => hb.cell (Nat.lt_of_lt_of_le hp hC)) (Nat.le_refl _)
theorem RowX.more {α : Type} {P : World → Nat → Addr → α → Prop} (hP : Keeps P) {n : Nat} {w : World} {B B' : Nat} (hB : B ≤ B') {es : List α} {A : Option Addr} (h : RowX P n w B es A) : RowX P n w B' es A:=h.keep hP (fun _ _ => rfl) hB
theorem RowX.on {α : Type} {P : World → Nat → Addr → α → Prop} (hP : Keeps P) {n : Nat} {w w' : World} (hb : Below w.heap.size w w') {es : List α} {A : Option Addr} (h : RowX P n w w.heap.size es A) : RowX P n w' w'.heap.size es A :=
 (h.stay hP hb (Nat.le_refl _)).more hP hb.size
theorem ExRow.on {w w' : World} (hb : Below w.heap.size w w') {es : List Ex} {A : Option Addr} (h : ExRow w w.heap.size es A) : ExRow w' w'.heap.size es A:=(h.stay hb (Nat.le_refl _)).more hb.size
structure Pm where
 t : List UInt8
 nm : List UInt8
structure At where
 k : Int
 a : Ex
 b : Ex
structure Cl where
 k : Int
 nm : List UInt8
 l : List Ex
structure Fm where
 ps : List Pm
 ats : List At
 cls : List Cl
def PmAt (w : World) (_ : Nat) (p : Addr) (x : Pm) : Prop :=
 w.cell? p = some (.string ⟨x.t.toArray⟩) ∧ w.cell? (p.add 1) = some (.string ⟨x.nm.toArray⟩) ∧ x.t.length ≤ maxLen ∧ x.nm.length ≤ maxLen
theorem pm_keeps : Keeps PmAt:=fun w w' B B' p x hk _ hp ⟨h0,h1,h2,h3⟩ => ⟨(hk _ hp).trans h0,(hk _ (by rw [block_adds];exact hp)).trans h1,h2,h3⟩
structure ACells (w : World) (p : Addr) (k ak an : Int) (sa : List UInt8) (la : Value) (bk bn : Int) (sb : List UInt8) (lb : Value) : Prop where
 c0 : w.cell? p = some (.int .i64 k)
 c1 : w.cell? (p.add 1) = some (.int .i64 ak)
 c2 : w.cell? (p.add 2) = some (.int .i64 an)
 c3 : w.cell? (p.add 3) = some (.string ⟨sa.toArray⟩)
 c4 : w.cell? (p.add 4) = some la
 c5 : w.cell? (p.add 5) = some (.int .i64 bk)
 c6 : w.cell? (p.add 6) = some (.int .i64 bn)
 c7 : w.cell? (p.add 7) = some (.string ⟨sb.toArray⟩)
 c8 : w.cell? (p.add 8) = some lb
theorem ACells.keep {w w' : World} {B : Nat} {p : Addr} {k ak an : Int} {sa : List UInt8} {la : Value} {bk bn : Int} {sb : List UInt8} {lb : Value} (hk : ∀ q : Addr,q.block < B → w'.cell? q = w.cell? q) (hp : p.block < B) (h : ACells w p k ak an sa la bk bn sb lb) : ACells w' p k ak an sa la bk bn sb lb:=by
 have e : ∀ j,(p.add j).block < B:=fun j => by rw [block_adds];exact hp
 exact ⟨(hk _ hp).trans h.c0,(hk _ (e 1)).trans h.c1,(hk _ (e 2)).trans h.c2,(hk _ (e 3)).trans h.c3,(hk _ (e 4)).trans h.c4,(hk _ (e 5)).trans h.c5,(hk _ (e 6)).trans h.c6,(hk _ (e 7)).trans h.c7,(hk _ (e 8)).trans h.c8⟩
theorem ACells.stay {w w' : World} {B : Nat} {p : Addr} {k ak an : Int} {sa : List UInt8} {la : Value} {bk bn : Int} {sb : List UInt8} {lb : Value} (h : ACells w p k ak an sa la bk bn sb lb) (hb : Below B w w') (hp : p.block < B) : ACells w' p k ak an sa la bk bn sb lb :=
 h.keep (fun _ hq => hb.cell hq) hp
theorem ACells.flat {w : World} {p : Addr} {k ak an : Int} {sa : List UInt8} {la : Value} {bk bn : Int} {sb : List UInt8} {lb : Value} (h : ACells w p k ak an sa la bk bn sb lb) :
 w.cell? p = some (.int .i64 k) ∧ w.cell? ⟨p.block,p.off + 1,none⟩ = some (.int .i64 ak) ∧ w.cell? ⟨p.block,p.off + 2,none⟩ = some (.int .i64 an) ∧ w.cell? ⟨p.block,p.off + 3,none⟩ = some (.string ⟨sa.toArray⟩) ∧ w.cell? ⟨p.block,p.off + 4,none⟩ = some la ∧
  w.cell? ⟨p.block,p.off + 5,none⟩ = some (.int .i64 bk) ∧ w.cell? ⟨p.block,p.off + 6,none⟩ = some (.int .i64 bn) ∧ w.cell? ⟨p.block,p.off + 7,none⟩ = some (.string ⟨sb.toArray⟩) ∧ w.cell? ⟨p.block,p.off + 8,none⟩ = some lb :=
 ⟨h.c0,h.c1,h.c2,h.c3,h.c4,h.c5,h.c6,h.c7,h.c8⟩
def AtAt (w : World) (B : Nat) (p : Addr) (x : At) : Prop :=
 ∃ (ak an : Int) (sa : List UInt8) (al : List Ex) (bk bn : Int) (sb : List UInt8) (bl : List Ex) (Aa : Option Addr) (ca : Nat) (Ab : Option Addr) (cb : Nat),x.a = .mk ak an sa al ∧ x.b = .mk bk bn sb bl ∧
  ACells w p x.k ak an sa (.slice Aa al.length ca) bk bn sb (.slice Ab bl.length cb) ∧ (sa.length ≤ maxLen ∧ al.length ≤ maxLen ∧ sb.length ≤ maxLen ∧ bl.length ≤ maxLen) ∧ ExRow w B al Aa ∧ ExRow w B bl Ab
theorem at_keeps : Keeps AtAt:=by
 rintro w w' B B' p x hk hB hp ⟨ak,an,sa,al,bk,bn,sb,bl,Aa,ca,Ab,cb,h1,h2,h3,h4,h5,h6⟩
 exact ⟨ak,an,sa,al,bk,bn,sb,bl,Aa,ca,Ab,cb,h1,h2,h3.keep hk hp,h4,h5.keep hk hB,h6.keep hk hB⟩
def ClAt (w : World) (B : Nat) (p : Addr) (x : Cl) : Prop :=
 ∃ (A : Option Addr) (c : Nat),w.cell? p = some (.int .i64 x.k) ∧ w.cell? (p.add 1) = some (.string ⟨x.nm.toArray⟩) ∧ w.cell? (p.add 2) = some (.slice A x.l.length c) ∧ x.nm.length ≤ maxLen ∧ x.l.length ≤ maxLen ∧ ExRow w B x.l A ∧ x.l.length ≤ c
theorem cl_keeps : Keeps ClAt:=by
 rintro w w' B B' p x hk hB hp ⟨A,c,h0,h1,h2,h3,h4,h5,h6⟩
 exact ⟨A,c,(hk _ hp).trans h0,(hk _ (by rw [block_adds];exact hp)).trans h1,(hk _ (by rw [block_adds];exact hp)).trans h2,h3,h4,h5.keep hk hB,h6⟩
abbrev PmRow:=RowX PmAt 2
abbrev AtRow:=RowX AtAt 9
abbrev ClRow:=RowX ClAt 3
def FmAt (w : World) (B : Nat) (p : Addr) (x : Fm) : Prop :=
 ∃ (Ap : Option Addr) (cp : Nat) (Aa : Option Addr) (ca : Nat) (Ac : Option Addr) (cc : Nat),w.cell? p = some (.slice Ap x.ps.length cp) ∧ w.cell? (p.add 1) = some (.slice Aa x.ats.length ca) ∧ w.cell? (p.add 2) = some (.slice Ac x.cls.length cc) ∧
  (x.ps.length ≤ maxLen ∧ x.ats.length ≤ maxLen ∧ x.cls.length ≤ maxLen) ∧ PmRow w B x.ps Ap ∧ AtRow w B x.ats Aa ∧ ClRow w B x.cls Ac
theorem fm_keeps : Keeps FmAt:=by
 rintro w w' B B' p x hk hB hp ⟨Ap,cp,Aa,ca,Ac,cc,h0,h1,h2,h3,h4,h5,h6⟩
 exact ⟨Ap,cp,Aa,ca,Ac,cc,(hk _ hp).trans h0,(hk _ (by rw [block_adds];exact hp)).trans h1,(hk _ (by rw [block_adds];exact hp)).trans h2,h3,h4.keep pm_keeps hk hB,h5.keep at_keeps hk hB,h6.keep cl_keeps hk hB⟩
abbrev FmRow:=RowX FmAt 3
abbrev cellV (k : Int) (nm : ByteArray) (l : Value) : Value:=.agg #[.int .i64 k,.string nm,l]
abbrev cellC (k : Int) (nm : ByteArray) (l : Value) : Obj:=.cells #[.int .i64 k,.string nm,l] 97
abbrev formulaV (p a c : Value) : Value:=.agg #[p,a,c]
abbrev formulaC (p a c : Value) : Obj:=.cells #[p,a,c] 69
structure Cal where
 r : List UInt8
 p : List UInt8
 l : List Ex
def CalAt (w : World) (B : Nat) (p : Addr) (x : Cal) : Prop :=
 ∃ (A : Option Addr) (c : Nat),w.cell? p = some (.string ⟨x.r.toArray⟩) ∧ w.cell? (p.add 1) = some (.string ⟨x.p.toArray⟩) ∧ w.cell? (p.add 2) = some (.slice A x.l.length c) ∧ x.r.length ≤ maxLen ∧ x.p.length ≤ maxLen ∧ x.l.length ≤ maxLen ∧ ExRow w B x.l A
theorem cal_keeps : Keeps CalAt:=by
 rintro w w' B B' p x hk hB hp ⟨A,c,h0,h1,h2,h3,h4,h5,h6⟩
 exact ⟨A,c,(hk _ hp).trans h0,(hk _ (by rw [block_adds];exact hp)).trans h1,(hk _ (by rw [block_adds];exact hp)).trans h2,h3,h4,h5,h6.keep hk hB⟩
abbrev CalRow:=RowX CalAt 3
abbrev callV (r p : ByteArray) (l : Value) : Value:=.agg #[.string r,.string p,l]
abbrev callC (r p : ByteArray) (l : Value) : Obj:=.cells #[.string r,.string p,l] 217
inductive St where
 | mk (k ln co : Int) (nm fd fr : List UInt8) (e : Ex) (c : Cn) (cl : List Cal) (iv : List Fm) (b o : List St) : St
def St.body : St → List St
 | .mk _ _ _ _ _ _ _ _ _ _ b _ => b
def St.els : St → List St
 | .mk _ _ _ _ _ _ _ _ _ _ _ o => o
structure SAd where
 e : Option Addr
 a : Option Addr
 b : Option Addr
 l : Option Addr
 c : Option Addr
 i : Option Addr
 s : Option Addr
 t : Option Addr
 ne : Nat
 na : Nat
 nb : Nat
 nl : Nat
 nc : Nat
 ni : Nat
 ns : Nat
 nt : Nat
def stCs (d : SAd) : St → Array Value
 | .mk k ln co nm fd fr (.mk ek en es el) (.mk ck (.mk ak an sa al) (.mk bk bn sb bl) l) cl iv b o =>
   #[.int .i64 k,.int .i64 ln,.int .i64 co,.string ⟨nm.toArray⟩,.string ⟨fd.toArray⟩,.string ⟨fr.toArray⟩,.int .i64 ek,.int .i64 en,.string ⟨es.toArray⟩,.slice d.e el.length d.ne,
    .int .i64 ck,.int .i64 ak,.int .i64 an,.string ⟨sa.toArray⟩,.slice d.a al.length d.na,.int .i64 bk,.int .i64 bn,.string ⟨sb.toArray⟩,.slice d.b bl.length d.nb,.slice d.l l.length d.nl,
    .slice d.c cl.length d.nc,.slice d.i iv.length d.ni,.slice d.s b.length d.ns,.slice d.t o.length d.nt]
def StOwn (w : World) (B : Nat) (d : SAd) : St → Prop
 | .mk _ _ _ nm fd fr (.mk _ _ es el) (.mk _ (.mk _ _ sa al) (.mk _ _ sb bl) l) cl iv b o =>
   (nm.length ≤ maxLen ∧ fd.length ≤ maxLen ∧ fr.length ≤ maxLen ∧ es.length ≤ maxLen ∧ el.length ≤ maxLen ∧ sa.length ≤ maxLen ∧ al.length ≤ maxLen ∧ sb.length ≤ maxLen ∧ bl.length ≤ maxLen ∧ l.length ≤ maxLen ∧ cl.length ≤ maxLen ∧ iv.length ≤ maxLen ∧ b.length ≤ maxLen ∧ o.length ≤ maxLen) ∧
     ExRow w B el d.e ∧ ExRow w B al d.a ∧ ExRow w B bl d.b ∧ CnRow w B l d.l ∧ CalRow w B cl d.c ∧ FmRow w B iv d.i
theorem StOwn.keep {w w' : World} {B B' : Nat} (hk : ∀ q : Addr,q.block < B → w'.cell? q = w.cell? q) (hB : B ≤ B') {d : SAd} {s : St} (h : StOwn w B d s) : StOwn w' B' d s:=by
 obtain ⟨k,ln,co,nm,fd,fr,⟨ek,en,es,el⟩,⟨ck,⟨ak,an,sa,al⟩,⟨bk,bn,sb,bl⟩,l⟩,cl,iv,b,o⟩:=s
 obtain ⟨h0,h1,h2,h3,h4,h5,h6⟩:=h
 exact ⟨h0,h1.keep hk hB,h2.keep hk hB,h3.keep hk hB,h4.keep hk hB,h5.keep cal_keeps hk hB,h6.keep fm_keeps hk hB⟩
theorem stCs_size (d : SAd) (s : St) : (stCs d s).size = 24:=by
 obtain ⟨k,ln,co,nm,fd,fr,⟨ek,en,es,el⟩,⟨ck,⟨ak,an,sa,al⟩,⟨bk,bn,sb,bl⟩,l⟩,cl,iv,b,o⟩:=s
 rfl
theorem stCs_one (d : SAd) (s : St) : (stCs d s).all (·.oneCell') = true:=by
 obtain ⟨k,ln,co,nm,fd,fr,⟨ek,en,es,el⟩,⟨ck,⟨ak,an,sa,al⟩,⟨bk,bn,sb,bl⟩,l⟩,cl,iv,b,o⟩:=s
 unfold stCs
 rw [List.all_toArray]
 rfl
inductive StRow (w : World) (B : Nat) : List St → Option Addr → Prop
 | nil (A : Option Addr) : StRow w B [] A
 | row (a : Addr) (ss : List St) (D : Nat → SAd) (hb : a.block < B)
    (cells : ∀ i s,ss[i]? = some s → (∀ j v,(stCs (D i) s)[j]? = some v → w.cell? ((a.add (i * 24)).add j) = some v) ∧ StOwn w B (D i) s)
    (sub1 : ∀ i s,ss[i]? = some s → StRow w B s.body (D i).s) (sub2 : ∀ i s,ss[i]? = some s → StRow w B s.els (D i).t) : StRow w B ss (some a)
theorem StRow.at_ {w : World} {B : Nat} {ss : List St} {A : Option Addr} (h : StRow w B ss A) {i : Nat} {s : St} (hi : ss[i]? = some s) :
 ∃ a d,A = some a ∧ a.block < B ∧ (∀ j v,(stCs d s)[j]? = some v → w.cell? ((a.add (i * 24)).add j) = some v) ∧ StOwn w B d s ∧ StRow w B s.body d.s ∧ StRow w B s.els d.t:=by
 cases h with
 | nil => simp at hi
 | row a ss D hb cells sub1 sub2 => exact ⟨a,D i,rfl,hb,(cells i s hi).1,(cells i s hi).2,sub1 i s hi,sub2 i s hi⟩
theorem StRow.keep {w w' : World} {B B' : Nat} (hk : ∀ q : Addr,q.block < B → w'.cell? q = w.cell? q) (hB : B ≤ B') {ss : List St} {A : Option Addr} (h : StRow w B ss A) : StRow w' B' ss A:=by
 induction h with
 | nil A => exact .nil A
 | row a ss D hb cells sub1 sub2 ih1 ih2 =>
   exact .row a ss D (Nat.lt_of_lt_of_le hb hB) (fun i s hi => ⟨fun j v hv => (hk _ (by rw [block_adds,block_adds];exact hb)).trans ((cells i s hi).1 j v hv),(cells i s hi).2.keep hk hB⟩) ih1 ih2
theorem StRow.on {w w' : World} (hb : Below w.heap.size w w') {ss : List St} {A : Option Addr} (h : StRow w w.heap.size ss A) : StRow w' w'.heap.size ss A:=h.keep (fun _ hp => hb.cell hp) hb.size
theorem StOwn.on {w w' : World} (hb : Below w.heap.size w w') {d : SAd} {s : St} (h : StOwn w w.heap.size d s) : StOwn w' w'.heap.size d s:=h.keep (fun _ hp => hb.cell hp) hb.size
theorem CnRow.on {w w' : World} (hb : Below w.heap.size w w') {ss : List Cn} {A : Option Addr} (h : CnRow w w.heap.size ss A) : CnRow w' w'.heap.size ss A:=h.keep (fun _ hp => hb.cell hp) hb.size
end Go.Proofs.YtojjfdegkooknaaGreatDoor
