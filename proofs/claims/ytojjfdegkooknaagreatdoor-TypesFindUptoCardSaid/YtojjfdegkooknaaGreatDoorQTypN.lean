import Derived.Test.YtojjfdegkooknaaGreatDoorQTypT
import Derived.Test.YtojjfdegkooknaaGreatDoorQTypX
import Derived.Test.YtojjfdegkooknaaGreatDoorQTypH
set_option linter.unusedVariables false
set_option linter.unusedSimpArgs false
namespace Go.Proofs.YtojjfdegkooknaaGreatDoor
open Go.RowKit
def argC (sc br : List Pm) (nm : List UInt8) (x : Ex × Pm) : Ck :=
 match exT sc br x.1 with
 | .ok y => demC (fitsB y x.2.t) 9 nm
 | .error t => some t
def argsC (sc br : List Pm) (nm : List UInt8) (l : List Ex) (ps : List Pm) : Ck:=seqC (demC (l.length == ps.length) 2 nm) (allC (argC sc br nm) (l.zip ps))
end Go.Proofs.YtojjfdegkooknaaGreatDoor
namespace Go.Proofs.YtojjfdegkooknaaGreatDoor
def bindC {α : Type} : Except Thr α → (α → Ck) → Ck
 | .error t,_ => some t
 | .ok x,f => f x
def gotE {α : Type} (o : Option α) (s : List UInt8) (x : Int) : Except Thr α:=match o with
 | some y => .ok y
 | none => .error (s,x)
def dfPs (o : Option Df) (n : List UInt8) : Except Thr (List Pm):=match o with
 | some d => .ok d.ps
 | none => .error (n,7)
def rcPs (o : Option Rc) (n : List UInt8) : Except Thr (List Pm):=match o with
 | some r => .ok (⟨r.nm,[]⟩ :: r.fs)
 | none => .error (n,7)
def cellPsE (p : Pg) (x : Cl) : Except Thr (List Pm):=if x.k = 2 then dfPs (fstO (·.nm) p.ds x.nm) x.nm else rcPs (fstO (·.nm) p.rs x.nm) x.nm
mutual
def exVars : Ex → List (List UInt8)
 | .mk k _ s l => (if k = 2 then [s] else []) ++ exsVars l
def exsVars : List Ex → List (List UInt8)
 | [] => []
 | x :: l => exVars x ++ exsVars l
end
def plainN : Ex → List (List UInt8)
 | .mk k _ s _ => if k = 2 then [s] else []
def plainL (l : List Ex) : List (List UInt8):=l.flatMap plainN
structure Stp where
 nd : List (List UInt8)
 ms : List (List UInt8)
def stepsCl (x : Cl) : List Stp:=if x.k = 1 then match x.l with
 | [] => []
 | a :: r => [⟨exVars a,plainL r⟩]
 else []
def stepsAt (x : At) : List Stp:=if x.k = 1 then [⟨exVars x.a,plainN x.b⟩,⟨exVars x.b,plainN x.a⟩] else []
def stepsF (f : Fm) : List Stp:=f.cls.flatMap stepsCl ++ f.ats.flatMap stepsAt
abbrev Unk:=List UInt8 → Bool
def stepU (U : Unk) (s : Stp) : Unk:=if s.nd.any U then U else fun n => U n && !s.ms.contains n
def passU (l : List Stp) (U : Unk) : Unk:=l.foldl stepU U
def iterU (l : List Stp) : Nat → Unk → Unk
 | 0,U => U
 | n + 1,U => iterU l n (passU l U)
def unk0 (ps : List Pm) : Unk:=fun n => ps.any fun x => x.t == intB && x.nm == n
def detU (f : Fm) : Unk:=iterU (stepsF f) (f.ps.length + 1) (unk0 f.ps)
def detC (f : Fm) : Ck:=allC (fun x : Pm => demC (!detU f x.nm) 11 x.nm) f.ps
def atC (sc : List Pm) (a : At) : Ck:=cmpC sc [] a.k a.a a.b
def clC (p : Pg) (sc : List Pm) (x : Cl) : Ck:=bindC (cellPsE p x) fun ps => argsC sc [] x.nm x.l ps
def exiC (sc : List Pm) (x : Pm) : Ck:=demC (!(fstO (·.nm) sc x.nm).isSome) 8 x.nm
def fmC (p : Pg) (sc : List Pm) (f : Fm) : Ck :=
 seqC (allC (exiC sc) f.ps) (seqC (tysC p.rs f.ps) (seqC (allC (atC (sc ++ f.ps)) f.ats) (seqC (allC (clC p (sc ++ f.ps)) f.cls) (detC f))))
def fmsC (p : Pg) (sc : List Pm) (l : List Fm) : Ck:=allC (fmC p sc) l
def dfC (p : Pg) (d : Df) : Ck:=seqC (paramsC p.rs d.ps) (seqC (match d.ps with
 | [] => none
 | x :: _ => demC (!(x.t == intB)) 9 d.nm) (fmsC p d.ps d.cs))
def lmC (p : Pg) (m : Lm) : Ck:=seqC (paramsC p.rs m.ps) (seqC (demC (m.lf.ps.length == 0) 3 m.nm) (seqC (fmC p m.ps m.lf) (fmC p m.ps m.rt)))
/-! ### statements -/
def trgO (o : Option Pm) (h : Bool) (s : List UInt8) : Except Thr (List UInt8):=match o with
 | none => .error (s,7)
 | some x => if h then .ok x.t else .error (s,6)
def trgE (sc asn : List Pm) (s : List UInt8) : Except Thr (List UInt8):=trgO (fstO (·.nm) sc s) (fstO (·.nm) asn s).isSome s
def recE (p : Pg) (sc br : List Pm) (s : List UInt8) : Except Thr Rc:=match kindE sc br s with
 | .error t => .error t
 | .ok t => gotE (fstO (·.nm) p.rs t) s 9
def calC (p : Pg) (sc br asn : List Pm) (c : Cal) : Ck:=bindC (gotE (fstO (·.nm) p.xs c.p) c.p 7) fun x =>
 seqC (argsC sc br c.p c.l x.ps) (if c.r = [] then none else bindC (trgE sc asn c.r) fun t => demC (t == x.rt) 9 c.r)
def parC (p : Pg) (sc br asn : List Pm) (a b : Cal) : Ck :=
 seqC (calC p sc br asn a) (seqC (calC p sc br asn b) (demC (a.r == [] || !(a.r == b.r)) 8 a.r))
def asgC (sc br asn : List Pm) (nm : List UInt8) (e : Ex) : Ck:=bindC (trgE sc asn nm) fun t => bindC (exT sc br e) fun y => demC (fitsB y t) 9 nm
def ldC (p : Pg) (sc br asn : List Pm) (nm fd fr : List UInt8) : Ck:=bindC (trgE sc asn nm) fun t => bindC (recE p sc br fr) fun r => bindC (gotE (fstO (·.nm) r.fs fd) fd 7) fun f => demC (f.t == t) 9 nm
def svC (p : Pg) (sc br : List Pm) (nm fd : List UInt8) (e : Ex) : Ck:=bindC (recE p sc br nm) fun r => bindC (gotE (fstO (·.nm) r.fs fd) fd 7) fun f => bindC (exT sc br e) fun y => demC (fitsB y f.t) 9 fd
def nwC (p : Pg) (sc asn : List Pm) (nm fr : List UInt8) : Ck:=bindC (gotE (fstO (·.nm) p.rs fr) fr 7) fun r => bindC (trgE sc asn nm) fun t => demC (t == r.nm) 9 nm
def frC (p : Pg) (sc br : List Pm) (nm : List UInt8) : Ck:=bindC (recE p sc br nm) fun _ => none
def inC (sc asn : List Pm) (nm : List UInt8) : Ck:=bindC (trgE sc asn nm) fun t => demC (t == intB) 9 nm
def wiC (p : Pg) (nm : List UInt8) : Ck:=bindC (gotE (fstO (·.nm) p.ks nm) nm 7) fun _ => none
def stC (p : Pg) (sc br asn : List Pm) : St → Ck
 | .mk k _ _ nm fd fr e c cl iv _ _ =>
   if k = 1 then asgC sc br asn nm e
   else if k = 2 then ldC p sc br asn nm fd fr
   else if k = 3 then svC p sc br nm fd e
   else if k = 4 then nwC p sc asn nm fr
   else if k = 5 then frC p sc br nm
   else if k = 6 then inC sc asn nm
   else if k = 7 then (match cl with
    | a :: _ => calC p sc br asn a
    | [] => none)
   else if k = 8 ∨ k = 10 then cnC sc br c
   else if k = 9 then seqC (cnC sc br c) (fmsC p sc iv)
   else if k = 11 then wiC p nm
   else if k = 12 then (match cl with
    | a :: b :: _ => parC p sc br asn a b
    | _ => none)
   else none
abbrev PCk:=Ck × (Int × Int)
def seqP : PCk → (Int × Int → PCk) → PCk
 | (some t,q),_ => (some t,q)
 | (none,q),f => f q
mutual
def stP (p : Pg) (sc br asn : List Pm) : St → PCk
 | .mk k ln co nm fd fr e c cl iv b o => seqP (stC p sc br asn (.mk k ln co nm fd fr e c cl iv b o),(ln,co)) fun q => seqP (stsP p sc br asn q b) fun q => stsP p sc br asn q o
def stsP (p : Pg) (sc br asn : List Pm) (q : Int × Int) : List St → PCk
 | [] => (none,q)
 | s :: l => seqP (stP p sc br asn s) fun q => stsP p sc br asn q l
end
def bodyAs (x : Pr) : List Pm:=resL x ++ x.lo
def prC (p : Pg) (x : Pr) : PCk :=
 seqP (seqC (paramsC p.rs (scopeL p.gs x)) (seqC (fmsC p (p.gs ++ x.ps ++ x.lg) x.rq) (fmsC p (p.gs ++ x.ps ++ x.lg ++ resL x) x.es)),(x.ln,x.co)) fun q =>
  stsP p (scopeL p.gs x) x.lg (bodyAs x) q x.bd
def prsC (p : Pg) (q : Int × Int) : List Pr → PCk
 | [] => (none,q)
 | x :: l => seqP (prC p x) fun q => prsC p q l
def namesC (p : Pg) : Ck :=
 seqC (diffC [] (p.rs.map (·.nm))) (seqC (diffC [] (p.gs.map (·.nm))) (seqC (diffC [] (p.ks.map (·.nm))) (seqC (diffC [] (p.ds.map (·.nm))) (seqC (diffC [] (p.ms.map (·.nm))) (diffC [] (p.xs.map (·.nm)))))))
def pgC (p : Pg) : PCk :=
 seqP (seqC (namesC p) (seqC (allC (fun r : Rc => paramsC p.rs r.fs) p.rs) (seqC (tysC p.rs p.gs) (seqC (allC (fun k : Lk => fmsC p p.gs k.iv) p.ks) (seqC (allC (dfC p) p.ds) (allC (lmC p) p.ms))))),(0,0)) fun q => prsC p q p.xs
theorem seqP_some (t : Thr) (q : Int × Int) (f : Int × Int → PCk) : seqP (some t,q) f = (some t,q):=rfl
theorem seqP_none (q : Int × Int) (f : Int × Int → PCk) : seqP (none,q) f = f q:=rfl
end Go.Proofs.YtojjfdegkooknaaGreatDoor
