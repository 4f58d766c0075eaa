/-
  tree.Walk at any list: what its iterator yields, in order.
-/
import Derived.Test.YtnkpgpmaiicdeaaGreatDoorSTreeCk
set_option linter.unusedVariables false
set_option linter.unusedSimpArgs false
namespace Go.Proofs.YtnkpgpmaiicdeaaGreatDoor
set_option maxRecDepth 100000
set_option maxHeartbeats 1000000
open Go.RowKit
theorem StRow.tail {w : World} {B : Nat} {x : St} {l : List St} {a : Addr} (h : StRow w B (x :: l) (some a)) : StRow w B l (some (a.add 24)):=by
 cases h with
 | row a ss D hb cells sub1 sub2 =>
   refine .row (a.add 24) l (fun i => D (i + 1)) (by rw [show (a.add 24).block = a.block by unfold Addr.add;split <;> rfl];exact hb) (fun i s hi => ⟨fun j v hv => ?_,(cells (i + 1) s hi).2⟩) (fun i s hi => sub1 (i + 1) s hi) (fun i s hi => sub2 (i + 1) s hi)
   have := (cells (i + 1) s hi).1 j v hv
   rw [add_add_plain] at this
   rw [add_add_plain,add_add_plain]
   rwa [show 24 + (i * 24 + j) = (i + 1) * 24 + j from by omega]
theorem stOwn_len {w : World} {B : Nat} {d : SAd} {x : St} (h : StOwn w B d x) : x.body.length ≤ maxLen ∧ x.els.length ≤ maxLen:=by
 obtain ⟨k0,ln,co,nm,fd,fr,⟨ek,en,es,el⟩,⟨ck,⟨ak,an,sa,al⟩,⟨bk,bn,sb,bl⟩,l⟩,cl,iv,bd,ot⟩:=x
 obtain ⟨⟨m0,m1,m2,m3,m4,m5,m6,m7,m8,m9,m10,m11,m12,m13⟩,_⟩:=h
 exact ⟨m12,m13⟩
theorem stCs_at0 (d : SAd) (x : St) : ∃ v,(stCs d x)[0]? = some v:=by
 have := stCs_size d x
 exact ⟨(stCs d x)[0],Array.getElem?_eq_getElem (by omega)⟩
theorem stCs_2223 (d : SAd) (x : St) : (stCs d x)[22]? = some (.slice d.s x.body.length d.ns) ∧ (stCs d x)[23]? = some (.slice d.t x.els.length d.nt):=by
 obtain ⟨k0,ln,co,nm,fd,fr,⟨ek,en,es,el⟩,⟨ck,⟨ak,an,sa,al⟩,⟨bk,bn,sb,bl⟩,l⟩,cl,iv,bd,ot⟩:=x
 exact ⟨rfl,rfl⟩
theorem st_ord {w W : World} {B : Nat} {Q : Nat → Prop} (hin : ∀ (q : Addr) (v : Value),w.cell? q = some v → W.cell? q = some v ∧ Q q.block) {l f : List St} (h : FlL l f) : ∀ A : Option Addr,StRow w B l A →
 ∃ ps : List (Array Value × St),Ord W Q A l.length (ps.map (·.1)) ∧ ps.map (·.2) = f ∧ ∀ p ∈ ps,VSt w B p.1 p.2:=by
 induction h with
 | nil => exact fun A _ => ⟨[],.nil A,rfl,fun p hp => by cases hp⟩
 | cons s l fb fo fl _ _ _ ih1 ih2 ih3 =>
   intro A hr
   obtain ⟨a,d,rfl,hab,hc,own,r1,r2⟩:=hr.at_ (i:=0) (s:=s) rfl
   rw [Nat.zero_mul,show a.add 0 = a by simp [Addr.add]] at hc
   obtain ⟨p1,o1,e1,g1⟩:=ih1 d.s r1
   obtain ⟨p2,o2,e2,g2⟩:=ih2 d.t r2
   obtain ⟨p3,o3,e3,g3⟩:=ih3 (some (a.add 24)) hr.tail
   obtain ⟨v0,hv0⟩:=stCs_at0 d s
   have h0:=hin _ _ (hc 0 v0 hv0)
   rw [show a.add 0 = a by simp [Addr.add]] at h0
   refine ⟨(stCs d s,s) :: (p1 ++ (p2 ++ p3)),?_,by simp [e1,e2,e3],fun p hp => ?_⟩
   ·rw [List.map_cons,List.map_append,List.map_append]
    exact .cons a l.length (stCs d s) d.s d.t s.body.length s.els.length d.ns d.nt _ _ _ h0.2 (lt_of_cell h0.1) (stCs_size d s) (by rw [Array.all_eq_true_iff_forall_mem];exact fun u hu => stCs_oneM d s u (by simpa using hu))
     (stOwn_len own).1 (stOwn_len own).2 (fun j v hv => (hin _ _ (hc j v hv)).1) (stCs_2223 d s).1 (stCs_2223 d s).2 o1 o2 o3
   ·rcases List.mem_cons.1 hp with rfl | hp
    ·exact ⟨d,rfl,own,r1,r2⟩
    ·rcases List.mem_append.1 hp with hp | hp
     ·exact g1 p hp
     ·rcases List.mem_append.1 hp with hp | hp
      ·exact g2 p hp
      ·exact g3 p hp
theorem ws_fl {l f : List St} (h : FlL l f) : WS l → ∀ x ∈ f,WOwn x ∧ WS x.body ∧ WS x.els:=by
 induction h with
 | nil => intro _ x hx;cases hx
 | cons s l fb fo fl _ _ _ ih1 ih2 ih3 =>
   intro hw x hx
   cases hw with
   | mk _ own len sub1 sub2 =>
     have hs:=List.mem_cons_self (a:=s) (l:=l)
     have len2 : l.length * 368 ≤ 140737488355328:=Nat.le_trans (Nat.mul_le_mul_right 368 (by rw [List.length_cons];exact Nat.le_succ _)) len
     rcases List.mem_cons.1 hx with rfl | hx
     ·exact ⟨own _ hs,sub1 _ hs,sub2 _ hs⟩
     ·rcases List.mem_append.1 hx with hx | hx
      ·rcases List.mem_append.1 hx with hx | hx
       ·exact ih1 (sub1 _ hs) x hx
       ·exact ih2 (sub2 _ hs) x hx
      ·exact ih3 (.mk l (fun y hy => own y (List.mem_cons_of_mem _ hy)) len2 (fun y hy => sub1 y (List.mem_cons_of_mem _ hy)) (fun y hy => sub2 y (List.mem_cons_of_mem _ hy))) x hx
def Walked (B0 : Nat) (l f : List St) (w : World) (e : Ending) (w' : World) : Prop :=
 ∃ (b : Nat) (A : Option Addr) (c : Nat) (w0 : World) (ps : List (Array Value × St)),e = .returned (.func (.func 28) #[] #[.pointer (some ⟨b,0,none⟩)]) ∧ w'.cell? ⟨b,0,none⟩ = some (.slice A l.length c) ∧ w.heap.size ≤ b ∧ b < w'.heap.size ∧
  In (fun k => (k < B0 ∨ w.heap.size ≤ k) ∧ k < w'.heap.size) w0 w' ∧ Ord w' (fun k => (k < B0 ∨ w.heap.size ≤ k) ∧ k < w'.heap.size) A l.length (ps.map (·.1)) ∧ ps.map (·.2) = f ∧ (∀ p ∈ ps,VSt w0 w0.heap.size p.1 p.2) ∧ Below w.heap.size w w'
theorem walk_any {l f : List St} (hw : WS l) (hf : FlL l f) (B0 : Nat) (A : Option Addr) (c : Nat) (w : World) (hB0 : B0 ≤ w.heap.size) (hr : StRow w B0 l A) :
 Calls Tryz.prog 8 #[.slice A l.length c] w (Walked B0 l f w):=by
 have H:=Lib.hid (fun W hb => cstmts_top hw B0 A c W (Nat.le_trans hB0 (Below.size hb)) (hr.keep (fun q hq => Below.cell (B:=w.heap.size) (w:=w) (w':=W) hb (Nat.lt_of_lt_of_le hq hB0)) (Nat.le_refl _)))
 obtain ⟨n,hn⟩ : ∃ n,n = l.length:=⟨_,rfl⟩
 rw [← hn] at H ⊢
 have HN:=Lib.hid (And.intro hn (And.intro hf hB0))
 clear hw hB0 hr hn hf
 go_enter Tryz.func8,Tryz.ntmps8
 go_wp2_with (go_at_call 27;refine (H.out _ (Below.refl _ _)).mono ?_;rintro e w3 ⟨A',c',rfl,hq⟩;have HP:=Lib.hid hq;clear hq)
 go_ret
 obtain ⟨hn,hf,hB0⟩:=HN.out
 obtain ⟨⟨w0,hin,hrow⟩,hb⟩:=HP.out
 have hsz:=size_of_alloc w3 (.cells #[.slice A' l.length c'] 22)
 have hal:=below_alloc w3 (.cells #[.slice A' l.length c'] 22)
 have hin2 : ∀ (q : Addr) (v : Value),w0.cell? q = some v → (w3.alloc (.cells #[.slice A' l.length c'] 22)).cell? q = some v ∧ ((q.block < B0 ∨ w.heap.size ≤ q.block) ∧ q.block < (w3.alloc (.cells #[.slice A' l.length c'] 22)).heap.size):=fun q v hq => by
  obtain ⟨j1,j2⟩:=hin q v hq
  have j3:=lt_of_cell j1
  exact ⟨(hal.cell j3).trans j1,j2,by omega⟩
 obtain ⟨ps,o1,o2,o3⟩:=st_ord (Q:=fun k => (k < B0 ∨ w.heap.size ≤ k) ∧ k < (w3.alloc (.cells #[.slice A' l.length c'] 22)).heap.size) hin2 hf A' (StRow.ofV hrow)
 refine ⟨w3.heap.size,A',c',w0,ps,rfl,cell_of_block (heap_of_alloc w3 _) 0 rfl,hb.size,by omega,hin2,o1,o2,o3,hb.chain hal⟩
def Yielded (f : List St) (k : Nat) (cs : Array Value) (W : World) : Prop:=∃ x,f[k]? = some x ∧ cs.size = 24 ∧ cs.all (·.oneCell') = true ∧ VSt W W.heap.size cs x
theorem walk_copy {f : List St} (hws : ∀ x ∈ f,WOwn x ∧ WS x.body ∧ WS x.els) {Q : Nat → Prop} {w0 w : World} (hin : In Q w0 w) {ps : List (Array Value × St)} (hf : ps.map (·.2) = f) (hv : ∀ p ∈ ps,VSt w0 w0.heap.size p.1 p.2)
 (k : Nat) (cs : Array Value) (W : World) (hk : (ps.map (·.1))[k]? = some cs) (hQ : ∀ b,Q b → W.heap[b]? = w.heap[b]?) :
 Calls Tryz.prog 30 #[.agg cs,.int .i64 30] W fun e W' => ∃ cs' : Array Value,e = .returned (.agg cs') ∧ Yielded f k cs' W' ∧ Below W.heap.size W W':=by
 rw [List.getElem?_map] at hk
 cases e : ps[k]? with
 | none => rw [e] at hk;cases hk
 | some p =>
   rw [e] at hk
   obtain rfl : p.1 = cs:=by simpa using hk
   have hx : f[k]? = some p.2:=by rw [← hf,List.getElem?_map,e];rfl
   obtain ⟨h1,h2,h3⟩:=hws _ (List.mem_of_getElem? hx)
   have hsub : Sub w0 W:=fun q v hq => by
    obtain ⟨j1,j2⟩:=hin q v hq
    exact (World.cell?_of_block (hQ _ j2)).trans j1
   obtain ⟨d,hcs,hown,r1,r2⟩:=vst_subs w0 W _ _ _ hsub (hv p (List.mem_of_getElem? e))
   refine (cstmt_any W.heap.size p.2 h1 30 p.1 d W (Nat.le_refl _) hcs hown
    (fun W' hb => cstmts_any h2 W.heap.size 30 d.s d.ns W' hb.size (by omega) (by omega) (r1.keep (fun q hq => hb.cell hq) (Nat.le_refl _)))
    (fun W' hb => cstmts_any h3 W.heap.size 30 d.t d.nt W' hb.size (by omega) (by omega) (r2.keep (fun q hq => hb.cell hq) (Nat.le_refl _)))).mono ?_
   rintro e w' ⟨cs',rfl,e2,e3,e4,e5⟩
   exact ⟨cs',rfl,⟨p.2,hx,e2,e3,e4.out vst_subs⟩,e5⟩
end Go.Proofs.YtnkpgpmaiicdeaaGreatDoor
