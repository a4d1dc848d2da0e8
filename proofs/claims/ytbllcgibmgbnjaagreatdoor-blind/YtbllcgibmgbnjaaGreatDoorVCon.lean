import Derived.Test.YtbllcgibmgbnjaaGreatDoorShelf
import Derived.Test.YtbllcgibmgbnjaaGreatDoorM02
import Derived.Test.YtbllcgibmgbnjaaGreatDoorM03
import Derived.Test.YtbllcgibmgbnjaaGreatDoorM04
import Derived.Test.YtbllcgibmgbnjaaGreatDoorM05
import Derived.Test.YtbllcgibmgbnjaaGreatDoorM06
import Derived.Test.YtbllcgibmgbnjaaGreatDoorM07
import Derived.Test.YtbllcgibmgbnjaaGreatDoorM08
import Derived.Test.YtbllcgibmgbnjaaGreatDoorM09
import Derived.Test.YtbllcgibmgbnjaaGreatDoorM10
import Derived.Test.YtbllcgibmgbnjaaGreatDoorM11
import Derived.Test.YtbllcgibmgbnjaaGreatDoorM12
import Derived.Test.YtbllcgibmgbnjaaGreatDoorM13
import Derived.Test.YtbllcgibmgbnjaaGreatDoorM14
import Derived.Test.YtbllcgibmgbnjaaGreatDoorM15
import Derived.Test.YtbllcgibmgbnjaaGreatDoorM16
import Derived.Test.YtbllcgibmgbnjaaGreatDoorM17
import Derived.Test.YtbllcgibmgbnjaaGreatDoorM18
import Derived.Test.YtbllcgibmgbnjaaGreatDoorM19
import Derived.Test.YtbllcgibmgbnjaaGreatDoorM20
import Derived.Test.YtbllcgibmgbnjaaGreatDoorM21
import Derived.Test.YtbllcgibmgbnjaaGreatDoorM22
import Derived.Test.YtbllcgibmgbnjaaGreatDoorM23
import Derived.Test.YtbllcgibmgbnjaaGreatDoorM24
import Derived.Test.YtbllcgibmgbnjaaGreatDoorM25
import Derived.Test.YtbllcgibmgbnjaaGreatDoorM26
import Derived.Test.YtbllcgibmgbnjaaGreatDoorM27
import Derived.Test.YtbllcgibmgbnjaaGreatDoorM28
import Derived.Test.YtbllcgibmgbnjaaGreatDoorM40
import Derived.Test.YtbllcgibmgbnjaaGreatDoorM41
import Derived.Test.YtbllcgibmgbnjaaGreatDoorChecked
import Derived.Deep.DeepHandedRow
import Derived.Deep.Slices
import Derived.LaidMore
import Derived.Carry
set_option maxRecDepth 100000
namespace Go.Proofs.YtbllcgibmgbnjaaGreatDoor.versionsProof
open Go.ChangeShapes Go.WideShapes Go.ChangeAt Go.RowKit
open Go.ChangeMaps (open_string shut_string)
open Go.Proofs.YtbllcgibmgbnjaaGreatDoor.R (Bs str)
open Go.Proofs.YtbllcgibmgbnjaaGreatDoor.E (own gl_at laidWorld)
theorem int_range {n:Int} (h:(Lit.int .i64 n).wf=true):-9223372036854775808≤n∧n≤9223372036854775807:=by
 simp [Lit.wf,IntKind.min,IntKind.max,IntKind.signed,IntKind.bits] at h
 omega
theorem laidOut:laidOutB Tryz.prog=true:=by kernel_rfl
theorem cells3:Tryz.prog.cellsOf 3=1:=by kernel_rfl
theorem cells9:Tryz.prog.cellsOf 9=1:=by kernel_rfl
theorem cells50:Tryz.prog.cellsOf 50=4:=by kernel_rfl
theorem list_of {α:Type} {p:Nat→α→Prop}:∀ (n:Nat),(∀ i,i < n→∃ x,p i x)→∃ l:List α,l.length=n∧∀ i (h:i < l.length),p i l[i]
 | 0,_=>⟨[],rfl,fun i h=>absurd h (by simp)⟩
 | n+1,h=>by
  obtain ⟨l,h1,h2⟩:=list_of n (fun i hi=>h i (by omega))
  obtain ⟨x,hx⟩:=h n (by omega)
  refine ⟨l++[x],by simp [h1],fun i hi=>?_⟩
  by_cases hl:i < l.length
  ·rw [List.getElem_append_left hl];exact h2 i hl
  ·have e:i=l.length:=by simp at hi;omega
   subst e
   simp only [List.getElem_append_right (Nat.le_refl _),Nat.sub_self,List.getElem_cons_zero]
   rw [h1];exact hx
theorem add_none (b o n:Nat):(⟨b,o,none⟩:Addr).add n=⟨b,o+n,none⟩:=by
 unfold Addr.add;split <;> simp_all
theorem spot_none {W:World} {a:Addr} {v:Value} (h:W.cell? a=some v):a.spot=none:=by
 unfold World.cell? at h
 split at h
 ·split at h
  ·cases h
  ·rename_i hs;simpa using hs
 ·cases h
section
variable {H:Type} {enc:TypeId×Value→H} {W:World}
theorem open_step {fuel:Nat} {cs:List Value} {x:DataW H×List MemPlace} (h:DataW.trod enc Tryz.prog W 0 (fun _=>true) true fuel 50 cs=some x) :
  ∃ o:P.StP,cs=[.int .i64 o.kind,.int .i64 o.key,.int .i64 o.n,P.str o.body]∧P.StFit o:=by
 obtain ⟨xs,n,_,_,hlen,hxs,hf⟩:=DataW.trod_struct Tryz.underlying50 h
 rw [cells50] at hlen
 match cs,hlen with
 | [c0,c1,c2,c3],_ =>
  have g:∀ i,i < 4→∃ y,xs[i]?=some y:=fun i hi=>⟨xs[i]'(by rw [hxs];exact hi),List.getElem?_eq_getElem _⟩
  obtain ⟨y0,e0⟩:=g 0 (by omega)
  obtain ⟨y1,e1⟩:=g 1 (by omega)
  obtain ⟨y2,e2⟩:=g 2 (by omega)
  obtain ⟨y3,e3⟩:=g 3 (by omega)
  have f0:=hf 0 _ rfl
  have f1:=hf 1 _ rfl
  have f2:=hf 2 _ rfl
  have f3:=hf 3 _ rfl
  rw [e0] at f0;rw [e1] at f1;rw [e2] at f2;rw [e3] at f3
  obtain ⟨n0,k0,_,w0⟩:=DataW.trod_int Tryz.underlying3 f0
  obtain ⟨n1,k1,_,w1⟩:=DataW.trod_int Tryz.underlying3 f1
  obtain ⟨n2,k2,_,w2⟩:=DataW.trod_int Tryz.underlying3 f2
  obtain ⟨s3,k3,_,w3⟩:=DataW.trod_string Tryz.underlying9 f3
  change List.take (Tryz.prog.cellsOf 3) (List.drop 0 [c0,c1,c2,c3])=_ at k0
  change List.take (Tryz.prog.cellsOf 3) (List.drop 1 [c0,c1,c2,c3])=_ at k1
  change List.take (Tryz.prog.cellsOf 3) (List.drop 2 [c0,c1,c2,c3])=_ at k2
  change List.take (Tryz.prog.cellsOf 9) (List.drop 3 [c0,c1,c2,c3])=_ at k3
  rw [cells3] at k0 k1 k2
  rw [cells9] at k3
  have e0:c0=.int .i64 n0:=by simpa using k0
  have e1:c1=.int .i64 n1:=by simpa using k1
  have e2:c2=.int .i64 n2:=by simpa using k2
  have e3:c3=.string s3:=by simpa using k3
  subst e0 e1 e2 e3
  exact ⟨⟨n0,n1,n2,s3.data.toList⟩,rfl,⟨int_range w0,int_range w1,int_range w2⟩⟩
theorem open_steps {fuel:Nat} {cs:List Value} {x:DataW H×List MemPlace} (h:DataW.trod enc Tryz.prog W 0 (fun _=>true) true fuel 40 cs=some x) :
  ∃ (a:Option Addr) (cap:Nat) (l:List P.StP),cs=[.slice a l.length cap]∧P.SR a l W∧(∀ o∈l,P.StFit o)∧l.length≤maxLen:=by
 rcases Go.Deep.open_slice Tryz.underlying40 h with ⟨rfl,_⟩|⟨a,len,cap,m,n,D,Pl,rfl,_,hlc,hcm,hm,_,hx⟩
 ·exact ⟨none,0,[],rfl,⟨fun k hk=>absurd hk (by simp)⟩,fun o ho=>by simp at ho,by simp⟩
 ·simp only [if_true] at hm
  subst hm
  obtain ⟨l,hl,hp⟩:=list_of (α:=P.StP) (p:=fun i o=>(∀ j v,[Value.int .i64 o.kind,.int .i64 o.key,.int .i64 o.n,P.str o.body][j]?=some v→W.cell? (a.add (i*4+j))=some v)∧P.StFit o) len (fun i hi=>by
   obtain ⟨cs',h1,h2⟩:=hx i (by omega)
   obtain ⟨o,rfl,ho⟩:=open_step h2
   refine ⟨o,fun j v hv=>?_,ho⟩
   rw [cells50] at h1
   obtain ⟨_,_,h3⟩:=World.cells?_some h1
   have hj:j < 4:=by
    have:=(List.getElem?_eq_some_iff.1 hv).1
    simpa using this
   rw [← hv,← h3 j hj,Go.Deep.add_add])
  subst hl
  refine ⟨some a,_,l,rfl,⟨fun k hk=>?_⟩,fun o ho=>?_,by omega⟩
  ·obtain ⟨h1,_⟩:=hp k hk
   have q0:=h1 0 _ rfl
   have q1:=h1 1 _ rfl
   have q2:=h1 2 _ rfl
   have q3:=h1 3 _ rfl
   have hsp:a.spot=none:=by
    have:=(hp 0 (by omega)).1 0 _ rfl
    simp only [Nat.zero_mul,Nat.zero_add] at this
    exact spot_none (a:=a) this
   obtain ⟨b,off,sp⟩:=a
   simp only at hsp
   subst hsp
   simp only [add_none] at q0 q1 q2 q3
   refine ⟨b,off,rfl,World.block_lt_of_cell? W _ q0,by simpa using q0,?_,?_,?_⟩
   ·rw [Nat.add_assoc];exact q1
   ·rw [Nat.add_assoc];exact q2
   ·rw [Nat.add_assoc];exact q3
  ·obtain ⟨i,hi,rfl⟩:=List.getElem_of_mem ho
   exact (hp i hi).2
end
end Go.Proofs.YtbllcgibmgbnjaaGreatDoor.versionsProof
