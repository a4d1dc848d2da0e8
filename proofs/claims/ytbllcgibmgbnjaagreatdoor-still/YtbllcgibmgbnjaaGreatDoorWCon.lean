import Derived.Test.YtbllcgibmgbnjaaGreatDoorChecked
import Derived.Test.YtbllcgibmgbnjaaGreatDoorM33
import Derived.Test.YtbllcgibmgbnjaaGreatDoorVCon
import Derived.Deep.DeepHandedRow
import Derived.Deep.Slices
import Derived.LaidMore
import Derived.Carry
set_option maxRecDepth 100000
namespace Go.Proofs.YtbllcgibmgbnjaaGreatDoor.stillProof
open Go.ChangeShapes Go.WideShapes Go.ChangeAt Go.RowKit
open Go.ChangeMaps (open_string shut_string)
open R (Bs str)
open E (own gl_at laidWorld)
open versionsProof (open_steps list_of add_none spot_none laidOut)
section
variable {H:Type} {enc:TypeId×Value→H} {W:World}
theorem cells9:Tryz.prog.cellsOf 9=1:=by kernel_rfl
theorem open_texts {fuel:Nat} {cs:List Value} {x:DataW H×List MemPlace} (h:DataW.trod enc Tryz.prog W 0 (fun _=>true) true fuel 61 cs=some x) :
  ∃ (a:Option Addr) (cap:Nat) (l:List P.Tx),cs=[.slice a l.length cap]∧P.SS a l W∧(∀ t∈l,t.length≤9223372036854775807)∧l.length≤maxLen:=by
 rcases Go.Deep.open_slice1 Tryz.underlying61 cells9 h with ⟨rfl,_⟩|⟨a,len,cap,m,n,V,D,Pl,rfl,_,hlc,hcm,hm,_,hx⟩
 ·exact ⟨none,0,[],rfl,⟨fun k hk=>absurd hk (by simp)⟩,fun o ho=>by simp at ho,by simp⟩
 ·simp only [if_true] at hm
  subst hm
  obtain ⟨l,hl,hp⟩:=list_of (α:=P.Tx) (p:=fun i t=>W.cell? (a.add i)=some (P.str t)∧t.length≤9223372036854775807) len (fun i hi=>by
   obtain ⟨h1,h2⟩:=hx i (by omega)
   obtain ⟨s,e,_,hs⟩:=DataW.trod_string Tryz.underlying9 h2
   have e':V i=.string s:=by simpa using e
   rw [e'] at h1
   exact ⟨s.data.toList,h1,hs⟩)
  subst hl
  refine ⟨some a,_,l,rfl,⟨fun k hk=>?_⟩,fun o ho=>?_,by omega⟩
  ·have q0:=(hp k hk).1
   have hsp:a.spot=none:=by
    have:=(hp 0 (by omega)).1
    exact spot_none (a:=a) this
   obtain ⟨b,off,sp⟩:=a
   simp only at hsp
   subst hsp
   simp only [add_none] at q0
   exact ⟨b,off,rfl,World.block_lt_of_cell? W _ q0,q0⟩
  ·obtain ⟨i,hi,rfl⟩:=List.getElem_of_mem ho
   exact (hp i hi).2
end
theorem contract (H:Type) (enc:TypeId×Value→H) (W:World) (base:Nat) (args:Array Value) (ds gs:List (DataW H)) (before:List MemPlace)
  (hval:∀ (j:Nat) t v,Tryz.f8.params[j]?=some t→args[j]?=some v→Value.okWide Tryz.prog W .any base t v)
  (hW:DataW.Whole enc Tryz.prog Tryz.f8.params.toList Rows.stillSpec.vars false W args.toList ds gs before)
  (hL:laidMetH Tryz.prog Rows.stillRow.laid W) (hsh:W.ShapedOpen Tryz.prog) :
  Calls Tryz.prog 8 args W fun e W'=>∃ v,e=.returned v∧Rows.stillSpec.post enc Tryz.prog Tryz.f8 false true false false W args v W':=by
 have hW':=hW
 obtain ⟨p,q,hA0,hV,rfl,hfz,hnd⟩:=hW
 have hA:DataW.TrodAll enc Tryz.prog W 0 (fun _=>true) true Tryz.f8.params.toList args.toList ds p:=hA0
 rw [Tryz.params8] at hA hval
 obtain ⟨v0,vs0,d0,ds0,p0,q0,hargs,rfl,rfl,h0,r0⟩:=trodAll_cons hA
 obtain ⟨v1,vs1,d1,ds1,p1,q1,rfl,rfl,rfl,h1,r1⟩:=trodAll_cons r0
 obtain ⟨rfl,rfl,rfl⟩:=trodAll_nil r1
 obtain rfl:args=#[v0,v1]:=by cases args;simp_all
 obtain ⟨rfl,rfl⟩:=trodVars_none hV
 obtain ⟨f0,hf0⟩:=id h0
 obtain ⟨a0,l0,c0,rfl⟩:=okWide_slice Tryz.underlying40 (hval 0 40 v0 rfl rfl)
 obtain ⟨a0',c0',l,hcs0,hS,hfit,hlen⟩:=open_steps hf0
 have hc0:a0=a0'∧l0=l.length∧c0=c0':=by simpa [Value.cells] using hcs0
 obtain ⟨rfl,rfl,rfl⟩:=hc0
 obtain ⟨f1,hf1⟩:=id h1
 obtain ⟨a1,l1,c1,rfl⟩:=okWide_slice Tryz.underlying61 (hval 1 61 v1 rfl rfl)
 obtain ⟨a1',c1',ts,hcs1,hA1,hts,hlen1⟩:=open_texts hf1
 have hc1:a1=a1'∧l1=ts.length∧c1=c1':=by simpa [Value.cells] using hcs1
 obtain ⟨rfl,rfl,rfl⟩:=hc1
 have hlt0:∀ x∈p0,x.block < W.heap.size:=fun x hx=>hW'.lt x (by simp [hx])
 have hlt1:∀ x∈p1,x.block < W.heap.size:=fun x hx=>hW'.lt x (by simp [hx])
 clear hA0
 simp only [List.append_nil] at hW'
 have key:=P.stlaw_any a0 c0 l hlen hfit a1 c1 ts hlen1 hts W (gl_at hL hsh) hS hA1
 refine key.mono fun e W' ⟨he,hg⟩=>?_
 subst he
 exact ⟨_,rfl,_,_,_,[],p0++(p1++[]),[],hW',trodAll_cons_mk (shut_bool Tryz.underlying4 _) trodAll_mk0,trodAll_cons_mk (Below.trod laidOut (by kernel_rfl) (of_decide_eq_true (by kernel_rfl)) h0 hg hlt0) (trodAll_cons_mk (Below.trod laidOut (by kernel_rfl) (of_decide_eq_true (by kernel_rfl)) h1 hg hlt1) trodAll_mk0),rfl,hg.frame _,fun h=>by cases h⟩
abbrev wArgs:Array Value:=#[.slice none 0 0,.slice none 0 0]
theorem laid_met (os:Os):laidMetH Tryz.prog Rows.stillRow.laid ((laidWorld os).forCall (fun _ _=>0) ⟨#[],wArgs,[]⟩).memory :=
 laidMetH_of_parts3 (fuel:=8) (laidMet_of_run' 8 (by kernel_rfl) (by kernel_rfl)) (by kernel_rfl) (by kernel_rfl)
theorem reads (os:Os) {H:Type} (enc:TypeId×Value→H):∃ places,DataW.whole enc Tryz.prog ((laidWorld os).forCall (fun _ _=>0) ⟨#[],wArgs,[]⟩).memory Tryz.f8.params.toList Rows.stillSpec.vars false wArgs.toList 8=some ([.nil,.nil],[],places) :=
 ⟨[],by kernel_rfl⟩
theorem lifted (os:Os) (started:os.Started) (H:Type) (enc:TypeId×Value→H) (F:Stop.Interp) :
  ReturnsInHanded {} Tryz.checked os 8 .any ((OpenSpec.ofChange Rows.stillSpec).preRow enc Tryz.prog Tryz.f8 Rows.stillRow.domain false Rows.stillRow.laid) (((OpenSpec.ofChange Rows.stillSpec).at F).post enc Tryz.prog Tryz.f8 false true false false):=by
 obtain ⟨places,hx⟩:=reads os enc
 refine returnsInHanded_of_row (C:=Tryz.checked) (s:=OpenSpec.ofChange Rows.stillSpec) own started (by kernel_rfl) Tryz.func8
  (witness_row_at (enc:=enc) (C:=Tryz.checked) false (laidWorld os) wArgs rfl (by kernel_rfl) (by kernel_rfl) (by kernel_rfl)
   (OpenSpec.preRow_of_cond 8 hx (by kernel_rfl) (fun k hk=>by cases hk) (by kernel_rfl) (laid_met os))) ?_
 intro W base args ds gs before hval hW _ _ _ hL hsh _
 exact contract H enc W base args ds gs before hval hW hL hsh
end Go.Proofs.YtbllcgibmgbnjaaGreatDoor.stillProof
