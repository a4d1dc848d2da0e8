import Derived.Test.YtbllcgibmgbnjaaGreatDoorShelf
import Derived.Test.YtbllcgibmgbnjaaGreatDoorM02
import Derived.Test.YtbllcgibmgbnjaaGreatDoorM03
import Derived.Test.YtbllcgibmgbnjaaGreatDoorM04
import Derived.Test.YtbllcgibmgbnjaaGreatDoorM05
import Derived.Test.YtbllcgibmgbnjaaGreatDoorM06
import Derived.Test.YtbllcgibmgbnjaaGreatDoorM07
import Derived.Test.YtbllcgibmgbnjaaGreatDoorM08
import Derived.Test.YtbllcgibmgbnjaaGreatDoorM09
import Derived.Test.YtbllcgibmgbnjaaGreatDoorM10
import Derived.Test.YtbllcgibmgbnjaaGreatDoorM11
import Derived.Test.YtbllcgibmgbnjaaGreatDoorM12
import Derived.Test.YtbllcgibmgbnjaaGreatDoorM13
import Derived.Test.YtbllcgibmgbnjaaGreatDoorM14
import Derived.Test.YtbllcgibmgbnjaaGreatDoorM15
import Derived.Test.YtbllcgibmgbnjaaGreatDoorM16
import Derived.Test.YtbllcgibmgbnjaaGreatDoorM17
import Derived.Test.YtbllcgibmgbnjaaGreatDoorM18
import Derived.Test.YtbllcgibmgbnjaaGreatDoorM19
import Derived.Test.YtbllcgibmgbnjaaGreatDoorM20
import Derived.Test.YtbllcgibmgbnjaaGreatDoorM21
import Derived.Test.YtbllcgibmgbnjaaGreatDoorM22
import Derived.Test.YtbllcgibmgbnjaaGreatDoorM23
import Derived.Test.YtbllcgibmgbnjaaGreatDoorM24
import Derived.Test.YtbllcgibmgbnjaaGreatDoorM25
import Derived.Test.YtbllcgibmgbnjaaGreatDoorM26
import Derived.Test.YtbllcgibmgbnjaaGreatDoorM27
import Derived.Test.YtbllcgibmgbnjaaGreatDoorM28
import Derived.Test.YtbllcgibmgbnjaaGreatDoorM40
import Derived.Test.YtbllcgibmgbnjaaGreatDoorM41
import Derived.Test.YtbllcgibmgbnjaaGreatDoorVCon
import Derived.Test.YtbllcgibmgbnjaaGreatDoorChecked
import Derived.Deep.DeepHandedRow
import Derived.Deep.Slices
import Derived.LaidMore
import Derived.Carry
set_option maxRecDepth 100000
namespace Go.Proofs.YtbllcgibmgbnjaaGreatDoor.blindProof
open Go.ChangeShapes Go.WideShapes Go.ChangeAt Go.RowKit
open Go.ChangeMaps (open_string shut_string)
open Go.Proofs.YtbllcgibmgbnjaaGreatDoor.R (Bs str)
open Go.Proofs.YtbllcgibmgbnjaaGreatDoor.E (own gl_at laidWorld)
open Go.Proofs.YtbllcgibmgbnjaaGreatDoor.versionsProof (open_steps list_of add_none spot_none laidOut int_range cells3 cells9)
theorem weights_mem {H:Type} {P:Program} {e:TypeId} {d:DataW H} {n:Nat} (hn:n∈d.weights P e):∀ {ds:List (DataW H)},d∈ds→n∈DataW.weightsAll P e ds
 | x :: ds,h=>by
  simp only [DataW.weightsAll,List.mem_append]
  rcases List.mem_cons.1 h with rfl|h
  ·exact .inl hn
  ·exact .inr (weights_mem hn h)
section
variable {H:Type} {enc:TypeId×Value→H} {W:World}
theorem cells63:Tryz.prog.cellsOf 63=3:=by kernel_rfl
theorem open_wish {fuel:Nat} {cs:List Value} {x:DataW H×List MemPlace} (h:DataW.trod enc Tryz.prog W 0 (fun _=>true) true fuel 63 cs=some x) :
  ∃ o:P.WiP,cs=[.int .i64 o.method,P.str o.target,P.str o.body]∧P.i64 o.method∧o.target.length∈x.1.weights Tryz.prog 63:=by
 obtain ⟨xs,n,_,hx,hlen,hxs,hf⟩:=DataW.trod_struct Tryz.underlying63 h
 rw [cells63] at hlen
 match cs,hlen with
 | [c0,c1,c2],_ =>
  have g:∀ i,i < 3→∃ y,xs[i]?=some y:=fun i hi=>⟨xs[i]'(by rw [hxs];exact hi),List.getElem?_eq_getElem _⟩
  obtain ⟨y0,e0⟩:=g 0 (by omega)
  obtain ⟨y1,e1⟩:=g 1 (by omega)
  obtain ⟨y2,e2⟩:=g 2 (by omega)
  have f0:=hf 0 _ rfl
  have f1:=hf 1 _ rfl
  have f2:=hf 2 _ rfl
  rw [e0] at f0;rw [e1] at f1;rw [e2] at f2
  obtain ⟨n0,k0,_,w0⟩:=DataW.trod_int Tryz.underlying3 f0
  obtain ⟨s1,k1,d1,w1⟩:=DataW.trod_string Tryz.underlying9 f1
  obtain ⟨s2,k2,_,w2⟩:=DataW.trod_string Tryz.underlying9 f2
  change List.take (Tryz.prog.cellsOf 3) (List.drop 0 [c0,c1,c2])=_ at k0
  change List.take (Tryz.prog.cellsOf 9) (List.drop 1 [c0,c1,c2])=_ at k1
  change List.take (Tryz.prog.cellsOf 9) (List.drop 2 [c0,c1,c2])=_ at k2
  rw [cells3] at k0
  rw [cells9] at k1 k2
  have e0':c0=.int .i64 n0:=by simpa using k0
  have e1':c1=.string s1:=by simpa using k1
  have e2':c2=.string s2:=by simpa using k2
  subst e0' e1' e2'
  refine ⟨⟨n0,s1.data.toList,s2.data.toList⟩,rfl,int_range w0,?_⟩
  have hl:xs=[y0,y1,y2]:=by
   match xs,hxs,e0,e1,e2 with
   | [a,b,c],_,e0,e1,e2=>simp at e0 e1 e2;rw [e0,e1,e2]
  rw [hx,hl]
  simp [DataW.weights,Tryz.underlying63,DataW.weightsEach,d1]
theorem open_wishes {fuel:Nat} {cs:List Value} {x:DataW H×List MemPlace} (h:DataW.trod enc Tryz.prog W 0 (fun _=>true) true fuel 59 cs=some x) (hk:∀ n∈x.1.weights Tryz.prog 59,n≤reachBytes) :
  ∃ (a:Option Addr) (cap:Nat) (l:List P.WiP),cs=[.slice a l.length cap]∧P.WR a l W∧(∀ o∈l,P.WiFit o)∧l.length≤maxLen:=by
 rcases Go.Deep.open_slice Tryz.underlying59 h with ⟨rfl,_⟩|⟨a,len,cap,m,n,D,Pl,rfl,_,hlc,hcm,hm,hxe,hx⟩
 ·exact ⟨none,0,[],rfl,⟨fun k hk=>absurd hk (by simp)⟩,fun o ho=>by simp at ho,by simp⟩
 ·simp only [if_true] at hm
  subst hm
  rw [hxe] at hk
  simp only [DataW.weights,Tryz.underlying59] at hk
  obtain ⟨l,hl,hp⟩:=list_of (α:=P.WiP) (p:=fun i o=>(∀ j v,[Value.int .i64 o.method,P.str o.target,P.str o.body][j]?=some v→W.cell? (a.add (i*3+j))=some v)∧P.WiFit o) len (fun i hi=>by
   obtain ⟨cs',h1,h2⟩:=hx i (by omega)
   obtain ⟨o,rfl,ho,hb⟩:=open_wish h2
   have hmem:D i∈(List.range len).map D:=List.mem_map.2 ⟨i,List.mem_range.2 hi,rfl⟩
   have hle:=hk _ (List.mem_cons_of_mem _ (List.mem_append.2 (.inl (weights_mem hb hmem))))
   refine ⟨o,fun j v hv=>?_,⟨ho,by unfold reachBytes at hle;omega⟩⟩
   rw [cells63] at h1
   obtain ⟨_,_,h3⟩:=World.cells?_some h1
   have hj:j < 3:=by
    have:=(List.getElem?_eq_some_iff.1 hv).1
    simpa using this
   rw [← hv,← h3 j hj,Go.Deep.add_add])
  subst hl
  refine ⟨some a,_,l,rfl,⟨fun k hk=>?_⟩,fun o ho=>?_,by omega⟩
  ·obtain ⟨h1,_⟩:=hp k hk
   have q0:=h1 0 _ rfl
   have q1:=h1 1 _ rfl
   have q2:=h1 2 _ rfl
   have hsp:a.spot=none:=by
    have:=(hp 0 (by omega)).1 0 _ rfl
    simp only [Nat.zero_mul,Nat.zero_add] at this
    exact spot_none (a:=a) this
   obtain ⟨b,off,sp⟩:=a
   simp only at hsp
   subst hsp
   simp only [add_none] at q0 q1 q2
   refine ⟨b,off,rfl,World.block_lt_of_cell? W _ q0,by simpa using q0,?_,?_⟩
   ·rw [Nat.add_assoc];exact q1
   ·rw [Nat.add_assoc];exact q2
  ·obtain ⟨i,hi,rfl⟩:=List.getElem_of_mem ho
   exact (hp i hi).2
end
theorem contract (H:Type) (enc:TypeId×Value→H) (W:World) (base:Nat) (args:Array Value) (ds gs:List (DataW H)) (before:List MemPlace)
  (hval:∀ (j:Nat) t v,Tryz.f6.params[j]?=some t→args[j]?=some v→Value.okWide Tryz.prog W .any base t v)
  (hW:DataW.Whole enc Tryz.prog Tryz.f6.params.toList Rows.blindSpec.vars false W args.toList ds gs before)
  (hk:(DataW.weightsEach Tryz.prog (Tryz.f6.params.toList++(OpenSpec.ofChange Rows.blindSpec).bare.plain.varTypes Tryz.prog) (ds++gs)).all (·≤reachBytes)=true) (hL:laidMetH Tryz.prog Rows.blindRow.laid W) (hsh:W.ShapedOpen Tryz.prog) :
  Calls Tryz.prog 6 args W fun e W'=>∃ v,e=.returned v∧Rows.blindSpec.post enc Tryz.prog Tryz.f6 false true false false W args v W':=by
 have hW':=hW
 obtain ⟨p,q,hA0,hV,rfl,hfz,hnd⟩:=hW
 have hA:DataW.TrodAll enc Tryz.prog W 0 (fun _=>true) true Tryz.f6.params.toList args.toList ds p:=hA0
 rw [Tryz.params6] at hA hval hk
 obtain ⟨v0,vs0,d0,ds0,p0,q0,hargs,rfl,rfl,h0,r0⟩:=trodAll_cons hA
 obtain ⟨v1,vs1,d1,ds1,p1,q1,rfl,rfl,rfl,h1,r1⟩:=trodAll_cons r0
 obtain ⟨rfl,rfl,rfl⟩:=trodAll_nil r1
 obtain rfl:args=#[v0,v1]:=by cases args;simp_all
 obtain ⟨rfl,rfl⟩:=trodVars_none hV
 have hreach:∀ n∈d1.weights Tryz.prog 59,n≤reachBytes:=fun n hn=>by
  have:=List.all_eq_true.1 hk n (by simp only [List.append_nil,List.cons_append,DataW.weightsEach,List.mem_append];exact .inr (.inl hn))
  simpa using this
 obtain ⟨f0,hf0⟩:=id h0
 obtain ⟨a0,l0,c0,rfl⟩:=okWide_slice Tryz.underlying40 (hval 0 40 v0 rfl rfl)
 obtain ⟨a0',c0',l,hcs0,hS,hfit,hlen⟩:=open_steps hf0
 have hc0:a0=a0'∧l0=l.length∧c0=c0':=by simpa [Value.cells] using hcs0
 obtain ⟨rfl,rfl,rfl⟩:=hc0
 obtain ⟨f1,hf1⟩:=id h1
 obtain ⟨a1,l1,c1,rfl⟩:=okWide_slice Tryz.underlying59 (hval 1 59 v1 rfl rfl)
 obtain ⟨a1',c1',ts,hcs1,hA1,hts,hlen1⟩:=open_wishes hf1 hreach
 have hc1:a1=a1'∧l1=ts.length∧c1=c1':=by simpa [Value.cells] using hcs1
 obtain ⟨rfl,rfl,rfl⟩:=hc1
 have hlt0:∀ x∈p0,x.block < W.heap.size:=fun x hx=>hW'.lt x (by simp [hx])
 have hlt1:∀ x∈p1,x.block < W.heap.size:=fun x hx=>hW'.lt x (by simp [hx])
 clear hA0
 simp only [List.append_nil] at hW'
 have key:=P.blaw_any a0 c0 l hlen hfit a1 c1 ts hlen1 hts W (gl_at hL hsh) hS hA1
 refine key.mono fun e W' ⟨he,hg⟩=>?_
 subst he
 exact ⟨_,rfl,_,_,_,[],p0++(p1++[]),[],hW',trodAll_cons_mk (shut_bool Tryz.underlying4 _) trodAll_mk0,trodAll_cons_mk (Below.trod laidOut (by kernel_rfl) (of_decide_eq_true (by kernel_rfl)) h0 hg hlt0) (trodAll_cons_mk (Below.trod laidOut (by kernel_rfl) (of_decide_eq_true (by kernel_rfl)) h1 hg hlt1) trodAll_mk0),rfl,hg.frame _,fun h=>by cases h⟩
abbrev wArgs:Array Value:=#[.slice none 0 0,.slice none 0 0]
theorem laid_met (os:Os):laidMetH Tryz.prog Rows.blindRow.laid ((laidWorld os).forCall (fun _ _=>0) ⟨#[],wArgs,[]⟩).memory :=
 laidMetH_of_parts3 (fuel:=8) (laidMet_of_run' 8 (by kernel_rfl) (by kernel_rfl)) (by kernel_rfl) (by kernel_rfl)
theorem reads (os:Os) {H:Type} (enc:TypeId×Value→H):∃ places,DataW.whole enc Tryz.prog ((laidWorld os).forCall (fun _ _=>0) ⟨#[],wArgs,[]⟩).memory Tryz.f6.params.toList Rows.blindSpec.vars false wArgs.toList 8=some ([.nil,.nil],[],places) :=
 ⟨[],by kernel_rfl⟩
theorem lifted (os:Os) (started:os.Started) (H:Type) (enc:TypeId×Value→H) (F:Stop.Interp) :
  ReturnsInHanded {} Tryz.checked os 6 .any ((OpenSpec.ofChange Rows.blindSpec).preRow enc Tryz.prog Tryz.f6 Rows.blindRow.domain false Rows.blindRow.laid) (((OpenSpec.ofChange Rows.blindSpec).at F).post enc Tryz.prog Tryz.f6 false true false false):=by
 obtain ⟨places,hx⟩:=reads os enc
 refine returnsInHanded_of_row (C:=Tryz.checked) (s:=OpenSpec.ofChange Rows.blindSpec) own started (by kernel_rfl) Tryz.func6
  (witness_row_at (enc:=enc) (C:=Tryz.checked) false (laidWorld os) wArgs rfl (by kernel_rfl) (by kernel_rfl) (by kernel_rfl)
   (OpenSpec.preRow_of_cond 8 hx (by kernel_rfl) (fun k hk=>by cases hk) (by kernel_rfl) (laid_met os))) ?_
 intro W base args ds gs before hval hW _ _ hk hL hsh _
 exact contract H enc W base args ds gs before hval hW hk hL hsh
end Go.Proofs.YtbllcgibmgbnjaaGreatDoor.blindProof
