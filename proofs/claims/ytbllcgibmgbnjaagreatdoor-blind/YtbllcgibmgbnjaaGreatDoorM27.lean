import Derived.Test.YtbllcgibmgbnjaaGreatDoorM26
import Derived.Test.YtbllcgibmgbnjaaGreatDoorM08
import Derived.Maps.RangeWalk
import Derived.Test.YtbllcgibmgbnjaaGreatDoorM19
import Derived.Shelf.SlSortCmp.WholeK
import Derived.Ground.SlsfProg
import Derived.Test.YtbllcgibmgbnjaaGreatDoorProg
import Derived.Shelf.SlSortCmp.NoneTotal
import Derived.Sort.Walk0
import Derived.Test.YtbllcgibmgbnjaaGreatDoorM20
import Derived.Test.YtbllcgibmgbnjaaGreatDoorM15
import Derived.Test.YtbllcgibmgbnjaaGreatDoorM23
set_option maxHeartbeats 4000000
set_option maxRecDepth 20000
namespace Go.Proofs.YtbllcgibmgbnjaaGreatDoor.P
open C (enc dec dec_enc enc1 plainB enc_cons enc_nil enc_len hexD)
abbrev qVer (n:Nat):Tx:=tVersion++61 :: Lib.itoa (n:Int)
abbrev kV (k:Tx) (n:Nat):Tx:=kT k++63 :: qVer n
theorem query_ver (n:Nat):R.queryOf (qVer n)=some [(tVersion,Lib.itoa (n:Int))]:=by
 unfold R.queryOf
 rw [splitc_miss (fun e=>by
  rcases List.mem_append.1 e with e|e
  ·revert e;decide
  ·rcases List.mem_cons.1 e with e|e
   ·cases e
   ·exact itoa_no (by decide) e)]
 rw [query_step (pair_of (by decide) (by decide) (dec_itoa n) (by decide)) rfl]
 rfl
theorem line_ver {m k:Tx} {n:Nat} (hm:R.isMethod m=true):Line m (kV k n) (47 :: (tBkt++47 :: k)) [(tVersion,Lib.itoa (n:Int))]:=by
 have:=line_query (p:=tBkt++47 :: k) (qt:=qVer n) hm (query_ver n) (fun e=>by
  rcases List.mem_append.1 e with e|e
  ·revert e;decide
  ·rcases List.mem_cons.1 e with e|e
   ·cases e
   ·exact itoa_no (by decide) e)
 rwa [key_path] at this
theorem row_old (v:Tx):rowP tGET true [(tVersion,v)]=some ⟨tGET,true,tVersion,[],[],0,6,sGet,false⟩:=rfl
theorem row_drop (v:Tx):rowP tDEL true [(tVersion,v)]=some ⟨tDEL,true,tVersion,[],[],1,8,sDelete,false⟩:=rfl
theorem x_ver (v:Tx):xOut [(tVersion,v)]=[(tVersion,v)]:=rfl
theorem pairs_ver (a:AskP) {n:Nat} (h1:1≤n) (h2:n≤999999999):pairsA a [(tVersion,Lib.itoa (n:Int))]=({ a with version:=n },true):=by
 have e:pairA a tVersion (Lib.itoa (n:Int))=({ a with version:=n },true):=by
  unfold pairA
  rw [if_neg (by decide),if_neg (by decide),if_neg (by decide),if_neg (by decide),if_pos rfl,num_itoa (by omega) h1 h2]
  rfl
 unfold pairsA
 simp only
 rw [e]
 rfl
theorem ask_old {k:Tx} (hk:keyP k=true) {n:Nat} (h1:1≤n) (h2:n≤999999999):askP tGET (47 :: (tBkt++47 :: k)) [(tVersion,Lib.itoa (n:Int))] []=some ⟨6,sGet,tBkt,k,[],n,[],[],10⟩:=by
 unfold askP ask0
 rw [path_key hbk,x_ver,row_old]
 simp only
 rw [if_pos ⟨hbk,.inr hk,.inr trivial⟩,pairs_ver _ h1 h2]
 rfl
theorem ask_drop {k:Tx} (hk:keyP k=true) {n:Nat} (h1:1≤n) (h2:n≤999999999):askP tDEL (47 :: (tBkt++47 :: k)) [(tVersion,Lib.itoa (n:Int))] []=some ⟨8,sDelete,tBkt,k,[],n,[],[],10⟩:=by
 unfold askP ask0
 rw [path_key hbk,x_ver,row_drop]
 simp only
 rw [if_pos ⟨hbk,.inr hk,.inr trivial⟩,pairs_ver _ h1 h2]
 rfl
theorem kV_len {k:Tx} (hk:keyP k=true) {n:Nat} (h2:n≤999999999):(kV k n).length≤1000:=by
 have h3:=(enc_len true k).2
 have h4:=key_len hk
 have h5:=itoa_len (n:=n) (by omega)
 simp [kV,qVer,tVersion];omega
theorem rd_old {u sec:Tx} (H:Has two u sec) {k:Tx} (hk:keyP k=true) {n:Nat} (h1:1≤n) (h2:n≤999999999):readP two 5000 (headT u sec 5000 tGET (kV k n) [])=.ok (u,⟨6,sGet,tBkt,k,[],n,[],[],10⟩):=by
 have:=read_head (clock:=5000) (t:=5000) (y:=[]) H (line_ver (m:=tGET) (k:=k) (n:=n) (by decide)) rfl (by decide) (kV_len hk h2) (by simp) (by omega)
 rw [this,if_neg (by omega)];unfold askR;rw [ask_old hk h1 h2]
theorem rd_drop {u sec:Tx} (H:Has two u sec) {k:Tx} (hk:keyP k=true) {n:Nat} (h1:1≤n) (h2:n≤999999999):readP two 5000 (headT u sec 5000 tDEL (kV k n) [])=.ok (u,⟨8,sDelete,tBkt,k,[],n,[],[],10⟩):=by
 have:=read_head (clock:=5000) (t:=5000) (y:=[]) H (line_ver (m:=tDEL) (k:=k) (n:=n) (by decide)) rfl (by decide) (kV_len hk h2) (by simp) (by omega)
 rw [this,if_neg (by omega)];unfold askR;rw [ask_drop hk h1 h2]
structure BV where
 key:Tx
 num:Nat
 mark:Bool
 body:Tx
def BV.ver (v:BV):Ver:=⟨v.num,v.mark,v.body⟩
def vsOf (l:List BV) (k:Tx):List Ver:=(l.filter (fun v=>v.key == k)).map BV.ver
def latB (l:List BV) (k:Tx):Option BV:=(l.filter (fun v=>v.key == k)).getLast?
def isV (k:Tx) (n:Nat) (v:BV):Bool:=v.key == k && v.num == n
def findB (l:List BV) (k:Tx) (n:Nat):Option BV:=l.find? (isV k n)
theorem vs_last (l:List BV) (k:Tx):(vsOf l k).getLast?=(latB l k).map BV.ver:=by simp [vsOf,latB,List.getLast?_map]
theorem vs_find (l:List BV) (k:Tx) (n:Nat):(vsOf l k).find? (fun v=>v.num == n)=(findB l k n).map BV.ver:=by
 unfold vsOf findB isV
 induction l with
 | nil=>rfl
 | cons v l ih =>
  by_cases hk:(v.key == k)=true
  ·rw [List.filter_cons_of_pos (p:=fun v:BV=>v.key == k) hk,List.map_cons,List.find?_cons,List.find?_cons]
   simp only [BV.ver] at *
   rw [hk]
   simp only [Bool.true_and]
   cases v.num == n
   ·exact ih
   ·rfl
  ·rw [List.filter_cons_of_neg (p:=fun v:BV=>v.key == k) hk,List.find?_cons]
   have:(v.key == k)=false:=by simpa using hk
   rw [this]
   exact ih
theorem vs_erase (l:List BV) (k:Tx) (n:Nat) (c:Tx):vsOf (l.eraseP (isV k n)) c=if c=k then (vsOf l k).eraseP (fun v=>v.num == n) else vsOf l c:=by
 unfold vsOf
 induction l with
 | nil=>simp
 | cons v l ih =>
  rw [List.eraseP_cons]
  by_cases hv:isV k n v=true
  ·rw [hv]
   simp only [cond_true]
   unfold isV at hv
   rw [Bool.and_eq_true] at hv
   have e1:v.key=k:=by simpa using hv.1
   by_cases hc:c=k
   ·subst hc
    rw [if_pos rfl,List.filter_cons_of_pos (p:=fun v:BV=>v.key == c) hv.1,List.map_cons,List.eraseP_cons]
    have:(v.ver.num == n)=true:=hv.2
    rw [this];rfl
   ·rw [if_neg hc,List.filter_cons_of_neg (by simp [e1];exact fun e=>hc e.symm)]
  ·have hv':isV k n v=false:=by simpa using hv
   rw [hv']
   simp only [cond_false]
   by_cases hk:v.key=c
   ·rw [List.filter_cons_of_pos (by simp [hk]),List.map_cons,ih]
    by_cases hc:c=k
    ·subst hc
     rw [if_pos rfl,if_pos rfl,List.filter_cons_of_pos (by simp [hk]),List.map_cons,List.eraseP_cons]
     have:(v.ver.num == n)=false:=by
      unfold isV at hv'
      rw [hk] at hv'
      simpa [BV.ver] using hv'
     rw [this];rfl
    ·rw [if_neg hc,if_neg hc,List.filter_cons_of_pos (by simp [hk]),List.map_cons]
   ·rw [List.filter_cons_of_neg (by simpa using hk),ih]
    by_cases hc:c=k
    ·subst hc
     rw [if_pos rfl,if_pos rfl,List.filter_cons_of_neg (by simpa using hk)]
    ·rw [if_neg hc,if_neg hc,List.filter_cons_of_neg (by simpa using hk)]
theorem vs_any (l:List BV) (k:Tx) (n:Nat):(vsOf l k).any (fun v=>v.num == n)=(findB l k n).isSome:=by
 rw [Bool.eq_iff_iff,List.any_eq_true,← List.find?_isSome,vs_find]
 cases findB l k n <;> simp
theorem vs_snoc (l:List BV) (v:BV) (c:Tx):vsOf (l++[v]) c=if c=v.key then vsOf l c++[v.ver] else vsOf l c:=by
 unfold vsOf
 rw [List.filter_append,List.map_append]
 by_cases h:v.key=c
 ·rw [if_pos h.symm,List.filter_cons_of_pos (by simp [h])];rfl
 ·rw [if_neg (fun e=>h e.symm),List.filter_cons_of_neg (by simpa using h)];simp
def keyN:Nat→Tx
 | 0=>[97]
 | 1=>[97,47,98]
 | 2=>[98,32,99]
 | _=>[122,126]
theorem keyN_ok:∀ i,keyP (keyN i)=true
 | 0=>by decide
 | 1=>by decide
 | 2=>by decide
 | _+3=>by show keyP [122,126]=true;decide
theorem keyN_len:∀ i,(keyN i).length≤3
 | 0=>by decide
 | 1=>by decide
 | 2=>by decide
 | _+3=>by show ([122,126]:Tx).length≤3;decide
abbrev rNone:Tx:=respT 404 [] []
abbrev rLacks:Tx:=respT 507 [] []
theorem told404:toldT 404=[52,48,52,32,78,111,110,101]:=by
 unfold toldT
 rw [itoa_nat,R.dd_big (by decide),R.dd_big (by decide),R.dd_small (by decide)]
 rfl
theorem told507:toldT 507=[53,48,55,32,70,117,108,108]:=by
 unfold toldT
 rw [itoa_nat,R.dd_big (by decide),R.dd_big (by decide),R.dd_small (by decide)]
 rfl
theorem noneT:rNone=[52,48,52,32,78,111,110,101,10,10]:=by
 unfold rNone respT;rw [if_neg (by decide),told404];rfl
theorem lacksT:rLacks=[53,48,55,32,70,117,108,108,10,10]:=by
 unfold rLacks respT;rw [if_neg (by decide),told507];rfl
def gotB:Option BV→Tx
 | none=>rNone
 | some v=>if v.mark=true then rNone else rGot v.num v.body
def goneB (o:Option BV) (n:Nat):Tx:=match o with
 | none=>rNone
 | some _=>rPut n
def entB (l:List BV) (i:Nat):Option Ent:=match latB l (keyN i) with
 | none=>none
 | some v=>if v.mark=true then none else some ⟨keyN i,v.num,v.body.length⟩
def entsTo (l:List BV) (n:Nat):List Ent:=(List.range n).filterMap (entB l)
def entsB (l:List BV):List Ent:=entsTo l 4
theorem entsB_eq (l:List BV):entsB l=[0,1,2,3].filterMap (entB l):=rfl
theorem ents_succ (l:List BV) (n:Nat):entsTo l (n+1)=entsTo l n++(entB l n).toList:=by
 unfold entsTo
 rw [List.range_succ,List.filterMap_append]
 cases h:entB l n <;> simp [h]
def listB (l:List BV):Tx:=respT 200 [(tLength,lenT (listT (entsB l))),(tMore,[102,97,108,115,101])] (listT (entsB l))
open Go.RowKit
open Go.ChangeMaps Go.MapKept
def RngIs (K:Value→Prop) (w:World) (b r:Nat) (f:Value→Option Value) (left:Value→Prop) (cnt:Nat):Prop :=
 ∃ es clock since seen c0,w.heap[b]?=some (.map es clock)∧Stamped es clock∧(∀ e∈es.toList,K e.key)∧(∀ e∈es.toList,f e.key=some e.val)∧(∀ key v,f key=some v→∃ e∈es.toList,e.key=key) ∧
  w.heap[r]?=some (.mapIter (some b) since seen c0)∧(∀ x∈es.toList,x.born < since)∧since≤c0∧since≤clock∧cnt=(leftOf es seen).size∧(∀ e∈es.toList,left e.key↔seen.contains e.born=false)∧∀ key,left key→∃ e∈es.toList,e.key=key
section
variable {K:Value→Prop} {w:World} {b r:Nat} {f:Value→Option Value} {left:Value→Prop} {cnt:Nat}
theorem RngIs.map (h:RngIs K w b r f left cnt):MapIs K w b f:=by
 obtain ⟨es,clock,since,seen,c0,h1,h2,h3,h4,h5,_⟩:=h
 exact ⟨es,clock,h1,h2,h3,h4,h5⟩
theorem RngIs.lt (h:RngIs K w b r f left cnt):r < w.heap.size:=by
 obtain ⟨es,clock,since,seen,c0,_,_,_,_,_,hr,_⟩:=h
 exact (Array.getElem?_eq_some_iff.1 hr).1
theorem RngIs.ne (h:RngIs K w b r f left cnt):r≠b:=by
 obtain ⟨es,clock,since,seen,c0,h1,_,_,_,_,hr,_⟩:=h
 intro e
 rw [e,h1] at hr
 cases hr
theorem RngIs.left_eq (h:RngIs K w b r f left cnt):w.rangeLeft b r=cnt:=by
 obtain ⟨es,clock,since,seen,c0,h1,_,_,_,_,hr,_,_,_,hc,_⟩:=h
 simp only [World.rangeLeft,h1,hr]
 exact hc.symm
theorem RngIs.of_block {w':World} (h:RngIs K w b r f left cnt) (e1:w'.heap[b]?=w.heap[b]?) (e2:w'.heap[r]?=w.heap[r]?):RngIs K w' b r f left cnt:=by
 obtain ⟨es,clock,since,seen,c0,h1,h2,h3,h4,h5,h6,h7⟩:=h
 exact ⟨es,clock,since,seen,c0,e1.trans h1,h2,h3,h4,h5,e2.trans h6,h7⟩
theorem RngIs.below {w':World} (h:RngIs K w b r f left cnt) (k:Below w.heap.size w w'):RngIs K w' b r f left cnt:=h.of_block (k.block b h.map.lt) (k.block r h.lt)
theorem RngIs.kept {S:Nat→Prop} {w':World} (h:RngIs K w b r f left cnt) (k:Kept S w w') (hb:¬ S b) (hr:¬ S r):RngIs K w' b r f left cnt:=h.of_block (k.block b h.map.lt hb) (k.block r h.lt hr)
theorem MapIs.range {P:Program} {k t e:TypeId} (h:MapIs K w b f) (ht:P.underlying t=some (.map k e)) :
  ∃ w' cnt,(Instr.range t (.map (some b))).run P w=.ok (.pointer (some ⟨w.heap.size,0,none⟩)) w'∧RngIs K w' b w.heap.size f (fun key=>f key≠none) cnt∧Below w.heap.size w w'∧w'.heap.size=w.heap.size+1:=by
 have hlt:=h.lt
 obtain ⟨es,clock,hb,hst,h3,h4,h5⟩:=h
 refine ⟨_,_,run_range_map w t k e b es clock ht hb,⟨es,clock,clock,#[],clock,((MapKept.heap_alloc w _).2 b hlt).trans hb,hst,h3,h4,h5,(MapKept.heap_alloc w _).1,hst.1,Nat.le_refl _,Nat.le_refl _,rfl,fun x hx=>?_,fun key hk=>?_⟩,(Below.refl _ _).alloc (Nat.le_refl _) _,by simp⟩
 ·simp [h4 x hx]
 ·cases e:f key with
  | none=>exact absurd e hk
  | some v=>exact h5 key v e
theorem RngIs.next {P:Program} (h:RngIs K w b r f left cnt) (ty:TypeId) :
  ((∀ key,¬ left key)∧(Instr.next (.pointer (some ⟨r,0,none⟩)) false ty).run P w=.ok (.tuple #[.bool false]) w) ∨
  ∃ key v w' cnt',left key∧K key∧f key=some v∧(Instr.next (.pointer (some ⟨r,0,none⟩)) false ty).run P w=.ok (.tuple #[.bool true,key,v]) w' ∧
   RngIs K w' b r f (fun x=>left x∧x≠key) cnt'∧cnt' < cnt∧Kept (·=r) w w'∧w'.heap.size=w.heap.size∧(Instr.entry (.pointer (some ⟨r,0,none⟩))).run P w'=.ok (.tuple #[key,v]) w':=by
 have hne:=h.ne
 obtain ⟨es,clock,since,seen,c0,hb,hst,h3,h4,h5,hr,hold,hsc,hsk,hc,hl1,hl2⟩:=h
 rcases run_next_at (P:=P) w ty r b since c0 seen es clock hr hb hold hsc with ⟨h0,hrun⟩|⟨e,he,w1,hal,hrun⟩
 ·refine .inl ⟨fun key hk=>?_,hrun⟩
  obtain ⟨x,hx,rfl⟩:=hl2 key hk
  have:=(hl1 x hx).1 hk
  rw [all_seen es seen h0 x hx] at this
  cases this
 ·obtain ⟨hem,hes⟩:=mem_left he
  have hst2:=(stamped_iff es clock).1 hst
  have hr1:w1.heap[r]?=some (.mapIter (some b) since seen c0):=by rcases hal with rfl|rfl <;> exact hr
  have hb1:w1.heap[b]?=some (.map es clock):=by rcases hal with rfl|rfl <;> exact hb
  have e1:(setBlock w1 r (.mapIter (some b) since (seen.push e.born) clock)).heap[r]?=some (.mapIter (some b) since (seen.push e.born) clock):=by
   have:=(Array.getElem?_eq_some_iff.1 hr1).1
   simp [setBlock,this]
  have e2:(setBlock w1 r (.mapIter (some b) since (seen.push e.born) clock)).heap[b]?=some (.map es clock):=by
   rw [← hb1]
   simp only [setBlock]
   rw [Array.getElem?_setIfInBounds_ne hne]
  refine .inr ⟨e.key,e.val,_,_,(hl1 e hem).2 hes,h3 e hem,h4 e hem,hrun,⟨es,clock,since,seen.push e.born,clock,e2,hst,h3,h4,h5,e1,hold,hsk,hsk,rfl,fun x hx=>?_,fun key hk=>hl2 key hk.1⟩,?_,?_,?_,run_entry_at _ r b since seen es clock e e1 e2 hem hst2.2.1⟩
  ·rw [contains_push]
   show (left x.key∧x.key≠e.key)↔_
   rw [hl1 x hx]
   constructor
   ·rintro ⟨g1,g2⟩
    rw [g1]
    have:x.born≠e.born:=fun hbe=>g2 (by rw [born_inj hst2.2.1 hx hem hbe])
    simp [this]
   ·intro g
    simp only [Bool.or_eq_false_iff,beq_eq_false_iff_ne] at g
    exact ⟨g.1,fun hk=>g.2 (congrArg MapEntry.born (entry_eq_of_key hst2.2.2 hx hem hk))⟩
  ·rw [hc];exact left_shrinks es seen e he
  ·rcases hal with rfl|rfl
   ·exact kept_setBlock _ _ _
   ·have h:=kept_setBlock w.drew r (.mapIter (some b) since (seen.push e.born) clock)
    exact ⟨h.os,h.tape,h.output,h.size,h.block⟩
  ·rcases hal with rfl|rfl <;> simp [setBlock]
end
def ecell (e:Ent):List Value:=[str e.key,.int .i64 (e.num:Int),.int .i64 (e.size:Int)]
def ecells (l:List Ent):List Value:=l.flatMap ecell
theorem ecells_at:∀ (l:List Ent) (k:Nat) (h:k < l.length),(ecells l)[k*3]?=some (str l[k].key)∧(ecells l)[k*3+1]?=some (.int .i64 (l[k].num:Int))∧(ecells l)[k*3+2]?=some (.int .i64 (l[k].size:Int))
 | v :: l,0,_=>⟨rfl,rfl,rfl⟩
 | v :: l,k+1,h=>by
  have:=ecells_at l k (by simpa using h)
  rw [show (k+1)*3=k*3+1+1+1 by omega]
  exact this
theorem ecells_snoc (l:List Ent) (v:Ent):ecells (l++[v])=ecells l++ecell v:=by simp [ecells]
abbrev erow (w:World) (B:Nat) (sl:Value) (l:List Ent):Prop:=w.ownsRow B 238 3 sl l.length (ecells l)
theorem erow.below {w w':World} {B:Nat} {sl:Value} {l:List Ent} (h:erow w B sl l) (b:Below w.heap.size w w'):erow w' B sl l :=
 (Kept.of_below b).row h (fun g hg e=>by have:=(World.ownsRow.lt h g hg).2;omega)
theorem erow.kept {S:Nat→Prop} {w w':World} {B:Nat} {sl:Value} {l:List Ent} (h:erow w B sl l) (k:Kept S w w') (hs:∀ g,B≤g→¬ S g):erow w' B sl l :=
 k.row h (fun g hg=>hs g (World.ownsRow.lt h g hg).1)
theorem erow.sl {w:World} {B:Nat} {sl:Value} {l:List Ent} (h:erow w B sl l):∃ a c,sl=.slice a l.length c∧l.length≤c:=by
 obtain ⟨a,cap,e,hc,_⟩:=row_view h
 exact ⟨a,cap,e,hc⟩
theorem row_add (g j:Nat):(⟨g,0,none⟩:Addr).add j=⟨g,j,none⟩:=by
 by_cases h:j=0 <;> simp [Addr.add,h]
theorem erow.at {w:World} {B:Nat} {a:Option Addr} {n c:Nat} {l:List Ent} (h:erow w B (.slice a n c) l) {k:Nat} (hk:k < l.length) :
  ∃ g,a=some ⟨g,0,none⟩∧B≤g∧g < w.heap.size∧w.cell? ⟨g,k*3,none⟩=some (str l[k].key)∧w.cell? ⟨g,k*3+1,none⟩=some (.int .i64 (l[k].num:Int))∧w.cell? ⟨g,k*3+2,none⟩=some (.int .i64 (l[k].size:Int)):=by
 have hb:=World.ownsRow.lt h
 have hc:=fun g hv=>World.ownsRow.cells h (g:=g) hv
 obtain ⟨h1,⟨e,hn⟩|⟨g,cap,cur,e,_⟩⟩:=h
 ·cases e;omega
 ·cases e
  obtain ⟨e0,e1,e2⟩:=ecells_at l k hk
  refine ⟨g,rfl,(hb g rfl).1,(hb g rfl).2,?_,?_,?_⟩
  ·have:=hc g rfl _ _ e0;rwa [row_add] at this
  ·have:=hc g rfl _ _ e1;rwa [row_add] at this
  ·have:=hc g rfl _ _ e2;rwa [row_add] at this
theorem infoE:(Tryz.prog.info? 238).map (fun i=>(i.zero,i.size,i.bytes))=some (some (.agg #[.string ⟨#[]⟩,.int .i64 0,.int .i64 0]),3,32):=by kernel_rfl
theorem eapp_law {W:World} {ops:Array Oper} {rest:List Oper} {o:Oper} {a:Act} {Q:Exit→Act→World→Prop} (hgd:o.guard=none) (s x:Operand)
  (ho:o.op=.call { callee:=.builtin .append,args:=#[s,x],argTypes:=#[235,235] })
  (B:Nat) (l:List Ent) (k:Tx) (m n:Nat) (v:Value) (hs:a.eval s=v) (hown:erow W B v l) (H:Nat) (hx:a.eval x=.slice (some ⟨H,0,none⟩) 1 1) (hH:W.heap.size=H) (hlen:l.length≤1000000000) (hB:B≤W.heap.size)
  (h:∀ v' w',erow w' B v' (l++[⟨k,m,n⟩])→Below B (W.alloc (.cells #[str k,.int .i64 (m:Int),.int .i64 (n:Int)] 238)) w'→wpList Tryz.prog ops Q rest (a.put o.dst v') w'):wpList Tryz.prog ops Q (o :: rest) a (W.alloc (.cells #[str k,.int .i64 (m:Int),.int .i64 (n:Int)] 238)):=by
 subst hH
 obtain ⟨i0,hi,hz0,hz1,hz2⟩:=info_parts infoE
 have hown':erow (W.alloc (.cells #[str k,.int .i64 (m:Int),.int .i64 (n:Int)] 238)) B v l:=World.ownsRow.alloc hown _
 refine wpList_append_lies _ hgd s x 235 ho B 238 i0 (.agg #[.string ⟨#[]⟩,.int .i64 0,.int .i64 0]) 3 32 Tryz.underlying235 hi hz0 hz1 hz2 rfl (by omega) v l.length (ecells l) hs hown' ⟨W.heap.size,0,none⟩ 1 1 (ecell ⟨k,m,n⟩) hx (by simp [ecell])
  (fun j u hu=>World.news_of_block (heap_alloc_new _ _) j u (by simpa [ecell] using hu)) (by intro u hu;simp [ecell] at hu;rcases hu with rfl|rfl|rfl <;> rfl) (by omega) (by unfold maxLen;omega) (by omega) (by simp;omega) _ rfl ?_
 intro g cap w' h1 h2 _ _
 refine h _ w' ?_ ((Below.refl B _).grown h2 (by simp;omega) (fun k hk=>(World.ownsRow.lt hown' k hk).1))
 show World.ownsRow _ _ _ _ _ _ _
 rw [ecells_snoc,List.length_append]
 exact h1
structure Coll (s:Sto) (b p a:Tx) (left:Value→Prop) (acc:List Ent):Prop where
 nd:(acc.map (·.key)).Nodup
 mem:∀ e,e∈acc↔(¬ left (keyV b e.key)∧Listed s b p a e)
theorem coll_start (s:Sto) (b p a:Tx) (f:Value→Option Value) (hf:∀ k,s.vs b k≠[]→f (keyV b k)≠none):Coll s b p a (fun key=>f key≠none) [] where
 nd:=by simp
 mem:=fun e=>⟨fun h=>by simp at h,fun ⟨h1,v,h2,_⟩=>absurd (hf e.key (fun e0=>by rw [e0] at h2;cases h2)) h1⟩
theorem Coll.no {s:Sto} {b p a:Tx} {left:Value→Prop} {acc:List Ent} (h:Coll s b p a left acc) (key:Value) (hn:∀ e,keyV b e.key=key→¬ Listed s b p a e):Coll s b p a (fun x=>left x∧x≠key) acc where
 nd:=h.nd
 mem:=fun e=>by
  rw [h.mem e]
  constructor
  ·rintro ⟨h1,h2⟩;exact ⟨fun k=>h1 k.1,h2⟩
  ·rintro ⟨h1,h2⟩;exact ⟨fun k=>h1 ⟨k,fun e1=>hn e e1 h2⟩,h2⟩
theorem key_inj {b k k':Tx} (h:keyV b k=keyV b k'):k=k':=by
 simp only [keyV,str,Value.agg.injEq,Array.mk.injEq,List.cons.injEq,Value.string.injEq,ByteArray.mk.injEq,and_true,true_and] at h
 exact h
theorem Coll.yes {s:Sto} {b p a:Tx} {left:Value→Prop} {acc:List Ent} (h:Coll s b p a left acc) (e0:Ent) (hl:left (keyV b e0.key)) (hy:Listed s b p a e0):Coll s b p a (fun x=>left x∧x≠keyV b e0.key) (acc++[e0]) where
 nd:=by
  have h1:=h.nd
  rw [List.map_append,List.nodup_append]
  refine ⟨h1,by simp,fun x hx y hy'=>?_⟩
  simp only [List.map_cons,List.map_nil,List.mem_singleton] at hy'
  subst hy'
  rintro rfl
  obtain ⟨e,he,ek⟩:=List.mem_map.1 hx
  have:=((h.mem e).1 he).1
  rw [ek] at this
  exact this hl
 mem:=fun e=>by
  rw [List.mem_append,List.mem_singleton,h.mem e]
  constructor
  ·rintro (⟨h1,h2⟩|rfl)
   ·exact ⟨fun k=>h1 k.1,h2⟩
   ·exact ⟨fun k=>k.2 rfl,hy⟩
  ·rintro ⟨h1,h2⟩
   by_cases hk:e.key=e0.key
   ·refine .inr ?_
    obtain ⟨v,v1,_,_,_,v2,v3⟩:=h2
    obtain ⟨u,u1,_,_,_,u2,u3⟩:=hy
    rw [hk] at v1
    have:=Option.some.inj (v1.symm.trans u1)
    subst this
    obtain ⟨ek,en,es⟩:=e
    obtain ⟨fk,fn,fs⟩:=e0
    simp_all
   ·exact .inl ⟨fun k=>h1 ⟨k,fun e1=>hk (key_inj e1)⟩,h2⟩
end Go.Proofs.YtbllcgibmgbnjaaGreatDoor.P
namespace Go.Proofs
open Go.Shelf
def Tryz.sortEnt_ren:Go.Shelf.Ren:=⟨fun|6=>183|15=>151|14=>220|28=>206|29=>158|20=>243|21=>244|22=>245|23=>246|24=>247|25=>248|26=>249|27=>250|46=>261|47=>232|48=>233|49=>262|50=>263|57=>274|n=>n,fun|22=>235|24=>238|25=>295|3=>3|39=>95|0=>0|53=>195|55=>199|4=>4|46=>304|45=>303|50=>308|5=>5|9=>9|66=>325|70=>329|76=>345|77=>346|n=>n,fun|n=>n⟩
theorem Tryz.sortEnt:Go.Proofs.SlLaysF0.n6 Tryz.prog Tryz.sortEnt_ren:={
 mixed:=by kernel_rfl
 f6:=⟨Tryz.f183.name,by decide,Tryz.func183.trans (congrArg some (by kernel_rfl))⟩
 f14:=⟨Tryz.f220.name,by decide,Tryz.func220.trans (congrArg some (by kernel_rfl))⟩
 f15:=Tryz.func151.trans (congrArg some (by kernel_rfl))
 f20:=⟨Tryz.f243.name,by decide,Tryz.func243.trans (congrArg some (by kernel_rfl))⟩
 f21:=⟨Tryz.f244.name,by decide,Tryz.func244.trans (congrArg some (by kernel_rfl))⟩
 f22:=⟨Tryz.f245.name,by decide,Tryz.func245.trans (congrArg some (by kernel_rfl))⟩
 f23:=⟨Tryz.f246.name,by decide,Tryz.func246.trans (congrArg some (by kernel_rfl))⟩
 f24:=⟨Tryz.f247.name,by decide,Tryz.func247.trans (congrArg some (by kernel_rfl))⟩
 f25:=⟨Tryz.f248.name,by decide,Tryz.func248.trans (congrArg some (by kernel_rfl))⟩
 f26:=⟨Tryz.f249.name,by decide,Tryz.func249.trans (congrArg some (by kernel_rfl))⟩
 f27:=⟨Tryz.f250.name,by decide,Tryz.func250.trans (congrArg some (by kernel_rfl))⟩
 f28:=Tryz.func206.trans (congrArg some (by kernel_rfl))
 f29:=Tryz.func158.trans (congrArg some (by kernel_rfl))
 f46:=⟨Tryz.f261.name,by decide,Tryz.func261.trans (congrArg some (by kernel_rfl))⟩
 f47:=Tryz.func232.trans (congrArg some (by kernel_rfl))
 f48:=Tryz.func233.trans (congrArg some (by kernel_rfl))
 f49:=⟨Tryz.f262.name,by decide,Tryz.func262.trans (congrArg some (by kernel_rfl))⟩
 f50:=⟨Tryz.f263.name,by decide,Tryz.func263.trans (congrArg some (by kernel_rfl))⟩
 f57:=⟨Tryz.f274.name,by decide,Tryz.func274.trans (congrArg some (by kernel_rfl))⟩
 t0:=Tryz.underlying0
 a0:=Tryz.isAgg0
 z0:=Tryz.sizeOf0
 v0:=Tryz.zeroValue0
 t3:=Tryz.underlying3
 a3:=Tryz.isAgg3
 z3:=Tryz.sizeOf3
 v3:=Tryz.zeroValue3
 t4:=Tryz.underlying4
 a4:=Tryz.isAgg4
 z4:=Tryz.sizeOf4
 v4:=Tryz.zeroValue4
 t5:=Tryz.underlying5
 a5:=Tryz.isAgg5
 z5:=Tryz.sizeOf5
 v5:=Tryz.zeroValue5
 t9:=Tryz.underlying9
 a9:=Tryz.isAgg9
 z9:=Tryz.sizeOf9
 v9:=Tryz.zeroValue9
 t22:=Tryz.underlying235
 a22:=Tryz.isAgg235
 z22:=Tryz.sizeOf235
 v22:=Tryz.zeroValue235
 t25:=Tryz.underlying295
 a25:=Tryz.isAgg295
 z25:=Tryz.sizeOf295
 v25:=Tryz.zeroValue295
 t39:=Tryz.underlying95
 a39:=Tryz.isAgg95
 z39:=Tryz.sizeOf95
 v39:=Tryz.zeroValue95
 t45:=Tryz.underlying303
 a45:=Tryz.isAgg303
 z45:=Tryz.sizeOf303
 v45:=Tryz.zeroValue303
 t46:=Tryz.underlying304
 a46:=Tryz.isAgg304
 z46:=Tryz.sizeOf304
 v46:=Tryz.zeroValue304
 t50:=Tryz.underlying308
 a50:=Tryz.isAgg308
 z50:=Tryz.sizeOf308
 v50:=Tryz.zeroValue308
 t53:=Tryz.underlying195
 a53:=Tryz.isAgg195
 z53:=Tryz.sizeOf195
 v53:=Tryz.zeroValue195
 t55:=Tryz.underlying199
 a55:=Tryz.isAgg199
 z55:=Tryz.sizeOf199
 v55:=Tryz.zeroValue199
 t66:=Tryz.underlying325
 a66:=Tryz.isAgg325
 z66:=Tryz.sizeOf325
 v66:=Tryz.zeroValue325
 t70:=Tryz.underlying329
 a70:=Tryz.isAgg329
 z70:=Tryz.sizeOf329
 v70:=Tryz.zeroValue329
 t76:=Tryz.underlying345
 a76:=Tryz.isAgg345
 z76:=Tryz.sizeOf345
 v76:=Tryz.zeroValue345
 t77:=Tryz.underlying346
 a77:=Tryz.isAgg346
 z77:=Tryz.sizeOf346
 v77:=Tryz.zeroValue346 }
end Go.Proofs
namespace Go.Proofs.YtbllcgibmgbnjaaGreatDoor.P
open Go.RowKit Go.Sort
def cfE (x y:Ent):Int:=Lib.compareBytes x.key y.key
theorem cmp_lt:∀ x y:Tx,decide (Lib.compareBytes x y < 0)=decide (x < y)
 | [],[]=>by simp [Lib.compareBytes]
 | _ :: _,[]=>by simp [Lib.compareBytes]
 | [],_ :: _=>by simp [Lib.compareBytes]
 | a :: x,b :: y=>by
  have ih:=cmp_lt x y
  simp only [Lib.compareBytes,List.cons_lt_cons_iff]
  by_cases h1:a < b
  ·simp [h1]
  ·by_cases h2:b < a
   ·have:a≠b:=fun e=>by subst e;exact h1 h2
    simp [h1,h2,this]
   ·have:a=b:=UInt8.le_antisymm (UInt8.not_lt.1 h2) (UInt8.not_lt.1 h1)
    simp [this] at *
    exact ih
theorem cloE (x y:Ent) (W:World):Calls Tryz.prog 184 #[.agg #[str x.key,.int .i64 (x.num:Int),.int .i64 (x.size:Int)],.agg #[str y.key,.int .i64 (y.num:Int),.int .i64 (y.size:Int)]] W fun e w'=>e=.returned (.int .i64 (cfE x y))∧∃ q os',w'=grow (W.drewN q) os':=by
 have hcon:Hid (∀ W',Calls Tryz.prog 185 #[str x.key,str y.key] W' fun e w'=>e=.returned (.int .i64 (cfE x y))∧w'=W'):=fun W'=>Tryz.strings_Compare ⟨x.key.toArray⟩ ⟨y.key.toArray⟩ W'
 generalize cfE x y=r at hcon ⊢
 obtain ⟨k1,n1,s1⟩:=x
 obtain ⟨k2,n2,s2⟩:=y
 go_enter Tryz.func184,Tryz.ntmps184
 go_wp2_with (go_at_call 185;refine (hcon.out _).mono ?_;rintro e w' ⟨rfl,rfl⟩)
 go_ret
 exact ⟨rfl,0,_,by rw [alloc_eq_grow,alloc_eq_grow,grow_grow];rfl⟩
structure ERd (w:World) (B:Nat) (a:Option Addr) (l:List Ent):Prop where
 get:∀ k (h:k < l.length),∃ g,a=some ⟨g,0,none⟩∧B≤g∧g < w.heap.size∧w.cell? ⟨g,k*3,none⟩=some (str l[k].key)∧w.cell? ⟨g,k*3+1,none⟩=some (.int .i64 (l[k].num:Int))∧w.cell? ⟨g,k*3+2,none⟩=some (.int .i64 (l[k].size:Int))
theorem ERd.kept {S:Nat→Prop} {w w':World} {B:Nat} {a:Option Addr} {l:List Ent} (h:ERd w B a l) (k:Kept S w w') (hs:∀ g,B≤g→g < w.heap.size→¬ S g):ERd w' B a l :=
 ⟨fun i hi=>by
  obtain ⟨g,e,h1,h2,c0,c1,c2⟩:=h.get i hi
  exact ⟨g,e,h1,Nat.lt_of_lt_of_le h2 k.size,k.cell c0 (hs g h1 h2),k.cell c1 (hs g h1 h2),k.cell c2 (hs g h1 h2)⟩⟩
theorem ERd.below {w w':World} {B:Nat} {a:Option Addr} {l:List Ent} (h:ERd w B a l) (k:Below w.heap.size w w'):ERd w' B a l:=h.kept (Kept.of_below k) (fun g _ h2 h3=>by omega)
theorem ERd.take {w:World} {B:Nat} {a:Option Addr} {l:List Ent} (h:ERd w B a l) (n:Nat):ERd w B a (l.take n) :=
 ⟨fun i hi=>by
  have hi':i < l.length:=by simp at hi;omega
  have:=h.get i hi'
  rw [List.getElem_take]
  exact this⟩
theorem ecell_len (x:Ent):(ecell x).length=3:=rfl
theorem ltE (x y:Ent):ltOf cfE x y=decide (x.key < y.key):=cmp_lt _ _
theorem swoE:SWO (ltOf cfE) where
 irrefl x:=by rw [ltE];simp [List.lt_irrefl]
 trans x y z h1 h2:=by rw [ltE] at *;simp only [decide_eq_true_eq] at *;exact List.lt_trans h1 h2
 ntrans x y z h1 h2:=by
  rw [ltE] at *
  simp only [decide_eq_false_iff_not] at *
  exact List.not_lt.2 (List.le_trans (List.not_lt.1 h2) (List.not_lt.1 h1))
section
variable [Inhabited Ent]
theorem cmpE (blk off size:Nat) (w:World):CmpLays Tryz.prog 184 #[] ecell 3 cfE blk off size w :=
 fun _ _ _ _ x y=>cloE x y _
theorem erow.holds {w:World} {B g cap:Nat} {l:List Ent} (h:erow w B (.slice (some ⟨g,0,none⟩) l.length cap) l):HoldsK ecell 3 w g 0 l.toArray:=by
 intro j hj
 rw [size_flatK] at hj
 simp only [List.size_toArray] at hj
 refine ⟨?_,by simpa using World.ownsRow.frozenAt h (0+j)⟩
 have:=World.ownsRow.cellAt h (0+j) (by omega)
 rw [this,get_flatK _ _ _ _ (by simpa using hj)]
 have hk:j / 3 < l.length:=by omega
 obtain ⟨e0,e1,e2⟩:=ecells_at l (j / 3) hk
 have hg:(l.toArray[j / 3]!)=l[j / 3]:=by simp [hk]
 rw [hg]
 have h3:j % 3=0∨j % 3=1∨j % 3=2:=by omega
 have hj3:0+j=j / 3*3+j % 3:=by omega
 rw [hj3]
 rcases h3 with h3|h3|h3 <;> rw [h3]
 ·exact e0
 ·exact e1
 ·exact e2
theorem sorted_kept (w:World) (g n:Nat) (d:Array Ent) (os:Array Obj):Kept (·=g) w (sortWorldK ecell 3 w g 0 n d os):=by
 refine ⟨rfl,rfl,rfl,?_,fun k hk hn=>?_⟩
 ·simp [sortWorldK,grow,putRowK,putRow,mapBlock,Sort.ahead]
 ·have hn:¬ g=k:=fun e=>hn e.symm
  simp only [sortWorldK,grow,putRowK,putRow,mapBlock,Sort.ahead]
  rw [Array.getElem?_append_left (by simpa using hk),Array.getElem?_modify,if_neg hn]
theorem perm_of {d d':Array Ent} (h:PermIn 0 d.size d d'):d'.toList.Perm d.toList:=by
 have:=h.2.2
 have e:=h.1
 rw [Array.extract_eq_self_of_le (Nat.le_refl _)] at this
 rw [← e,Array.extract_eq_self_of_le (Nat.le_refl _)] at this
 exact this
theorem rising_of {l':List Ent} (hs:SortedIn (ltOf cfE) 0 l'.length l'.toArray) (nd:(l'.map (·.key)).Nodup):l'.Pairwise (fun x y=>x.key < y.key):=by
 rw [List.pairwise_iff_getElem]
 intro i j hi hj hij
 have h:=hs i j (Nat.zero_le _) hij hj
 rw [ltE] at h
 simp only [decide_eq_false_iff_not,List.getElem!_toArray,getElem!_pos l' i hi,getElem!_pos l' j hj] at h
 rw [List.Nodup,List.pairwise_map,List.pairwise_iff_getElem] at nd
 have hne:=nd i j hi hj hij
 rcases List.le_iff_lt_or_eq.1 (List.not_lt.1 h) with k|k
 ·exact k
 ·exact absurd k hne
theorem sort_of (B:Nat) (sl:Value) (l:List Ent) (hl:l.length≤1000000000) (nd:(l.map (·.key)).Nodup) (w:World) (h:erow w B sl l) :
  Calls Tryz.prog 183 #[sl,.func (.func 184) #[] #[]] w fun e w'=>e=.returned (.tuple #[])∧∃ l' a c,sl=.slice a l'.length c∧l'.length≤c∧l'.Perm l∧l'.Pairwise (fun x y=>x.key < y.key)∧ERd w' B a l'∧Kept (fun g=>B≤g) w w':=by
 obtain ⟨a,c,rfl,hc⟩:=h.sl
 by_cases h0:l=[]
 ·subst h0
  refine Calls.mono (AnyF.slices_SortFunc_none Tryz.sortEnt a c _ w) ?_
  rintro e w' ⟨rfl,rfl⟩
  exact ⟨rfl,[],a,c,rfl,hc,.refl _,.nil,⟨fun k hk=>absurd hk (by simp)⟩,Kept.refl _ _⟩
 ·have hp:0 < l.length:=List.length_pos_iff.2 h0
  obtain ⟨g,rfl,hB,hg,_⟩:=h.at (k:=0) hp
  have eg:∀ args w,(callFunc 184 args).run Tryz.prog w=.ok (.enter 184 args) w:=enters_of Tryz.func184 (by kernel_rfl) rfl
  have hH:=h.holds
  have hcon:=AnyQ.slices_SortFunc Tryz.sortEnt 3 Tryz.isAgg238 Tryz.sizeOf238 ecell ecell_len (fun x v hv=>by simp [ecell] at hv;rcases hv with rfl|rfl|rfl <;> rfl) cfE swoE 184 #[] g 0 c l.toArray w eg (cmpE g 0 _ w) hH hg (by simp;omega)
  refine Calls.mono hcon ?_
  rintro e w' ⟨rfl,d',n,os,hpm,hs,rfl⟩
  have hz:d'.toList.length=l.length:=hpm.1
  have pm:=perm_of hpm
  have nd':(d'.toList.map (·.key)).Nodup:=(pm.map (·.key)).nodup_iff.2 nd
  refine ⟨rfl,d'.toList,_,c,by rw [hz],by omega,pm,rising_of (by rw [hz];simpa using hs) nd',⟨fun k hk=>?_⟩,(sorted_kept w g n d' os).mono (fun j _ e=>by subst e;exact hB)⟩
  have H':=holdsK_sortWorldK_c ecell 3 w g 0 l.toArray d' n os hH hg hpm.1
  have hk':k < d'.size:=hk
  have hd:d'[k]! = d'.toList[k]:=by simp [hk']
  have q0:=(HoldsK.cell H' (i:=k) (c:=0) hk' (by omega)).1
  have q1:=(HoldsK.cell H' (i:=k) (c:=1) hk' (by omega)).1
  have q2:=(HoldsK.cell H' (i:=k) (c:=2) hk' (by omega)).1
  rw [hd,Nat.zero_add] at q0 q1 q2
  exact ⟨g,rfl,hB,Nat.lt_of_lt_of_le hg (sorted_kept w g n d' os).size,q0,q1,q2⟩
end
theorem sort_any (B:Nat) (sl:Value) (l:List Ent) (hl:l.length≤1000000000) (nd:(l.map (·.key)).Nodup) (w:World) (h:erow w B sl l) :
  Calls Tryz.prog 183 #[sl,.func (.func 184) #[] #[]] w fun e w'=>e=.returned (.tuple #[])∧∃ l' a c,sl=.slice a l'.length c∧l'.length≤c∧l'.Perm l∧l'.Pairwise (fun x y=>x.key < y.key)∧ERd w' B a l'∧Kept (fun g=>B≤g) w w' :=
 have:Inhabited Ent:=⟨⟨[],0,0⟩⟩
 sort_of B sl l hl nd w h
open Go.RowKit
open C (ret_bool ret_int ret_str)
section
variable {P:Program} (w:World) {ops:Array Oper} {rest:List Oper} {o:Oper} {a:Act} {Q:Exit→Act→World→Prop}
theorem wpList_rangeM (hg:o.guard=none) (m:Operand) (t:TypeId) (hop:o.op=Op.range t m) (k e:TypeId) (K:Value→Prop) (ht:P.underlying t=some (.map k e)) (b:Nat) (f:Value→Option Value) (hm:a.eval m=.map (some b)) (h:MapIs K w b f)
  (hK:∀ w' cnt,RngIs K w' b w.heap.size f (fun key=>f key≠none) cnt→Below w.heap.size w w'→w'.heap.size=w.heap.size+1→wpList P ops Q rest (a.put o.dst (.pointer (some ⟨w.heap.size,0,none⟩))) w'):wpList P ops Q (o :: rest) a w:=by
 refine wpList_plain hg fun K' hK'=>?_
 obtain ⟨w',cnt,hrun,h1,h2,h3⟩:=h.range (P:=P) ht
 unfold Oper.wp
 simp [execOp,hop,hm,hrun,Result.andThen]
 exact hK' _ _ (hK w' cnt h1 h2 h3)
theorem wpList_nextM (hg:o.guard=none) (it:Operand) (hop:o.op=Op.next it false) (p v:Value) (w':World) (hit:a.eval it=p) (hrun:∀ ty,(Instr.next p false ty).run P w=.ok v w')
  (hK:wpList P ops Q rest (a.put o.dst v) w'):wpList P ops Q (o :: rest) a w:=by
 refine wpList_plain hg fun K' hK'=>?_
 unfold Oper.wp
 simp [execOp,hop,hit,hrun,Result.andThen]
 exact hK' _ _ hK
end
theorem next_ty {P:Program} {w:World} {p:Value} (t u:TypeId):(Instr.next p false t).run P w=(Instr.next p false u).run P w:=by
 cases p <;> rfl
theorem klist_any (b:Nat) (s:Sto) (r:Roles) (name pre aft:Tx) (w:World) (h:KS b s r w) (F:Fine s) (Ks:Keys s) :
  Calls Tryz.prog 129 #[.pointer (some ⟨b,0,none⟩),str name,str pre,str aft] w fun e w'=>∃ l a c,e=.returned (.slice a l.length c)∧l.length≤c∧Lists s name pre aft l∧ERd w' w.heap.size a l∧Below w.heap.size w w':=by
 obtain ⟨uv,lv,mb,mv,h⟩:=h
 have c4:=h.c4
 obtain ⟨f,hf,hz,hv⟩:=h.vs
 have CS:Hid (Coll s name pre aft (fun key=>f key≠none) []):=coll_start s name pre aft f (fun k hk=>by obtain ⟨sl,e,_⟩:=hv name k hk;rw [e];simp)
 have hfl:=F.log
 have hfn:=F.last
 have INV:Hid (∀ key v,isTwo key→f key=some v→∃ (x y:Tx) (g k c:Nat) (vn:Nat) (vm:Bool) (vb:Tx),key=keyV x y∧v=.slice (some ⟨g,0,none⟩) (k+1) c∧k+1≤c∧k+1≤100000∧(s.vs x y).getLast?=some ⟨vn,vm,vb⟩∧g < w.heap.size∧w.cell? ⟨g,k*3,none⟩=some (.int .i64 (vn:Int))∧w.cell? ⟨g,k*3+1,none⟩=some (.bool vm)∧w.cell? ⟨g,k*3+2,none⟩=some (str vb)∧vb.length≤100000∧vn≤100000):=by
  rintro key v ⟨⟨⟨x⟩⟩,⟨⟨y⟩⟩,rfl⟩ hfv
  have hfv:f (keyV x y)=some v:=hfv
  by_cases h0:s.vs x y=[]
  ·have:=hz x y h0
   exact absurd (hfv.symm.trans this) (by simp)
  ·obtain ⟨sl,e,hrow,_⟩:=hv x y h0
   have:=Option.some.inj (hfv.symm.trans e)
   subst this
   have hp:0 < (s.vs x y).length:=List.length_pos_iff.2 h0
   obtain ⟨a,c,rfl,hc⟩:=vrow.sl hrow
   obtain ⟨k,hk⟩:∃ k:Nat,(s.vs x y).length=k+1:=⟨(s.vs x y).length - 1,by omega⟩
   have hi:k < (s.vs x y).length:=by omega
   obtain ⟨g,rfl,hg,q0,q1,q2⟩:=vrow.at hrow hi
   have hfx:=F.vs x y
   have hfv2:=hfx.2 _ (List.getElem_mem hi)
   have hgl:(s.vs x y).getLast?=some (s.vs x y)[k]:=by
    rw [List.getLast?_eq_getElem?,hk]
    exact List.getElem?_eq_getElem hi
   generalize (s.vs x y)[k]=vv at *
   obtain ⟨vn,vm,vb⟩:=vv
   dsimp only at hfv2
   exact ⟨x,y,g,k,c,vn,vm,vb,rfl,by rw [hk],by omega,by omega,hgl,hg,q0,q1,q2,hfv2.1,by have:=hfv2.2;omega⟩
 have PRE:Hid (∀ (l p:Tx) (w:World),Calls Tryz.prog 144 #[str l,str p] w fun e w'=>e=.returned (.bool (p.isPrefixOf l))∧w=w'):=R.pre_r
 have SORT:Hid (∀ (sl:Value) (l:List Ent),l.length≤1000000000→(l.map (·.key)).Nodup→∀ W,erow W (w.heap.size+1) sl l→Calls Tryz.prog 183 #[sl,.func (.func 184) #[] #[]] W fun e w'=>e=.returned (.tuple #[])∧∃ l' a c,sl=.slice a l'.length c∧l'.length≤c∧l'.Perm l∧l'.Pairwise (fun x y=>x.key < y.key)∧ERd w' (w.heap.size+1) a l'∧Kept (fun g=>w.heap.size+1≤g) W w'):=sort_any (w.heap.size+1)
 have CNT:Hid (∀ acc left,Coll s name pre aft left acc→acc.length≤100000):=fun acc left hc=>by
  have:=Ks.count hc.nd (fun e he=>((hc.mem e).1 he).2)
  omega
 have HMV:Hid (mv < w.heap.size):=hf.lt
 clear h hz hv
 go_enter Tryz.func129,Tryz.ntmps129
 go_wp2_with (at_range;refine wpList_rangeM _ rfl _ _ rfl 289 290 isTwo Tryz.underlying123 mv f rfl hf ?_;intro w0 cnt0 hr0 hb0 hs0)
 go_frame
 go_loopw [9] (fun v wr=>∃ left cnt acc,RngIs isTwo wr mv w.heap.size f left cnt∧erow wr (w.heap.size+1) v acc∧Coll s name pre aft left acc∧Below w.heap.size w wr) (fun _ wr=>wr.rangeLeft mv w.heap.size)
 case atStart=>exact ⟨_,cnt0,[],hr0,World.ownsRow_nil _ _ _ _,CS.out,hb0⟩
 case round =>
  obtain ⟨left,cnt,acc,hr,he,hc,hb⟩:=hrel
  have hsz:=hb.size
  have hlr:=hr.lt
  obtain ⟨ea,ec,rfl,hec⟩:=he.sl
  have hal:=CNT.out acc left hc
  have HR:Hid (RngIs isTwo wr mv w.heap.size f left cnt):=hr
  have HE:Hid (erow wr (w.heap.size+1) (.slice ea acc.length ec) acc):=he
  have HC:Hid (Coll s name pre aft left acc):=hc
  clear hr he hc
  rcases HR.out.next (P:=Tryz.prog) 0 with ⟨h0,hrun⟩|⟨key,v,w1,cnt1,hl,hK,hfv,hrun,hr1,hlt,hk1,hs1,hen⟩
  ·have RUN:Hid (∀ ty,(Instr.next (.pointer (some ⟨w.heap.size,0,none⟩)) false ty).run Tryz.prog wr=.ok (.tuple #[.bool false]) wr):=fun ty=>(next_ty ty 0).trans hrun
   have H0:Hid (∀ key,¬ left key):=h0
   have ST:Hid (_):=SORT.out _ acc (by omega) HC.out.nd wr HE.out
   clear hrun h0
   go_wp2_with (first|(at_next;refine wpList_nextM _ rfl _ rfl _ _ _ rfl RUN.out ?_)|(go_at_call 183;refine Calls.mono ST.out ?_;rintro e w2 ⟨rfl,l',a,c,hsl,hcc,hpm,hpw,hrd,hkk⟩))
   go_ret
   refine ⟨l',a,c,rfl,hcc,⟨hpw,fun e=>?_⟩,⟨fun i hi=>?_⟩,hb.trans (hkk.below hsz (fun j e=>by omega))⟩
   ·rw [hpm.mem_iff,HC.out.mem e]
    exact ⟨And.right,fun h=>⟨H0.out _,h⟩⟩
   ·obtain ⟨g,e1,e2,e3⟩:=hrd.get i hi
    exact ⟨g,e1,by omega,e3⟩
  ·obtain ⟨x,y,g,k,c,vn,vm,vb,rfl,rfl,hkc,hkl,hgl,hg,q0,q1,q2,hvb,hvn⟩:=INV.out key v hK hfv
   have RUN:Hid (∀ ty,(Instr.next (.pointer (some ⟨w.heap.size,0,none⟩)) false ty).run Tryz.prog wr=.ok (.tuple #[.bool true,keyV x y,.slice (some ⟨g,0,none⟩) (k+1) c]) w1):=fun ty=>(next_ty ty 0).trans hrun
   have hb1:Below w.heap.size w w1:=hb.trans (hk1.below hsz (fun j e=>by omega))
   replace q0:=(hb1.cell (p:=⟨g,k*3,none⟩) hg).trans q0
   replace q1:=(hb1.cell (p:=⟨g,k*3+1,none⟩) hg).trans q1
   replace q2:=(hb1.cell (p:=⟨g,k*3+2,none⟩) hg).trans q2
   have HE1:Hid (erow w1 (w.heap.size+1) (.slice ea acc.length ec) acc):=HE.out.kept hk1 (fun j hj e=>by omega)
   have HR1:Hid (RngIs isTwo w1 mv w.heap.size f (fun z=>left z∧z≠keyV x y) cnt1):=hr1
   have HL:Hid (left (keyV x y)):=hl
   have HG:Hid ((s.vs x y).getLast?=some ⟨vn,vm,vb⟩):=hgl
   have HLT:Hid (cnt1 < cnt):=hlt
   have P1:Hid (_):=PRE.out y pre
   have hsz1:=hb1.size
   have p0:∀ ob,(w1.alloc ob).cell? ⟨g,k*3,none⟩=some (.int .i64 (vn:Int)):=fun ob=>cell_alloc q0 ob
   have p1:∀ ob,(w1.alloc ob).cell? ⟨g,k*3+1,none⟩=some (.bool vm):=fun ob=>cell_alloc q1 ob
   have p2:∀ ob,(w1.alloc ob).cell? ⟨g,k*3+2,none⟩=some (str vb):=fun ob=>cell_alloc q2 ob
   have b12:Below w1.heap.size w1 ((w1.alloc (.cells #[str x,str y] 289)).alloc (.cells #[.int .i64 (vn:Int),.bool vm,str vb] 292)):=((Below.refl _ _).alloc (Nat.le_refl _) _).alloc (by simp) _
   have R2:Hid (RngIs isTwo ((w1.alloc (.cells #[str x,str y] 289)).alloc (.cells #[.int .i64 (vn:Int),.bool vm,str vb] 292)) mv w.heap.size f (fun z=>left z∧z≠keyV x y) cnt1):=hr1.below b12
   have E2:Hid (erow ((w1.alloc (.cells #[str x,str y] 289)).alloc (.cells #[.int .i64 (vn:Int),.bool vm,str vb] 292)) (w.heap.size+1) (.slice ea acc.length ec) acc):=HE1.out.below b12
   have B2:Hid (Below w.heap.size w ((w1.alloc (.cells #[str x,str y] 289)).alloc (.cells #[.int .i64 (vn:Int),.bool vm,str vb] 292))):=below_trans hb1 b12
   have Z2:Hid (((w1.alloc (.cells #[str x,str y] 289)).alloc (.cells #[.int .i64 (vn:Int),.bool vm,str vb] 292)).heap.size=w1.heap.size+1+1):=by show _=_;simp
   have hlr1:w.heap.size+1≤w1.heap.size:=by rw [hs1];exact hlr
   clear hrun hr1 hl hgl hlt hfv hK HE hk1 hs1 b12
   have NO:Hid ((∀ e,keyV name e.key=keyV x y→¬ Listed s name pre aft e)→Coll s name pre aft (fun z=>left z∧z≠keyV x y) acc):=fun h=>HC.out.no _ h
   by_cases hx:x=name
   ·subst hx
    have NO2:Hid ((∀ e:Ent,e.key=y→¬ Listed s x pre aft e)→Coll s x pre aft (fun z=>left z∧z≠keyV x y) acc):=fun h=>NO.out (fun e he=>h e (key_inj he))
    clear NO
    cases hp:pre.isPrefixOf y with
    | false =>
     have NC:Hid (Coll s x pre aft (fun z=>left z∧z≠keyV x y) acc):=NO2.out (fun e he hL=>by
      obtain ⟨_,_,_,h3,_⟩:=hL
      rw [he,hp] at h3;cases h3)
     rw [hp] at P1
     go_wp2_with (first|(at_next;refine wpList_nextM _ rfl _ rfl _ _ _ rfl RUN.out ?_)|(go_at_call 144;refine Calls.mono (P1.out _) ?_;rintro e w2 ⟨rfl,rfl⟩))
     go_roundw
     case rel=>exact ⟨_,cnt1,acc,R2.out,E2.out,NC.out,B2.out⟩
     case measure=>rw [R2.out.left_eq,HR.out.left_eq];exact HLT.out
    | true =>
     rw [hp] at P1
     by_cases ha:aft < y
     ·have ta:Op.bytesLess y aft=false:=by rw [bytesLess_eq];simpa using tx_asymm ha
      have te:¬ y=aft:=fun e=>by rw [e] at ha;exact List.lt_irrefl _ ha
      have tq:(y == aft)=false:=by simpa using te
      cases vm with
      | true =>
       have NC:Hid (Coll s x pre aft (fun z=>left z∧z≠keyV x y) acc):=NO2.out (fun e he hL=>by
        obtain ⟨v,h1,h2,_⟩:=hL
        rw [he,HG.out] at h1
        cases h1;cases h2)
       go_wp2_with (first|(at_next;refine wpList_nextM _ rfl _ rfl _ _ _ rfl RUN.out ?_)|(go_at_call 144;refine Calls.mono (P1.out _) ?_;rintro e w2 ⟨rfl,rfl⟩))
       go_roundw
       case rel=>exact ⟨_,cnt1,acc,R2.out,E2.out,NC.out,B2.out⟩
       case measure=>rw [R2.out.left_eq,HR.out.left_eq];exact HLT.out
      | false =>
       have YC:Hid (Coll s x pre aft (fun z=>left z∧z≠keyV x y) (acc++[⟨y,vn,vb.length⟩])):=HC.out.yes ⟨y,vn,vb.length⟩ HL.out ⟨_,HG.out,rfl,hp,ha,rfl,rfl⟩
       go_wp2_with (first|(at_next;refine wpList_nextM _ rfl _ rfl _ _ _ rfl RUN.out ?_)|(go_at_call 144;refine Calls.mono (P1.out _) ?_;rintro e w2 ⟨rfl,rfl⟩)|(at_builtin;refine eapp_law rfl _ _ rfl (w.heap.size+1) acc y vn vb.length (.slice ea acc.length ec) rfl E2.out (w1.heap.size+1+1) rfl Z2.out (by omega) (by simp;omega) ?_;intro v' w3 hr3 hb3))
       have R3:Hid (RngIs isTwo w3 mv w.heap.size f (fun z=>left z∧z≠keyV x y) cnt1):=(R2.out.below ((Below.refl _ _).alloc (Nat.le_refl _) _)).kept (Kept.of_below hb3) (by have:=HMV.out;omega) (by omega)
       have B3:Hid (Below w.heap.size w w3):=(B2.out.alloc B2.out.size _).trans (hb3.mono (by omega))
       go_roundw
       case rel=>exact ⟨_,cnt1,_,R3.out,hr3,YC.out,B3.out⟩
       case measure=>rw [R3.out.left_eq,HR.out.left_eq];exact HLT.out
     ·have NC:Hid (Coll s x pre aft (fun z=>left z∧z≠keyV x y) acc):=NO2.out (fun e he hL=>by
       obtain ⟨_,_,_,_,h4,_⟩:=hL
       rw [he] at h4;exact ha h4)
      rcases List.le_iff_lt_or_eq.1 (List.not_lt.1 ha) with hya|hya
      ·have ta:Op.bytesLess y aft=true:=by rw [bytesLess_eq];simpa using hya
       go_wp2_with (first|(at_next;refine wpList_nextM _ rfl _ rfl _ _ _ rfl RUN.out ?_)|(go_at_call 144;refine Calls.mono (P1.out _) ?_;rintro e w2 ⟨rfl,rfl⟩))
       go_roundw
       case rel=>exact ⟨_,cnt1,acc,R2.out,E2.out,NC.out,B2.out⟩
       case measure=>rw [R2.out.left_eq,HR.out.left_eq];exact HLT.out
      ·subst hya
       go_wp2_with (first|(at_next;refine wpList_nextM _ rfl _ rfl _ _ _ rfl RUN.out ?_)|(go_at_call 144;refine Calls.mono (P1.out _) ?_;rintro e w2 ⟨rfl,rfl⟩))
       go_roundw
       case rel=>exact ⟨_,cnt1,acc,R2.out,E2.out,NC.out,B2.out⟩
       case measure=>rw [R2.out.left_eq,HR.out.left_eq];exact HLT.out
   ·have tx:(x == name)=false:=by simpa using hx
    have NC:Hid (Coll s name pre aft (fun z=>left z∧z≠keyV x y) acc):=NO.out (fun e he=>by
     simp only [keyV,str,Value.agg.injEq,Array.mk.injEq,List.cons.injEq,Value.string.injEq,ByteArray.mk.injEq,and_true] at he
     exact absurd he.1.symm hx)
    clear NO
    go_wp2_with (at_next;refine wpList_nextM _ rfl _ rfl _ _ _ rfl RUN.out ?_)
    go_roundw
    case rel=>exact ⟨_,cnt1,acc,R2.out,E2.out,NC.out,B2.out⟩
    case measure=>rw [R2.out.left_eq,HR.out.left_eq];exact HLT.out
theorem BL.slot {B b:Nat} {l:List UInt8} {w:World} (h:BL B b l w):b < w.heap.size∧∃ v,w.cell? ⟨b,1,none⟩=some v∧∀ g,v.ownBlock=some g→g < w.heap.size:=by
 rcases h with ⟨hB,v,hb,hown,hne⟩|⟨hB,v,hb,hown,hne⟩
 ·exact ⟨(Array.getElem?_eq_some_iff.1 hb).1,v,by rw [Lib.cell_of_heap hb];rfl,fun g hg=>(hown.lt g hg).2⟩
 ·exact ⟨(Array.getElem?_eq_some_iff.1 hb).1,v,by rw [Lib.cell_of_heap hb];rfl,fun g hg=>(hown.lt g hg).2⟩
theorem copyCheck_k (B b:Nat) (l:List UInt8) (w:World) (h:BL B b l w) :
  Calls Tryz.prog 78 #[.pointer (some ⟨b,0,none⟩)] w fun e w'=>e=.returned (.tuple #[])∧BLa B b l w'∧Below B w w'∧Kept (·=b) w w'∧w'.cell? ⟨b,1,none⟩=w.cell? ⟨b,1,none⟩:=by
 obtain ⟨j,hj,hjs⟩:=Option.map_eq_some_iff.1 bsize
 rcases h with h|h
 ·have U:=h.used (.pointer (some ⟨b,0,none⟩))
  have c0:=h.cell0
  have f0:=h.frozen0
  have hB:=h.1
  have hsh:=h.shape
  have K0:Kept (·=b) w (w.setCell ⟨b,0,none⟩ (.pointer (some ⟨b,0,none⟩))):=(Kept.refl _ _).setOwn 0 _
  have K1:(w.setCell ⟨b,0,none⟩ (.pointer (some ⟨b,0,none⟩))).cell? ⟨b,1,none⟩=w.cell? ⟨b,1,none⟩:=by simp [go_sem]
  clear h
  go_enter Tryz.func78,Tryz.ntmps78
  go_wp2
  rw [Lib.run_to_unsafe w ⟨b,0,none⟩ Tryz.underlying103 Tryz.underlying204 hj (by rw [hjs];decide) hsh (Nat.zero_lt_succ 1)]
  simp only [Result.andThen]
  rw [Oper.upon_value]
  go_wp2
  rw [run_callFunc_extern Tryz.func116 (by kernel_rfl) (by kernel_rfl) (by kernel_rfl) (e:=Extern.AbiNoEscape.same) (by kernel_rfl)]
  rw [Lib.run_noEscape]
  simp only [Result.andThen]
  rw [Oper.upon_value]
  go_wp2
  rw [Lib.run_from_unsafe w ⟨b,0,none⟩ Tryz.underlying204 Tryz.underlying103 hj hsh (by kernel_rfl)]
  simp only [Result.andThen]
  rw [Oper.upon_value]
  go_wp2
  go_end0
  exact ⟨rfl,U,(Below.refl B w).setCell (p:=⟨b,0,none⟩) hB _,K0,K1⟩
 ·have c0:=h.cell0
  go_enter Tryz.func78,Tryz.ntmps78
  go_wp2
  rw [Lib.run_neq_ptr_same w _ Tryz.underlying103 hj]
  go_wp2
  go_end0
  exact ⟨rfl,h,Below.refl B _,Kept.refl _ _,rfl⟩
theorem writeStr_k (B b:Nat) (l t:List UInt8) (w0 w:World) (h0:BL B b l w0) (k0:Below w0.heap.size w0 w) (hlen:l.length+t.length≤140737488355328) (hBw:B≤w.heap.size) :
  Calls Tryz.prog 52 #[.pointer (some ⟨b,0,none⟩),str t] w fun e w'=>e=.returned (.tuple #[.int .i64 (t.length:Int),.nilIface])∧BL B b (l++t) w'∧Below B w w'∧Kept (fun j=>j < w0.heap.size) w w':=by
 obtain ⟨i0,hi,hz0,hz1,hz2⟩:=info_parts Tryz.infoByte
 obtain ⟨hb0,v0,hv0,hg0⟩:=h0.slot
 have C:Hid (_):=copyCheck_k B b l w (h0.belowL k0)
 have HV:Hid (w.cell? ⟨b,1,none⟩=some v0):=(k0.cell (p:=⟨b,1,none⟩) hb0).trans hv0
 clear h0 k0 hv0
 go_enter Tryz.func52,Tryz.ntmps52
 go_wp2_with fail
 refine Calls.mono C.out ?_
 rintro e w1 ⟨rfl,h1,hb1,hk1,he1⟩
 have hlt:=h1.blk
 have hs1:=hb1.size
 obtain ⟨hB,v,hbk,hown,hne⟩:=h1
 rw [Lib.byteCells_length] at hown
 have c0:w1.cell? ⟨b,0,none⟩=some (.pointer (some ⟨b,0,none⟩)):=by rw [Lib.cell_of_heap hbk];rfl
 have c1:w1.cell? ⟨b,1,none⟩=some v:=by rw [Lib.cell_of_heap hbk];rfl
 have hvv:v=v0:=Option.some.inj (c1.symm.trans (he1.trans HV.out))
 subst hvv
 clear he1 HV
 go_wp2_with (at_builtin;refine Lib.wpList_append_own_stringF _ rfl _ _ 70 9 rfl B 5 i0 Tryz.underlying70 Tryz.underlying9 hi hz0 hz1 hz2 _ _ _ rfl hown ⟨t.toArray⟩ rfl ?c3 ?c4 ?c5 ?_)
 case c3=>unfold maxLen;simp [ByteArray.size];omega
 case c4=>simp [ByteArray.size];omega
 case c5=>omega
 intro v' w2 hown' hgrow _
 have hb2:w2.heap[b]?=some (.cells #[.pointer (some ⟨b,0,none⟩),v] 105 (0,0)):=by
  rw [hgrow.block b hlt (fun e=>hne e.symm)]
  exact hbk
 have d0:w2.cell? ⟨b,0,none⟩=some (.pointer (some ⟨b,0,none⟩)):=by rw [Lib.cell_of_heap hb2];rfl
 have d1:w2.cell? ⟨b,1,none⟩=some v:=by rw [Lib.cell_of_heap hb2];rfl
 have f1:w2.frozen? ⟨b,1,none⟩=false:=Lib.frozen_of_heap hb2 1
 obtain ⟨ao,n',cap,rfl⟩:∃ ao n' cap,v'=.slice ao n' cap:=by
  rcases hown'.2 with ⟨hv,_⟩|⟨g,cap,cur,fz,hv,_⟩
  ·exact ⟨_,_,_,hv⟩
  ·exact ⟨_,_,_,hv⟩
 have HP:Hid (BL B b (l++t) (w2.setCell ⟨b,1,none⟩ (.slice ao n' cap))):=by
  refine .inr ?_
  rw [byteCells_app]
  refine Lib.BuilderAtF.put (T:=105) (e:=5) hB hb2 ?_ (by decide)
  rw [List.length_append,Lib.byteCells_length,Lib.strCells_length]
  exact hown'
 have HB:Hid (Below B w (w2.setCell ⟨b,1,none⟩ (.slice ao n' cap))):=(hb1.grown hgrow (by omega) (fun k hk=>(hown.lt k hk).1)).setCell (p:=⟨b,1,none⟩) hB _
 have HK:Hid (Kept (fun j=>j < w0.heap.size) w (w2.setCell ⟨b,1,none⟩ (.slice ao n' cap))):=(((hk1.mono (fun j _ e=>by subst e;exact hb0)).trans (Kept.of_grown hgrow) (fun j _ e=>hg0 j e)).setCell b 1 _ (fun _=>hb0))
 clear hown hown' hgrow hbk hb2 hb1 hk1 hg0
 go_wp2
 go_ret2
 exact ⟨rfl,HP.out,HB.out,HK.out⟩
theorem writeStr_kb (B b:Nat) (l:List UInt8) (s:ByteArray) (t:List UInt8) (hs:s=⟨t.toArray⟩) (w0 w:World) (h0:BL B b l w0) (k0:Below w0.heap.size w0 w) (hlen:l.length+t.length≤140737488355328) (hBw:B≤w.heap.size) :
  Calls Tryz.prog 52 #[.pointer (some ⟨b,0,none⟩),.string s] w fun e w'=>e=.returned (.tuple #[.int .i64 (t.length:Int),.nilIface])∧BL B b (l++t) w'∧Below B w w'∧Kept (fun j=>j < w0.heap.size) w w':=by
 subst hs;exact writeStr_k B b l t w0 w h0 k0 hlen hBw
end Go.Proofs.YtbllcgibmgbnjaaGreatDoor.P
