import Derived.Test.YtbllcgibmgbnjaaGreatDoorM05
import Derived.Laws.BitsLemmas
set_option maxHeartbeats 1000000
set_option maxRecDepth 100000
namespace Go.Proofs.YtbllcgibmgbnjaaGreatDoor
open Go.RowKit
theorem xor_full32 (c:Nat) (hc:c < 4294967296):c ^^^ 4294967295=4294967295 - c:=by
 apply Nat.eq_of_testBit_eq
 intro i
 rw [not_bit c i hc,Nat.testBit_xor,show (4294967295:Nat)=2 ^ 32 - 1 from rfl,Nat.testBit_two_pow_sub_one]
 by_cases h:i < 32
 ·cases c.testBit i <;> simp [h]
 ·have:c.testBit i=false:=Nat.testBit_lt_two_pow (Nat.lt_of_lt_of_le (by exact hc) (Nat.pow_le_pow_right (by omega) (show 32≤i by omega)))
  simp [h,this]
def u32v (x:Nat):Value:=.int .u32 (x:Int)
def layK (w:World):Prop:=∀ i,i < 64→w.cell? ⟨4,i,none⟩=some (.int .u32 (kL.getD i 0:Nat))
def z64:Array Value:=#[.int .u32 0,.int .u32 0,.int .u32 0,.int .u32 0,.int .u32 0,.int .u32 0,.int .u32 0,.int .u32 0,.int .u32 0,.int .u32 0,.int .u32 0,.int .u32 0,.int .u32 0,.int .u32 0,.int .u32 0,.int .u32 0,.int .u32 0,.int .u32 0,.int .u32 0,.int .u32 0,.int .u32 0,.int .u32 0,.int .u32 0,.int .u32 0,.int .u32 0,.int .u32 0,.int .u32 0,.int .u32 0,.int .u32 0,.int .u32 0,.int .u32 0,.int .u32 0,.int .u32 0,.int .u32 0,.int .u32 0,.int .u32 0,.int .u32 0,.int .u32 0,.int .u32 0,.int .u32 0,.int .u32 0,.int .u32 0,.int .u32 0,.int .u32 0,.int .u32 0,.int .u32 0,.int .u32 0,.int .u32 0,.int .u32 0,.int .u32 0,.int .u32 0,.int .u32 0,.int .u32 0,.int .u32 0,.int .u32 0,.int .u32 0,.int .u32 0,.int .u32 0,.int .u32 0,.int .u32 0,.int .u32 0,.int .u32 0,.int .u32 0,.int .u32 0]
theorem z64_is:z64=Array.replicate 64 (.int .u32 0):=rfl
theorem zeros_there1 (w:World) (t:TypeId):(w.alloc (.cells z64 t)).there w.heap.size 0 64:=by
 intro j hj
 rw [z64_is,Nat.zero_add,zeros_cell w t 64 j hj,zeros_free]
 exact ⟨rfl,rfl⟩
theorem mix_start (a b c d e f g h:Nat) (w:World) (hK:layK w) (hgl:4 < w.heap.size) (w0:World) (hw0:w0=(w.alloc (.cells #[.int .u32 (a:Nat),.int .u32 (b:Nat),.int .u32 (c:Nat),.int .u32 (d:Nat),.int .u32 (e:Nat),.int .u32 (f:Nat),.int .u32 (g:Nat),.int .u32 (h:Nat)] 196)).alloc (.cells #[.int .u32 0,.int .u32 0,.int .u32 0,.int .u32 0,.int .u32 0,.int .u32 0,.int .u32 0,.int .u32 0] 196)) :
  (w0.cell? ⟨w.heap.size,0,none⟩=some (.int .u32 (a:Nat))∧w0.cell? ⟨w.heap.size,1,none⟩=some (.int .u32 (b:Nat))∧w0.cell? ⟨w.heap.size,2,none⟩=some (.int .u32 (c:Nat))∧w0.cell? ⟨w.heap.size,3,none⟩=some (.int .u32 (d:Nat)) ∧
   w0.cell? ⟨w.heap.size,4,none⟩=some (.int .u32 (e:Nat))∧w0.cell? ⟨w.heap.size,5,none⟩=some (.int .u32 (f:Nat))∧w0.cell? ⟨w.heap.size,6,none⟩=some (.int .u32 (g:Nat))∧w0.cell? ⟨w.heap.size,7,none⟩=some (.int .u32 (h:Nat))) ∧
  w0.there (w.heap.size+1) 0 8∧layK w0∧Below w.heap.size w w0∧w0.heap.size=w.heap.size+2:=by
 subst hw0
 refine ⟨⟨?_,?_,?_,?_,?_,?_,?_,?_⟩,?_,?_,?_,?_⟩
 ·simp [go_sem]
 ·simp [go_sem]
 ·simp [go_sem]
 ·simp [go_sem]
 ·simp [go_sem]
 ·simp [go_sem]
 ·simp [go_sem]
 ·simp [go_sem]
 ·intro j hj
  have:j=0∨j=1∨j=2∨j=3∨j=4∨j=5∨j=6∨j=7:=by omega
  rcases this with rfl|rfl|rfl|rfl|rfl|rfl|rfl|rfl <;> simp [go_sem]
 ·intro i hi
  simp [go_sem,World.cell?_alloc_past,hgl,Nat.lt_succ_of_lt hgl]
  exact hK i hi
 ·exact ((Below.refl _ _).alloc (Nat.le_refl _) _).alloc (by simp) _
 ·simp
theorem there_cell {w:World} {b n:Nat} (h:w.there b 0 n) (j:Nat) (hj:j < n):∃ v,w.cell? ⟨b,j,none⟩=some v∧w.frozen? ⟨b,j,none⟩=false:=by
 obtain ⟨h1,h2⟩:=h j hj
 rw [Nat.zero_add] at h1 h2
 obtain ⟨v,hv⟩:=Option.isSome_iff_exists.1 h1
 exact ⟨v,hv,h2⟩
theorem l8_gets (x a b c y e f g:Nat):[x,a,b,c,y,e,f,g].getD 0 0=x∧[x,a,b,c,y,e,f,g].getD 1 0=a∧[x,a,b,c,y,e,f,g].getD 2 0=b∧[x,a,b,c,y,e,f,g].getD 3 0=c∧[x,a,b,c,y,e,f,g].getD 4 0=y∧[x,a,b,c,y,e,f,g].getD 5 0=e∧[x,a,b,c,y,e,f,g].getD 6 0=f∧[x,a,b,c,y,e,f,g].getD 7 0=g:=⟨rfl,rfl,rfl,rfl,rfl,rfl,rfl,rfl⟩
theorem rnd8_gets (a b c d e f g h m:Nat):(rnd8 a b c d e f g h m).getD 0 0=(h+bs1 e+chs e f g+m+(bs0 a+mst a b c)) % 4294967296∧(rnd8 a b c d e f g h m).getD 1 0=a∧(rnd8 a b c d e f g h m).getD 2 0=b∧(rnd8 a b c d e f g h m).getD 3 0=c ∧
  (rnd8 a b c d e f g h m).getD 4 0=(d+(h+bs1 e+chs e f g+m)) % 4294967296∧(rnd8 a b c d e f g h m).getD 5 0=e∧(rnd8 a b c d e f g h m).getD 6 0=f∧(rnd8 a b c d e f g h m).getD 7 0=g:=by
 unfold rnd8
 exact l8_gets _ _ _ _ _ _ _ _
theorem cmp8 (a b c d e f g h:Nat) (WS v:List Nat) (hr:rnds [a,b,c,d,e,f,g,h] WS 64=v):cmpN [a,b,c,d,e,f,g,h] WS 8=[(a+v.getD 0 0) % 4294967296,(b+v.getD 1 0) % 4294967296,(c+v.getD 2 0) % 4294967296,(d+v.getD 3 0) % 4294967296,(e+v.getD 4 0) % 4294967296,(f+v.getD 5 0) % 4294967296,(g+v.getD 6 0) % 4294967296,(h+v.getD 7 0) % 4294967296]:=by
 simp only [cmpN,hr]
 simp
theorem vint {k:IntKind} {a b:Int} (h:a=b):Value.int k a=Value.int k b:=by rw [h]
theorem chs_bits (a b c:Nat) (ha:a < 4294967296) (hb:b < 4294967296) (hc:c < 4294967296):∃ A1 A2 N C:Nat,bits .and .u32 (a:Int) (b:Int)=(A1:Int)∧bits .xor .u32 4294967295 (a:Int)=(N:Int)∧bits .and .u32 (N:Int) (c:Int)=(A2:Int)∧bits .xor .u32 (A1:Int) (A2:Int)=(C:Int)∧Hid (C=chs a b c)∧C < 4294967296:=by
 refine ⟨a &&& b,(4294967295 - a) &&& c,4294967295 - a,chs a b c,u32_and_nat a b ha hb,?_,u32_and_nat _ c (by omega) hc,?_,rfl,chs_lt a b c hb hc⟩
 ·have:=u32_xor_nat 4294967295 a (by omega) ha
  rw [Nat.xor_comm,xor_full32 a ha] at this
  exact this
 ·rw [u32_xor_nat _ _ (and32 hb) (and32 hc),chs_xor a b c ha]
theorem mst_bits (a b c:Nat) (ha:a < 4294967296) (hb:b < 4294967296) (hc:c < 4294967296):∃ M1 M2 M3 M4 M:Nat,bits .and .u32 (a:Int) (b:Int)=(M1:Int)∧bits .and .u32 (a:Int) (c:Int)=(M2:Int)∧bits .xor .u32 (M1:Int) (M2:Int)=(M3:Int)∧bits .and .u32 (b:Int) (c:Int)=(M4:Int)∧bits .xor .u32 (M3:Int) (M4:Int)=(M:Int)∧Hid (M=mst a b c)∧M < 4294967296:=by
 refine ⟨a &&& b,a &&& c,(a &&& b) ^^^ (a &&& c),b &&& c,mst a b c,u32_and_nat a b ha hb,u32_and_nat a c ha hc,u32_xor_nat _ _ (and32 hb) (and32 hc),u32_and_nat b c hb hc,?_,rfl,mst_lt a b c hb hc⟩
 rw [u32_xor_nat _ _ (xor32 (and32 hb) (and32 hc)) (and32 hc),mst_xor]
theorem mix_core (a b c d e f g h:Nat) (ha:a < 4294967296) (hb:b < 4294967296) (hc:c < 4294967296) (hd:d < 4294967296) (he:e < 4294967296) (hf:f < 4294967296) (hg:g < 4294967296) (hh:h < 4294967296)
  (s:ByteArray) (hs:s.size=64) (w:World) (hK:layK w) (hgl:4 < w.heap.size) (WS:List Nat) (hW:sch (firsts s.data.toList 0 16) 48=WS) :
  Calls Tryz.prog 156 #[.agg #[.int .u32 a,.int .u32 b,.int .u32 c,.int .u32 d,.int .u32 e,.int .u32 f,.int .u32 g,.int .u32 h],.string s] w fun e' w'=>e'=.returned (.agg ((cmpN [a,b,c,d,e,f,g,h] WS 8).map u32v).toArray)∧Below w.heap.size w w':=by
 have hwl:WS.length=64:=by rw [← hW,sch_len,firsts_len]
 have hws:small WS:=by rw [← hW];exact sch_small (firsts_small _ _ _) _
 have HW:Hid (sch (firsts s.data.toList 0 16) 48=WS):=hW
 clear hW
 go_enter Tryz.func156,Tryz.ntmps156
 go_wp2_with fail
 obtain ⟨w0,hw0⟩:∃ w0,w0=(w.alloc (.cells #[.int .u32 (a:Nat),.int .u32 (b:Nat),.int .u32 (c:Nat),.int .u32 (d:Nat),.int .u32 (e:Nat),.int .u32 (f:Nat),.int .u32 (g:Nat),.int .u32 (h:Nat)] 196)).alloc (.cells #[.int .u32 0,.int .u32 0,.int .u32 0,.int .u32 0,.int .u32 0,.int .u32 0,.int .u32 0,.int .u32 0] 196):=⟨_,rfl⟩
 rw [← hw0]
 obtain ⟨cb,th,lk,bl,hz0⟩:=mix_start a b c d e f g h w hK hgl w0 hw0
 clear hw0
 refine (schedule_any s hs _).mono ?_
 rintro e' w1 ⟨rfl,hb1⟩
 rw [HW.out]
 have hsz1:=hb1.size
 rw [hz0] at hsz1 hb1
 clear hz0
 have c0:=(hb1.cell (p:=⟨w.heap.size,0,none⟩) (show w.heap.size < w.heap.size+2 by omega)).trans cb.1
 have c1:=(hb1.cell (p:=⟨w.heap.size,1,none⟩) (show w.heap.size < w.heap.size+2 by omega)).trans cb.2.1
 have c2:=(hb1.cell (p:=⟨w.heap.size,2,none⟩) (show w.heap.size < w.heap.size+2 by omega)).trans cb.2.2.1
 have c3:=(hb1.cell (p:=⟨w.heap.size,3,none⟩) (show w.heap.size < w.heap.size+2 by omega)).trans cb.2.2.2.1
 have c4:=(hb1.cell (p:=⟨w.heap.size,4,none⟩) (show w.heap.size < w.heap.size+2 by omega)).trans cb.2.2.2.2.1
 have c5:=(hb1.cell (p:=⟨w.heap.size,5,none⟩) (show w.heap.size < w.heap.size+2 by omega)).trans cb.2.2.2.2.2.1
 have c6:=(hb1.cell (p:=⟨w.heap.size,6,none⟩) (show w.heap.size < w.heap.size+2 by omega)).trans cb.2.2.2.2.2.2.1
 have c7:=(hb1.cell (p:=⟨w.heap.size,7,none⟩) (show w.heap.size < w.heap.size+2 by omega)).trans cb.2.2.2.2.2.2.2
 have th1:w1.there (w.heap.size+1) 0 8:=fun j hj=>by
  have t:=th j hj
  rw [hb1.cell (p:=⟨w.heap.size+1,0+j,none⟩) (show w.heap.size+1 < w.heap.size+2 by omega),hb1.frozen (p:=⟨w.heap.size+1,0+j,none⟩) (show w.heap.size+1 < w.heap.size+2 by omega)]
  exact t
 have lk1:layK w1:=fun i hi=>(hb1.cell (p:=⟨4,i,none⟩) (show 4 < w.heap.size+2 by omega)).trans (lk i hi)
 have bl1:Below w.heap.size w w1:=bl.trans (hb1.mono (by omega))
 clear cb th lk bl hb1 hK
 have hthz:=zeros_there1 w1 312
 have hlenA:(WS.map (fun x:Nat=>Value.int .u32 (x:Int))).toArray.size=64:=by simp [hwl]
 have HLA:Hid ((WS.map (fun x:Nat=>Value.int .u32 (x:Int))).toArray.size=64):=hlenA
 clear hlenA
 go_wp2_with (first|(refine wpList_store_mid rfl 312 _ _ rfl w1.heap.size 0 (WS.map (fun x:Nat=>Value.int .u32 (x:Int))).toArray rfl rfl (by rw [HLA.out];exact hthz) (by rw [HLA.out];kernel_rfl) (all_oneCell_toArray (by intro v hv;simp at hv;obtain ⟨x,_,rfl⟩:=hv;rfl)) ?_))
 show Code.wp Tryz.prog _ _ _ (World.setCells (World.alloc w1 (.cells z64 312)) w1.heap.size 0 (WS.map (fun x:Nat=>Value.int .u32 (x:Int))))
 have hB2:Below w1.heap.size w1 (World.setCells (World.alloc w1 (.cells z64 312)) w1.heap.size 0 (WS.map (fun x:Nat=>Value.int .u32 (x:Int)))) :=
  ((Below.refl _ _).alloc (Nat.le_refl _) _).trans (below_setCells _ _ _ _ (Nat.le_refl _))
 have hr2:=World.rangeAt_setCells_same (World.alloc w1 (.cells z64 312)) w1.heap.size 0 (WS.map (fun x:Nat=>Value.int .u32 (x:Int))) (by have:=hthz;rwa [show 64=(WS.map (fun x:Nat=>Value.int .u32 (x:Int))).length from by simp [hwl]] at this)
 generalize World.setCells (World.alloc w1 (.cells z64 312)) w1.heap.size 0 (WS.map (fun x:Nat=>Value.int .u32 (x:Int)))=w2 at *
 have d0:=(hB2.cell (p:=⟨w.heap.size,0,none⟩) (show w.heap.size < w1.heap.size by omega)).trans c0
 have d1:=(hB2.cell (p:=⟨w.heap.size,1,none⟩) (show w.heap.size < w1.heap.size by omega)).trans c1
 have d2:=(hB2.cell (p:=⟨w.heap.size,2,none⟩) (show w.heap.size < w1.heap.size by omega)).trans c2
 have d3:=(hB2.cell (p:=⟨w.heap.size,3,none⟩) (show w.heap.size < w1.heap.size by omega)).trans c3
 have d4:=(hB2.cell (p:=⟨w.heap.size,4,none⟩) (show w.heap.size < w1.heap.size by omega)).trans c4
 have d5:=(hB2.cell (p:=⟨w.heap.size,5,none⟩) (show w.heap.size < w1.heap.size by omega)).trans c5
 have d6:=(hB2.cell (p:=⟨w.heap.size,6,none⟩) (show w.heap.size < w1.heap.size by omega)).trans c6
 have d7:=(hB2.cell (p:=⟨w.heap.size,7,none⟩) (show w.heap.size < w1.heap.size by omega)).trans c7
 have lk2:layK w2:=fun i hi=>(hB2.cell (p:=⟨4,i,none⟩) (show 4 < w1.heap.size by omega)).trans (lk1 i hi)
 have th2:w2.there (w.heap.size+1) 0 8:=fun j hj=>by
  have t:=th1 j hj
  rw [hB2.cell (p:=⟨w.heap.size+1,0+j,none⟩) (show w.heap.size+1 < w1.heap.size by omega),hB2.frozen (p:=⟨w.heap.size+1,0+j,none⟩) (show w.heap.size+1 < w1.heap.size by omega)]
  exact t
 have bl2:=bl1.trans (hB2.mono bl1.size)
 have wc:∀ i,i < 64→w2.cell? ⟨w1.heap.size,i,none⟩=some (.int .u32 (WS.getD i 0:Nat)):=fun i hi=>by
  have t:=hr2 i (.int .u32 (WS.getD i 0:Nat)) (by rw [List.getElem?_map,List.getElem?_eq_getElem (show i < WS.length by omega),List.getD_eq_getElem?_getD,List.getElem?_eq_getElem (show i < WS.length by omega)];rfl)
  rwa [Nat.zero_add] at t
 obtain ⟨B5,hB5⟩:∃ B5,B5=w1.heap.size:=⟨_,rfl⟩
 rw [← hB5] at wc ⊢
 clear hB5 hB2 hr2 hthz HLA c0 c1 c2 c3 c4 c5 c6 c7 lk1 th1 bl1
 go_quiet (fail)
 go_wp2_with fail
 obtain ⟨n1,hn1⟩:∃ n1,n1=nq:=⟨_,rfl⟩
 rw [← hn1]
 clear hn1 nq
 go_quiet (fail)
 go_wp2_with fail
 have hst:small [a,b,c,d,e,f,g,h]:=by
  have e1:[a,b,c,d,e,f,g,h]=[]++[a]++[b]++[c]++[d]++[e]++[f]++[g]++[h]:=rfl
  rw [e1]
  exact small_snoc (small_snoc (small_snoc (small_snoc (small_snoc (small_snoc (small_snoc (small_snoc small_nil ha) hb) hc) hd) he) hf) hg) hh
 go_loopw [6,7,8,9,10,11,12,13,37] (fun a' b' c' d' e' f' g' h' i wr=>∃ k:Nat,k≤64∧i=.int .i64 k∧a'=u32v ((rnds [a,b,c,d,e,f,g,h] WS k).getD 0 0)∧b'=u32v ((rnds [a,b,c,d,e,f,g,h] WS k).getD 1 0)∧c'=u32v ((rnds [a,b,c,d,e,f,g,h] WS k).getD 2 0)∧d'=u32v ((rnds [a,b,c,d,e,f,g,h] WS k).getD 3 0) ∧
   e'=u32v ((rnds [a,b,c,d,e,f,g,h] WS k).getD 4 0)∧f'=u32v ((rnds [a,b,c,d,e,f,g,h] WS k).getD 5 0)∧g'=u32v ((rnds [a,b,c,d,e,f,g,h] WS k).getD 6 0)∧h'=u32v ((rnds [a,b,c,d,e,f,g,h] WS k).getD 7 0)∧∃ n,wr=w2.drewN n) (fun _ _ _ _ _ _ _ _ i _=>64 - (intOf i).toNat)
 case atStart=>exact ⟨0,by omega,rfl,rfl,rfl,rfl,rfl,rfl,rfl,rfl,rfl,_,World.drewN_drewN _ _ _⟩
 case round =>
  obtain ⟨k,hk,rfl,rfl,rfl,rfl,rfl,rfl,rfl,rfl,rfl,n,hwr⟩:=hrel
  have hrs:=rnds_small hst WS k
  have HR:Hid (rnds [a,b,c,d,e,f,g,h] WS (k+1)=rndL (rnds [a,b,c,d,e,f,g,h] WS k) (kL.getD k 0+WS.getD k 0)):=rfl
  have HRK:Hid (k=64→rnds [a,b,c,d,e,f,g,h] WS 64=rnds [a,b,c,d,e,f,g,h] WS k):=fun e=>by rw [e]
  unfold rndL at HR
  have b0:=hrs 0
  have b1:=hrs 1
  have b2:=hrs 2
  have b3:=hrs 3
  have b4:=hrs 4
  have b5:=hrs 5
  have b6:=hrs 6
  have b7:=hrs 7
  generalize rnds [a,b,c,d,e,f,g,h] WS k=v at *
  by_cases hkl:k < 64
  ·have ck:=lk2 k hkl
   have cw:=wc k hkl
   have bk:=kL_small k
   have bw:=hws k
   generalize kL.getD k 0=yk at *
   generalize WS.getD k 0=yw at *
   generalize v.getD 0 0=v0 at *
   generalize v.getD 1 0=v1 at *
   generalize v.getD 2 0=v2 at *
   generalize v.getD 3 0=v3 at *
   generalize v.getD 4 0=v4 at *
   generalize v.getD 5 0=v5 at *
   generalize v.getD 6 0=v6 at *
   generalize v.getD 7 0=v7 at *
   unfold u32v at *
   have ck':wr.cell? ⟨4,k,none⟩=some (.int .u32 (yk:Nat)):=by rw [hwr];exact ck
   have cw':wr.cell? ⟨B5,k,none⟩=some (.int .u32 (yw:Nat)):=by rw [hwr];exact cw
   have HWR:Hid (wr=w2.drewN n):=hwr
   clear hwr ck cw HRK lk2 wc d0 d1 d2 d3 d4 d5 d6 d7 th2 bl2 hst hrs
   have k0:(0:Int)≤(k:Int):=by omega
   have k1:(k:Int) < 64:=by omega
   have hdk:decide ((k:Int) < 64)=true:=by simp;omega
   obtain ⟨A1,A2,N,C,r1,r2,r3,r4,HC,bC⟩:=chs_bits v4 v5 v6 b4 b5 b6
   obtain ⟨M1,M2,M3,M4,M,r5,r6,r7,r8,r9,HM,bM⟩:=mst_bits v0 v1 v2 b0 b1 b2
   have hsg:IntKind.u32.signed=false:=rfl
   have hmx:IntKind.u32.max=4294967295:=by simp [IntKind.signed,IntKind.max,IntKind.bits]
   go_wp2_with fail
   go_quiet ((go_at_call 209;exact Calls.quiet_of_same (sigB1 _ b4 _)))
   go_wp2_with fail
   refine (sigB0 _ b0 _).mono ?_
   rintro e' w' ⟨rfl,rfl⟩
   go_wp2_with fail
   have s1:=bs1_lt v4 b4
   have s0:=bs0_lt v0 b0
   obtain ⟨G0,G1,G2,G3,G4,G5,G6,G7⟩:=rnd8_gets v0 v1 v2 v3 v4 v5 v6 v7 (yk+yw)
   go_roundw
   case rel =>
    refine ⟨k+1,by omega,by go_num,?_,?_,?_,?_,?_,?_,?_,?_,n+nq,by rw [HWR.out];exact World.drewN_drewN _ _ _⟩
    all_goals rw [HR.out]
    ·rw [G0];exact vint (by rw [← HC.out,← HM.out];omega)
    ·rw [G1]
    ·rw [G2]
    ·rw [G3]
    ·rw [G4];exact vint (by rw [← HC.out];omega)
    ·rw [G5]
    ·rw [G6]
    ·rw [G7]
   case measure=>simp [intOf];omega
  ·have hrk:=HRK.out (by omega)
   have HFIN:Hid ((cmpN [a,b,c,d,e,f,g,h] WS 8).map u32v=[.int .u32 (((a:Int)+(v.getD 0 0:Nat)) % 4294967296),.int .u32 (((b:Int)+(v.getD 1 0:Nat)) % 4294967296),.int .u32 (((c:Int)+(v.getD 2 0:Nat)) % 4294967296),.int .u32 (((d:Int)+(v.getD 3 0:Nat)) % 4294967296),
     .int .u32 (((e:Int)+(v.getD 4 0:Nat)) % 4294967296),.int .u32 (((f:Int)+(v.getD 5 0:Nat)) % 4294967296),.int .u32 (((g:Int)+(v.getD 6 0:Nat)) % 4294967296),.int .u32 (((h:Int)+(v.getD 7 0:Nat)) % 4294967296)]):=by
    show _=_
    rw [cmp8 a b c d e f g h WS v hrk]
    simp [u32v]
   clear hrk HRK HR
   generalize v.getD 0 0=v0 at *
   generalize v.getD 1 0=v1 at *
   generalize v.getD 2 0=v2 at *
   generalize v.getD 3 0=v3 at *
   generalize v.getD 4 0=v4 at *
   generalize v.getD 5 0=v5 at *
   generalize v.getD 6 0=v6 at *
   generalize v.getD 7 0=v7 at *
   have q0:wr.cell? ⟨w.heap.size,0,none⟩=some (.int .u32 (a:Nat)):=by rw [hwr];exact d0
   have q1:wr.cell? ⟨w.heap.size,1,none⟩=some (.int .u32 (b:Nat)):=by rw [hwr];exact d1
   have q2:wr.cell? ⟨w.heap.size,2,none⟩=some (.int .u32 (c:Nat)):=by rw [hwr];exact d2
   have q3:wr.cell? ⟨w.heap.size,3,none⟩=some (.int .u32 (d:Nat)):=by rw [hwr];exact d3
   have q4:wr.cell? ⟨w.heap.size,4,none⟩=some (.int .u32 (e:Nat)):=by rw [hwr];exact d4
   have q5:wr.cell? ⟨w.heap.size,5,none⟩=some (.int .u32 (f:Nat)):=by rw [hwr];exact d5
   have q6:wr.cell? ⟨w.heap.size,6,none⟩=some (.int .u32 (g:Nat)):=by rw [hwr];exact d6
   have q7:wr.cell? ⟨w.heap.size,7,none⟩=some (.int .u32 (h:Nat)):=by rw [hwr];exact d7
   have thr:wr.there (w.heap.size+1) 0 8:=by rw [hwr];exact th2
   have blr:Below w.heap.size w wr:=by rw [hwr];exact below_drewN bl2 n
   clear hwr lk2 wc d0 d1 d2 d3 d4 d5 d6 d7 th2 bl2 hst hrs
   have hdk:decide ((k:Int) < 64)=false:=by simp;omega
   obtain ⟨x0,y0,z0⟩:=there_cell thr 0 (by omega)
   obtain ⟨x1,y1,z1⟩:=there_cell thr 1 (by omega)
   obtain ⟨x2,y2,z2⟩:=there_cell thr 2 (by omega)
   obtain ⟨x3,y3,z3⟩:=there_cell thr 3 (by omega)
   obtain ⟨x4,y4,z4⟩:=there_cell thr 4 (by omega)
   obtain ⟨x5,y5,z5⟩:=there_cell thr 5 (by omega)
   obtain ⟨x6,y6,z6⟩:=there_cell thr 6 (by omega)
   obtain ⟨x7,y7,z7⟩:=there_cell thr 7 (by omega)
   have HTH:Hid (wr.there (w.heap.size+1) 0 8):=thr
   clear thr
   unfold u32v at *
   go_wp2_with fail
   show bodyPost Tryz.prog _ _ _ _ (wr.setCells (w.heap.size+1) 0 [.int .u32 (((a:Int)+(v0:Int)) % 4294967296),.int .u32 (((b:Int)+(v1:Int)) % 4294967296),.int .u32 (((c:Int)+(v2:Int)) % 4294967296),.int .u32 (((d:Int)+(v3:Int)) % 4294967296),.int .u32 (((e:Int)+(v4:Int)) % 4294967296),.int .u32 (((f:Int)+(v5:Int)) % 4294967296),.int .u32 (((g:Int)+(v6:Int)) % 4294967296),.int .u32 (((h:Int)+(v7:Int)) % 4294967296)])
   have hr2:=World.rangeAt_setCells_same wr (w.heap.size+1) 0 [.int .u32 (((a:Int)+(v0:Int)) % 4294967296),.int .u32 (((b:Int)+(v1:Int)) % 4294967296),.int .u32 (((c:Int)+(v2:Int)) % 4294967296),.int .u32 (((d:Int)+(v3:Int)) % 4294967296),.int .u32 (((e:Int)+(v4:Int)) % 4294967296),.int .u32 (((f:Int)+(v5:Int)) % 4294967296),.int .u32 (((g:Int)+(v6:Int)) % 4294967296),.int .u32 (((h:Int)+(v7:Int)) % 4294967296)] HTH.out
   generalize hlst:([.int .u32 (((a:Int)+(v0:Int)) % 4294967296),.int .u32 (((b:Int)+(v1:Int)) % 4294967296),.int .u32 (((c:Int)+(v2:Int)) % 4294967296),.int .u32 (((d:Int)+(v3:Int)) % 4294967296),.int .u32 (((e:Int)+(v4:Int)) % 4294967296),.int .u32 (((f:Int)+(v5:Int)) % 4294967296),.int .u32 (((g:Int)+(v6:Int)) % 4294967296),.int .u32 (((h:Int)+(v7:Int)) % 4294967296)]:List Value)=lst at *
   have hll:lst.length=8:=by rw [← hlst];rfl
   refine bodyPost_ret (v:=.agg lst.toArray) (results_cell rfl _ _ _ (w.heap.size+1) 0 rfl _ (run_loadVar_mid _ _ _ _ _ _ hr2 Tryz.underlying196 rfl (by rw [hll];kernel_rfl))) rfl ⟨?_,?_⟩
   ·have e1:(cmpN [a,b,c,d,e,f,g,h] WS 8).map u32v=lst:=HFIN.out
    rw [e1]
   ·exact blr.trans (below_setCells _ _ _ _ (by omega))
theorem eight {h:List Nat} (hl:h.length=8):∃ a b c d e f g i:Nat,h=[a,b,c,d,e,f,g,i]:=by
 match h,hl with
 | [a,b,c,d,e,f,g,i],_=>exact ⟨a,b,c,d,e,f,g,i,rfl⟩
theorem small8 {a b c d e f g i:Nat} (h:small [a,b,c,d,e,f,g,i]):a < 4294967296∧b < 4294967296∧c < 4294967296∧d < 4294967296∧e < 4294967296∧f < 4294967296∧g < 4294967296∧i < 4294967296:=by
 obtain ⟨g0,g1,g2,g3,g4,g5,g6,g7⟩:=l8_gets a b c d e f g i
 exact ⟨by have:=h 0;rwa [g0] at this,by have:=h 1;rwa [g1] at this,by have:=h 2;rwa [g2] at this,by have:=h 3;rwa [g3] at this,by have:=h 4;rwa [g4] at this,by have:=h 5;rwa [g5] at this,by have:=h 6;rwa [g6] at this,by have:=h 7;rwa [g7] at this⟩
theorem mix8 (a b c d e f g h y0 y1 y2 y3 y4 y5 y6 y7:Nat) (hs:small [a,b,c,d,e,f,g,h]) (s:ByteArray) (hz:s.size=64) (w:World) (hK:layK w) (hgl:4 < w.heap.size)
  (hY:cmpN [a,b,c,d,e,f,g,h] (sch (firsts s.data.toList 0 16) 48) 8=[y0,y1,y2,y3,y4,y5,y6,y7]) :
  Calls Tryz.prog 156 #[.agg #[.int .u32 a,.int .u32 b,.int .u32 c,.int .u32 d,.int .u32 e,.int .u32 f,.int .u32 g,.int .u32 h],.string s] w fun e' w'=>e'=.returned (.agg #[.int .u32 y0,.int .u32 y1,.int .u32 y2,.int .u32 y3,.int .u32 y4,.int .u32 y5,.int .u32 y6,.int .u32 y7])∧Below w.heap.size w w':=by
 obtain ⟨b0,b1,b2,b3,b4,b5,b6,b7⟩:=small8 hs
 refine (mix_core a b c d e f g h b0 b1 b2 b3 b4 b5 b6 b7 s hz w hK hgl _ rfl).mono ?_
 rintro e' w' ⟨rfl,hb⟩
 refine ⟨?_,hb⟩
 rw [hY];rfl
theorem byteAt_cut (l:List UInt8) (p n i:Nat) (hi:i < n):byteAt ((l.drop p).take n) i=byteAt l (p+i):=by
 unfold byteAt
 simp [List.getD_eq_getElem?_getD,hi]
theorem wpart_cut (l:List UInt8) (p n q k:Nat) (h:q+k≤n):wpart ((l.drop p).take n) q k=wpart l (p+q) k:=by
 induction k with
 | zero=>rfl
 | succ k ih=>simp only [wpart];rw [ih (by omega),byteAt_cut l p n (q+k) (by omega),Nat.add_assoc]
theorem firsts_cut (l:List UInt8) (p k:Nat) (hk:k≤16):firsts ((l.drop p).take 64) 0 k=firsts l p k:=by
 induction k with
 | zero=>rfl
 | succ k ih=>simp only [firsts];rw [ih (by omega),wpart_cut l p 64 (0+4*k) 4 (by omega),Nat.zero_add]
theorem cut_list (l:List UInt8) (p n:Nat):((⟨l.toArray⟩:ByteArray).extract p (p+n)).data.toList=(l.drop p).take n:=by
 simp [List.extract_eq_take_drop]
theorem cut_size (l:List UInt8) (p n:Nat) (h:p+n≤l.length):((⟨l.toArray⟩:ByteArray).extract p (p+n)).size=n:=by
 simp [ByteArray.size];omega
theorem box_facts {x0 x1 x2 x3 x4 x5 x6 x7 B n:Nat} {wr w':World} (har:arr32 wr B (fOf [x0,x1,x2,x3,x4,x5,x6,x7]) 8) (hb:Below n wr w') (hB:B < n) :
  w'.cell? ⟨B,0,none⟩=some (.int .u32 (x0:Nat))∧w'.cell? ⟨B,1,none⟩=some (.int .u32 (x1:Nat))∧w'.cell? ⟨B,2,none⟩=some (.int .u32 (x2:Nat))∧w'.cell? ⟨B,3,none⟩=some (.int .u32 (x3:Nat))∧w'.cell? ⟨B,4,none⟩=some (.int .u32 (x4:Nat))∧w'.cell? ⟨B,5,none⟩=some (.int .u32 (x5:Nat))∧w'.cell? ⟨B,6,none⟩=some (.int .u32 (x6:Nat))∧w'.cell? ⟨B,7,none⟩=some (.int .u32 (x7:Nat)) ∧
  w'.frozen? ⟨B,0,none⟩=false∧w'.frozen? ⟨B,1,none⟩=false∧w'.frozen? ⟨B,2,none⟩=false∧w'.frozen? ⟨B,3,none⟩=false∧w'.frozen? ⟨B,4,none⟩=false∧w'.frozen? ⟨B,5,none⟩=false∧w'.frozen? ⟨B,6,none⟩=false∧w'.frozen? ⟨B,7,none⟩=false:=by
 obtain ⟨g0,g1,g2,g3,g4,g5,g6,g7⟩:=l8_gets x0 x1 x2 x3 x4 x5 x6 x7
 have K:∀ j,j < 8→w'.cell? ⟨B,j,none⟩=some (.int .u32 (fOf [x0,x1,x2,x3,x4,x5,x6,x7] j:Nat))∧w'.frozen? ⟨B,j,none⟩=false:=fun j hj =>
  ⟨(hb.cell (p:=⟨B,j,none⟩) hB).trans (har j hj).1,(hb.frozen (p:=⟨B,j,none⟩) hB).trans (har j hj).2⟩
 unfold fOf at K
 refine ⟨?_,?_,?_,?_,?_,?_,?_,?_,(K 0 (by omega)).2,(K 1 (by omega)).2,(K 2 (by omega)).2,(K 3 (by omega)).2,(K 4 (by omega)).2,(K 5 (by omega)).2,(K 6 (by omega)).2,(K 7 (by omega)).2⟩
 ·have:=(K 0 (by omega)).1;rwa [g0] at this
 ·have:=(K 1 (by omega)).1;rwa [g1] at this
 ·have:=(K 2 (by omega)).1;rwa [g2] at this
 ·have:=(K 3 (by omega)).1;rwa [g3] at this
 ·have:=(K 4 (by omega)).1;rwa [g4] at this
 ·have:=(K 5 (by omega)).1;rwa [g5] at this
 ·have:=(K 6 (by omega)).1;rwa [g6] at this
 ·have:=(K 7 (by omega)).1;rwa [g7] at this
theorem there_below {w w':World} {b n k:Nat} (h:w.there b 0 n) (hb:Below k w w') (hk:b < k):w'.there b 0 n:=fun j hj=>by
 rw [hb.cell (p:=⟨b,0+j,none⟩) hk,hb.frozen (p:=⟨b,0+j,none⟩) hk];exact h j hj
theorem there_keep {wr w':World} {B n k:Nat} {f:Nat→Nat} (har:arr32 wr B f n) (hb:Below k wr w') (hk:B < k):w'.there B 0 n:=there_below (fun j hj=>by
 rw [Nat.zero_add];obtain ⟨h1,h2⟩:=har j hj;rw [h1,h2];exact ⟨rfl,rfl⟩) hb hk
theorem box_store {w':World} {B y0 y1 y2 y3 y4 y5 y6 y7:Nat} (th:w'.there B 0 8):arr32 (w'.setCells B 0 [.int .u32 (y0:Nat),.int .u32 (y1:Nat),.int .u32 (y2:Nat),.int .u32 (y3:Nat),.int .u32 (y4:Nat),.int .u32 (y5:Nat),.int .u32 (y6:Nat),.int .u32 (y7:Nat)]) B (fOf [y0,y1,y2,y3,y4,y5,y6,y7]) 8:=by
 intro j hj
 have hr:=World.rangeAt_setCells_same w' B 0 [.int .u32 (y0:Nat),.int .u32 (y1:Nat),.int .u32 (y2:Nat),.int .u32 (y3:Nat),.int .u32 (y4:Nat),.int .u32 (y5:Nat),.int .u32 (y6:Nat),.int .u32 (y7:Nat)] th
 have ht:=World.there_setCells th B 0 [.int .u32 (y0:Nat),.int .u32 (y1:Nat),.int .u32 (y2:Nat),.int .u32 (y3:Nat),.int .u32 (y4:Nat),.int .u32 (y5:Nat),.int .u32 (y6:Nat),.int .u32 (y7:Nat)] j hj
 rw [Nat.zero_add] at ht
 refine ⟨?_,ht.2⟩
 obtain ⟨g0,g1,g2,g3,g4,g5,g6,g7⟩:=l8_gets y0 y1 y2 y3 y4 y5 y6 y7
 unfold fOf
 have:j=0∨j=1∨j=2∨j=3∨j=4∨j=5∨j=6∨j=7:=by omega
 rcases this with rfl|rfl|rfl|rfl|rfl|rfl|rfl|rfl
 ·rw [g0];exact hr 0 _ rfl
 ·rw [g1];exact hr 1 _ rfl
 ·rw [g2];exact hr 2 _ rfl
 ·rw [g3];exact hr 3 _ rfl
 ·rw [g4];exact hr 4 _ rfl
 ·rw [g5];exact hr 5 _ rfl
 ·rw [g6];exact hr 6 _ rfl
 ·rw [g7];exact hr 7 _ rfl
theorem box_arr (a b c d e f g h:Nat) (w w0:World) (hw0:w0=(w.alloc (.cells #[.int .u32 (a:Nat),.int .u32 (b:Nat),.int .u32 (c:Nat),.int .u32 (d:Nat),.int .u32 (e:Nat),.int .u32 (f:Nat),.int .u32 (g:Nat),.int .u32 (h:Nat)] 196)).alloc (.cells #[.int .u32 0,.int .u32 0,.int .u32 0,.int .u32 0,.int .u32 0,.int .u32 0,.int .u32 0,.int .u32 0] 196))
  (cb:w0.cell? ⟨w.heap.size,0,none⟩=some (.int .u32 (a:Nat))∧w0.cell? ⟨w.heap.size,1,none⟩=some (.int .u32 (b:Nat))∧w0.cell? ⟨w.heap.size,2,none⟩=some (.int .u32 (c:Nat))∧w0.cell? ⟨w.heap.size,3,none⟩=some (.int .u32 (d:Nat)) ∧
   w0.cell? ⟨w.heap.size,4,none⟩=some (.int .u32 (e:Nat))∧w0.cell? ⟨w.heap.size,5,none⟩=some (.int .u32 (f:Nat))∧w0.cell? ⟨w.heap.size,6,none⟩=some (.int .u32 (g:Nat))∧w0.cell? ⟨w.heap.size,7,none⟩=some (.int .u32 (h:Nat))) :
  arr32 w0 w.heap.size (fOf [a,b,c,d,e,f,g,h]) 8:=by
 intro j hj
 have fz:w0.frozen? ⟨w.heap.size,j,none⟩=false:=by
  rw [hw0];simp [go_sem]
 refine ⟨?_,fz⟩
 obtain ⟨g0,g1,g2,g3,g4,g5,g6,g7⟩:=l8_gets a b c d e f g h
 obtain ⟨c0,c1,c2,c3,c4,c5,c6,c7⟩:=cb
 unfold fOf
 have:j=0∨j=1∨j=2∨j=3∨j=4∨j=5∨j=6∨j=7:=by omega
 rcases this with rfl|rfl|rfl|rfl|rfl|rfl|rfl|rfl
 ·rw [g0];exact c0
 ·rw [g1];exact c1
 ·rw [g2];exact c2
 ·rw [g3];exact c3
 ·rw [g4];exact c4
 ·rw [g5];exact c5
 ·rw [g6];exact c6
 ·rw [g7];exact c7
theorem mixAll_core (a b c d e f g h:Nat) (hst:small [a,b,c,d,e,f,g,h]) (l:List UInt8) (hl:l.length % 64=0) (hl2:l.length≤500000000000000) (w:World) (hK:layK w) (hgl:4 < w.heap.size) :
  Calls Tryz.prog 152 #[.agg #[.int .u32 a,.int .u32 b,.int .u32 c,.int .u32 d,.int .u32 e,.int .u32 f,.int .u32 g,.int .u32 h],.string ⟨l.toArray⟩] w fun e' w'=>e'=.returned (.agg ((mixN l [a,b,c,d,e,f,g,h] (l.length / 64)).map u32v).toArray)∧Below w.heap.size w w':=by
 obtain ⟨w0,hw0⟩:∃ w0,w0=(w.alloc (.cells #[.int .u32 (a:Nat),.int .u32 (b:Nat),.int .u32 (c:Nat),.int .u32 (d:Nat),.int .u32 (e:Nat),.int .u32 (f:Nat),.int .u32 (g:Nat),.int .u32 (h:Nat)] 196)).alloc (.cells #[.int .u32 0,.int .u32 0,.int .u32 0,.int .u32 0,.int .u32 0,.int .u32 0,.int .u32 0,.int .u32 0] 196):=⟨_,rfl⟩
 obtain ⟨cb,th,lk,bl,hz0⟩:=mix_start a b c d e f g h w hK hgl w0 hw0
 have ar0:arr32 w0 w.heap.size (fOf [a,b,c,d,e,f,g,h]) 8:=box_arr a b c d e f g h w w0 hw0 cb
 have HN:Hid (l.length / 64*64=l.length):=by show _=_;omega
 go_enter Tryz.func152,Tryz.ntmps152
 go_wp2
 rw [← hw0]
 clear hw0 cb lk
 go_loopw [5] (fun i wr=>∃ n:Nat,64*n≤l.length∧i=.int .i64 (64*(n:Int))∧arr32 wr w.heap.size (fOf (mixN l [a,b,c,d,e,f,g,h] n)) 8∧wr.there (w.heap.size+1) 0 8∧Below w.heap.size w wr∧w.heap.size+2≤wr.heap.size) (fun i _=>l.length - (intOf i).toNat)
 case atStart=>exact ⟨0,by omega,rfl,ar0,th,bl,by omega⟩
 case round =>
  clear ar0 th bl
  obtain ⟨n,hn,rfl,har,hth,hbel,hsz⟩:=hrel
  have hvl:=mixN_len (h:=[a,b,c,d,e,f,g,h]) rfl l n
  have hvs:=mixN_small hst l n
  have HNX:Hid (mixN l [a,b,c,d,e,f,g,h] (n+1)=cmpN (mixN l [a,b,c,d,e,f,g,h] n) (sch (firsts l (64*n) 16) 48) 8):=rfl
  have HFX:Hid (64*n=l.length→mixN l [a,b,c,d,e,f,g,h] (l.length / 64)=mixN l [a,b,c,d,e,f,g,h] n):=fun e=>by rw [← e,Nat.mul_div_cancel_left _ (by omega)]
  have lkr:layK wr:=fun i hi=>(hbel.cell (p:=⟨4,i,none⟩) hgl).trans (hK i hi)
  generalize mixN l [a,b,c,d,e,f,g,h] n=v at *
  by_cases hlt:64*n < l.length
  ·have hcl:=cmpN_len v (sch (firsts l (64*n) 16) 48) 8
   have hin:64*n+64≤l.length:=by omega
   obtain ⟨x0,x1,x2,x3,x4,x5,x6,x7,rfl⟩:=eight hvl
   obtain ⟨y0,y1,y2,y3,y4,y5,y6,y7,hy⟩:=eight hcl
   rw [hy] at HNX
   obtain ⟨c0,f0⟩:=har 0 (by omega)
   obtain ⟨c1,f1⟩:=har 1 (by omega)
   obtain ⟨c2,f2⟩:=har 2 (by omega)
   obtain ⟨c3,f3⟩:=har 3 (by omega)
   obtain ⟨c4,f4⟩:=har 4 (by omega)
   obtain ⟨c5,f5⟩:=har 5 (by omega)
   obtain ⟨c6,f6⟩:=har 6 (by omega)
   obtain ⟨c7,f7⟩:=har 7 (by omega)
   obtain ⟨g0,g1,g2,g3,g4,g5,g6,g7⟩:=l8_gets x0 x1 x2 x3 x4 x5 x6 x7
   simp only [fOf] at c0 c1 c2 c3 c4 c5 c6 c7
   rw [g0] at c0;rw [g1] at c1;rw [g2] at c2;rw [g3] at c3;rw [g4] at c4;rw [g5] at c5;rw [g6] at c6;rw [g7] at c7
   have HAR:Hid (arr32 wr w.heap.size (fOf [x0,x1,x2,x3,x4,x5,x6,x7]) 8):=har
   clear g0 g1 g2 g3 g4 g5 g6 g7 har hvl hcl HFX
   have hcs:=cut_size l (64*n) 64 hin
   have hY:cmpN [x0,x1,x2,x3,x4,x5,x6,x7] (sch (firsts ((⟨l.toArray⟩:ByteArray).extract (64*n) (64*n+64)).data.toList 0 16) 48) 8=[y0,y1,y2,y3,y4,y5,y6,y7]:=by
    rw [cut_list,firsts_cut l (64*n) 16 (by omega)];exact hy
   have HY:=mix8 x0 x1 x2 x3 x4 x5 x6 x7 y0 y1 y2 y3 y4 y5 y6 y7 hvs ((⟨l.toArray⟩:ByteArray).extract (64*n) (64*n+64)) hcs
   clear hy hcs
   have j1:IntKind.i64.wrap (64*(n:Int)+64)=64*(n:Int)+64:=by rw [IntKind.wrap_i64];omega
   have n0:(0:Int)≤64*(n:Int)∧64*(n:Int)≤64*(n:Int)+64:=by omega
   have n1:(0:Int)≤64*(n:Int)+64∧64*(n:Int)+64≤(l.length:Int):=by omega
   have t0:(64*(n:Int)).toNat=64*n:=by omega
   have t1:(64*(n:Int)+64).toNat=64*n+64:=by omega
   have hd1:decide (64*(n:Int) < (l.length:Int))=true:=by simp;omega
   have HYY:Hid (∀ (w:World),layK w→4 < w.heap.size→_):=fun w k g=>HY w k g hY
   clear HY hY
   go_wp2_with fail
   go_region_with ((go_at_call 156;refine (HYY.out _ (by exact lkr) (by simp;omega)).mono ?_;rintro e' w' ⟨rfl,hb'⟩;obtain ⟨q0,q1,q2,q3,q4,q5,q6,q7,e0,e1,e2,e3,e4,e5,e6,e7⟩:=box_facts (wr:=wr.drew) HAR.out hb' (show w.heap.size < wr.heap.size by omega)))
   all_goals
    go_wp2
    go_roundw
    case rel =>
     have th':w'.there w.heap.size 0 8:=there_keep (wr:=wr.drew) HAR.out hb' (show w.heap.size < wr.heap.size by omega)
     have hth':w'.there (w.heap.size+1) 0 8:=there_below (w:=wr.drew) hth hb' (show w.heap.size+1 < wr.heap.size by omega)
     have hz':wr.heap.size≤w'.heap.size:=hb'.size
     refine ⟨n+1,by omega,by go_num,?_,?_,?_,?_⟩
     ·rw [HNX.out]
      exact box_store th'
     ·exact World.there_setCells hth' w.heap.size 0 [.int .u32 (y0:Nat),.int .u32 (y1:Nat),.int .u32 (y2:Nat),.int .u32 (y3:Nat),.int .u32 (y4:Nat),.int .u32 (y5:Nat),.int .u32 (y6:Nat),.int .u32 (y7:Nat)]
     ·exact (hbel.drew.trans (hb'.mono (show w.heap.size≤wr.heap.size by omega))).trans (below_setCells w' w.heap.size [.int .u32 (y0:Nat),.int .u32 (y1:Nat),.int .u32 (y2:Nat),.int .u32 (y3:Nat),.int .u32 (y4:Nat),.int .u32 (y5:Nat),.int .u32 (y6:Nat),.int .u32 (y7:Nat)] 0 (Nat.le_refl _))
     ·have:=(below_setCells (B:=0) w' w.heap.size [.int .u32 (y0:Nat),.int .u32 (y1:Nat),.int .u32 (y2:Nat),.int .u32 (y3:Nat),.int .u32 (y4:Nat),.int .u32 (y5:Nat),.int .u32 (y6:Nat),.int .u32 (y7:Nat)] 0 (Nat.zero_le _)).size
      exact Nat.le_trans hsz (Nat.le_trans hz' this)
    case measure=>simp [intOf];omega
  ·have HFIN:Hid (mixN l [a,b,c,d,e,f,g,h] (l.length / 64)=v):=HFX.out (by omega)
   obtain ⟨x0,x1,x2,x3,x4,x5,x6,x7,rfl⟩:=eight hvl
   obtain ⟨q0,q1,q2,q3,q4,q5,q6,q7,e0,e1,e2,e3,e4,e5,e6,e7⟩:=box_facts har (Below.refl wr.heap.size wr) (show w.heap.size < wr.heap.size by omega)
   obtain ⟨z0,p0,r0⟩:=there_cell hth 0 (by omega)
   obtain ⟨z1,p1,r1⟩:=there_cell hth 1 (by omega)
   obtain ⟨z2,p2,r2⟩:=there_cell hth 2 (by omega)
   obtain ⟨z3,p3,r3⟩:=there_cell hth 3 (by omega)
   obtain ⟨z4,p4,r4⟩:=there_cell hth 4 (by omega)
   obtain ⟨z5,p5,r5⟩:=there_cell hth 5 (by omega)
   obtain ⟨z6,p6,r6⟩:=there_cell hth 6 (by omega)
   obtain ⟨z7,p7,r7⟩:=there_cell hth 7 (by omega)
   have HTH:Hid (wr.there (w.heap.size+1) 0 8):=hth
   have hd1:decide (64*(n:Int) < (l.length:Int))=false:=by simp;omega
   clear hth har HFX HNX hvl lkr
   go_wp2_with fail
   show bodyPost Tryz.prog _ _ _ _ (wr.setCells (w.heap.size+1) 0 [.int .u32 (x0:Nat),.int .u32 (x1:Nat),.int .u32 (x2:Nat),.int .u32 (x3:Nat),.int .u32 (x4:Nat),.int .u32 (x5:Nat),.int .u32 (x6:Nat),.int .u32 (x7:Nat)])
   have hr2:=World.rangeAt_setCells_same wr (w.heap.size+1) 0 [.int .u32 (x0:Nat),.int .u32 (x1:Nat),.int .u32 (x2:Nat),.int .u32 (x3:Nat),.int .u32 (x4:Nat),.int .u32 (x5:Nat),.int .u32 (x6:Nat),.int .u32 (x7:Nat)] HTH.out
   refine bodyPost_ret (v:=.agg [.int .u32 (x0:Nat),.int .u32 (x1:Nat),.int .u32 (x2:Nat),.int .u32 (x3:Nat),.int .u32 (x4:Nat),.int .u32 (x5:Nat),.int .u32 (x6:Nat),.int .u32 (x7:Nat)].toArray) (results_cell rfl _ _ _ (w.heap.size+1) 0 rfl _ (run_loadVar_mid _ _ _ _ _ _ hr2 Tryz.underlying196 rfl (by kernel_rfl))) rfl ⟨?_,?_⟩
   ·rw [HFIN.out];rfl
   ·exact hbel.trans (below_setCells _ _ _ _ (by omega))
def arr8 (w:World) (b:Nat) (f:Nat→Nat) (n:Nat):Prop:=∀ j,j < n→w.cell? ⟨b,j,none⟩=some (.int .u8 (f j:Nat))∧w.frozen? ⟨b,j,none⟩=false
theorem arr8.set {w:World} {b:Nat} {f:Nat→Nat} {n:Nat} (h:arr8 w b f n) (k x:Nat) (hk:k < n):arr8 (w.setCell ⟨b,k,none⟩ (.int .u8 (x:Nat))) b (fun j=>if j=k then x else f j) n:=by
 intro j hj
 obtain ⟨h1,h2⟩:=h j hj
 by_cases e:j=k
 ·subst e
  exact ⟨by simp [go_sem,h1],by simp [go_sem,h2]⟩
 ·refine ⟨?_,by simp [go_sem,h2]⟩
  rw [World.cell?_setCell_other _ _ _ _ (by simp)]
  simpa [e] using h1
theorem arr8.congr {w:World} {b:Nat} {f g:Nat→Nat} {n:Nat} (h:arr8 w b f n) (e:∀ j,j < n→f j=g j):arr8 w b g n:=fun j hj=>by rw [← e j hj];exact h j hj
def z32:Array Value:=#[.int .u8 0,.int .u8 0,.int .u8 0,.int .u8 0,.int .u8 0,.int .u8 0,.int .u8 0,.int .u8 0,.int .u8 0,.int .u8 0,.int .u8 0,.int .u8 0,.int .u8 0,.int .u8 0,.int .u8 0,.int .u8 0,.int .u8 0,.int .u8 0,.int .u8 0,.int .u8 0,.int .u8 0,.int .u8 0,.int .u8 0,.int .u8 0,.int .u8 0,.int .u8 0,.int .u8 0,.int .u8 0,.int .u8 0,.int .u8 0,.int .u8 0,.int .u8 0]
theorem z32_is:z32=Array.replicate 32 (.int .u8 0):=rfl
theorem zeros8_cell (w:World) (t:TypeId) (n j:Nat) (hj:j < n):(w.alloc (.cells (Array.replicate n (.int .u8 0)) t)).cell? ⟨w.heap.size,j,none⟩=some (.int .u8 0):=by
 rw [World.cell?_alloc_at (hn:=rfl)]
 simp [hj]
def outAt (h:List Nat) (j:Nat):Nat:=h.getD (j / 4) 0 / 2 ^ (24 - 8*(j % 4)) % 256
theorem arr32.other {w:World} {b b':Nat} {f:Nat→Nat} {n:Nat} (h:arr32 w b f n) (hb:b≠b') (v:Value) (k:Nat):arr32 (w.setCell ⟨b',k,none⟩ v) b f n:=by
 intro j hj
 obtain ⟨h1,h2⟩:=h j hj
 have e:=Below.heap_setCell w ⟨b',k,none⟩ v b hb
 exact ⟨(World.cell?_of_block (w:=w) (a:=⟨b,j,none⟩) e).trans h1,(World.frozen?_of_block (w:=w) (a:=⟨b,j,none⟩) e).trans h2⟩
theorem arr8_range {w:World} {b:Nat} (f:Nat→Nat) {n:Nat} (h:arr8 w b f n):w.rangeAt b 0 (((List.range n).map f).map (fun x:Nat=>Value.int .u8 (x:Int))):=by
 intro j v hv
 have hj:j < n:=by
  have:=(List.getElem?_eq_some_iff.1 hv).1
  simpa using this
 rw [Nat.zero_add,(h j hj).1]
 simpa [hj] using hv
theorem state_start (x0 x1 x2 x3 x4 x5 x6 x7:Nat) (w w0:World)
  (hw0:w0=((w.alloc (.cells #[.int .u32 (x0:Nat),.int .u32 (x1:Nat),.int .u32 (x2:Nat),.int .u32 (x3:Nat),.int .u32 (x4:Nat),.int .u32 (x5:Nat),.int .u32 (x6:Nat),.int .u32 (x7:Nat)] 196)).alloc (.cells z32 141)).alloc (.cells z32 141)) :
  arr32 w0 w.heap.size (fOf [x0,x1,x2,x3,x4,x5,x6,x7]) 8∧arr8 w0 (w.heap.size+1+1) (fun _=>0) 32∧w0.there (w.heap.size+1) 0 32∧Below w.heap.size w w0:=by
 subst hw0
 rw [z32_is]
 refine ⟨?_,?_,?_,?_⟩
 ·intro j hj
  refine ⟨?_,by simp [go_sem]⟩
  obtain ⟨g0,g1,g2,g3,g4,g5,g6,g7⟩:=l8_gets x0 x1 x2 x3 x4 x5 x6 x7
  unfold fOf
  rw [World.cell?_alloc_past (hn:=by simp;omega),World.cell?_alloc_past (hn:=by simp),World.cell?_alloc_at (hn:=rfl)]
  have:j=0∨j=1∨j=2∨j=3∨j=4∨j=5∨j=6∨j=7:=by omega
  rcases this with rfl|rfl|rfl|rfl|rfl|rfl|rfl|rfl
  ·rw [g0];rfl
  ·rw [g1];rfl
  ·rw [g2];rfl
  ·rw [g3];rfl
  ·rw [g4];rfl
  ·rw [g5];rfl
  ·rw [g6];rfl
  ·rw [g7];rfl
 ·intro j hj
  have h1:=zeros8_cell ((w.alloc (.cells #[.int .u32 (x0:Nat),.int .u32 (x1:Nat),.int .u32 (x2:Nat),.int .u32 (x3:Nat),.int .u32 (x4:Nat),.int .u32 (x5:Nat),.int .u32 (x6:Nat),.int .u32 (x7:Nat)] 196)).alloc (.cells (Array.replicate 32 (.int .u8 0)) 141)) 141 32 j hj
  have h2:=zeros_free ((w.alloc (.cells #[.int .u32 (x0:Nat),.int .u32 (x1:Nat),.int .u32 (x2:Nat),.int .u32 (x3:Nat),.int .u32 (x4:Nat),.int .u32 (x5:Nat),.int .u32 (x6:Nat),.int .u32 (x7:Nat)] 196)).alloc (.cells (Array.replicate 32 (.int .u8 0)) 141)) 141 (Array.replicate 32 (.int .u8 0)) j
  have e:((w.alloc (.cells #[.int .u32 (x0:Nat),.int .u32 (x1:Nat),.int .u32 (x2:Nat),.int .u32 (x3:Nat),.int .u32 (x4:Nat),.int .u32 (x5:Nat),.int .u32 (x6:Nat),.int .u32 (x7:Nat)] 196)).alloc (.cells (Array.replicate 32 (.int .u8 0)) 141)).heap.size=w.heap.size+1+1:=by simp
  rw [e] at h1 h2
  exact ⟨h1,h2⟩
 ·refine World.there_alloc ?_ _
  intro j hj
  have h1:=zeros8_cell (w.alloc (.cells #[.int .u32 (x0:Nat),.int .u32 (x1:Nat),.int .u32 (x2:Nat),.int .u32 (x3:Nat),.int .u32 (x4:Nat),.int .u32 (x5:Nat),.int .u32 (x6:Nat),.int .u32 (x7:Nat)] 196)) 141 32 j hj
  have h2:=zeros_free (w.alloc (.cells #[.int .u32 (x0:Nat),.int .u32 (x1:Nat),.int .u32 (x2:Nat),.int .u32 (x3:Nat),.int .u32 (x4:Nat),.int .u32 (x5:Nat),.int .u32 (x6:Nat),.int .u32 (x7:Nat)] 196)) 141 (Array.replicate 32 (.int .u8 0)) j
  have e:(w.alloc (.cells #[.int .u32 (x0:Nat),.int .u32 (x1:Nat),.int .u32 (x2:Nat),.int .u32 (x3:Nat),.int .u32 (x4:Nat),.int .u32 (x5:Nat),.int .u32 (x6:Nat),.int .u32 (x7:Nat)] 196)).heap.size=w.heap.size+1:=by simp
  rw [e] at h1 h2
  rw [Nat.zero_add,h1,h2]
  exact ⟨rfl,rfl⟩
 ·exact (((Below.refl _ _).alloc (Nat.le_refl _) _).alloc (by simp) _).alloc (by simp;omega) _
theorem stateBytes_core (x0 x1 x2 x3 x4 x5 x6 x7:Nat) (hst:small [x0,x1,x2,x3,x4,x5,x6,x7]) (w:World) :
  Calls Tryz.prog 154 #[.agg #[.int .u32 x0,.int .u32 x1,.int .u32 x2,.int .u32 x3,.int .u32 x4,.int .u32 x5,.int .u32 x6,.int .u32 x7]] w fun e' w'=>e'=.returned (.agg (((List.range 32).map (outAt [x0,x1,x2,x3,x4,x5,x6,x7])).map (fun x:Nat=>Value.int .u8 (x:Int))).toArray)∧Below w.heap.size w w':=by
 go_enter Tryz.func154,Tryz.ntmps154
 go_wp2
 go_loopw [5] (fun i wr=>∃ k:Nat,k≤32∧i=.int .i64 k∧arr32 wr w.heap.size (fOf [x0,x1,x2,x3,x4,x5,x6,x7]) 8∧arr8 wr (w.heap.size+1+1) (fun j=>if j < k then outAt [x0,x1,x2,x3,x4,x5,x6,x7] j else 0) 32∧wr.there (w.heap.size+1) 0 32∧Below w.heap.size w wr) (fun i _=>32 - (intOf i).toNat)
 case atStart =>
  obtain ⟨q1,q2,q3,q4⟩:=state_start x0 x1 x2 x3 x4 x5 x6 x7 w _ rfl
  exact ⟨0,by omega,rfl,q1,q2.congr fun j _=>by simp,q3,q4⟩
 case round =>
  obtain ⟨k,hk,rfl,har,ha8,hth,hbel⟩:=hrel
  by_cases hlt:k < 32
  ·have cs:=(har (k / 4) (by omega)).1
   obtain ⟨c8,f8⟩:=ha8 k (by omega)
   have hb:=hst (k / 4)
   unfold fOf at cs
   have HO:Hid (outAt [x0,x1,x2,x3,x4,x5,x6,x7] k=[x0,x1,x2,x3,x4,x5,x6,x7].getD (k / 4) 0 / 2 ^ (24 - 8*(k % 4)) % 256):=rfl
   generalize [x0,x1,x2,x3,x4,x5,x6,x7].getD (k / 4) 0=y at *
   go_wp2
   go_roundw
   case rel =>
    have e:((y:Int) / 2 ^ (24 - 8*(k % 4)) % 256)=((outAt [x0,x1,x2,x3,x4,x5,x6,x7] k:Nat):Int):=by rw [HO.out];simp
    rw [e]
    refine ⟨k+1,by omega,by go_num,har.other (by omega) _ _,?_,there_set hth _ _ _,hbel.setCell (by simp;omega) _⟩
    refine (ha8.set k _ hlt).congr fun j _=>?_
    by_cases e1:j=k
    ·subst e1;simp
    ·by_cases e2:j < k
     ·simp [e1,e2,Nat.lt_succ_of_lt e2]
     ·have:¬ j < k+1:=by omega
      simp [e1,e2,this]
   case measure=>simp [intOf];omega
  ·have hr:wr.rangeAt (w.heap.size+1+1) 0 (((List.range 32).map (outAt [x0,x1,x2,x3,x4,x5,x6,x7])).map (fun x:Nat=>Value.int .u8 (x:Int))):=arr8_range _ (ha8.congr fun j hj=>by rw [if_pos (by omega)])
   have hll:(((List.range 32).map (outAt [x0,x1,x2,x3,x4,x5,x6,x7])).map (fun x:Nat=>Value.int .u8 (x:Int))).length=32:=by simp
   have HLA:Hid ((((List.range 32).map (outAt [x0,x1,x2,x3,x4,x5,x6,x7])).map (fun x:Nat=>Value.int .u8 (x:Int))).toArray.size=32):=by show _=_;simp
   have HLL:Hid ((((List.range 32).map (outAt [x0,x1,x2,x3,x4,x5,x6,x7])).map (fun x:Nat=>Value.int .u8 (x:Int))).length=32):=hll
   have HON:Hid (∀ v∈(((List.range 32).map (outAt [x0,x1,x2,x3,x4,x5,x6,x7])).map (fun x:Nat=>Value.int .u8 (x:Int))),v.oneCell'=true):=by intro v hv;rw [List.mem_map] at hv;obtain ⟨x,_,rfl⟩:=hv;rfl
   clear hll har ha8
   generalize hg:(((List.range 32).map (outAt [x0,x1,x2,x3,x4,x5,x6,x7])).map (fun x:Nat=>Value.int .u8 (x:Int)))=L at *
   have HG:Hid ((((List.range 32).map (outAt [x0,x1,x2,x3,x4,x5,x6,x7])).map (fun x:Nat=>Value.int .u8 (x:Int)))=L):=hg
   clear hg
   have hdk:decide ((k:Int) < 32)=false:=by simp;omega
   go_wp2_with (first|(refine wpList_load_mid rfl 141 _ rfl (w.heap.size+1+1) 0 rfl L _ hr Tryz.underlying141 rfl (by rw [HLL.out];kernel_rfl) ?_)|(refine wpList_store_mid rfl 141 _ _ rfl (w.heap.size+1) 0 L.toArray rfl rfl (by rw [HLA.out];exact hth) (by rw [HLA.out];kernel_rfl) (all_oneCell_toArray HON.out) ?_))
   have hr2:=World.rangeAt_setCells_same wr (w.heap.size+1) 0 L (by rw [HLL.out];exact hth)
   refine bodyPost_ret (v:=.agg L.toArray) (results_cell rfl _ _ _ (w.heap.size+1) 0 rfl _ (run_loadVar_mid _ _ _ _ _ _ hr2 Tryz.underlying141 rfl (by rw [HLL.out];kernel_rfl))) rfl ⟨by rw [HG.out],?_⟩
   exact hbel.trans (below_setCells _ _ _ _ (by omega))
def keyB (l:List UInt8) (x:Nat):Nat→List UInt8
 | 0=>[]
 | k+1=>keyB l x k++[UInt8.ofNat (byteAt l k ^^^ x)]
theorem keyB_len (l:List UInt8) (x k:Nat):(keyB l x k).length=k:=by induction k with|zero=>rfl|succ k ih=>simp [keyB,ih]
def shortK (l:List UInt8):List UInt8:=if 64 < l.length then digest l else l
def tagL (key text:List UInt8):List UInt8:=digest (keyB (shortK key) 92 64++digest (keyB (shortK key) 54 64++text))
theorem digest_len (l:List UInt8):(digest l).length=32:=outL_len _ 8
theorem shortK_len (l:List UInt8):(shortK l).length≤64:=by
 unfold shortK;split
 ·rw [digest_len];omega
 ·omega
theorem byteAt_past (l:List UInt8) (i:Nat) (h:l.length≤i):byteAt l i=0:=by
 unfold byteAt;rw [List.getD_eq_getElem?_getD,List.getElem?_eq_none h];rfl
theorem i256 {a b:Nat} (ha:a < 256) (hb:b < 256):a ^^^ b < 256:=Nat.xor_lt_two_pow (n:=8) ha hb
def lowB:ByteArray:=⟨#[48,49,50,51,52,53,54,55,56,57,97,98,99,100,101,102]⟩
def lowF (n:Nat):UInt8:=lowB.data.getD n 0
theorem tagL_len (k t:List UInt8):(tagL k t).length=32:=digest_len _
theorem Tryz.infoByte:(Tryz.prog.info? 5).map (fun i=>(i.zero,i.size,i.bytes))=some (some (.int .u8 0),1,1):=by kernel_rfl
def u8v (c:UInt8):Value:=.int .u8 (c.toNat:Int)
def owns (w:World) (B:Nat) (v:Value) (l:List UInt8):Prop:=w.ownsRow B 5 1 v l.length (l.map u8v)
theorem owns.lt {w:World} {B:Nat} {v:Value} {l:List UInt8} (h:owns w B v l):∀ k,v.ownBlock=some k→B≤k:=fun k hk=>(World.ownsRow.lt h k hk).1
theorem owns.alloc {w:World} {B:Nat} {v:Value} {l:List UInt8} (h:owns w B v l) (o:Obj):owns (w.alloc o) B v l:=World.ownsRow.alloc h o
theorem owns.drew {w:World} {B:Nat} {v:Value} {l:List UInt8} (h:owns w B v l):owns w.drew B v l:=h
theorem app_step {w:World} {ops:Array Oper} {o:Oper} {a:Act} {K:Act→World→Prop} {Q:Exit→Act→World→Prop} {E:Prop} (hgd:o.guard=none) (s x:Operand)
  (ho:o.op=.call { callee:=.builtin .append,args:=#[s,x],argTypes:=#[70,70] })
  (B:Nat) (l m:List UInt8) (v:Value) (hs:a.eval s=v) (hown:owns w B v l) (H:Nat) (n:Nat) (hn:m.length=n) (hx:a.eval x=.slice (some ⟨H,0,none⟩) n n)
  (fr:Nat×Nat) (hblk:w.heap[H]?=some (.cells (m.map u8v).toArray 5 fr)) (hm:0 < n) (hlen:l.length+n≤100000000000) (hB:B≤w.heap.size)
  (h:∀ v' w',owns w' B v' (l++m)→Below B w w'→K (a.put o.dst v') w') :
  if Region.wanted o (yielded ops a.tmps)=true then Oper.wp Tryz.prog o a w K Q else E:=by
 obtain ⟨i0,hi,hz0,hz1,hz2⟩:=info_parts Tryz.infoByte
 subst hn
 refine step_append_lies _ hgd s x 70 ho B 5 i0 (.int .u8 0) 1 1 Tryz.underlying70 hi hz0 hz1 hz2 rfl (by omega) v l.length (l.map u8v) hs hown ⟨H,0,none⟩ m.length m.length (m.map u8v) hx (by simp)
  (fun j u hu=>World.news_of_block hblk j u (by simpa using hu)) (by intro u hu;simp at hu;obtain ⟨c,_,rfl⟩:=hu;rfl) hm (by unfold maxLen;omega) (by omega) hB w.heap.size rfl ?_
 intro g cap w' h1 h2 _ _
 exact h _ w' (by simpa [owns] using h1) ((Below.refl B w).grown h2 hB hown.lt)
theorem owns.conv {w:World} {B:Nat} {v:Value} {l:List UInt8} (h:owns w B v l):(convert 70 9 v).run Tryz.prog w=.ok (.string ⟨l.toArray⟩) w:=by
 have h':=h
 obtain ⟨_,⟨rfl,hn⟩|⟨g,cap,cur,rfl,_⟩⟩:=h'
 ·have:l=[]:=List.eq_nil_of_length_eq_zero hn
  subst this
  rw [run_convert_bytes_string w 70 9 5 none 0 0 Tryz.underlying70 Tryz.underlying5 Tryz.underlying9]
  rfl
 ·refine run_convert_bytes_back w 70 9 5 ⟨g,0,none⟩ cap l Tryz.underlying70 Tryz.underlying5 Tryz.underlying9 fun j hj=>?_
  exact World.ownsRow.cells h (g:=g) rfl j _ (by simp [u8v,hj])
theorem run_index_byte (d:List UInt8) (hd:d.length=32) (k:Nat) (hk:k < d.length) (w:World) :
  (Instr.index 141 (.agg (d.map u8v).toArray) (.int .i64 (k:Int))).run Tryz.prog w=.ok (.int .u8 (d[k].toNat:Int)) w:=by
 have h0:(0:Int)≤(k:Int)∧(k:Int) < 32:=by omega
 have hu:=Tryz.underlying141
 obtain ⟨i0,hi,hz0,hz1,hz2⟩:=info_parts Tryz.infoByte
 simp [Instr.index,run_underlying hu,asIntOf,h0,part,sizeOf,typeInfo,hi,hz1,isAgg,run_underlying Tryz.underlying5,go_sem,hk,u8v]
 intro hh;omega
theorem low_fin:∀ n:Fin 16,(lowB[n.val]'n.isLt)=lowF n.val:=by decide +kernel
theorem low_hex (j n:Nat) (h:j < 16) (e:j=n):((⟨#[48,49,50,51,52,53,54,55,56,57,97,98,99,100,101,102]⟩:ByteArray)[j]'h)=lowF n:=by
 subst e;exact low_fin ⟨j,h⟩
theorem low_map (c:UInt8) (h1 h2):#[Value.int .u8 (((⟨#[48,49,50,51,52,53,54,55,56,57,97,98,99,100,101,102]⟩:ByteArray)[((c.toNat:Int) / 16).toNat]'h1).toNat:Int),
  Value.int .u8 (((⟨#[48,49,50,51,52,53,54,55,56,57,97,98,99,100,101,102]⟩:ByteArray)[((c.toNat:Int) % 16).toNat]'h2).toNat:Int)]=([lowF (c.toNat / 16),lowF (c.toNat % 16)].map u8v).toArray:=by
 rw [low_hex _ (c.toNat / 16) h1 (by omega),low_hex _ (c.toNat % 16) h2 (by omega)]
 rfl
theorem box_range (d:List UInt8) (t:TypeId) (w w1:World) (hg:(w.alloc (.cells (d.map u8v).toArray t)).grownBy w1 none):w1.rangeAt w.heap.size 0 (d.map u8v):=by
 intro j v hv
 have hb:=hg.block w.heap.size (by simp) (by simp)
 rw [World.cell?_of_block (w:=w.alloc (.cells (d.map u8v).toArray t)) (a:=⟨w.heap.size,0+j,none⟩) hb,World.cell?_alloc_at (hn:=rfl),Nat.zero_add]
 simpa using hv
theorem digits_any (d:List UInt8) (hd:d.length=32) (w:World) :
  Calls Tryz.prog 71 #[.agg (d.map u8v).toArray] w fun e w'=>e=.returned (.string ⟨(hexL lowF d).toArray⟩)∧Below w.heap.size w w':=by
 obtain ⟨i0,hi,hz0,hz1,hz2⟩:=info_parts Tryz.infoByte
 go_enter Tryz.func71,Tryz.ntmps71
 have hlen:(d.map u8v).length=32:=by simp [hd]
 have HLL:Hid ((d.map u8v).length=32):=hlen
 clear hlen
 go_wp2_with (first|(at_make;refine wpList_make_own _ rfl _ _ 70 rfl w.heap.size 5 i0 (.int .u8 0) 1 Tryz.underlying70 hi hz0 hz1 .i64 .i64 _ 64 rfl rfl rfl (by rw [hz2];omega) (by unfold maxLen;omega) (by simp) ?_;intro w1 hown1 hg1;have hr:=box_range d 141 w w1 hg1)|(refine wpList_load_mid rfl 141 _ rfl w.heap.size 0 rfl (d.map u8v) _ hr Tryz.underlying141 rfl (by rw [HLL.out];kernel_rfl) ?_))
 clear hi hz0 hz1 hz2 i0
 have hb1:Below w.heap.size w w1:=((Below.refl _ _).alloc (Nat.le_refl _) _).grown hg1 (by simp) (by simp)
 go_loopw [3,8] (fun v i wr=>∃ k:Nat,k≤32∧i=.int .i64 k∧owns wr w.heap.size v (hexL lowF (d.take k))∧Below w.heap.size w wr) (fun _ i _=>32 - (intOf i).toNat)
 case atStart=>exact ⟨0,by omega,rfl,by simpa [owns,hexL] using hown1,hb1⟩
 case round =>
  clear hown1 hg1 hr hb1
  obtain ⟨k,hk,rfl,hown,hbel⟩:=hrel
  have hhl:=hexL_len lowF (d.take k)
  have htl:(d.take k).length≤k:=List.length_take_le _ _
  by_cases hlt:k < 32
  ·have hkd:k < d.length:=by omega
   have k0:(0:Int)≤(k:Int):=by omega
   have k1:(k:Int) < 32:=by omega
   have hix:=fun w=>run_index_byte d hd k hkd w
   go_wp2_with fail
   have HS:Hid (hexL lowF (d.take (k+1))=hexL lowF (d.take k)++[lowF (d[k].toNat / 16),lowF (d[k].toNat % 16)]):=by
    show _=_;rw [List.take_succ_eq_append_getElem hkd,hexL_snoc]
   generalize d[k]=c at *
   clear hix
   have hb:=c.toNat_lt
   have q1:(0:Int)≤(c.toNat:Int) / 16:=by omega
   have q2:(c.toNat:Int) / 16 < 16:=by omega
   have q3:(0:Int)≤(c.toNat:Int) % 16:=by omega
   have q4:(c.toNat:Int) % 16 < 16:=by omega
   have q5:bits BinOp.and IntKind.u8 (c.toNat:Int) 15=(c.toNat:Int) % 16:=u8_and15 (x:=(c.toNat:Int)) (by omega) (by omega)
   have hsz:=hbel.size
   go_region_law ((refine app_step rfl _ _ rfl w.heap.size _ [lowF (c.toNat / 16),lowF (c.toNat % 16)] _ rfl (hown.drew.alloc _) _ 2 rfl rfl _ ((heap_alloc_new _ _).trans (by rw [low_map])) (by omega) (by omega) (by simp;omega) ?_;intro v' w2 hown2 hb2))
   all_goals
    go_wp2
    go_roundw
    case rel=>exact ⟨k+1,by omega,by go_num,by rw [HS.out];exact hown2,(hbel.drew.alloc (by simpa using hsz) _).trans hb2⟩
    case measure=>simp [intOf];omega
  ·have hcv:=hown.conv
   have HE:Hid (hexL lowF (d.take k)=hexL lowF d):=by show _=_;rw [List.take_of_length_le (by omega)]
   have hdk:decide ((k:Int) < 32)=false:=by simp;omega
   go_wp2_with fail
   go_ret
   exact ⟨ret_str HE.out,hbel⟩
end Go.Proofs.YtbllcgibmgbnjaaGreatDoor
