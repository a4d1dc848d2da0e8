import Derived.Test.YtbllcgibmgbnjaaGreatDoorM29
import Derived.Deep.QuietTactic
import Derived.BigQuiet
set_option maxHeartbeats 8000000
set_option maxRecDepth 20000
namespace Go.Proofs.YtbllcgibmgbnjaaGreatDoor.P
open Go.RowKit
open C (ret_bool ret_int ret_str enc enc_len)
structure PS (h a b bb:Nat) (s:Sto) (l:List BV) (sl:Value) (room:Nat) (r:Roles) (w:World):Prop where
 H:HS h a b s r w
 B:Bok bb l s.last sl w
 K:BK s l room
 rb:r bb=.none
 rr:∀ g,sl.ownBlock=some g→r g=.none
theorem PS.below {h a b bb:Nat} {s:Sto} {l:List BV} {sl:Value} {room:Nat} {r:Roles} {w w':World} (P:PS h a b bb s l sl room r w) (k:Below w.heap.size w w'):PS h a b bb s l sl room r w' :=
 ⟨P.H.below k,P.B.below k,P.K,P.rb,P.rr⟩
theorem Bok.step {b:Nat} {l:List BV} {given:Nat} {sl:Value} {r r':Roles} {w w':World} (h:Bok b l given sl w) (st:Step r w r' w') (rb:r b=.none) (rr:∀ g,sl.ownBlock=some g→r g=.none):Bok b l given sl w' :=
 h.kept st.kept (by simp [rb]) (fun g hg=>by simp [rr g hg])
def stPost (h a b bb:Nat) (l:List BV) (given:Nat) (sl:Value) (X:Nat×Hs×Tx×Sto) (want:Tx) (r:Roles) (w:World) (e:Ending) (w':World):Prop :=
 ∃ r',e=.returned (.tuple #[str (ansT X),str want])∧HS h a b X.2.2.2 r' w'∧Step r w r' w'∧Bok bb l given sl w'
theorem stAsk_len {s:Sto} {l:List BV} {room:Nat} (H:BK s l room) (o:StP):(stAsk o s.last).1.length≤1000∧(stAsk o s.last).2.1.length≤1000000000∧(stAsk o s.last).2.2.length≤1000000:=by
 obtain ⟨n1,n2⟩:=stN_bd H o
 have h1:=keyN_len (stI o)
 have h2:=(enc_len true (keyN (stI o))).2
 have h3:=itoa_len (n:=stN o s.last) (by omega)
 unfold stAsk
 repeat' split
 all_goals refine ⟨by simp only;decide,?_,?_⟩
 all_goals (simp [kV,qVer,tVersion];try omega)
theorem stepK_any (h a b bb:Nat) (s:Sto) (l:List BV) (sl:Value) (room:Nat) (r:Roles) (o:StP) (ho:StFit o) (X:Nat×Hs×Tx×Sto) (hX:AskQ s (stAsk o s.last).1 (stAsk o s.last).2.1 (stAsk o s.last).2.2 X) (w:World) (G:GL w) (P:PS h a b bb s l sl room r w) :
  Calls Tryz.prog 38 #[.pointer (some ⟨bb,0,none⟩),.pointer (some ⟨h,0,none⟩),o.v] w (stPost h a b bb l s.last sl X (stWant l o s.last) r w):=by
 obtain ⟨n1,n2⟩:=stN_bd P.K o
 have hql:=step_len P.K o
 obtain ⟨al1,al2,al3⟩:=stAsk_len P.K o
 have HFIT:Hid (BFit l):=bk_fit P.K
 have hln:=(bk_fit P.K).n
 have hgv:s.last≤100000:=by have:=P.K.F.last;have:=P.K.F.log;omega
 have AL:Hid (∀ W,Below w.heap.size w W→Calls Tryz.prog 25 #[.pointer (some ⟨h,0,none⟩),str (stAsk o s.last).1,str (stAsk o s.last).2.1,str (stAsk o s.last).2.2] W fun e w'=>∃ r',e=.returned (str (ansT X))∧HS h a b X.2.2.2 r' w'∧Step r W r' w'):=fun W hW=>alQ_any h a b s r _ _ _ al1 (by omega) al3 X hX P.K.K W (G.call hW) (P.H.below hW) (by omega)
 have HP:Hid (PS h a b bb s l sl room r w):=P
 have HG:Hid (GL w):=G
 have hbl:=P.B.lt
 have hrn:r w.heap.size=.none:=P.H.L.new
 have hpk:pickP o.n (s.last+1)≤100000:=by have:=pickP_lt o.n (n:=s.last+1) (by omega);omega
 have PK:Hid (∀ W,Calls Tryz.prog 10 #[.int .i64 o.n,.int .i64 ((s.last:Int)+1)] W fun e w'=>e=.returned (.int .i64 (pickP o.n (s.last+1):Int))∧W=w'):=fun W=>by
  have:=pick_any o.n ho.n (s.last+1) (by omega) (by omega) W
  rwa [show ((s.last+1:Nat):Int)=(s.last:Int)+1 by omega] at this
 have KY:Hid (∀ W,Calls Tryz.prog 45 #[.int .i64 o.key] W fun e w'=>e=.returned (str (keyN (stI o)))∧Below W.heap.size W w'):=fun W=>keyK_any o.key ho.key W
 have TG:Hid (∀ W,Calls Tryz.prog 26 #[.int .i64 o.key] W fun e w'=>e=.returned (str (kT (keyN (stI o))))∧Below W.heap.size W w'):=fun W=>target_any o.key ho.key W
 have IT:Hid (∀ W,Below w.heap.size w W→Calls Tryz.prog 34 #[.int .i64 (1+(pickP o.n (s.last+1):Int))] W fun e w'=>e=.returned (str (Lib.itoa ((stN o s.last:Nat):Int)))∧Below W.heap.size W w'):=fun W hW=>by
  rw [show 1+(pickP o.n (s.last+1):Int)=((stN o s.last:Nat):Int) by unfold stN;omega]
  exact R.itoa_r (stN o s.last) W (HG.out.call hW).env (by omega)
 have CU:Hid (∀ W,Calls Tryz.prog 9 #[str o.body,.int .i64 300] W fun e w'=>e=.returned (str (o.body.take 300))∧W=w'):=fun W=>cutK_all o.body 300 (by omega) W
 have FI:Hid (∀ W,Bok bb l s.last sl W→Calls Tryz.prog 58 #[.pointer (some ⟨bb,0,none⟩),str (keyN (stI o)),.int .i64 (1+(pickP o.n (s.last+1):Int))] W fun e w'=>(∃ i,e=.returned (.int .i64 i)∧FirstOf l (keyN (stI o)) (stN o s.last) i)∧W=w'):=fun W hW=>by
  rw [show 1+(pickP o.n (s.last+1):Int)=((stN o s.last:Nat):Int) by unfold stN;omega]
  exact findK_any bb l s.last sl (keyN (stI o)) (stN o s.last) (by omega) W hW
 have PN:Hid (∀ W,R.Env W→Calls Tryz.prog 17 #[.int .i64 (1+(pickP o.n (s.last+1):Int))] W fun e w'=>e=.returned (str (rPut (stN o s.last)))∧Below W.heap.size W w'):=fun W E=>by
  rw [show 1+(pickP o.n (s.last+1):Int)=((stN o s.last:Nat):Int) by unfold stN;omega]
  exact putK_any (stN o s.last) (by omega) W E
 have PG:Hid (∀ W,R.Env W→Calls Tryz.prog 17 #[.int .i64 ((s.last:Int)+1)] W fun e w'=>e=.returned (str (rPut (s.last+1)))∧Below W.heap.size W w'):=fun W E=>by
  rw [show (s.last:Int)+1=((s.last+1:Nat):Int) by omega]
  exact putK_any (s.last+1) (by omega) W E
 have HW:Hid (stWant l o s.last=if o.kind=1 then rPut (s.last+1) else if o.kind=2 then rPut (s.last+1) else if o.kind=3 then goneB (findB l (keyN (stI o)) (stN o s.last)) (stN o s.last) else if o.kind=4 then gotB (findB l (keyN (stI o)) (stN o s.last)) else if o.kind=5 then listB l else gotB (latB l (keyN (stI o)))):=rfl
 have HA:Hid (stAsk o s.last=if o.kind=1 then (tPUT,kT (keyN (stI o)),o.body.take 300) else if o.kind=2 then (tDEL,kT (keyN (stI o)),[]) else if o.kind=3 then (tDEL,kV (keyN (stI o)) (stN o s.last),[]) else if o.kind=4 then (tGET,kV (keyN (stI o)) (stN o s.last),[]) else if o.kind=5 then (tGET,tABox,[]) else (tGET,kT (keyN (stI o)),[])):=rfl
 have hil:(Lib.itoa ((stN o s.last:Nat):Int)).length≤16:=itoa_len (by omega)
 clear hX hql al1 al2 al3 n1 n2
 generalize stAsk o s.last=qq at *
 generalize stWant l o s.last=want at *
 generalize stN o s.last=nn at *
 generalize hpp:pickP o.n (s.last+1)=pp at *
 clear hpp
 have w1:IntKind.i64.wrap ((s.last:Int)+1)=(s.last:Int)+1:=by unfold IntKind.wrap;simp [IntKind.bits,IntKind.signed];omega
 have w2:IntKind.i64.wrap (1+(pp:Int))=1+(pp:Int):=by unfold IntKind.wrap;simp [IntKind.bits,IntKind.signed];omega
 have d0:(w.alloc (stC o)).cell? ⟨w.heap.size,0,none⟩=some (.int .i64 o.kind):=by simp [go_sem]
 have d1:(w.alloc (stC o)).cell? ⟨w.heap.size,1,none⟩=some (.int .i64 o.key):=by simp [go_sem]
 have d2:(w.alloc (stC o)).cell? ⟨w.heap.size,2,none⟩=some (.int .i64 o.n):=by simp [go_sem]
 have d3:(w.alloc (stC o)).cell? ⟨w.heap.size,3,none⟩=some (str o.body):=by simp [go_sem]
 have b0:Below w.heap.size w (w.alloc (stC o)):=(Below.refl _ _).alloc (Nat.le_refl _) _
 have z0:w.heap.size < (w.alloc (stC o)).heap.size:=by simp
 clear P G ho
 obtain ⟨kd,ky,on,bo⟩:=o
 dsimp only at *
 go_enter Tryz.func38,Tryz.ntmps38
 go_wp2_with fail
 generalize hW0:w.alloc (stC ⟨kd,ky,on,bo⟩)=W0 at *
 clear hW0
 refine Calls.mono (KY.out W0) ?_
 rintro e v1 ⟨rfl,b1⟩
 have B1:=below_trans b0 b1
 have e0:=(b1.cell (p:=⟨w.heap.size,0,none⟩) z0).trans d0
 have e1:=(b1.cell (p:=⟨w.heap.size,1,none⟩) z0).trans d1
 have e2:=(b1.cell (p:=⟨w.heap.size,2,none⟩) z0).trans d2
 have e3:=(b1.cell (p:=⟨w.heap.size,3,none⟩) z0).trans d3
 have z1:w.heap.size < v1.heap.size:=Nat.lt_of_lt_of_le z0 b1.size
 have g1:=(HP.out.B.below B1).c1
 clear b0 b1 d0 d1 d2 d3 z0
 go_wp2_with fail
 go_quiet ((go_at_call 10;exact Calls.quiet_of_same ((PK.out _).mono (fun e w' h=>⟨h.1,h.2.symm⟩))))
 go_wp2_with fail
 have B2:Below w.heap.size w (v1.drewN nq):=below_trans B1 ⟨rfl,rfl,rfl,Nat.le_refl _,fun _ _=>rfl⟩
 have f0:(v1.drewN nq).cell? ⟨w.heap.size,0,none⟩=some (.int .i64 kd):=e0
 have f1:(v1.drewN nq).cell? ⟨w.heap.size,1,none⟩=some (.int .i64 ky):=e1
 have f3:(v1.drewN nq).cell? ⟨w.heap.size,3,none⟩=some (str bo):=e3
 have z2:w.heap.size < (v1.drewN nq).heap.size:=z1
 generalize v1.drewN nq=v2 at *
 clear e0 e1 e2 e3 z1 g1 B1
 refine Calls.mono (IT.out v2 B2) ?_
 rintro e v3 ⟨rfl,b3⟩
 have B3:=below_trans B2 b3
 replace f0:=(b3.cell (p:=⟨w.heap.size,0,none⟩) z2).trans f0
 replace f1:=(b3.cell (p:=⟨w.heap.size,1,none⟩) z2).trans f1
 replace f3:=(b3.cell (p:=⟨w.heap.size,3,none⟩) z2).trans f3
 clear b3 B2 z2 IT KY PK
 have hkl:=keyN_len (stI ⟨kd,ky,on,bo⟩)
 generalize keyN (stI ⟨kd,ky,on,bo⟩)=kk at *
 have hel:=(enc_len true kk).2
 have HKT:Hid (kT kk=[47,97,108,115,98,111,120,47]++enc true kk):=rfl
 have hkt:(kT kk).length≤20:=by rw [HKT.out];simp;omega
 have HKV:Hid (kV kk nn=kT kk++([63,118,101,114,115,105,111,110,61]++Lib.itoa (nn:Int))):=rfl
 generalize kV kk nn=kv at *
 generalize kT kk=kt at *
 have LA:Hid (∀ W,Bok bb l s.last sl W→Calls Tryz.prog 61 #[.pointer (some ⟨bb,0,none⟩),str kk] W fun e w'=>(∃ i,e=.returned (.int .i64 i)∧PlaceOf l (latB l kk) i)∧W=w'):=fun W hW=>latest_any bb l s.last sl kk (by omega) W hW
 have GO:Hid (∀ (oo:Option BV) i W,PlaceOf l oo i→Bok bb l s.last sl W→R.Env W→Calls Tryz.prog 59 #[.pointer (some ⟨bb,0,none⟩),.int .i64 i] W fun e w'=>e=.returned (str (gotB oo))∧Below W.heap.size W w'):=fun oo i W hp hW E=>gotK_book bb l s.last sl oo i hp HFIT.out W E hW
 have LI:Hid (∀ W,Bok bb l s.last sl W→GL W→Calls Tryz.prog 60 #[.pointer (some ⟨bb,0,none⟩)] W fun e w'=>e=.returned (str (listB l))∧Below W.heap.size W w'):=fun W hW GW=>listK_any bb l s.last sl HFIT.out W GW hW
 generalize Lib.itoa (nn:Int)=ti at *
 go_wp2_with fail
 refine Calls.mono (CU.out v3) ?_
 rintro e v4 ⟨rfl,rfl⟩
 clear CU f3
 by_cases h1:kd=1
 ·subst h1
  rw [if_pos rfl] at HW HA
  rw [HA.out] at AL
  dsimp only at AL
  clear HA HKV LA GO LI FI PN HKT
  go_wp2_with (first|(go_at_call 26;refine Calls.mono (TG.out v3) ?_;rintro e v5 ⟨rfl,b5⟩;have B5:=below_trans B3 b5)|(go_at_call 25;refine Calls.mono (AL.out v5 B5) ?_;rintro e v6 ⟨r',rfl,H6,st6⟩;have K6:=(HP.out.B.below B5).step st6 HP.out.rb HP.out.rr;have g6:=K6.c1;have G6:=(HP.out.H.below B5).L.glob (HG.out.call B5) st6)|(go_at_call 17;refine Calls.mono (PG.out v6 G6.env) ?_;rintro e v7 ⟨rfl,b7⟩))
  refine bodyPost_ret (v:=.tuple #[str (ansT X),str (rPut (s.last+1))]) ?_ rfl ⟨r',by rw [HW.out],H6.below b7,(Step.of_below B5).trans (st6.trans (Step.of_below b7)),K6.below b7⟩
  simp [results,Tryz.results38,go_sem]
 rw [if_neg h1] at HW HA
 by_cases h2:kd=2
 ·subst h2
  rw [if_pos rfl] at HW HA
  rw [HA.out] at AL
  dsimp only at AL
  clear HA HKV LA GO LI FI PN HKT
  go_wp2_with (first|(go_at_call 26;refine Calls.mono (TG.out v3) ?_;rintro e v5 ⟨rfl,b5⟩;have B5:=below_trans B3 b5)|(go_at_call 25;refine Calls.mono (AL.out v5 B5) ?_;rintro e v6 ⟨r',rfl,H6,st6⟩;have K6:=(HP.out.B.below B5).step st6 HP.out.rb HP.out.rr;have g6:=K6.c1;have G6:=(HP.out.H.below B5).L.glob (HG.out.call B5) st6)|(go_at_call 17;refine Calls.mono (PG.out v6 G6.env) ?_;rintro e v7 ⟨rfl,b7⟩))
  refine bodyPost_ret (v:=.tuple #[str (ansT X),str (rPut (s.last+1))]) ?_ rfl ⟨r',by rw [HW.out],H6.below b7,(Step.of_below B5).trans (st6.trans (Step.of_below b7)),K6.below b7⟩
  simp [results,Tryz.results38,go_sem]
 rw [if_neg h2] at HW HA
 by_cases h3:kd=3
 ·subst h3
  rw [if_pos rfl] at HW HA
  rw [HA.out] at AL
  dsimp only at AL
  have AV:Hid (∀ W,Below w.heap.size w W→∀ z:ByteArray,z=⟨kv.toArray⟩→Calls Tryz.prog 25 #[.pointer (some ⟨h,0,none⟩),str tDEL,.string z,str []] W fun e w'=>∃ r',e=.returned (str (ansT X))∧HS h a b X.2.2.2 r' w'∧Step r W r' w'):=fun W hW z hz=>by rw [hz];exact AL.out W hW
  rw [HKV.out] at AV
  clear HA HKV LA GO LI HKT PG
  go_wp2_with (first|(go_at_call 26;refine Calls.mono (TG.out v3) ?_;rintro e v5 ⟨rfl,b5⟩;have B5:=below_trans B3 b5)|(go_at_call 25;refine Calls.mono (AV.out v5 B5 _ (by apply ByteArray.ext;simp)) ?_;rintro e v6 ⟨r',rfl,H6,st6⟩;have K6:=(HP.out.B.below B5).step st6 HP.out.rb HP.out.rr;have g6:=K6.c1;have G6:=(HP.out.H.below B5).L.glob (HG.out.call B5) st6))
  refine Calls.mono (FI.out v6 K6) ?_
  rintro e v7 ⟨⟨i,rfl,hf⟩,rfl⟩
  rcases hf with ⟨hf,rfl⟩|⟨j,hj,rfl,hf,_⟩
  ·have HN:Hid (goneB (findB l kk nn) nn=[52,48,52,32,78,111,110,101,10,10]):=by show _=_;rw [hf];exact noneT
   clear hf
   go_wp2
   refine bodyPost_ret (v:=.tuple #[str (ansT X),str ([52,48,52,32,78,111,110,101,10,10])]) ?_ rfl ⟨r',by rw [HW.out,HN.out],H6,(Step.of_below B5).trans st6,K6⟩
   simp [results,Tryz.results38,go_sem]
  ·have HN:Hid (goneB (findB l kk nn) nn=rPut nn):=by show _=_;rw [hf];rfl
   clear hf
   go_wp2_with (go_at_call 17;refine Calls.mono (PN.out v6 G6.env) ?_;rintro e v7 ⟨rfl,b7⟩)
   refine bodyPost_ret (v:=.tuple #[str (ansT X),str (rPut nn)]) ?_ rfl ⟨r',by rw [HW.out,HN.out],H6.below b7,(Step.of_below B5).trans (st6.trans (Step.of_below b7)),K6.below b7⟩
   simp [results,Tryz.results38,go_sem]
 rw [if_neg h3] at HW HA
 by_cases h4:kd=4
 ·subst h4
  rw [if_pos rfl] at HW HA
  rw [HA.out] at AL
  dsimp only at AL
  have AV:Hid (∀ W,Below w.heap.size w W→∀ z:ByteArray,z=⟨kv.toArray⟩→Calls Tryz.prog 25 #[.pointer (some ⟨h,0,none⟩),str tGET,.string z,str []] W fun e w'=>∃ r',e=.returned (str (ansT X))∧HS h a b X.2.2.2 r' w'∧Step r W r' w'):=fun W hW z hz=>by rw [hz];exact AL.out W hW
  rw [HKV.out] at AV
  clear HA HKV LA LI HKT PG PN
  go_wp2_with (first|(go_at_call 26;refine Calls.mono (TG.out v3) ?_;rintro e v5 ⟨rfl,b5⟩;have B5:=below_trans B3 b5)|(go_at_call 25;refine Calls.mono (AV.out v5 B5 _ (by apply ByteArray.ext;simp)) ?_;rintro e v6 ⟨r',rfl,H6,st6⟩;have K6:=(HP.out.B.below B5).step st6 HP.out.rb HP.out.rr;have g6:=K6.c1;have G6:=(HP.out.H.below B5).L.glob (HG.out.call B5) st6))
  refine Calls.mono (FI.out v6 K6) ?_
  rintro e v7 ⟨⟨i,rfl,hf⟩,rfl⟩
  have hp:PlaceOf l (findB l kk nn) i:=hf.imp id (fun ⟨j,hj,e1,e2,_⟩=>⟨j,hj,e1,e2⟩)
  have GO2:Hid (_):=GO.out (findB l kk nn) i v6 hp K6 G6.env
  clear hf hp GO
  go_wp2_with (go_at_call 59;refine Calls.mono GO2.out ?_;rintro e v7 ⟨rfl,b7⟩)
  refine bodyPost_ret (v:=.tuple #[str (ansT X),str (gotB (findB l kk nn))]) ?_ rfl ⟨r',by rw [HW.out],H6.below b7,(Step.of_below B5).trans (st6.trans (Step.of_below b7)),K6.below b7⟩
  simp [results,Tryz.results38,go_sem]
 rw [if_neg h4] at HW HA
 by_cases h5:kd=5
 ·subst h5
  rw [if_pos rfl] at HW HA
  rw [HA.out] at AL
  dsimp only at AL
  clear HA HKV LA GO FI HKT PG PN
  go_wp2_with (first|(go_at_call 25;refine Calls.mono (AL.out v3 B3) ?_;rintro e v6 ⟨r',rfl,H6,st6⟩;have K6:=(HP.out.B.below B3).step st6 HP.out.rb HP.out.rr;have G6:=(HP.out.H.below B3).L.glob (HG.out.call B3) st6)|(go_at_call 60;refine Calls.mono (LI.out v6 K6 G6) ?_;rintro e v7 ⟨rfl,b7⟩))
  refine bodyPost_ret (v:=.tuple #[str (ansT X),str (listB l)]) ?_ rfl ⟨r',by rw [HW.out],H6.below b7,(Step.of_below B3).trans (st6.trans (Step.of_below b7)),K6.below b7⟩
  simp [results,Tryz.results38,go_sem]
 ·rw [if_neg h5] at HW HA
  rw [HA.out] at AL
  dsimp only at AL
  have k1:(kd == 1)=false:=by simpa using h1
  have k2:(kd == 2)=false:=by simpa using h2
  have k3:(kd == 3)=false:=by simpa using h3
  have k4:(kd == 4)=false:=by simpa using h4
  have k5:(kd == 5)=false:=by simpa using h5
  clear HA HKV FI LI HKT PG PN
  go_wp2_with (first|(go_at_call 26;refine Calls.mono (TG.out v3) ?_;rintro e v5 ⟨rfl,b5⟩;have B5:=below_trans B3 b5)|(go_at_call 25;refine Calls.mono (AL.out v5 B5) ?_;rintro e v6 ⟨r',rfl,H6,st6⟩;have K6:=(HP.out.B.below B5).step st6 HP.out.rb HP.out.rr;have g6:=K6.c1;have G6:=(HP.out.H.below B5).L.glob (HG.out.call B5) st6))
  refine Calls.mono (LA.out v6 K6) ?_
  rintro e v7 ⟨⟨i,rfl,hp⟩,rfl⟩
  have GO2:Hid (_):=GO.out (latB l kk) i v6 hp K6 G6.env
  clear hp GO
  go_wp2_with (go_at_call 59;refine Calls.mono GO2.out ?_;rintro e v7 ⟨rfl,b7⟩)
  refine bodyPost_ret (v:=.tuple #[str (ansT X),str (gotB (latB l kk))]) ?_ rfl ⟨r',by rw [HW.out],H6.below b7,(Step.of_below B5).trans (st6.trans (Step.of_below b7)),K6.below b7⟩
  simp [results,Tryz.results38,go_sem]
theorem bapp_step {w:World} {ops:Array Oper} {o:Oper} {a:Act} {K:Act→World→Prop} {Q:Exit→Act→World→Prop} {E:Prop} (hgd:o.guard=none) (s x:Operand)
  (ho:o.op=.call { callee:=.builtin .append,args:=#[s,x],argTypes:=#[45,45] })
  (B:Nat) (l:List BV) (bv:BV) (v:Value) (hs:a.eval s=v) (hown:brow w B v l) (H:Nat) (hx:a.eval x=.slice (some ⟨H,0,none⟩) 1 1)
  (fr:Nat×Nat) (hblk:w.heap[H]?=some (.cells #[str bv.key,.int .i64 (bv.num:Int),.bool bv.mark,str bv.body] 120 fr)) (hlen:l.length≤1000000000) (hB:B≤w.heap.size)
  (h:∀ g cap w',brow w' B (.slice (some ⟨g,0,none⟩) (l.length+1) cap) (l++[bv])→w.grownBy w' v.ownBlock→(v.ownBlock=some g∨g=w.heap.size)→K (a.put o.dst (.slice (some ⟨g,0,none⟩) (l.length+1) cap)) w') :
  if Region.wanted o (yielded ops a.tmps)=true then Oper.wp Tryz.prog o a w K Q else E:=by
 obtain ⟨i0,hi,hz0,hz1,hz2⟩:=info_parts infoB
 refine step_append_lies _ hgd s x 45 ho B 120 i0 (.agg #[.string ⟨#[]⟩,.int .i64 0,.bool false,.string ⟨#[]⟩]) 4 48 Tryz.underlying45 hi hz0 hz1 hz2 rfl (by omega) v l.length (bcells l) hs hown ⟨H,0,none⟩ 1 1 (bcell bv) hx (by simp [bcell])
  (fun j u hu=>World.news_of_block hblk j u (by simpa [bcell] using hu)) (by intro u hu;simp [bcell] at hu;rcases hu with rfl|rfl|rfl|rfl <;> rfl) (by omega) (by unfold maxLen;omega) (by omega) hB w.heap.size rfl ?_
 intro g cap w' h1 h2 h3 _
 refine h g cap w' ?_ h2 h3
 show World.ownsRow _ _ _ _ _ _ _
 rw [bcells_snoc,List.length_append]
 exact h1
theorem Bok.push {b:Nat} {l:List BV} {given:Nat} {sl sl':Value} {bv:BV} {wA w8:World} (H:Bok b l given sl wA) (h1:brow w8 (b+1) sl' (l++[bv])) (h2:wA.grownBy w8 sl.ownBlock):Bok b (l++[bv]) given sl' (w8.setCell ⟨b,0,none⟩ sl'):=by
 have hne:∀ g,sl.ownBlock=some g→g≠b:=fun g hg=>by have:=(World.ownsRow.lt H.row g hg).1;omega
 have k:=Kept.of_grown h2
 have c0:=k.cell H.c0 (fun e=>hne b e rfl)
 have c1:=k.cell H.c1 (fun e=>hne b e rfl)
 have fz:=fun j:Nat=>k.frozen (a:=⟨b,j,none⟩) H.lt (H.fz j) (fun e=>hne b e rfl)
 refine ⟨by simp [go_sem,c0],by simp [go_sem,c1],fun j=>by simp [fz],?_⟩
 exact ((Kept.refl (·=b) w8).setCell b 0 _ (fun _=>rfl)).row h1 (fun g hg e=>by have:=(World.ownsRow.lt h1 g hg).1;omega)
theorem Bok.bump {b:Nat} {l:List BV} {given:Nat} {sl:Value} {w:World} (H:Bok b l given sl w):Bok b l (given+1) sl (w.setCell ⟨b,1,none⟩ (.int .i64 ((given:Int)+1))):=by
 have c0:=H.c0;have c1:=H.c1;have fz:=H.fz
 refine ⟨by simp [go_sem,c0],?_,fun j=>by simp [fz],?_⟩
 ·rw [show ((given+1:Nat):Int)=(given:Int)+1 by omega];simp [go_sem,c1]
 ·exact ((Kept.refl (·=b) w).setCell b 1 _ (fun _=>rfl)).row H.row (fun g hg e=>by have:=(World.ownsRow.lt H.row g hg).1;omega)
def tnPost (bb:Nat) (l':List BV) (given':Nat) (sl:Value) (w:World) (e:Ending) (w':World):Prop :=
 ∃ sl',e=.returned (.tuple #[])∧Bok bb l' given' sl' w'∧Kept (fun g=>g=bb∨sl.ownBlock=some g) w w'∧(∀ g,sl'.ownBlock=some g→sl.ownBlock=some g∨w.heap.size≤g)
theorem turn_push {bb:Nat} {l:List BV} {given:Nat} {sl:Value} {bv:BV} {w v5 wA w8:World} {g cap:Nat} (H5:Bok bb l given sl v5) (K5:Kept (·=bb) w v5) (hA:Below v5.heap.size v5 wA) (h1:brow w8 (bb+1) (.slice (some ⟨g,0,none⟩) (l.length+1) cap) (l++[bv])) (h2:wA.grownBy w8 sl.ownBlock) (h3:sl.ownBlock=some g∨g=wA.heap.size) :
  tnPost bb (l++[bv]) given sl w (.returned (.tuple #[])) (w8.setCell ⟨bb,0,none⟩ (.slice (some ⟨g,0,none⟩) (l.length+1) cap)):=by
 have hs:=K5.size
 have hz:=hA.size
 refine ⟨_,rfl,(H5.below hA).push h1 h2,?_,fun k hk=>?_⟩
 ·refine (((K5.trans (Kept.of_below hA) (fun j hj e=>absurd e (by omega))).mono (T:=fun g=>g=bb∨sl.ownBlock=some g) (fun j _ e=>.inl e)).trans (Kept.of_grown h2) (fun j _ e=>.inr e)).setCell bb 0 _ (fun _=>.inl rfl)
 ·have e:k=g:=by simp [Value.ownBlock] at hk;exact hk.symm
  subst e
  exact h3.imp id (fun e=>by omega)
theorem turnK_any (bb:Nat) (l:List BV) (given:Nat) (sl:Value) (o:StP) (ho:StFit o) (hf:BFit l) (hg:given≤100000) (w:World) (P:Bok bb l given sl w) :
  Calls Tryz.prog 39 #[.pointer (some ⟨bb,0,none⟩),o.v] w (tnPost bb (stTurn l o given) (stGiven o given) sl w):=by
 have hln:=hf.n
 have HP:Hid (Bok bb l given sl w):=P
 have hbl:=P.lt
 have hpk:pickP o.n (given+1)≤100000:=by have:=pickP_lt o.n (n:=given+1) (by omega);omega
 have PK:Hid (∀ W,Calls Tryz.prog 10 #[.int .i64 o.n,.int .i64 ((given:Int)+1)] W fun e w'=>e=.returned (.int .i64 (pickP o.n (given+1):Int))∧W=w'):=fun W=>by
  have:=pick_any o.n ho.n (given+1) (by omega) (by omega) W
  rwa [show ((given+1:Nat):Int)=(given:Int)+1 by omega] at this
 have KY:Hid (∀ W,Calls Tryz.prog 45 #[.int .i64 o.key] W fun e w'=>e=.returned (str (keyN (stI o)))∧Below W.heap.size W w'):=fun W=>keyK_any o.key ho.key W
 have CU:Hid (∀ W,Calls Tryz.prog 9 #[str o.body,.int .i64 300] W fun e w'=>e=.returned (str (o.body.take 300))∧W=w'):=fun W=>cutK_all o.body 300 (by omega) W
 have FI:Hid (∀ W,Bok bb l given sl W→Calls Tryz.prog 58 #[.pointer (some ⟨bb,0,none⟩),str (keyN (stI o)),.int .i64 (1+(pickP o.n (given+1):Int))] W fun e w'=>(∃ i,e=.returned (.int .i64 i)∧FirstOf l (keyN (stI o)) (stN o given) i)∧W=w'):=fun W hW=>by
  rw [show 1+(pickP o.n (given+1):Int)=((stN o given:Nat):Int) by unfold stN;omega]
  exact findK_any bb l given sl (keyN (stI o)) (stN o given) (by omega) W hW
 have DR:Hid (∀ (j:Nat) W,j≤1000000→Bok bb l given sl W→Calls Tryz.prog 62 #[.pointer (some ⟨bb,0,none⟩),.int .i64 (j:Int)] W fun e w'=>∃ sl',e=.returned (.tuple #[])∧Bok bb (l.eraseIdx j) given sl' w'∧Kept (·=bb) W w'∧(∀ g,sl'.ownBlock=some g→W.heap.size≤g)):=fun j W hj hW=>dropK_any bb l given sl j (by omega) hj W hW
 have HT:Hid (stTurn l o given=if o.kind=1 then l++[⟨keyN (stI o),given+1,false,o.body.take 300⟩] else if o.kind=2 then l++[⟨keyN (stI o),given+1,true,[]⟩] else if o.kind=3 then l.eraseP (isV (keyN (stI o)) (stN o given)) else l):=rfl
 have HV:Hid (stGiven o given=if o.kind=1∨o.kind=2 then given+1 else given):=rfl
 generalize stTurn l o given=l' at *
 generalize stGiven o given=given' at *
 generalize stN o given=nn at *
 generalize hpp:pickP o.n (given+1)=pp at *
 clear hpp
 have w1:IntKind.i64.wrap ((given:Int)+1)=(given:Int)+1:=by unfold IntKind.wrap;simp [IntKind.bits,IntKind.signed];omega
 have w2:IntKind.i64.wrap (1+(pp:Int))=1+(pp:Int):=by unfold IntKind.wrap;simp [IntKind.bits,IntKind.signed];omega
 have d0:(w.alloc (stC o)).cell? ⟨w.heap.size,0,none⟩=some (.int .i64 o.kind):=by simp [go_sem]
 have d1:(w.alloc (stC o)).cell? ⟨w.heap.size,1,none⟩=some (.int .i64 o.key):=by simp [go_sem]
 have d2:(w.alloc (stC o)).cell? ⟨w.heap.size,2,none⟩=some (.int .i64 o.n):=by simp [go_sem]
 have d3:(w.alloc (stC o)).cell? ⟨w.heap.size,3,none⟩=some (str o.body):=by simp [go_sem]
 have b0:Below w.heap.size w (w.alloc (stC o)):=(Below.refl _ _).alloc (Nat.le_refl _) _
 have z0:w.heap.size < (w.alloc (stC o)).heap.size:=by simp
 clear P ho hf
 obtain ⟨kd,ky,on,bo⟩:=o
 dsimp only at *
 go_enter Tryz.func39,Tryz.ntmps39
 go_wp2_with fail
 generalize hW0:w.alloc (stC ⟨kd,ky,on,bo⟩)=W0 at *
 clear hW0
 refine Calls.mono (KY.out W0) ?_
 rintro e v1 ⟨rfl,b1⟩
 have B1:=below_trans b0 b1
 have e0:=(b1.cell (p:=⟨w.heap.size,0,none⟩) z0).trans d0
 have e2:=(b1.cell (p:=⟨w.heap.size,2,none⟩) z0).trans d2
 have e3:=(b1.cell (p:=⟨w.heap.size,3,none⟩) z0).trans d3
 have z1:w.heap.size < v1.heap.size:=Nat.lt_of_lt_of_le z0 b1.size
 have g1:=(HP.out.below B1).c1
 clear b0 b1 d0 d1 d2 d3 z0
 go_wp2_with fail
 go_quiet ((go_at_call 10;exact Calls.quiet_of_same ((PK.out _).mono (fun e w' h=>⟨h.1,h.2.symm⟩))))
 have B2:Below w.heap.size w (v1.drewN nq):=below_trans B1 ⟨rfl,rfl,rfl,Nat.le_refl _,fun _ _=>rfl⟩
 have f0:(v1.drewN nq).cell? ⟨w.heap.size,0,none⟩=some (.int .i64 kd):=e0
 have f3:(v1.drewN nq).cell? ⟨w.heap.size,3,none⟩=some (str bo):=e3
 have z2:w.heap.size < (v1.drewN nq).heap.size:=z1
 generalize v1.drewN nq=v2 at *
 clear e0 e2 e3 z1 g1 B1 KY PK
 generalize keyN (stI ⟨kd,ky,on,bo⟩)=kk at *
 have H2:Hid (Bok bb l given sl v2):=HP.out.below B2
 have g0:=H2.out.c0;have g1:=H2.out.c1;have gf:=H2.out.fz
 by_cases h1:kd=1
 ·subst h1
  rw [if_pos rfl] at HT
  rw [if_pos (.inl rfl)] at HV
  clear FI DR
  go_wp2_with fail
  have H3:Hid (Bok bb l (given+1) sl (v2.setCell ⟨bb,1,none⟩ (.int .i64 ((given:Int)+1)))):=H2.out.bump
  have K3:Hid (Kept (·=bb) w (v2.setCell ⟨bb,1,none⟩ (.int .i64 ((given:Int)+1)))):=((Kept.of_below B2).mono (fun g hg e=>absurd hg (by omega))).setCell bb 1 _ (fun _=>rfl)
  have q0:(v2.setCell ⟨bb,1,none⟩ (.int .i64 ((given:Int)+1))).cell? ⟨w.heap.size,0,none⟩=some (.int .i64 1):=((Kept.refl (·=bb) v2).setOwn 1 _).cell f0 (show ¬ w.heap.size=bb by omega)
  have q3:(v2.setCell ⟨bb,1,none⟩ (.int .i64 ((given:Int)+1))).cell? ⟨w.heap.size,3,none⟩=some (str bo):=((Kept.refl (·=bb) v2).setOwn 1 _).cell f3 (show ¬ w.heap.size=bb by omega)
  have q1:(v2.setCell ⟨bb,1,none⟩ (.int .i64 ((given:Int)+1))).cell? ⟨bb,1,none⟩=some (.int .i64 ((given:Int)+1)):=by simp [go_sem,g1]
  have z3:w.heap.size < (v2.setCell ⟨bb,1,none⟩ (.int .i64 ((given:Int)+1))).heap.size:=by simpa using z2
  generalize v2.setCell ⟨bb,1,none⟩ (.int .i64 ((given:Int)+1))=v3 at *
  clear f0 f3 z2 g0 g1 gf H2 B2
  have a0:∀ ob,(v3.alloc ob).cell? ⟨w.heap.size,0,none⟩=some (.int .i64 1):=fun ob=>cell_alloc q0 ob
  have a1:∀ ob,(v3.alloc ob).cell? ⟨bb,1,none⟩=some (.int .i64 ((given:Int)+1)):=fun ob=>cell_alloc q1 ob
  go_region
  have b34:Below v3.heap.size v3 (v3.alloc (.cells #[str kk,.int .i64 ((given:Int)+1),.bool false,str []] 120)).drew:=((Below.refl _ _).alloc (Nat.le_refl _) _).drew
  have H4:Hid (Bok bb l (given+1) sl (v3.alloc (.cells #[str kk,.int .i64 ((given:Int)+1),.bool false,str []] 120)).drew):=H3.out.below b34
  have r0:=(b34.cell (p:=⟨w.heap.size,0,none⟩) z3).trans q0
  have r3:=(b34.cell (p:=⟨w.heap.size,3,none⟩) z3).trans q3
  have x0:(v3.alloc (.cells #[str kk,.int .i64 ((given:Int)+1),.bool false,str []] 120)).drew.cell? ⟨v3.heap.size,0,none⟩=some (str kk):=by simp [go_sem]
  have x1:(v3.alloc (.cells #[str kk,.int .i64 ((given:Int)+1),.bool false,str []] 120)).drew.cell? ⟨v3.heap.size,1,none⟩=some (.int .i64 ((given:Int)+1)):=by simp [go_sem]
  have x2:(v3.alloc (.cells #[str kk,.int .i64 ((given:Int)+1),.bool false,str []] 120)).drew.cell? ⟨v3.heap.size,2,none⟩=some (.bool false):=by simp [go_sem]
  have x3:(v3.alloc (.cells #[str kk,.int .i64 ((given:Int)+1),.bool false,str []] 120)).drew.cell? ⟨v3.heap.size,3,none⟩=some (str []):=by simp [go_sem]
  have xf:∀ j:Nat,(v3.alloc (.cells #[str kk,.int .i64 ((given:Int)+1),.bool false,str []] 120)).drew.frozen? ⟨v3.heap.size,j,none⟩=false:=fun j=>by simp [go_sem]
  have K4:Hid (Kept (·=bb) w (v3.alloc (.cells #[str kk,.int .i64 ((given:Int)+1),.bool false,str []] 120)).drew):=(K3.out.alloc _).drew
  have hb3:=H3.out.lt
  have HV3:Hid (∀ g,sl.ownBlock=some g→g < v3.heap.size):=fun g hg=>(World.ownsRow.lt H3.out.row g hg).2
  have z4:v3.heap.size < (v3.alloc (.cells #[str kk,.int .i64 ((given:Int)+1),.bool false,str []] 120)).drew.heap.size:=by show _ < (v3.alloc _).heap.size;simp
  generalize (v3.alloc (.cells #[str kk,.int .i64 ((given:Int)+1),.bool false,str []] 120)).drew=v4 at *
  have hs3:=K3.out.size
  clear b34 H3 K3 q0 q1 q3 a0 a1
  go_wp2_with (go_at_call 9;refine Calls.mono (CU.out _) ?_;rintro e v5 ⟨rfl,rfl⟩)
  have H5:Hid (Bok bb l (given+1) sl (v4.setCell ⟨v3.heap.size,3,none⟩ (str (bo.take 300)))):=H4.out.kept ((Kept.refl (·=v3.heap.size) v4).setOwn 3 _) (show ¬ bb=v3.heap.size by omega) (fun g hg e=>by have:=HV3.out g hg;omega)
  have K5:Hid (Kept (·=bb) w (v4.setCell ⟨v3.heap.size,3,none⟩ (str (bo.take 300)))):=K4.out.setCell v3.heap.size 3 _ (fun hlt=>absurd hlt (by omega))
  have y0:(v4.setCell ⟨v3.heap.size,3,none⟩ (str (bo.take 300))).cell? ⟨v3.heap.size,0,none⟩=some (str kk):=by simp [go_sem,x0]
  have y1:(v4.setCell ⟨v3.heap.size,3,none⟩ (str (bo.take 300))).cell? ⟨v3.heap.size,1,none⟩=some (.int .i64 ((given:Int)+1)):=by simp [go_sem,x1]
  have y2:(v4.setCell ⟨v3.heap.size,3,none⟩ (str (bo.take 300))).cell? ⟨v3.heap.size,2,none⟩=some (.bool false):=by simp [go_sem,x2]
  have y3:(v4.setCell ⟨v3.heap.size,3,none⟩ (str (bo.take 300))).cell? ⟨v3.heap.size,3,none⟩=some (str (bo.take 300)):=by simp [go_sem,x3]
  generalize v4.setCell ⟨v3.heap.size,3,none⟩ (str (bo.take 300))=v5 at *
  clear H4 K4 x0 x1 x2 x3 xf r0 r3 z4
  have c0:=H5.out.c0
  have f5:=H5.out.fz 0
  have hb5:=H5.out.lt
  have rowA:=H5.out.row
  generalize bo.take 300=yb at *
  have HVB:Hid (∀ g,sl.ownBlock=some g→g≠bb):=fun g hg=>by have:=(World.ownsRow.lt H5.out.row g hg).1;omega
  go_region_law
   (refine bapp_step rfl _ _ rfl (bb+1) l ⟨kk,given+1,false,yb⟩ sl rfl (by first|exact rowA.alloc _|exact (World.ownsRow.drew rowA).alloc _) _ rfl _ (heap_alloc_new _ _) (by omega) (by simp;omega) ?_;intro g cap w8 row8 g8 h8;have cV8:=(Kept.of_grown g8).cell (a:=⟨bb,0,none⟩) (by first|exact cell_alloc c0 _|exact cell_alloc (w:=v5.drew) c0 _) (fun e=>HVB.out bb e rfl);have fV8:=(Kept.of_grown g8).frozen (a:=⟨bb,0,none⟩) (by simp;omega) ((Kept.of_grown (World.grownBy_alloc _ _ none)).frozen (a:=⟨bb,0,none⟩) (show bb < _ by first|exact hb5|omega) f5 (by simp)) (fun e=>HVB.out bb e rfl))
  all_goals (
   have FIN:Hid (tnPost bb (l++[⟨kk,given+1,false,yb⟩]) (given+1) sl w (.returned (.tuple #[])) (w8.setCell ⟨bb,0,none⟩ (.slice (some ⟨g,0,none⟩) (l.length+1) cap))):=turn_push H5.out K5.out (by first|exact ((Below.refl _ _).alloc (Nat.le_refl _) _)|exact ((Below.refl _ _).alloc (Nat.le_refl _) _).drew|exact ((Below.refl _ v5).drew.alloc (Nat.le_refl _) _)) row8 g8 h8
   clear row8 g8 h8 cV8 fV8 H5 K5
   go_wp2
   go_end0
   rw [HT.out,HV.out]
   exact FIN.out)
 rw [if_neg h1] at HT
 by_cases h2:kd=2
 ·subst h2
  rw [if_pos rfl] at HT
  rw [if_pos (.inr rfl)] at HV
  clear FI DR
  go_wp2_with fail
  have H3:Hid (Bok bb l (given+1) sl (v2.setCell ⟨bb,1,none⟩ (.int .i64 ((given:Int)+1)))):=H2.out.bump
  have K3:Hid (Kept (·=bb) w (v2.setCell ⟨bb,1,none⟩ (.int .i64 ((given:Int)+1)))):=((Kept.of_below B2).mono (fun g hg e=>absurd hg (by omega))).setCell bb 1 _ (fun _=>rfl)
  have q0:(v2.setCell ⟨bb,1,none⟩ (.int .i64 ((given:Int)+1))).cell? ⟨w.heap.size,0,none⟩=some (.int .i64 2):=((Kept.refl (·=bb) v2).setOwn 1 _).cell f0 (show ¬ w.heap.size=bb by omega)
  have q3:(v2.setCell ⟨bb,1,none⟩ (.int .i64 ((given:Int)+1))).cell? ⟨w.heap.size,3,none⟩=some (str bo):=((Kept.refl (·=bb) v2).setOwn 1 _).cell f3 (show ¬ w.heap.size=bb by omega)
  have q1:(v2.setCell ⟨bb,1,none⟩ (.int .i64 ((given:Int)+1))).cell? ⟨bb,1,none⟩=some (.int .i64 ((given:Int)+1)):=by simp [go_sem,g1]
  have z3:w.heap.size < (v2.setCell ⟨bb,1,none⟩ (.int .i64 ((given:Int)+1))).heap.size:=by simpa using z2
  generalize v2.setCell ⟨bb,1,none⟩ (.int .i64 ((given:Int)+1))=v3 at *
  clear f0 f3 z2 g0 g1 gf H2 B2
  have a0:∀ ob,(v3.alloc ob).cell? ⟨w.heap.size,0,none⟩=some (.int .i64 2):=fun ob=>cell_alloc q0 ob
  have a1:∀ ob,(v3.alloc ob).cell? ⟨bb,1,none⟩=some (.int .i64 ((given:Int)+1)):=fun ob=>cell_alloc q1 ob
  go_region
  have b34:Below v3.heap.size v3 (v3.alloc (.cells #[str kk,.int .i64 ((given:Int)+1),.bool true,str []] 120)).drew:=((Below.refl _ _).alloc (Nat.le_refl _) _).drew
  have H4:Hid (Bok bb l (given+1) sl (v3.alloc (.cells #[str kk,.int .i64 ((given:Int)+1),.bool true,str []] 120)).drew):=H3.out.below b34
  have r0:=(b34.cell (p:=⟨w.heap.size,0,none⟩) z3).trans q0
  have r3:=(b34.cell (p:=⟨w.heap.size,3,none⟩) z3).trans q3
  have x0:(v3.alloc (.cells #[str kk,.int .i64 ((given:Int)+1),.bool true,str []] 120)).drew.cell? ⟨v3.heap.size,0,none⟩=some (str kk):=by simp [go_sem]
  have x1:(v3.alloc (.cells #[str kk,.int .i64 ((given:Int)+1),.bool true,str []] 120)).drew.cell? ⟨v3.heap.size,1,none⟩=some (.int .i64 ((given:Int)+1)):=by simp [go_sem]
  have x2:(v3.alloc (.cells #[str kk,.int .i64 ((given:Int)+1),.bool true,str []] 120)).drew.cell? ⟨v3.heap.size,2,none⟩=some (.bool true):=by simp [go_sem]
  have x3:(v3.alloc (.cells #[str kk,.int .i64 ((given:Int)+1),.bool true,str []] 120)).drew.cell? ⟨v3.heap.size,3,none⟩=some (str []):=by simp [go_sem]
  have xf:∀ j:Nat,(v3.alloc (.cells #[str kk,.int .i64 ((given:Int)+1),.bool true,str []] 120)).drew.frozen? ⟨v3.heap.size,j,none⟩=false:=fun j=>by simp [go_sem]
  have K4:Hid (Kept (·=bb) w (v3.alloc (.cells #[str kk,.int .i64 ((given:Int)+1),.bool true,str []] 120)).drew):=(K3.out.alloc _).drew
  have hb3:=H3.out.lt
  have HV3:Hid (∀ g,sl.ownBlock=some g→g < v3.heap.size):=fun g hg=>(World.ownsRow.lt H3.out.row g hg).2
  have z4:v3.heap.size < (v3.alloc (.cells #[str kk,.int .i64 ((given:Int)+1),.bool true,str []] 120)).drew.heap.size:=by show _ < (v3.alloc _).heap.size;simp
  generalize (v3.alloc (.cells #[str kk,.int .i64 ((given:Int)+1),.bool true,str []] 120)).drew=v4 at *
  have hs3:=K3.out.size
  clear b34 H3 K3 q0 q1 q3 a0 a1
  go_wp2_with fail
  have H5:Hid (Bok bb l (given+1) sl v4):=H4.out
  have K5:Hid (Kept (·=bb) w v4):=K4.out
  obtain ⟨yb,HYB⟩:∃ yb:Tx,Hid (yb=[]):=⟨[],rfl⟩
  have y3:v4.cell? ⟨v3.heap.size,3,none⟩=some (str yb):=by rw [HYB.out];exact x3
  generalize v4=v5 at *
  clear H4 K4 x3 xf r0 r3 z4
  have c0:=H5.out.c0
  have f5:=H5.out.fz 0
  have hb5:=H5.out.lt
  have rowA:=H5.out.row
  have HVB:Hid (∀ g,sl.ownBlock=some g→g≠bb):=fun g hg=>by have:=(World.ownsRow.lt H5.out.row g hg).1;omega
  go_region_law
   (refine bapp_step rfl _ _ rfl (bb+1) l ⟨kk,given+1,true,yb⟩ sl rfl (by first|exact rowA.alloc _|exact (World.ownsRow.drew rowA).alloc _) _ rfl _ (heap_alloc_new _ _) (by omega) (by simp;omega) ?_;intro g cap w8 row8 g8 h8;have cV8:=(Kept.of_grown g8).cell (a:=⟨bb,0,none⟩) (by first|exact cell_alloc c0 _|exact cell_alloc (w:=v5.drew) c0 _) (fun e=>HVB.out bb e rfl);have fV8:=(Kept.of_grown g8).frozen (a:=⟨bb,0,none⟩) (by simp;omega) ((Kept.of_grown (World.grownBy_alloc _ _ none)).frozen (a:=⟨bb,0,none⟩) (show bb < _ by first|exact hb5|omega) f5 (by simp)) (fun e=>HVB.out bb e rfl))
  all_goals (
   have FIN:Hid (tnPost bb (l++[⟨kk,given+1,true,yb⟩]) (given+1) sl w (.returned (.tuple #[])) (w8.setCell ⟨bb,0,none⟩ (.slice (some ⟨g,0,none⟩) (l.length+1) cap))):=turn_push H5.out K5.out (by first|exact ((Below.refl _ _).alloc (Nat.le_refl _) _)|exact ((Below.refl _ _).alloc (Nat.le_refl _) _).drew|exact ((Below.refl _ v5).drew.alloc (Nat.le_refl _) _)) row8 g8 h8
   clear row8 g8 h8 cV8 fV8 H5 K5
   go_wp2
   go_end0
   rw [HT.out,HV.out,← HYB.out]
   exact FIN.out)
 rw [if_neg h2] at HT
 rw [if_neg (by rintro (e | e)
                · exact h1 e
                · exact h2 e)] at HV
 have KK:Hid (∀ W,Kept (·=bb) v2 W→Kept (fun g=>g=bb∨sl.ownBlock=some g) w W):=fun W k=>((Kept.of_below B2).mono (fun g hg e=>absurd hg (by omega))).trans k (fun j _ e=>.inl e)
 by_cases h3:kd=3
 ·subst h3
  rw [if_pos rfl] at HT
  go_wp2_with fail
  refine Calls.mono (FI.out v2 H2.out) ?_
  rintro e v3 ⟨⟨i,rfl,hf⟩,rfl⟩
  rcases hf with ⟨hf,rfl⟩|⟨j,hj,rfl,hf,he⟩
  ·have HE:Hid (l'=l):=by
    show _=_
    rw [HT.out,List.eraseP_of_forall_not]
    intro v hv hc
    exact List.find?_eq_none.1 hf v hv hc
   clear hf DR
   go_wp2
   go_end0
   rw [HE.out,HV.out]
   exact ⟨sl,rfl,H2.out,KK.out _ (Kept.refl _ _),fun g hg=>.inl hg⟩
  ·have D2:Hid (_):=DR.out j v2 (by omega) H2.out
   have HE:Hid (l'=l.eraseIdx j):=HT.out.trans he
   clear hf he DR
   go_wp2_with fail
   refine Calls.mono D2.out ?_
   rintro e v4 ⟨sl',rfl,H4,K4,o4⟩
   have hs2:=B2.size
   go_wp2
   go_end0
   rw [HE.out,HV.out]
   exact ⟨sl',rfl,H4,KK.out _ K4,fun g hg=>.inr (by have:=o4 g hg;omega)⟩
 ·rw [if_neg h3] at HT
  have k1:(kd == 1)=false:=by simpa using h1
  have k2:(kd == 2)=false:=by simpa using h2
  have k3:(kd == 3)=false:=by simpa using h3
  clear FI DR
  go_wp2
  go_end0
  rw [HT.out,HV.out]
  exact ⟨sl,rfl,H2.out,KK.out _ (Kept.refl _ _),fun g hg=>.inl hg⟩
structure Old (M h a:Nat) (w:World):Prop where
 hh:h < M
 ha:a < M
 hu:∀ ua n uc,w.cell? ⟨a,0,none⟩=some (.slice ua n uc)→∀ p,ua=some p→p.block < M
theorem LS.keptO {S:Nat→Prop} {a b M h:Nat} {us:Us} {clock:Nat} {s:Sto} {r:Roles} {w w':World} (L:LS a b us clock s r w) (O:Old M h a w) (k:Kept S w w') (hs:∀ g,S g→r g=.none∧M≤g):LS a b us clock s r w' where
 l0:=by
  obtain ⟨ua,uc,e,hU,hr⟩:=L.l0
  exact ⟨ua,uc,k.cell e (show ¬ S a from fun hS=>by have:=(hs a hS).2;have:=O.ha;omega),hU.kept k (fun p hp hS=>by have:=(hs _ hS).2;have:=O.hu ua _ uc e p hp;omega),fun p hp=>⟨(hr p hp).1,Nat.lt_of_lt_of_le (hr p hp).2 k.size⟩⟩
 l1:=k.cell L.l1 (show ¬ S a from fun hS=>by have:=(hs a hS).2;have:=O.ha;omega)
 l2:=k.cell L.l2 (show ¬ S a from fun hS=>by have:=(hs a hS).2;have:=O.ha;omega)
 ra:=L.ra
 al:=Nat.lt_of_lt_of_le L.al k.size
 K:=L.K.kept k (fun g e hS=>e (hs g hS).1)
 sz:=Nat.le_trans L.sz k.size
 rN:=L.rN
 F:=L.F
 hu:=L.hu
 ul:=L.ul
 un:=L.un
 cl:=L.cl
theorem Old.kept {S:Nat→Prop} {a b M h:Nat} {us:Us} {clock:Nat} {s:Sto} {r:Roles} {w w':World} (O:Old M h a w) (L:LS a b us clock s r w) (k:Kept S w w') (hs:¬ S a):Old M h a w' :=
 ⟨O.hh,O.ha,fun ua n uc e=>by
  obtain ⟨ua',uc',e',_⟩:=L.l0
  have:=k.cell e' hs
  have e2:=Option.some.inj (this.symm.trans e)
  cases e2
  exact O.hu _ _ _ e'⟩
structure PB (N h a b bb:Nat) (s:Sto) (l:List BV) (sl:Value) (room:Nat) (r:Roles) (w:World):Prop where
 P:PS h a b bb s l sl room r w
 O:Old bb h a w
 hr:∀ g,r g≠.none→N≤g
 hb:N≤bb
theorem PB.below {N h a b bb:Nat} {s:Sto} {l:List BV} {sl:Value} {room:Nat} {r:Roles} {w w':World} (P:PB N h a b bb s l sl room r w) (k:Below w.heap.size w w'):PB N h a b bb s l sl room r w' :=
 ⟨P.P.below k,P.O.kept P.P.H.L (Kept.of_below k) (by have:=P.P.H.L.al;omega),P.hr,P.hb⟩
theorem Step.base {N:Nat} {r r':Roles} {w w':World} (st:Step r w r' w') (hr:∀ g,r g≠.none→N≤g) (hN:N≤w.heap.size):(∀ g,r' g≠.none→N≤g)∧Below N w w' :=
 ⟨fun g e=>by
  rcases Nat.lt_or_ge g w.heap.size with hl|hl
  ·exact hr g (st.mine g hl e)
  ·omega,st.kept.below hN hr⟩
theorem playK_any (N h a b bb:Nat) (s:Sto) (l:List BV) (sl:Value) (room:Nat) (r:Roles) (o:StP) (ho:StFit o) (X:Nat×Hs×Tx×Sto) (hX:AskQ s (stAsk o s.last).1 (stAsk o s.last).2.1 (stAsk o s.last).2.2 X) (hrm:room≤1000000) (w:World) (G:GL w) (P:PB N h a b bb s l sl room r w) :
  Calls Tryz.prog 20 #[.pointer (some ⟨bb,0,none⟩),.pointer (some ⟨h,0,none⟩),o.v,.int .i64 (room:Int)] w fun e w'=>∃ l' sl' r',e=.returned (.bool true)∧PB N h a b bb X.2.2.2 l' sl' room r' w'∧Below N w w':=by
 have b0:Below w.heap.size w (w.alloc (stC o)):=(Below.refl _ _).alloc (Nat.le_refl _) _
 have d0:(w.alloc (stC o)).cell? ⟨w.heap.size,0,none⟩=some (.int .i64 o.kind):=by simp [go_sem]
 have d1:(w.alloc (stC o)).cell? ⟨w.heap.size,1,none⟩=some (.int .i64 o.key):=by simp [go_sem]
 have d2:(w.alloc (stC o)).cell? ⟨w.heap.size,2,none⟩=some (.int .i64 o.n):=by simp [go_sem]
 have d3:(w.alloc (stC o)).cell? ⟨w.heap.size,3,none⟩=some (str o.body):=by simp [go_sem]
 have z0:w.heap.size < (w.alloc (stC o)).heap.size:=by simp
 have HP0:Hid (PB N h a b bb s l sl room r (w.alloc (stC o))):=P.below b0
 have hrn:r w.heap.size=.none:=P.P.H.L.new
 have hN:N≤w.heap.size:=Nat.le_trans P.hb (Nat.le_of_lt P.P.B.lt)
 have FU:Hid (_):=full_any h a b s r room hrm (w.alloc (stC o)) HP0.out.P.H
 have SP:Hid (Calls Tryz.prog 38 #[.pointer (some ⟨bb,0,none⟩),.pointer (some ⟨h,0,none⟩),o.v] (w.alloc (stC o)) fun e w'=>∃ r',e=.returned (.tuple #[str (ansT X),str (stWant l o s.last)])∧HS h a b X.2.2.2 r' w'∧Step r (w.alloc (stC o)) r' w'∧Bok bb l s.last sl w'):=stepK_any h a b bb s l sl room r o ho X hX (w.alloc (stC o)) (G.call b0) HP0.out.P
 have hE:=step_ends P.P.K o hX
 have hgv:s.last≤100000:=by have:=P.P.K.F.last;have:=P.P.K.F.log;omega
 have TN:Hid (∀ W,Bok bb l s.last sl W→Calls Tryz.prog 39 #[.pointer (some ⟨bb,0,none⟩),o.v] W (tnPost bb (stTurn l o s.last) (stGiven o s.last) sl W)):=fun W hW=>turnK_any bb l s.last sl o ho (bk_fit P.P.K) hgv W hW
 have B0:Hid (Below N w (w.alloc (stC o))):=(Below.refl N w).alloc hN _
 have S2:Hid (∀ r' w',HS h a b X.2.2.2 r' w'→Step r (w.alloc (stC o)) r' w'→Bok bb l s.last sl w'→Old bb h a w'∧(∀ g,r' g≠.none→N≤g)∧Below N w w'∧r' bb=.none∧(∀ g,sl.ownBlock=some g→r' g=.none)∧w.heap.size < w'.heap.size):=fun r' w' H2 st B2=>by
  have hb0:=HP0.out.P.B.lt
  obtain ⟨e1,e2⟩:=st.base HP0.out.hr (by have:=z0;omega)
  exact ⟨HP0.out.O.kept HP0.out.P.H.L st.kept (by simp [HP0.out.P.H.L.ra]),e1,B0.out.trans e2,st.none hb0 HP0.out.P.rb,fun g hg=>st.none (World.ownsRow.lt HP0.out.P.B.row g hg).2 (HP0.out.P.rr g hg),Nat.lt_of_lt_of_le z0 st.kept.size⟩
 clear hX G
 have HPP:Hid (PB N h a b bb s l sl room r w):=P
 clear P
 obtain ⟨kd,ky,on,bo⟩:=o
 dsimp only at *
 have hk4:kd=1∨kd=2∨kd=3∨(kd≠1∧kd≠2∧kd≠3):=by omega
 rcases hE with ⟨ha,hs,hroom,hc,hw⟩|⟨ha,hw,hK,hl⟩
 ·have tw:(stWant l ⟨kd,ky,on,bo⟩ s.last == [52,48,52,32,78,111,110,101,10,10])=false:=by rw [← noneT];simpa using hw
  rw [ha,lacksT] at SP
  rw [decide_eq_true (by omega)] at FU
  generalize stWant l ⟨kd,ky,on,bo⟩ s.last=want at *
  unfold stChg at hc
  dsimp only at hc
  rcases hc with rfl|rfl|rfl
  all_goals (
   go_enter Tryz.func20,Tryz.ntmps20
   go_wp2_with fail
   refine Calls.mono FU.out ?_
   rintro e v1 ⟨rfl,rfl⟩
   go_wp2_with fail
   refine Calls.mono SP.out ?_
   rintro e v2 ⟨r',rfl,H2,st2,K2⟩
   have q0:=st2.kept.cell d0 (by simp [hrn])
   have q1:=st2.kept.cell d1 (by simp [hrn])
   have q2:=st2.kept.cell d2 (by simp [hrn])
   have q3:=st2.kept.cell d3 (by simp [hrn])
   obtain ⟨O2,R2,BB2,rb2,rr2,_⟩:=S2.out r' v2 H2 st2 K2
   have FIN:Hid (PB N h a b bb X.2.2.2 l sl room r' v2∧Below N w v2):=by
    rw [hs] at H2 ⊢
    exact ⟨⟨⟨H2,K2,HPP.out.P.K,rb2,rr2⟩,O2,R2,HPP.out.hb⟩,BB2⟩
   clear S2 TN st2 H2 K2 O2 R2 BB2 rb2 rr2 HP0 HPP
   go_wp2
   go_ret
   exact ⟨l,sl,r',rfl,FIN.out.1,FIN.out.2⟩)
 ·have tl:(ansT X == [53,48,55,32,70,117,108,108,10,10])=false:=by rw [← lacksT,ha];simpa using hw
  rw [← ha] at SP
  clear ha hw
  generalize ansT X=xt at *
  generalize decide (room < s.log.length+330)=fb at *
  have kf:(kd=1∨kd=2∨kd=3)∨((kd == 1)=false∧(kd == 2)=false∧(kd == 3)=false):=by
   rcases hk4 with e|e|e|⟨e1,e2,e3⟩
   ·exact .inl (.inl e)
   ·exact .inl (.inr (.inl e))
   ·exact .inl (.inr (.inr e))
   ·exact .inr ⟨by simpa using e1,by simpa using e2,by simpa using e3⟩
  clear hk4
  rcases kf with (rfl|rfl|rfl)|⟨k1,k2,k3⟩
  all_goals (
   go_enter Tryz.func20,Tryz.ntmps20
   go_wp2_with fail
   refine Calls.mono FU.out ?_
   rintro e v1 ⟨rfl,rfl⟩
   go_wp2_with fail
   refine Calls.mono SP.out ?_
   rintro e v2 ⟨r',rfl,H2,st2,K2⟩
   have q0:=st2.kept.cell d0 (by simp [hrn])
   have q1:=st2.kept.cell d1 (by simp [hrn])
   have q2:=st2.kept.cell d2 (by simp [hrn])
   have q3:=st2.kept.cell d3 (by simp [hrn])
   obtain ⟨O2,R2,BB2,rb2,rr2,hz2⟩:=S2.out r' v2 H2 st2 K2
   have T2:Hid (_):=TN.out v2 K2
   have HH2:Hid (HS h a b X.2.2.2 r' v2):=H2
   have HK2:Hid (Bok bb l s.last sl v2):=K2
   have NEW:Hid (∀ g,v2.heap.size≤g→r' g=.none):=fun g hg=>by
    cases e:r' g with
    | none=>rfl
    | _=>have:=H2.L.K.dom g (by rw [e];simp);omega
   clear S2 TN st2 H2 K2 HP0
   go_wp2_with fail
   refine Calls.mono T2.out ?_
   rintro e v3 ⟨sl',rfl,B3,K3,o3⟩
   have FIN:Hid (∃ l' sl' r',PB N h a b bb X.2.2.2 l' sl' room r' v3∧Below N w v3):=by
    have hS:∀ g,(g=bb∨sl.ownBlock=some g)→r' g=.none∧bb≤g:=fun g hg=>by
     rcases hg with rfl|hg
     ·exact ⟨rb2,Nat.le_refl _⟩
     ·exact ⟨rr2 g hg,by have:=(World.ownsRow.lt HK2.out.row g hg).1;omega⟩
    have hna:∀ k,k < bb→¬ (k=bb∨sl.ownBlock=some k):=fun k hk hg=>by have:=(hS k hg).2;omega
    have L3:=HH2.out.L.keptO O2 K3 hS
    have O3:=O2.kept HH2.out.L K3 (hna a O2.ha)
    refine ⟨_,sl',r',⟨⟨⟨K3.cell HH2.out.c (hna h O2.hh),HH2.out.rh,Nat.lt_of_lt_of_le HH2.out.hl K3.size,L3⟩,?_,hK,rb2,fun g hg=>?_⟩,O3,R2,HPP.out.hb⟩,BB2.trans (K3.below (by have:=HPP.out.hb;have:=HK2.out.lt;omega) (fun g hg=>by have:=(hS g hg).2;have:=HPP.out.hb;omega))⟩
    ·rw [hl];exact B3
    ·rcases o3 g hg with e|e
     ·exact rr2 g e
     ·exact NEW.out g e
   clear B3 K3 o3 HK2 HH2 T2 O2 R2 BB2 rb2 rr2 HPP NEW
   go_wp2
   go_ret
   obtain ⟨l',sl2,r2,F1,F2⟩:=FIN.out
   exact ⟨l',sl2,r2,by simp,F1,F2⟩)
end Go.Proofs.YtbllcgibmgbnjaaGreatDoor.P
