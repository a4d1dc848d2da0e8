import Derived.Test.YtbllcgibmgbnjaaGreatDoorShelf
import Derived.Test.YtbllcgibmgbnjaaGreatDoorM02
import Derived.Test.YtbllcgibmgbnjaaGreatDoorM03
import Derived.Test.YtbllcgibmgbnjaaGreatDoorM04
import Derived.Test.YtbllcgibmgbnjaaGreatDoorM05
import Derived.Test.YtbllcgibmgbnjaaGreatDoorM06
import Derived.Test.YtbllcgibmgbnjaaGreatDoorM07
import Derived.Test.YtbllcgibmgbnjaaGreatDoorM08
import Derived.Test.YtbllcgibmgbnjaaGreatDoorM09
import Derived.Test.YtbllcgibmgbnjaaGreatDoorM10
import Derived.Test.YtbllcgibmgbnjaaGreatDoorM11
import Derived.Test.YtbllcgibmgbnjaaGreatDoorM12
import Derived.Test.YtbllcgibmgbnjaaGreatDoorM13
import Derived.Test.YtbllcgibmgbnjaaGreatDoorM14
import Derived.Test.YtbllcgibmgbnjaaGreatDoorM15
import Derived.Test.YtbllcgibmgbnjaaGreatDoorM16
import Derived.Test.YtbllcgibmgbnjaaGreatDoorM17
import Derived.Test.YtbllcgibmgbnjaaGreatDoorM18
import Derived.Test.YtbllcgibmgbnjaaGreatDoorM19
import Derived.Test.YtbllcgibmgbnjaaGreatDoorM20
import Derived.Test.YtbllcgibmgbnjaaGreatDoorM21
import Derived.Test.YtbllcgibmgbnjaaGreatDoorM22
import Derived.Test.YtbllcgibmgbnjaaGreatDoorM23
import Derived.Test.YtbllcgibmgbnjaaGreatDoorM24
import Derived.Test.YtbllcgibmgbnjaaGreatDoorM25
import Derived.Test.YtbllcgibmgbnjaaGreatDoorM26
import Derived.Test.YtbllcgibmgbnjaaGreatDoorM27
import Derived.Test.YtbllcgibmgbnjaaGreatDoorM28
import Derived.Deep.QuietTactic
import Derived.BigQuiet
set_option maxHeartbeats 2000000
namespace Go.Proofs.YtbllcgibmgbnjaaGreatDoor.P
open Go.Proofs.YtbllcgibmgbnjaaGreatDoor.C (enc dec dec_enc enc1 plainB enc_cons enc_nil enc_len hexD)
structure BK (s:Sto) (l:List BV) (room:Nat):Prop where
 b:s.bk tBkt=some ⟨tAl,[],[]⟩
 v:∀ k,s.vs tBkt k=vsOf l k
 ks:∀ v∈l,∃ i,i < 4∧v.key=keyN i
 y:∀ v∈l,v.body.length≤300
 n:l.length≤s.last
 r:s.room=room
 K:Keys s
 F:Fine s
abbrev AskQ (s:Sto) (m tg y:Tx) (X:Nat×Hs×Tx×Sto):Prop:=RespQ two 5000 s (headT tAl sAl 5000 m tg y) X
abbrev ansT (X:Nat×Hs×Tx×Sto):Tx:=respT X.1 X.2.1 X.2.2.1
theorem done_of {s t:Sto} {c:Chg} (h:s.begin c=.ok t):(s.done c=(507,s)∧s.room < s.log.length+(frameT c.text).length)∨s.done c=(200,{ t with log:=s.log++frameT c.text }):=by
 unfold Sto.done;rw [h];simp only
 by_cases hl:s.log.length+(frameT c.text).length≤s.room
 ·rw [if_pos hl];exact .inr rfl
 ·rw [if_neg hl];exact .inl ⟨rfl,by omega⟩
theorem serve5 (s:Sto) (k y:Tx):serveP s tAl ⟨5,sPut,tBkt,k,y,0,[],[],10⟩=((s.done (.put tBkt k y)).1,[(tVersion,Lib.itoa ((s.done (.put tBkt k y)).2.last:Int))],[],(s.done (.put tBkt k y)).2):=rfl
theorem serve7 (s:Sto) (k:Tx):serveP s tAl ⟨7,sDelete,tBkt,k,[],0,[],[],10⟩=((s.done (.mark tBkt k)).1,[(tVersion,Lib.itoa ((s.done (.mark tBkt k)).2.last:Int))],[],(s.done (.mark tBkt k)).2):=rfl
theorem serve6 (s:Sto) (k:Tx) (n:Nat):serveP s tAl ⟨6,sGet,tBkt,k,[],n,[],[],10⟩=getP s ⟨6,sGet,tBkt,k,[],n,[],[],10⟩:=rfl
end Go.Proofs.YtbllcgibmgbnjaaGreatDoor.P
namespace Go.Proofs.YtbllcgibmgbnjaaGreatDoor.P
open Go.RowKit
open Go.Proofs.YtbllcgibmgbnjaaGreatDoor.C (ret_bool ret_int ret_str enc enc_len)
theorem alQ_any (h a b:Nat) (s:Sto) (r:Roles) (m tg y:Tx) (h1:m.length≤1000) (h2:tg.length≤1000000000000000) (h4:y.length≤1000000) (X:Nat×Hs×Tx×Sto) (hX:AskQ s m tg y X) (Ks:Keys s) (w:World) (G:GL w) (H:HS h a b s r w) (hl:(headT tAl sAl 5000 m tg y).length≤9223372036854775807) :
  Calls Tryz.prog 25 #[.pointer (some ⟨h,0,none⟩),str m,str tg,str y] w fun e w'=>∃ r',e=.returned (str (ansT X))∧HS h a b X.2.2.2 r' w'∧Step r w r' w':=by
 have BH:Hid (Calls Tryz.prog 14 #[str tAl,str sAl,.int .i64 5000,str m,str tg,str y] w.drew fun e w'=>(e=.returned (str (headT tAl sAl 5000 m tg y))∧Below w.drew.heap.size w.drew w')∧w'.cell? ⟨h,0,none⟩=some (.pointer (some ⟨a,0,none⟩))):=Calls.mono (byHeader_any tAl sAl 5000 m tg y (by omega) (by simp) (by simp) h1 h2 h4 w.drew G.drew) fun e w' k=>⟨k,(k.2.cell (p:=⟨h,0,none⟩) H.hl).trans H.c⟩
 have DO:Hid (∀ W,GL W→LS a b two 5000 s r W→Calls Tryz.prog 16 #[.pointer (some ⟨a,0,none⟩),str (headT tAl sAl 5000 m tg y)] W fun e w'=>∃ r',e=.returned (str (ansT X))∧LS a b two 5000 X.2.2.2 r' w'∧Step r W r' w'):=fun W GW LW=>doQ_any a b two 5000 s r _ hl X hX Ks W GW LW
 have hc:=H.c
 have xd:w.drew.cell? ⟨h,0,none⟩=some (.pointer (some ⟨a,0,none⟩)):=hc
 have HH:Hid (HS h a b s r w):=H
 have HG:Hid (GL w):=G
 have hrh:=H.rh
 clear H
 clear hX Ks
 generalize ansT X=xt at *
 generalize headT tAl sAl 5000 m tg y=q at *
 go_enter Tryz.func25,Tryz.ntmps25
 go_wp2_with fail
 go_region_held3 (fun w'=>w'.cell? ⟨h,0,none⟩=some (.pointer (some ⟨a,0,none⟩))) (first|with_reducible exact xd|with_reducible exact x5|with_reducible exact x6)
  (first
   | (go_at_call 14;with_reducible refine Calls.mono BH.out ?_;rintro e w1 ⟨⟨rfl,b1⟩,x5⟩;have B1:=below_trans (below_drew w) b1)
   | (go_at_call 16;with_reducible refine Calls.mono (DO.out w1 (HG.out.call B1) (HH.out.L.below B1)) ?_;rintro e w2 ⟨r',rfl,L2,st2⟩;have x6:=st2.kept.cell x5 (by simp [hrh])))
 all_goals (
  go_wp2
  go_ret
  exact ⟨r',rfl,HH.out.step ((Step.of_below B1).trans st2) L2,(Step.of_below B1).trans st2⟩)
end Go.Proofs.YtbllcgibmgbnjaaGreatDoor.P
namespace Go.Proofs.YtbllcgibmgbnjaaGreatDoor.P
open Go.RowKit
open Go.Proofs.YtbllcgibmgbnjaaGreatDoor.C (ret_bool ret_int ret_str enc enc_len)
theorem lenc_any (l:Tx) (p:Bool) (hl:l.length≤1000000000) (w:World) :
  Calls Tryz.prog 12 #[str l,.bool p] w fun e w'=>e=.returned (str (enc p l))∧Below w.heap.size w w':=by
 have C:Hid (_):=R.encode_r l p w hl
 go_enter Tryz.func12,Tryz.ntmps12
 go_wp2_with fail
 refine Calls.mono C.out ?_
 rintro e w1 ⟨rfl,b1⟩
 go_wp2
 go_ret
 exact ⟨rfl,b1⟩
end Go.Proofs.YtbllcgibmgbnjaaGreatDoor.P
namespace Go.Proofs.YtbllcgibmgbnjaaGreatDoor.P
open Go.RowKit
open Go.Proofs.YtbllcgibmgbnjaaGreatDoor.C (ret_bool ret_int ret_str enc enc_len)
abbrev i64 (c:Int):Prop:=-9223372036854775808≤c∧c≤9223372036854775807
theorem keyK_any (c:Int) (hc:i64 c) (w:World) :
  Calls Tryz.prog 45 #[.int .i64 c] w fun e w'=>e=.returned (str (keyN (pickP c 4)))∧Below w.heap.size w w':=by
 have PK:Hid (∀ W,Calls Tryz.prog 10 #[.int .i64 c,.int .i64 4] W fun e w'=>e=.returned (.int .i64 (pickP c 4:Int))∧W=w'):=fun W=>pick_any c hc 4 (by omega) (by omega) W
 have hp:=pickP_lt c (n:=4) (by omega)
 generalize pickP c 4=i at *
 have b0:Below w.heap.size w (w.alloc (.cells #[str [97],str [97,47,98],str [98,32,99],str [122,126]] 9)):=(Below.refl _ _).alloc (Nat.le_refl _) _
 have:i=0∨i=1∨i=2∨i=3:=by omega
 rcases this with rfl|rfl|rfl|rfl
 all_goals (
  go_enter Tryz.func45,Tryz.ntmps45
  go_wp2_with (go_at_call 10;refine Calls.mono (PK.out _) ?_;rintro e w1 ⟨rfl,rfl⟩)
  go_ret
  exact ⟨rfl,b0⟩)
theorem target_any (c:Int) (hc:i64 c) (w:World) :
  Calls Tryz.prog 26 #[.int .i64 c] w fun e w'=>e=.returned (str (kT (keyN (pickP c 4))))∧Below w.heap.size w w':=by
 have K:Hid (_):=keyK_any c hc w
 have hk:=keyN_len (pickP c 4)
 generalize keyN (pickP c 4)=k at *
 have EN:Hid (∀ W,Calls Tryz.prog 12 #[str k,.bool true] W fun e w'=>e=.returned (str (enc true k))∧Below W.heap.size W w'):=fun W=>lenc_any k true (by omega) W
 have HT:Hid (kT k=[47,97,108,115,98,111,120,47]++enc true k):=rfl
 rw [HT.out]
 have el:=(enc_len true k).2
 generalize enc true k=z at *
 go_enter Tryz.func26,Tryz.ntmps26
 go_wp2_with (first|(go_at_call 45;refine Calls.mono K.out ?_;rintro e w1 ⟨rfl,b1⟩)|(go_at_call 12;refine Calls.mono (EN.out _) ?_;rintro e w2 ⟨rfl,b2⟩))
 go_ret
 exact ⟨ret_str (by simp),below_trans b1 b2⟩
def bcell (v:BV):List Value:=[str v.key,.int .i64 (v.num:Int),.bool v.mark,str v.body]
def bcells (l:List BV):List Value:=l.flatMap bcell
abbrev brow (w:World) (B:Nat) (sl:Value) (l:List BV):Prop:=w.ownsRow B 120 4 sl l.length (bcells l)
structure Bok (b:Nat) (l:List BV) (given:Nat) (sl:Value) (w:World):Prop where
 c0:w.cell? ⟨b,0,none⟩=some sl
 c1:w.cell? ⟨b,1,none⟩=some (.int .i64 (given:Int))
 fz:∀ j:Nat,w.frozen? ⟨b,j,none⟩=false
 row:brow w (b+1) sl l
end Go.Proofs.YtbllcgibmgbnjaaGreatDoor.P
namespace Go.Proofs.YtbllcgibmgbnjaaGreatDoor.P
open Go.RowKit
open Go.Proofs.YtbllcgibmgbnjaaGreatDoor.C (ret_bool ret_int ret_str enc enc_len)
theorem cutK_all (s:Tx) (n:Nat) (_hn:n≤1000000) (w:World) :
  Calls Tryz.prog 9 #[str s,.int .i64 (n:Int)] w fun e w'=>e=.returned (str (s.take n))∧w=w':=by
 by_cases h:n < s.length
 ·have t1:decide ((n:Int) < (s.length:Int))=true:=by simp;omega
  go_enter Tryz.func9,Tryz.ntmps9
  go_wp2
  go_ret
  exact ⟨ret_str (Lib.extract_from_zero _ _),rfl⟩
 ·have t1:decide ((n:Int) < (s.length:Int))=false:=by simp;omega
  have HR:Hid (s.take n=s):=List.take_of_length_le (by omega)
  go_enter Tryz.func9,Tryz.ntmps9
  go_wp2
  go_ret
  exact ⟨ret_str HR.out.symm,rfl⟩
structure StP where
 kind:Int
 key:Int
 n:Int
 body:Tx
structure StFit (o:StP):Prop where
 kind:i64 o.kind
 key:i64 o.key
 n:i64 o.n
abbrev stC (o:StP):Obj:=.cells #[.int .i64 o.kind,.int .i64 o.key,.int .i64 o.n,str o.body] 50
end Go.Proofs.YtbllcgibmgbnjaaGreatDoor.P
namespace Go.Proofs.YtbllcgibmgbnjaaGreatDoor.P
open Go.RowKit
open Go.Proofs.YtbllcgibmgbnjaaGreatDoor.C (ret_bool ret_int ret_str enc enc_len)
structure PS (h a b bb:Nat) (s:Sto) (l:List BV) (sl:Value) (room:Nat) (r:Roles) (w:World):Prop where
 H:HS h a b s r w
 B:Bok bb l s.last sl w
 K:BK s l room
 rb:r bb=.none
 rr:∀ g,sl.ownBlock=some g→r g=.none
end Go.Proofs.YtbllcgibmgbnjaaGreatDoor.P
namespace Go.Proofs.YtbllcgibmgbnjaaGreatDoor.P
open Go.RowKit
open Go.Proofs.YtbllcgibmgbnjaaGreatDoor.C (ret_bool ret_int ret_str enc enc_len)
theorem Step.base {N:Nat} {r r':Roles} {w w':World} (st:Step r w r' w') (hr:∀ g,r g≠.none→N≤g) (hN:N≤w.heap.size):(∀ g,r' g≠.none→N≤g)∧Below N w w' :=
 ⟨fun g e=>by
  rcases Nat.lt_or_ge g w.heap.size with hl|hl
  ·exact hr g (st.mine g hl e)
  ·omega,st.kept.below hN hr⟩
end Go.Proofs.YtbllcgibmgbnjaaGreatDoor.P
namespace Go.Proofs.YtbllcgibmgbnjaaGreatDoor.P
open Go.RowKit
theorem frame_mk {b o:Tx} (h1:b.length≤20) (h2:o.length≤20):(frameT (Chg.mk b o).text).length≤60:=by
 simp [frameT,Chg.text,shortT,longT,numT,bigL_len];omega
theorem ask_is {u sec:Tx} {s:Sto} {m tg y:Tx} {X:Tx×Sto} (e:doP two 5000 s (headT u sec 5000 m tg y)=X):askT u sec s m tg y=X:=e
def sBeg (room:Nat):Sto:={ (Sto.new [tAl,tBo] room).setBk tBkt ⟨tAl,[],[]⟩ with log:=(Sto.new [tAl,tBo] room).log++frameT (Chg.mk tBkt tAl).text }
theorem beg_eq (room:Nat) (h1:200≤room):(askT tAl sAl (Sto.new [tAl,tBo] room) tPUT tABox []).2=sBeg room:=by
 have hb:bktP tBkt=true:=by decide
 have fl:=frame_mk (b:=tBkt) (o:=tAl) (by decide) (by decide)
 have d1:=done_mk (s:=Sto.new [tAl,tBo] room) (o:=tAl) hb (by rfl) rfl (by show 0+_≤room;omega)
 have sv1:serveP (Sto.new [tAl,tBo] room) tAl ⟨0,[],tBkt,[],[],0,[],[],10⟩=(200,[],[],sBeg room):=by
  unfold serveP sBeg;rw [if_pos rfl];simp only;rw [d1]
 have hm:mayP (Sto.new [tAl,tBo] room) tAl ⟨0,[],tBkt,[],[],0,[],[],10⟩=200:=by unfold mayP;rw [if_pos rfl]
 have e:=ask_is (do_ok (s:=Sto.new [tAl,tBo] room) (begun_says room h1).2 hm)
 rw [sv1] at e
 rw [e]
end Go.Proofs.YtbllcgibmgbnjaaGreatDoor.P
namespace Go.Proofs.YtbllcgibmgbnjaaGreatDoor.P
open Go.RowKit
open Go.Proofs.YtbllcgibmgbnjaaGreatDoor.C (ret_bool ret_int ret_str enc enc_len)
structure SR (a:Option Addr) (l:List StP) (w:World):Prop where
 get:∀ k (h:k < l.length),∃ b o,a=some ⟨b,o,none⟩∧b < w.heap.size∧w.cell? ⟨b,o+k*4,none⟩=some (.int .i64 l[k].kind)∧w.cell? ⟨b,o+k*4+1,none⟩=some (.int .i64 l[k].key)∧w.cell? ⟨b,o+k*4+2,none⟩=some (.int .i64 l[k].n)∧w.cell? ⟨b,o+k*4+3,none⟩=some (str l[k].body)
theorem SR.below {a:Option Addr} {l:List StP} {w w':World} (h:SR a l w) (k:Below w.heap.size w w'):SR a l w' :=
 ⟨fun i hi=>by
  obtain ⟨b,o,e,hb,c0,c1,c2,c3⟩:=h.get i hi
  have:=k.size
  exact ⟨b,o,e,by omega,(k.cell (p:=⟨b,o+i*4,none⟩) hb).trans c0,(k.cell (p:=⟨b,o+i*4+1,none⟩) hb).trans c1,(k.cell (p:=⟨b,o+i*4+2,none⟩) hb).trans c2,(k.cell (p:=⟨b,o+i*4+3,none⟩) hb).trans c3⟩⟩
end Go.Proofs.YtbllcgibmgbnjaaGreatDoor.P
namespace Go.Proofs.YtbllcgibmgbnjaaGreatDoor.P
structure Sim (s t:Sto):Prop where
 us:t.users=s.users
 rm:t.room=s.room
 la:t.last=s.last
 bk:t.bk=s.bk
 vs:∀ b k,b≠tBkt→t.vs b k=s.vs b k
 lg:t.log.length=s.log.length
 ow:s.bk tBkt=some ⟨tAl,[],[]⟩
theorem Sim.refl {s:Sto} (h:s.bk tBkt=some ⟨tAl,[],[]⟩):Sim s s:=⟨rfl,rfl,rfl,rfl,fun _ _ _=>rfl,rfl,h⟩
inductive Both:Chg→Chg→Prop
 | mk (b o:Tx):Both (.mk b o) (.mk b o)
 | pol (b p:Tx):b≠tBkt∨(rulesOf p).1≠0→Both (.pol b p) (.pol b p)
 | unpol (b:Tx):b≠tBkt→Both (.unpol b) (.unpol b)
 | put (b k y z:Tx):z.length=y.length→(b≠tBkt→z=y)→Both (.put b k y) (.put b k z)
 | mark (b k:Tx):Both (.mark b k) (.mark b k)
 | drop (b k:Tx) (n:Nat):b≠tBkt→Both (.drop b k n) (.drop b k n)
theorem both_frame {c d:Chg} (h:Both c d):(frameT d.text).length=(frameT c.text).length:=by
 cases h with
 | put b k y z e _=>simp [frameT,Chg.text,shortT,longT,numT,bigL_len,e]
 | _=>rfl
theorem Sim.setBk {s t:Sto} (h:Sim s t) {b:Tx} (x:Bkt) (hb:b≠tBkt):Sim (s.setBk b x) (t.setBk b x) :=
 ⟨h.us,h.rm,h.la,by simp only [Sto.setBk];rw [h.bk],h.vs,h.lg,by
  show (if tBkt=b then _ else s.bk tBkt)=_
  rw [if_neg (fun e=>hb e.symm)];exact h.ow⟩
theorem Sim.setVs {s t:Sto} (h:Sim s t) {b k:Tx} {l m:List Ver} (hl:b≠tBkt→m=l):Sim (s.setVs b k l) (t.setVs b k m) :=
 ⟨h.us,h.rm,h.la,h.bk,fun c j hc=>by
  show (if c=b∧j=k then m else t.vs c j)=(if c=b∧j=k then l else s.vs c j)
  by_cases e:c=b∧j=k
  ·rw [if_pos e,if_pos e];exact hl (fun e2=>hc (e.1.trans e2))
  ·rw [if_neg e,if_neg e];exact h.vs c j hc,h.lg,h.ow⟩
theorem Sim.add {s t:Sto} (h:Sim s t) {b k y z:Tx} {m:Bool} (hb:b≠tBkt→z=y):Sim (s.add b k m y) (t.add b k m z):=by
 have:=h.setVs (b:=b) (k:=k) (l:=s.vs b k++[⟨s.last+1,m,y⟩]) (m:=t.vs b k++[⟨t.last+1,m,z⟩]) (fun e=>by rw [h.vs b k e,h.la,hb e])
 exact ⟨this.us,this.rm,by show t.last+1=s.last+1;rw [h.la],this.bk,this.vs,this.lg,this.ow⟩
theorem begin_both {s t:Sto} (h:Sim s t) {c d:Chg} (B:Both c d):(∃ n,s.begin c=.error n∧t.begin d=.error n)∨∃ s' t',s.begin c=.ok s'∧t.begin d=.ok t'∧Sim s' t'∧s'.room=s.room∧t'.room=t.room:=by
 cases B with
 | mk b o =>
  simp only [Sto.begin]
  rw [h.us,h.bk]
  by_cases h1:bktP b=true∧s.users.contains o=true
  ·rw [if_pos h1,if_pos h1]
   cases h2:s.bk b with
   | none=>exact .inr ⟨_,_,rfl,rfl,h.setBk _ (fun e=>by rw [e,h.ow] at h2;cases h2),rfl,rfl⟩
   | some x=>exact .inl ⟨_,rfl,rfl⟩
  ·rw [if_neg h1,if_neg h1];exact .inl ⟨_,rfl,rfl⟩
 | pol b p hp =>
  simp only [Sto.begin]
  rw [h.bk]
  cases h2:s.bk b with
  | none=>exact .inl ⟨_,rfl,rfl⟩
  | some x =>
   simp only
   by_cases h1:(rulesOf p).1=0
   ·rw [if_pos h1,if_pos h1]
    exact .inr ⟨_,_,rfl,rfl,h.setBk _ (hp.resolve_right (fun e=>e h1)),rfl,rfl⟩
   ·rw [if_neg h1,if_neg h1];exact .inl ⟨_,rfl,rfl⟩
 | unpol b hb =>
  simp only [Sto.begin]
  rw [h.bk]
  cases h2:s.bk b with
  | none=>exact .inl ⟨_,rfl,rfl⟩
  | some x =>
   simp only
   by_cases h1:x.policy=[]
   ·rw [if_pos h1,if_pos h1];exact .inl ⟨_,rfl,rfl⟩
   ·rw [if_neg h1,if_neg h1];exact .inr ⟨_,_,rfl,rfl,h.setBk _ hb,rfl,rfl⟩
 | put b k y z e hz =>
  simp only [Sto.begin]
  rw [h.bk,e]
  by_cases h0:300 < y.length
  ·rw [if_pos h0,if_pos h0];exact .inl ⟨_,rfl,rfl⟩
  ·rw [if_neg h0,if_neg h0]
   cases h2:s.bk b with
   | none=>exact .inl ⟨_,rfl,rfl⟩
   | some x =>
    simp only
    by_cases h1:keyP k=true
    ·rw [if_pos h1,if_pos h1];exact .inr ⟨_,_,rfl,rfl,h.add hz,rfl,rfl⟩
    ·rw [if_neg h1,if_neg h1];exact .inl ⟨_,rfl,rfl⟩
 | mark b k =>
  simp only [Sto.begin]
  rw [h.bk]
  cases h2:s.bk b with
  | none=>exact .inl ⟨_,rfl,rfl⟩
  | some x =>
   simp only
   by_cases h1:keyP k=true
   ·rw [if_pos h1,if_pos h1];exact .inr ⟨_,_,rfl,rfl,h.add (fun _=>rfl),rfl,rfl⟩
   ·rw [if_neg h1,if_neg h1];exact .inl ⟨_,rfl,rfl⟩
 | drop b k n hb =>
  simp only [Sto.begin]
  rw [h.vs b k hb]
  by_cases h1:(s.vs b k).any (fun v=>v.num == n)=true
  ·rw [if_pos h1,if_pos h1];exact .inr ⟨_,_,rfl,rfl,h.setVs (fun _=>rfl),rfl,rfl⟩
  ·rw [if_neg h1,if_neg h1];exact .inl ⟨_,rfl,rfl⟩
theorem done_both {s t:Sto} (h:Sim s t) {c d:Chg} (B:Both c d):(t.done d).1=(s.done c).1∧Sim (s.done c).2 (t.done d).2:=by
 have hf:=both_frame B
 unfold Sto.done
 rcases begin_both h B with ⟨n,e1,e2⟩|⟨s',t',e1,e2,h',_,_⟩
 ·rw [e1,e2];exact ⟨rfl,h⟩
 ·rw [e1,e2]
  simp only
  rw [h.lg,h.rm,hf]
  by_cases h1:s.log.length+(frameT c.text).length≤s.room
  ·rw [if_pos h1,if_pos h1]
   exact ⟨rfl,⟨h'.us,h'.rm,h'.la,h'.bk,h'.vs,by simp only [List.length_append];rw [h.lg,hf],h'.ow⟩⟩
  ·rw [if_neg h1,if_neg h1];exact ⟨rfl,h⟩
theorem Sim.may {s t:Sto} (h:Sim s t) (u:Tx) (q:AskP):mayP t u q=mayP s u q:=by
 unfold mayP Sto.may;rw [h.bk]
theorem Sim.policyOf {s t:Sto} (h:Sim s t) (b:Tx):t.policyOf b=s.policyOf b:=by
 unfold Sto.policyOf;rw [h.bk]
theorem Sim.lists {s t:Sto} (h:Sim s t) {b p a:Tx} {l:List Ent} (hb:b≠tBkt) (hl:Lists t b p a l):Lists s b p a l :=
 ⟨hl.1,fun e=>by rw [hl.2 e];unfold Listed;rw [h.vs b e.key hb]⟩
theorem Sim.version {s t:Sto} (h:Sim s t) {b:Tx} (hb:b≠tBkt) (k:Tx) (n:Nat):t.version b k n=s.version b k n:=by
 unfold Sto.version;rw [h.vs b k hb]
theorem Sim.not_mine {s t:Sto} (h:Sim s t) {u:Tx} {q:AskP} (hu:u≠tAl) (h0:q.kind≠0) (hm:mayP s u q=200):q.bucket≠tBkt:=by
 intro e
 unfold mayP at hm
 rw [if_neg h0,e] at hm
 unfold Sto.may at hm
 rw [h.ow] at hm
 simp only at hm
 rw [if_pos (.inr ⟨by simp [saysP],hu⟩)] at hm
 cases hm
theorem serv_both {s t:Sto} (h:Sim s t) {u:Tx} {q:AskP} {X Y:Nat×Hs×Tx×Sto} (hX:ServQ s u q X) (hY:ServQ t u q Y) (hm:mayP s u q=200) (hq:u≠tAl∨q.kind=5∨(q.kind=1∧(rulesOf q.body).1≠0)):ansT Y=ansT X∧Sim X.2.2.2 Y.2.2.2:=by
 have nb:u≠tAl→q.kind≠0→q.bucket≠tBkt:=fun hu h0=>h.not_mine hu h0 hm
 by_cases k4:q.kind=4
 ·have hu:u≠tAl:=by rcases hq with e|e|e <;> first|exact e|omega
  obtain ⟨l,hl,rfl⟩:=hX.2 k4
  obtain ⟨m,hm',rfl⟩:=hY.2 k4
  obtain rfl:=lists_uniq (h.lists (nb hu (by omega)) hm') hl
  exact ⟨rfl,h⟩
 rw [hX.1 k4,hY.1 k4]
 unfold serveP
 by_cases k0:q.kind=0
 ·rw [if_pos k0,if_pos k0]
  obtain ⟨e1,e2⟩:=done_both h (.mk q.bucket u)
  exact ⟨by simp only [ansT];rw [e1],e2⟩
 rw [if_neg k0,if_neg k0]
 by_cases k1:q.kind=1
 ·rw [if_pos k1,if_pos k1]
  obtain ⟨e1,e2⟩:=done_both h (.pol q.bucket q.body (by
   rcases hq with e|e|e
   ·exact .inl (nb e k0)
   ·omega
   ·exact .inr e.2))
  exact ⟨by simp only [ansT];rw [e1],e2⟩
 rw [if_neg k1,if_neg k1]
 by_cases k2:q.kind=2
 ·rw [if_pos k2,if_pos k2,h.policyOf]
  exact ⟨rfl,h⟩
 rw [if_neg k2,if_neg k2]
 by_cases k5:q.kind=5
 ·have k3:¬ q.kind=3:=by omega
  rw [if_neg k3,if_neg k3,if_pos k5,if_pos k5]
  obtain ⟨e1,e2⟩:=done_both h (.put q.bucket q.key q.body q.body rfl (fun _=>rfl))
  exact ⟨by simp only [ansT];rw [e1,e2.la],e2⟩
 have hu:u≠tAl:=by rcases hq with e|e|e <;> first|exact e|omega
 have hb:=nb hu k0
 by_cases k3:q.kind=3
 ·rw [if_pos k3,if_pos k3]
  obtain ⟨e1,e2⟩:=done_both h (.unpol q.bucket hb)
  exact ⟨by simp only [ansT];rw [e1],e2⟩
 rw [if_neg k3,if_neg k3,if_neg k5,if_neg k5]
 by_cases k6:q.kind=6
 ·rw [if_pos k6,if_pos k6]
  unfold getP
  rw [h.version hb]
  cases s.version q.bucket q.key q.version with
  | none=>exact ⟨rfl,h⟩
  | some v=>exact ⟨rfl,h⟩
 rw [if_neg k6,if_neg k6]
 by_cases k7:q.kind=7
 ·rw [if_pos k7,if_pos k7]
  obtain ⟨e1,e2⟩:=done_both h (.mark q.bucket q.key)
  exact ⟨by simp only [ansT];rw [e1,e2.la],e2⟩
 rw [if_neg k7,if_neg k7]
 obtain ⟨e1,e2⟩:=done_both h (.drop q.bucket q.key q.version hb)
 exact ⟨by simp only [ansT];rw [e1],e2⟩
theorem resp_both {us:Us} {clock:Nat} {s t:Sto} (h:Sim s t) {x:Tx} {X Y:Nat×Hs×Tx×Sto} (hX:RespQ us clock s x X) (hY:RespQ us clock t x Y) (hq:∀ u q,readP us clock x=.ok (u,q)→u≠tAl∨q.kind=5∨(q.kind=1∧(rulesOf q.body).1≠0)):ansT Y=ansT X∧Sim X.2.2.2 Y.2.2.2:=by
 cases hr:readP us clock x with
 | error n=>rw [hX.err n hr,hY.err n hr];exact ⟨rfl,h⟩
 | ok p =>
  obtain ⟨u,q⟩:=p
  by_cases hm:mayP s u q=200
  ·exact serv_both h (hX.serves u q hr hm) (hY.serves u q hr (by rw [h.may];exact hm)) hm (hq u q hr)
  ·rw [hX.no u q hr hm,hY.no u q hr (by rw [h.may];exact hm),h.may];exact ⟨rfl,h⟩
end Go.Proofs.YtbllcgibmgbnjaaGreatDoor.P
namespace Go.Proofs.YtbllcgibmgbnjaaGreatDoor.P
def Lh (y s:List UInt8):Prop:=∃ z,s=z++10 :: 104 :: y
theorem skip_lh {y:List UInt8}:∀ z,Lh y (skip (z++10 :: 104 :: y))∨skip (z++10 :: 104 :: y)=104 :: y
 | []=>.inr rfl
 | c :: z=>by
  simp only [List.cons_append,skip]
  split
  ·exact skip_lh z
  ·exact .inl ⟨c :: z,rfl⟩
theorem tak_lh {y t s r:List UInt8} (h1:(10:UInt8) ∉ t) (h2:t.head?≠some 104) (h3:t≠[]) (h:Lh y s) (k:tak t s=some r):Lh y r:=by
 obtain ⟨z,rfl⟩:=h
 have e:=cutP_some k
 rcases skip_lh (y:=y) z with ⟨z1,e1⟩|e1
 ·rw [e1] at e
  rcases List.append_eq_append_iff.1 e with ⟨a,ha,hb⟩|⟨c,hc,hd⟩
  ·cases a with
   | nil=>exact ⟨[],by simpa using hb.symm⟩
   | cons x a =>
    rw [List.cons_append,List.cons.injEq] at hb
    exact absurd (by rw [ha,← hb.1];simp) h1
  ·exact ⟨c,hd⟩
 ·rw [e1] at e
  cases t with
  | nil=>exact absurd rfl h3
  | cons x t =>
   rw [List.cons_append,List.cons.injEq] at e
   exact absurd (by rw [← e.1];rfl) h2
theorem str_lh {y:List UInt8}:∀ (n:Nat) (z:List UInt8),z.length≤n→∀ t r,strOf (z++10 :: 104 :: y)=some (t,r)→Lh y r
 | n,[],_,t,r,h=>by
  rw [List.nil_append,strOf_bad _ (by decide) (by decide) (by decide)] at h;cases h
 | 0,c :: z,hn,t,r,h=>by simp at hn
 | n+1,c :: z,hn,t,r,h=>by
  rw [List.cons_append] at h
  by_cases h1:c.toNat=34
  ·rw [strOf_end _ h1] at h
   simp at h
   exact ⟨z,h.2.symm⟩
  ·by_cases h2:c.toNat=92
   ·cases z with
    | nil=>rw [List.nil_append,strOf_escx _ h2 (by decide)] at h;cases h
    | cons d z =>
     rw [List.cons_append] at h
     by_cases h3:d.toNat=34∨d.toNat=92
     ·rw [strOf_esc _ h2 h3] at h
      obtain ⟨p,hp,e⟩:=Option.map_eq_some_iff.1 h
      simp at e
      have:=str_lh n z (by simp at hn;omega) p.1 p.2 hp
      rwa [e.2] at this
     ·rw [strOf_escx _ h2 h3] at h;cases h
   ·by_cases h3:32≤c.toNat∧c.toNat≤126
    ·rw [strOf_one _ h1 h2 h3] at h
     obtain ⟨p,hp,e⟩:=Option.map_eq_some_iff.1 h
     simp at e
     have:=str_lh n z (by simp at hn;omega) p.1 p.2 hp
     rwa [e.2] at this
    ·rw [strOf_bad _ h1 h2 h3] at h;cases h
def keepsL {X:Type} (y:List UInt8) (one:List UInt8→Option (X×List UInt8)):Prop:=∀ s x r,Lh y s→one s=some (x,r)→Lh y r
theorem more_lh {X:Type} {y:List UInt8} {one:List UInt8→Option (X×List UInt8)} (h1:keepsL y one) {c:UInt8} (hc:c≠10∧c≠104):∀ n s l r,Lh y s→more one [c] n s=some (l,r)→Lh y r
 | 0,s,l,r,_,h=>by simp [more] at h
 | n+1,s,l,r,hs,h=>by
  rw [more] at h
  cases h2:one s with
  | none=>rw [h2] at h;cases h
  | some p =>
   obtain ⟨x,r1⟩:=p
   rw [h2] at h
   have a1:=h1 _ _ _ hs h2
   simp only at h
   cases h3:tak [c] r1 with
   | some r' =>
    rw [h3] at h
    simp at h;obtain ⟨rfl,rfl⟩:=h
    exact tak_lh (by simp;exact fun e=>hc.1 e.symm) (by simp;exact hc.2) (by simp) a1 h3
   | none =>
    rw [h3] at h
    simp only at h
    cases h4:tak [44] r1 with
    | none=>rw [h4] at h;cases h
    | some r2 =>
     rw [h4] at h
     have a4:=tak_lh (by decide) (by decide) (by simp) a1 h4
     simp only at h
     cases h5:more one [c] n r2 with
     | none=>rw [h5] at h;cases h
     | some q =>
      rw [h5] at h
      simp at h;obtain ⟨rfl,rfl⟩:=h
      exact more_lh h1 hc n r2 q.1 q.2 a4 h5
theorem listOf_lh {X:Type} {y:List UInt8} {one:List UInt8→Option (X×List UInt8)} (h1:keepsL y one) {c:UInt8} (hc:c≠10∧c≠104) {s:List UInt8} {l:List X} {r:List UInt8} (hs:Lh y s) (h:listOf one [c] s=some (l,r)):Lh y r:=by
 unfold listOf at h
 cases h3:tak [c] s with
 | some r'=>rw [h3] at h;simp at h;obtain ⟨rfl,rfl⟩:=h;exact tak_lh (by simp;exact fun e=>hc.1 e.symm) (by simp;exact hc.2) (by simp) hs h3
 | none=>rw [h3] at h;exact more_lh h1 hc _ _ _ _ hs h
theorem memOf_lh {X:Type} {y:List UInt8} {v:List UInt8→Option (X×List UInt8)} (hv:keepsL y v):keepsL y (memOf v):=by
 intro s x r hs h
 obtain ⟨r1,n,r2,r3,z,r4,a1,a2,a3,a4,a5⟩:=memOf_some h
 have b1:=tak_lh (by decide) (by decide) (by simp) hs a1
 obtain ⟨z1,rfl⟩:=b1
 have b2:=str_lh _ z1 (Nat.le_refl _) _ _ a2
 have b3:=tak_lh (by decide) (by decide) (by simp) b2 a3
 have b4:=hv _ _ _ b3 a4
 simp at a5;obtain ⟨rfl,rfl⟩:=a5
 exact b4
theorem val_lh {y:List UInt8}:∀ k,keepsL y (val k)
 | 0=>by intro s x r _ h;simp [val] at h
 | k+1=>by
  intro s x r hs h
  have ih:=val_lh (y:=y) k
  rw [val] at h
  cases h1:tak [123] s with
  | some r1 =>
   rw [h1] at h;simp only at h
   have b:=tak_lh (by decide) (by decide) (by simp) hs h1
   obtain ⟨p,hp,e⟩:=Option.map_eq_some_iff.1 h
   simp at e
   have:=listOf_lh (memOf_lh ih) (by decide) b hp
   rwa [e.2] at this
  | none =>
   rw [h1] at h;simp only at h
   cases h2:tak [91] s with
   | some r1 =>
    rw [h2] at h;simp only at h
    have b:=tak_lh (by decide) (by decide) (by simp) hs h2
    obtain ⟨p,hp,e⟩:=Option.map_eq_some_iff.1 h
    simp at e
    have:=listOf_lh ih (by decide) b hp
    rwa [e.2] at this
   | none =>
    rw [h2] at h;simp only at h
    cases h3:tak [34] s with
    | some r1 =>
     rw [h3] at h;simp only at h
     obtain ⟨z,rfl⟩:=tak_lh (by decide) (by decide) (by simp) hs h3
     obtain ⟨p,hp,e⟩:=Option.map_eq_some_iff.1 h
     simp at e
     have:=str_lh _ z (Nat.le_refl _) p.1 p.2 hp
     rwa [e.2] at this
    | none =>
     rw [h3] at h;simp only at h
     cases h4:tak tTrue s with
     | some r1 =>
      rw [h4] at h;simp at h
      obtain ⟨-,rfl⟩:=h
      exact tak_lh (by decide) (by decide) (by decide) hs h4
     | none =>
      rw [h4] at h;simp only at h
      cases h5:tak tFalse s with
      | some r1 =>
       rw [h5] at h;simp at h
       obtain ⟨-,rfl⟩:=h
       exact tak_lh (by decide) (by decide) (by decide) hs h5
      | none =>
       rw [h5] at h;simp only at h
       cases h6:tak tNull s with
       | some r1 =>
        rw [h6] at h;simp at h
        obtain ⟨-,rfl⟩:=h
        exact tak_lh (by decide) (by decide) (by decide) hs h6
       | none=>rw [h6] at h;cases h
theorem tak_h {t:List UInt8} (h2:t.head?≠some 104) (h3:t≠[]) (y:List UInt8):tak t (104 :: y)=none:=by
 cases e:tak t (104 :: y) with
 | none=>rfl
 | some r =>
  have e1:=cutP_some e
  rw [show skip (104 :: y)=104 :: y from rfl] at e1
  cases t with
  | nil=>exact absurd rfl h3
  | cons x t =>
   rw [List.cons_append,List.cons.injEq] at e1
   exact absurd (by rw [← e1.1];rfl) h2
theorem readJ_h (y:List UInt8):readJ (104 :: y)=none:=by
 unfold readJ
 rw [val,tak_h (by decide) (by decide),tak_h (by decide) (by decide),tak_h (by decide) (by decide),tak_h (by decide) (by decide),tak_h (by decide) (by decide),tak_h (by decide) (by decide)]
theorem readJ_lh {y s:List UInt8} (h:Lh y s):readJ s=none:=by
 unfold readJ
 cases e:val 7 s with
 | none=>rfl
 | some p =>
  obtain ⟨z,hz⟩:=val_lh 7 s p.1 p.2 h e
  simp only
  rw [hz,if_neg]
  rcases skip_lh (y:=y) z with ⟨z1,e1⟩|e1
  ·rw [e1];simp
  ·rw [e1];simp
theorem rules_no {s:List UInt8} (h:readJ s=none):(rulesOf s).1≠0:=by
 unfold rulesOf
 split
 ·decide
 ·rw [h];simp
end Go.Proofs.YtbllcgibmgbnjaaGreatDoor.P
namespace Go.Proofs.YtbllcgibmgbnjaaGreatDoor.P
theorem head_line {k:Nat} {l:Hs} {L rest:Tx} {x:Hs×Tx} (h10:(10:UInt8) ∉ L) (hne:L≠[]) (h:R.headersFrom k l (L++10 :: rest)=some x) :
  ∃ k' p,R.headerOf L=some p∧R.findP l p.1=none∧R.headersFrom k' (l++[p]) rest=some x:=by
 cases k with
 | zero=>rw [R.headersFrom,cutc_hit rest h10] at h;simp [hne] at h
 | succ k =>
  rw [R.headersFrom,cutc_hit rest h10] at h
  simp only [Bool.true_eq_false,if_false,hne] at h
  cases e:R.headerOf L with
  | none=>rw [e] at h;cases h
  | some p =>
   rw [e] at h
   simp only [R.addP] at h
   by_cases hf:R.findP l p.1=none
   ·rw [if_pos hf] at h
    exact ⟨k,p,rfl,hf,h⟩
   ·rw [if_neg hf] at h;cases h
theorem header_of {n v:Tx} (hn:R.hname n=true) (hv:v.all R.showB=true):R.headerOf (n++58 :: 32 :: v)=some (n,v):=by
 unfold R.headerOf
 rw [cut2_hit v (name_free hn (by decide))]
 simp only
 rw [if_pos ⟨trivial,hn,hv⟩]
theorem line_free {n v:Tx} (hn:R.hname n=true) (hv:v.all R.showB=true):(10:UInt8) ∉ n++58 :: 32 :: v:=by
 intro e
 rcases List.mem_append.1 e with e|e
 ·exact name_free hn (by decide) e
 ·simp only [List.mem_cons] at e
  rcases e with e|e|e
  ·exact absurd e (by decide)
  ·exact absurd e (by decide)
  ·exact show_free hv e
def tailT (v y:Tx):Tx:=tHost++58 :: 32 :: tHere++10 :: (tLength++58 :: 32 :: lenT y++10 :: (tAuth++58 :: 32 :: v++10 :: (10 :: y)))
theorem tail_auth {k:Nat} {l:Hs} {v y:Tx} (hv:v.all R.showB=true) {hs:Hs} {body:Tx} (h:R.headersFrom k l (tailT v y)=some (hs,body)):R.findP hs tAuth=some v:=by
 unfold tailT at h
 obtain ⟨k1,p1,e1,_,h⟩:=head_line (line_free (by decide) (by decide)) (by simp) h
 obtain ⟨k2,p2,e2,_,h⟩:=head_line (line_free (by decide) (len_show y)) (by simp) h
 obtain ⟨k3,p3,e3,f3,h⟩:=head_line (line_free (by decide) hv) (by simp) h
 rw [header_of (by decide) hv] at e3
 cases e3
 rw [head_end] at h
 cases h
 rw [R.findP_snoc]
 simp only at f3
 rw [f3]
 simp
theorem first_nl:∀ (a:Tx),(10:UInt8) ∉ a∨∃ b c,a=b++10 :: c∧(10:UInt8) ∉ b∧c.length < a.length
 | []=>.inl (by simp)
 | x :: a=>by
  by_cases hx:x=10
  ·exact .inr ⟨[],a,by simp [hx],by simp,by simp⟩
  ·rcases first_nl a with h|⟨b,c,rfl,h1,h2⟩
   ·exact .inl (by simp only [List.mem_cons,not_or];exact ⟨fun e=>hx e.symm,h⟩)
   ·exact .inr ⟨x :: b,c,rfl,by simp only [List.mem_cons,not_or];exact ⟨fun e=>hx e.symm,h1⟩,by simp at h2 ⊢;omega⟩
theorem heads_auth {v y:Tx} (hv:v.all R.showB=true):∀ (n:Nat) (a:Tx),a.length≤n→∀ (k:Nat) (l hs:Hs) (body:Tx),R.headersFrom k l (a++10 :: tailT v y)=some (hs,body) →
  R.findP hs tAuth=some v∨body=tailT v y∨∃ z,body=z++10 :: tailT v y
 | n,[],_,k,l,hs,body,h=>by
  rw [List.nil_append,head_end] at h
  cases h
  exact .inr (.inl rfl)
 | 0,x :: a,hn,k,l,hs,body,h=>by simp at hn
 | n+1,x :: a,hn,k,l,hs,body,h=>by
  rcases first_nl (x :: a) with h1|⟨b,c,e,h1,h2⟩
  ·obtain ⟨k1,p1,_,_,h⟩:=head_line h1 (by simp) h
   exact .inl (tail_auth hv h)
  ·rw [e] at h h2
   by_cases hb:b=[]
   ·subst hb
    simp only [List.nil_append,List.cons_append] at h
    rw [head_end] at h
    cases h
    exact .inr (.inr ⟨c,rfl⟩)
   ·rw [List.append_assoc,List.cons_append] at h
    obtain ⟨k1,p1,_,_,h⟩:=head_line h1 hb h
    exact heads_auth hv n c (by rw [← e] at h2;simp at hn h2;omega) k1 _ hs body h
theorem req_heads {a v y:Tx} (hv:v.all R.showB=true) {r:R.Req} (h:R.reqOf (a++10 :: tailT v y)=some r) :
  R.findP r.headers tAuth=some v∨r.body=tailT v y∨∃ z,r.body=z++10 :: tailT v y:=by
 unfold R.reqOf at h
 rcases first_nl a with h1|⟨b,c,rfl,h1,_⟩
 ·rw [cutc_hit _ h1] at h
  simp only [if_true] at h
  split at h
  ·cases h
  ·split at h
   ·cases h
   ·rename_i hs body hh
    split at h
    ·cases h
     exact .inl (tail_auth hv hh)
    ·cases h
 ·rw [List.append_assoc,List.cons_append,cutc_hit _ h1] at h
  simp only [if_true] at h
  split at h
  ·cases h
  ·split at h
   ·cases h
   ·rename_i hs body hh
    split at h
    ·cases h
     exact heads_auth hv _ c (Nat.le_refl _) _ _ _ _ hh
    ·cases h
theorem tail_h (v y:Tx):∃ z,tailT v y=104 :: z:=⟨_,rfl⟩
theorem body_no {v y b:Tx} (h:b=tailT v y∨∃ z,b=z++10 :: tailT v y):b≠[]∧(rulesOf b).1≠0:=by
 obtain ⟨x,hx⟩:=tail_h v y
 rw [hx] at h
 rcases h with rfl|⟨z,rfl⟩
 ·exact ⟨by simp,rules_no (readJ_h x)⟩
 ·exact ⟨by simp,rules_no (readJ_lh (y:=x) ⟨z,rfl⟩)⟩
theorem ask_body {m p:Tx} {q:Hs} {y:Tx} {a:AskP} (h:askP m p q y=some a) (hy:y≠[]):a.kind=1∨a.kind=5:=by
 unfold askP at h
 split at h
 ·cases h
 ·rename_i r hr
  have hm:r∈rowsP:=List.mem_of_find?_eq_some hr
  split at h
  ·rename_i hc
   split at h
   ·cases h
    rw [(pairsA_keep _ _).1]
    have hb:r.hasBody=true:=hc.2.2.resolve_right hy
    show r.kind=1∨r.kind=5
    simp only [rowsP,List.mem_cons,List.not_mem_nil,or_false] at hm
    rcases hm with rfl|rfl|rfl|rfl|rfl|rfl|rfl|rfl|rfl
    all_goals first|(exact absurd hb (by decide))|simp
   ·cases h
  ·cases h
theorem signer_is {m p:Tx} {q hs:Hs} {y:Tx} {us:Us} {clock:Nat} {c:Claim} {u:Tx} (hc:claimP q hs=some c) (h:signerP m p q hs y us clock=some u):u=c.user:=by
 unfold signerP at h
 rw [hc] at h
 simp only at h
 split at h
 ·cases h
 ·split at h
  ·cases h
  ·obtain ⟨x,hx,rfl⟩:=Option.map_eq_some_iff.1 h
   have:=List.find?_some hx
   rw [Bool.and_eq_true] at this
   simpa using this.1
theorem head_tail (m tg y v:Tx):saidT m tg ([97,117,116,104,58,32]++v++[10]) y=(m++32 :: tg)++10 :: tailT v y:=by
 rw [said_top];simp [tailT,tAuth]
theorem sig_bo {s:Tx}:(32:UInt8) ∉ sigOf sBo 5000 s∧(sigOf sBo 5000 s).all R.showB=true:=by
 unfold sigOf
 rw [sign_ok (by decide) (by decide) (by omega)]
 exact ⟨mark_ok.2.1,mark_ok.1⟩
theorem read_bo {m tg y u:Tx} {q:AskP} (h:readP two 5000 (headT tBo sBo 5000 m tg y)=.ok (u,q)):u≠tAl∨q.kind=5∨(q.kind=1∧(rulesOf q.body).1≠0):=by
 unfold headT at h
 obtain ⟨n1,n2⟩:=sig_bo (s:=saidT m tg [] y)
 generalize sigOf sBo 5000 (saidT m tg [] y)=mk at *
 have hv:(authT tBo 5000 mk).all R.showB=true:=auth_show (by decide) n2
 have hp:=head_auth (user:=tBo) (mark:=mk) (t:=5000) (by decide) n1 (by omega)
 generalize authT tBo 5000 mk=v at *
 rw [head_tail] at h
 have RQ:∀ r,R.reqOf ((m++32 :: tg)++10 :: tailT v y)=some r→R.findP r.headers tAuth=some v∨(r.body≠[]∧(rulesOf r.body).1≠0):=fun r hr=>by
  rcases req_heads hv hr with e|e
  ·exact .inl e
  ·exact .inr (body_no e)
 generalize (m++32 :: tg)++10 :: tailT v y=t at *
 unfold readP at h
 split at h
 ·cases h
 ·split at h
  ·cases h
  ·rename_i h1 h2
   have P:R.findP (R.parseOf t).2.headers tAuth=some v∨((R.parseOf t).2.body≠[]∧(rulesOf (R.parseOf t).2.body).1≠0):=by
    unfold R.parseOf at h1 h2 ⊢
    split
    ·rename_i hl;rw [if_pos hl] at h1;exact absurd rfl h1
    ·rename_i hl
     rw [if_neg hl] at h1 h2
     cases hr:R.reqOf t with
     | none=>rw [hr] at h2;exact absurd (by decide) h2
     | some r =>
      rw [hr] at h1 h2
      simp only at h1 h2 ⊢
      split
      ·rename_i hb;rw [if_pos hb] at h1;exact absurd rfl h1
      ·exact RQ r hr
   generalize R.parseOf t=x at *
   split at h
   ·cases h
   ·rename_i u' hs
    split at h
    ·cases h
    ·rename_i a ha
     cases h
     rcases P with e|⟨e1,e2⟩
     ·left
      cases hc:claimP x.2.query x.2.headers with
      | none=>unfold signerP at hs;rw [hc] at hs;cases hs
      | some c =>
       rw [signer_is hc hs]
       unfold claimP at hc
       rw [e] at hc
       simp only at hc
       split at hc
       ·rw [hp] at hc;cases hc;show tBo≠tAl;decide
       ·cases hc
     ·right
      have hf:=ask_fit ha
      rcases ask_body ha e1 with k|k
      ·exact .inr ⟨k,by rw [hf.2.2.2.1];exact e2⟩
      ·exact .inl k
end Go.Proofs.YtbllcgibmgbnjaaGreatDoor.P
namespace Go.Proofs.YtbllcgibmgbnjaaGreatDoor.P
open Go.Proofs.YtbllcgibmgbnjaaGreatDoor.C (enc)
abbrev rNoT:Tx:=[52,48,51,32,78,111,10,10]
theorem ans_ne_no {n:Nat} {hs:Hs} {y:Tx} (h:n=200∨n=507):respT n hs y≠rNoT:=by
 intro e
 rcases h with rfl|rfl
 ·unfold respT at e
  rw [if_pos rfl,told200] at e
  exact absurd (congrArg List.head? e) (by simp)
 ·have e2:respT 507 hs y=respT 507 [] []:=by unfold respT;rw [if_neg (by decide),if_neg (by decide)]
  rw [e2,show respT 507 [] []=rLacks from rfl,lacksT] at e
  exact absurd e (by decide)
theorem done_two {s t:Sto} {c:Chg} (h:s.begin c=.ok t):(s.done c).1=200∨(s.done c).1=507:=by
 rcases done_of h with ⟨e,_⟩|e <;> rw [e] <;> simp
theorem put_both {s t:Sto} (h:Sim s t) {k y z:Tx} (hk:keyP k=true) (hy:y.length≤300) (hz:z.length=y.length) {X Y:Nat×Hs×Tx×Sto} (hX:AskQ s tPUT (kT k) y X) (hY:AskQ t tPUT (kT k) z Y) :
  ansT Y=ansT X∧Sim X.2.2.2 Y.2.2.2∧ansT X≠rNoT:=by
 have e1:=(hX.serves tAl _ (rd_put has_al hk hy) (by unfold mayP;rw [if_neg (by simp)];exact may_owner h.ow)).1 (by simp)
 have e2:=(hY.serves tAl _ (rd_put has_al hk (by omega)) (by unfold mayP;rw [if_neg (by simp)];exact may_owner (by rw [h.bk];exact h.ow))).1 (by simp)
 rw [serve5] at e1 e2
 obtain ⟨d1,d2⟩:=done_both h (.put tBkt k y z hz (fun e=>absurd rfl e))
 have hb:s.begin (.put tBkt k y)=.ok (s.add tBkt k false y):=by
  simp only [Sto.begin];rw [if_neg (by omega),h.ow];simp only;rw [if_pos hk]
 rw [e1,e2]
 exact ⟨by simp only [ansT];rw [d1,d2.la],d2,ans_ne_no (done_two hb)⟩
theorem mark_both {s t:Sto} (h:Sim s t) {k:Tx} (hk:keyP k=true) {X Y:Nat×Hs×Tx×Sto} (hX:AskQ s tDEL (kT k) [] X) (hY:AskQ t tDEL (kT k) [] Y) :
  ansT Y=ansT X∧Sim X.2.2.2 Y.2.2.2∧ansT X≠rNoT:=by
 have e1:=(hX.serves tAl _ (rd_del has_al hk) (by unfold mayP;rw [if_neg (by simp)];exact may_owner h.ow)).1 (by simp)
 have e2:=(hY.serves tAl _ (rd_del has_al hk) (by unfold mayP;rw [if_neg (by simp)];exact may_owner (by rw [h.bk];exact h.ow))).1 (by simp)
 rw [serve7] at e1 e2
 obtain ⟨d1,d2⟩:=done_both h (.mark tBkt k)
 have hb:s.begin (.mark tBkt k)=.ok (s.add tBkt k true []):=by
  simp only [Sto.begin];rw [h.ow];simp only;rw [if_pos hk]
 rw [e1,e2]
 exact ⟨by simp only [ansT];rw [d1,d2.la],d2,ans_ne_no (done_two hb)⟩
theorem put_got {s:Sto} (h:s.bk tBkt=some ⟨tAl,[],[]⟩) {k y:Tx} (hk:keyP k=true) (hy:y.length≤300) {X Z:Nat×Hs×Tx×Sto} (hX:AskQ s tPUT (kT k) y X) (hZ:AskQ X.2.2.2 tGET (kT k) [] Z) :
  ansT X=rLacks∨(∃ hs,ansT Z=respT 200 hs y):=by
 have e1:=(hX.serves tAl _ (rd_put has_al hk hy) (by unfold mayP;rw [if_neg (by simp)];exact may_owner h)).1 (by simp)
 rw [serve5] at e1
 have hb:s.begin (.put tBkt k y)=.ok (s.add tBkt k false y):=by
  simp only [Sto.begin];rw [if_neg (by omega),h];simp only;rw [if_pos hk]
 rcases done_of hb with ⟨d,_⟩|d
 ·rw [d] at e1
  subst e1
  exact .inl rfl
 ·rw [d] at e1
  subst e1
  right
  have e2:=(hZ.serves tAl _ (rd_get has_al hk) (by unfold mayP;rw [if_neg (by simp)];exact may_owner (show (s.add tBkt k false y).bk tBkt=_ from h))).1 (by simp)
  rw [serve6] at e2
  unfold getP at e2
  have hv:Sto.version { s.add tBkt k false y with log:=s.log++frameT (Chg.put tBkt k y).text } tBkt k 0=some ⟨s.last+1,false,y⟩:=by
   unfold Sto.version
   rw [if_pos rfl]
   show (match (if tBkt=tBkt∧k=k then s.vs tBkt k++[(⟨s.last+1,false,y⟩:Ver)] else s.vs tBkt k).getLast? with|none=>none|some v=>if v.mark=true then none else some v)=_
   rw [if_pos ⟨rfl,rfl⟩,List.getLast?_concat]
   rfl
  simp only at e2
  rw [hv] at e2
  rw [e2]
  exact ⟨_,rfl⟩
theorem got_body {hs hs':Hs} {a b:UInt8} (h:a≠b):respT 200 hs [a]≠respT 200 hs' [b]:=by
 intro e
 have f:∀ (c:UInt8) (l:Hs),(respT 200 l [c]).getLast?=some c:=fun c l=>by
  unfold respT
  rw [if_pos rfl]
  rw [show toldT 200++[10]++(l.flatMap hLine++([10]++[c]))=(toldT 200++[10]++l.flatMap hLine++[10])++[c] by simp,List.getLast?_concat]
 have:=congrArg List.getLast? e
 rw [f,f] at this
 exact h (Option.some.inj this)
abbrev tLast:Tx:=[108,97,115,116]
theorem last_key:keyP tLast=true:=by decide
theorem last_kT:kT tLast=[47,97,108,115,98,111,120,47,108,97,115,116]:=by
 show _++enc true tLast=_
 rw [enc_self (by decide)];rfl
theorem last_both {s t:Sto} (h:Sim s t) {X Y Z V:Nat×Hs×Tx×Sto} (hX:AskQ s tPUT (kT tLast) [49] X) (hY:AskQ t tPUT (kT tLast) [48] Y) (hZ:AskQ X.2.2.2 tGET (kT tLast) [] Z) (hV:AskQ Y.2.2.2 tGET (kT tLast) [] V) :
  ansT Y=ansT X∧(ansT X=rLacks∨(ansT X≠rLacks∧ansT Z≠ansT V)):=by
 obtain ⟨e,_,_⟩:=put_both h last_key (by simp) (by simp) hX hY
 refine ⟨e,?_⟩
 by_cases hl:ansT X=rLacks
 ·exact .inl hl
 ·right
  refine ⟨hl,?_⟩
  obtain ⟨a,ha⟩:=(put_got h.ow last_key (by simp) hX hZ).resolve_left hl
  obtain ⟨b,hb⟩:=(put_got (by rw [h.bk];exact h.ow) last_key (by simp) hY hV).resolve_left (by rw [e];exact hl)
  rw [ha,hb]
  exact got_body (by decide)
end Go.Proofs.YtbllcgibmgbnjaaGreatDoor.P
namespace Go.Proofs.YtbllcgibmgbnjaaGreatDoor.P
open Go.RowKit
open Go.Proofs.YtbllcgibmgbnjaaGreatDoor.C (ret_bool ret_int ret_str enc enc_len)
theorem boQ_any (h a b:Nat) (s:Sto) (r:Roles) (m tg y:Tx) (h1:m.length≤1000) (h2:tg.length≤1000000000000000) (h4:y.length≤1000000) (X:Nat×Hs×Tx×Sto) (hX:RespQ two 5000 s (headT tBo sBo 5000 m tg y) X) (Ks:Keys s) (w:World) (G:GL w) (H:HS h a b s r w) (hl:(headT tBo sBo 5000 m tg y).length≤9223372036854775807) :
  Calls Tryz.prog 28 #[.pointer (some ⟨h,0,none⟩),str m,str tg,str y] w fun e w'=>∃ r',e=.returned (str (ansT X))∧HS h a b X.2.2.2 r' w'∧Step r w r' w':=by
 have BH:Hid (Calls Tryz.prog 14 #[str tBo,str sBo,.int .i64 5000,str m,str tg,str y] w.drew fun e w'=>(e=.returned (str (headT tBo sBo 5000 m tg y))∧Below w.drew.heap.size w.drew w')∧w'.cell? ⟨h,0,none⟩=some (.pointer (some ⟨a,0,none⟩))):=Calls.mono (byHeader_any tBo sBo 5000 m tg y (by omega) (by simp) (by simp) h1 h2 h4 w.drew G.drew) fun e w' k=>⟨k,(k.2.cell (p:=⟨h,0,none⟩) H.hl).trans H.c⟩
 have DO:Hid (∀ W,GL W→LS a b two 5000 s r W→Calls Tryz.prog 16 #[.pointer (some ⟨a,0,none⟩),str (headT tBo sBo 5000 m tg y)] W fun e w'=>∃ r',e=.returned (str (ansT X))∧LS a b two 5000 X.2.2.2 r' w'∧Step r W r' w'):=fun W GW LW=>doQ_any a b two 5000 s r _ hl X hX Ks W GW LW
 have hc:=H.c
 have xd:w.drew.cell? ⟨h,0,none⟩=some (.pointer (some ⟨a,0,none⟩)):=hc
 have HH:Hid (HS h a b s r w):=H
 have HG:Hid (GL w):=G
 have hrh:=H.rh
 clear H
 clear hX Ks
 generalize ansT X=xt at *
 generalize headT tBo sBo 5000 m tg y=q at *
 go_enter Tryz.func28,Tryz.ntmps28
 go_wp2_with fail
 go_region_held3 (fun w'=>w'.cell? ⟨h,0,none⟩=some (.pointer (some ⟨a,0,none⟩))) (first|with_reducible exact xd|with_reducible exact x5|with_reducible exact x6)
  (first
   | (go_at_call 14;with_reducible refine Calls.mono BH.out ?_;rintro e w1 ⟨⟨rfl,b1⟩,x5⟩;have B1:=below_trans (below_drew w) b1)
   | (go_at_call 16;with_reducible refine Calls.mono (DO.out w1 (HG.out.call B1) (HH.out.L.below B1)) ?_;rintro e w2 ⟨r',rfl,L2,st2⟩;have x6:=st2.kept.cell x5 (by simp [hrh])))
 all_goals (
  go_wp2
  go_ret
  exact ⟨r',rfl,HH.out.step ((Step.of_below B1).trans st2) L2,(Step.of_below B1).trans st2⟩)
structure Out (r:Roles) (h a:Nat) (w:World):Prop where
 rh:r h=.none
 ra:r a=.none
 ru:∀ ua n uc p,w.cell? ⟨a,0,none⟩=some (.slice ua n uc)→ua=some p→r p.block=.none
theorem LS.kept {S:Nat→Prop} {a b:Nat} {us:Us} {clock:Nat} {s:Sto} {r:Roles} {w w':World} (L:LS a b us clock s r w) (k:Kept S w w') (ha:¬ S a) (hu:∀ ua n uc p,w.cell? ⟨a,0,none⟩=some (.slice ua n uc)→ua=some p→¬ S p.block) (hr:∀ g,r g≠.none→¬ S g):LS a b us clock s r w' where
 l0:=by
  obtain ⟨ua,uc,e,hU,hp⟩:=L.l0
  exact ⟨ua,uc,k.cell e ha,hU.kept k (fun p e2=>hu ua _ uc p e e2),fun p e2=>⟨(hp p e2).1,Nat.lt_of_lt_of_le (hp p e2).2 k.size⟩⟩
 l1:=k.cell L.l1 ha
 l2:=k.cell L.l2 ha
 ra:=L.ra
 al:=Nat.lt_of_lt_of_le L.al k.size
 K:=L.K.kept k hr
 sz:=Nat.le_trans L.sz k.size
 rN:=L.rN
 F:=L.F
 hu:=L.hu
 ul:=L.ul
 un:=L.un
 cl:=L.cl
theorem HS.other {h a b:Nat} {s:Sto} {r q q':Roles} {w w':World} (H:HS h a b s r w) (st:Step q w q' w') (O:Out q h a w) (dj:∀ g,r g≠.none→q g=.none):HS h a b s r w' :=
 ⟨st.kept.cell H.c (by simp [O.rh]),H.rh,Nat.lt_of_lt_of_le H.hl st.kept.size,H.L.kept st.kept (by simp [O.ra]) (fun ua n uc p e1 e2=>by simp [O.ru ua n uc p e1 e2]) (fun g e=>by simp [dj g e])⟩
theorem LS.c0 {a b:Nat} {us:Us} {clock:Nat} {s:Sto} {r:Roles} {w:World} (L:LS a b us clock s r w):∃ v,w.cell? ⟨a,0,none⟩=some v:=by
 obtain ⟨ua,uc,e,_⟩:=L.l0
 exact ⟨_,e⟩
theorem LS.ub {a b:Nat} {us:Us} {clock:Nat} {s:Sto} {r:Roles} {w:World} (L:LS a b us clock s r w) {ua:Option Addr} {n uc:Nat} {p:Addr} (e:w.cell? ⟨a,0,none⟩=some (.slice ua n uc)) (hp:ua=some p):p.block < w.heap.size:=by
 obtain ⟨ua',uc',e',_,h⟩:=L.l0
 rw [e] at e'
 cases e'
 exact (h p hp).2
structure TwoH (N h a b:Nat) (s:Sto) (r:Roles) (h' a' b':Nat) (s':Sto) (r':Roles) (w:World):Prop where
 H:HS h a b s r w
 H':HS h' a' b' s' r' w
 K:Keys s
 K':Keys s'
 dj:∀ g,r g≠.none→r' g=.none
 o:Out r' h a w
 o':Out r h' a' w
 hr:∀ g,r g≠.none→N≤g
 hr':∀ g,r' g≠.none→N≤g
 hN:N≤w.heap.size
theorem none_of {r q:Roles} (h:∀ g,r g≠.none→q g=.none):∀ g,q g≠.none→r g=.none:=fun g e=>by
 cases e2:r g with
 | none=>rfl
 | _=>exact absurd (h g (by rw [e2];simp)) e
theorem TwoH.swap {N h a b:Nat} {s:Sto} {r:Roles} {h' a' b':Nat} {s':Sto} {r':Roles} {w:World} (T:TwoH N h a b s r h' a' b' s' r' w):TwoH N h' a' b' s' r' h a b s r w :=
 ⟨T.H',T.H,T.K',T.K,none_of T.dj,T.o',T.o,T.hr',T.hr,T.hN⟩
theorem TwoH.step {N h a b:Nat} {s:Sto} {r:Roles} {h' a' b':Nat} {s':Sto} {r':Roles} {w:World} (T:TwoH N h a b s r h' a' b' s' r' w) {s1:Sto} {r1:Roles} {w1:World} (st:Step r w r1 w1) (H1:HS h a b s1 r1 w1) (K1:Keys s1):TwoH N h a b s1 r1 h' a' b' s' r' w1∧Below N w w1:=by
 obtain ⟨n1,n2⟩:=st.base T.hr T.hN
 have k1:w1.cell? ⟨a,0,none⟩=w.cell? ⟨a,0,none⟩:=by
  obtain ⟨v,e⟩:=T.H.L.c0
  rw [e];exact st.kept.cell e (by simp [T.H.L.ra])
 have k2:w1.cell? ⟨a',0,none⟩=w.cell? ⟨a',0,none⟩:=by
  obtain ⟨v,e⟩:=T.H'.L.c0
  rw [e];exact st.kept.cell e (by simp [T.o'.ra])
 refine ⟨⟨H1,T.H'.other st T.o' (none_of T.dj),K1,T.K',fun g e=>?_,⟨T.o.rh,T.o.ra,fun ua n uc p e1 e2=>T.o.ru ua n uc p (by rw [← k1];exact e1) e2⟩,⟨st.none T.H'.hl T.o'.rh,st.none T.H'.L.al T.o'.ra,fun ua n uc p e1 e2=>?_⟩,n1,T.hr',Nat.le_trans T.hN st.kept.size⟩,n2⟩
 ·rcases Nat.lt_or_ge g w.heap.size with hl|hl
  ·exact T.dj g (st.mine g hl e)
  ·cases e2:r' g with
   | none=>rfl
   | _=>have:=T.H'.L.K.dom g (by rw [e2];simp);omega
 ·rw [k2] at e1
  exact st.none (T.H'.L.ub e1 e2) (T.o'.ru ua n uc p e1 e2)
theorem TwoH.below {N h a b:Nat} {s:Sto} {r:Roles} {h' a' b':Nat} {s':Sto} {r':Roles} {w w1:World} (T:TwoH N h a b s r h' a' b' s' r' w) (k:Below w.heap.size w w1):TwoH N h a b s r h' a' b' s' r' w1∧Below N w w1 :=
 T.step (Step.of_below k) (T.H.below k) T.K
theorem TwoH.begun {N h a b:Nat} {s:Sto} {r:Roles} {h' a' b':Nat} {s':Sto} {r':Roles} {w w1:World} (H:HS h a b s r w) (K:Keys s) (hr:∀ g,r g≠.none→N≤g) (hN:N≤w.heap.size)
  (b1:Below w.heap.size w w1) (H':HS h' a' b' s' r' w1) (K':Keys s') (hr':∀ g,r' g≠.none→w.heap.size≤g) (hh:w.heap.size≤h') (F:Frsh w.heap.size a' w1):TwoH N h a b s r h' a' b' s' r' w1:=by
 have n1:∀ g,g < w.heap.size→r' g=.none:=fun g hg=>by
  cases e:r' g with
  | none=>rfl
  | _=>have:=hr' g (by rw [e];simp);omega
 have n2:∀ g,w.heap.size≤g→r g=.none:=fun g hg=>by
  cases e:r g with
  | none=>rfl
  | _=>have:=H.L.K.dom g (by rw [e];simp);omega
 refine ⟨H.below b1,H',K,K',fun g e=>n1 g (H.L.K.dom g e),⟨n1 _ H.hl,n1 _ H.L.al,fun ua n uc p e1 e2=>?_⟩,⟨n2 _ hh,n2 _ F.1,fun ua n uc p e1 e2=>n2 _ (F.2 ua n uc p e1 e2)⟩,hr,fun g e=>Nat.le_trans hN (hr' g e),Nat.le_trans hN b1.size⟩
 rw [b1.cell (p:=⟨a,0,none⟩) H.L.al] at e1
 exact n1 _ (H.L.ub e1 e2)
theorem two_al {N h a b:Nat} {s:Sto} {r:Roles} {h' a' b':Nat} {s':Sto} {r':Roles} {w:World} (T:TwoH N h a b s r h' a' b' s' r' w) (G:GL w) {m tg y:Tx} (h1:m.length≤1000) (h2:tg.length≤1000000000000000) (h4:y.length≤1000000) {X:Nat×Hs×Tx×Sto} (hX:AskQ s m tg y X) (hl:(headT tAl sAl 5000 m tg y).length≤9223372036854775807) :
  Calls Tryz.prog 25 #[.pointer (some ⟨h,0,none⟩),str m,str tg,str y] w fun e w'=>∃ r1,e=.returned (str (ansT X))∧TwoH N h a b X.2.2.2 r1 h' a' b' s' r' w'∧Below N w w'∧Step r w r1 w' :=
 Calls.mono (alQ_any h a b s r m tg y h1 h2 h4 X hX T.K w G T.H hl) fun _ _ ⟨r1,e,H1,st⟩=>⟨r1,e,(T.step st H1 (hX.keys T.K)).1,(T.step st H1 (hX.keys T.K)).2,st⟩
theorem two_al' {N h a b:Nat} {s:Sto} {r:Roles} {h' a' b':Nat} {s':Sto} {r':Roles} {w:World} (T:TwoH N h a b s r h' a' b' s' r' w) (G:GL w) {m tg y:Tx} (h1:m.length≤1000) (h2:tg.length≤1000000000000000) (h4:y.length≤1000000) {X:Nat×Hs×Tx×Sto} (hX:AskQ s' m tg y X) (hl:(headT tAl sAl 5000 m tg y).length≤9223372036854775807) :
  Calls Tryz.prog 25 #[.pointer (some ⟨h',0,none⟩),str m,str tg,str y] w fun e w'=>∃ r1,e=.returned (str (ansT X))∧TwoH N h a b s r h' a' b' X.2.2.2 r1 w'∧Below N w w'∧Step r' w r1 w' :=
 Calls.mono (two_al T.swap G h1 h2 h4 hX hl) fun _ _ ⟨r1,e,T1,b1,st⟩=>⟨r1,e,T1.swap,b1,st⟩
theorem two_bo {N h a b:Nat} {s:Sto} {r:Roles} {h' a' b':Nat} {s':Sto} {r':Roles} {w:World} (T:TwoH N h a b s r h' a' b' s' r' w) (G:GL w) {m tg y:Tx} (h1:m.length≤1000) (h2:tg.length≤1000000000000000) (h4:y.length≤1000000) {X:Nat×Hs×Tx×Sto} (hX:RespQ two 5000 s (headT tBo sBo 5000 m tg y) X) (hl:(headT tBo sBo 5000 m tg y).length≤9223372036854775807) :
  Calls Tryz.prog 28 #[.pointer (some ⟨h,0,none⟩),str m,str tg,str y] w fun e w'=>∃ r1,e=.returned (str (ansT X))∧TwoH N h a b X.2.2.2 r1 h' a' b' s' r' w'∧Below N w w'∧Step r w r1 w' :=
 Calls.mono (boQ_any h a b s r m tg y h1 h2 h4 X hX T.K w G T.H hl) fun _ _ ⟨r1,e,H1,st⟩=>⟨r1,e,(T.step st H1 (hX.keys T.K)).1,(T.step st H1 (hX.keys T.K)).2,st⟩
theorem two_bo' {N h a b:Nat} {s:Sto} {r:Roles} {h' a' b':Nat} {s':Sto} {r':Roles} {w:World} (T:TwoH N h a b s r h' a' b' s' r' w) (G:GL w) {m tg y:Tx} (h1:m.length≤1000) (h2:tg.length≤1000000000000000) (h4:y.length≤1000000) {X:Nat×Hs×Tx×Sto} (hX:RespQ two 5000 s' (headT tBo sBo 5000 m tg y) X) (hl:(headT tBo sBo 5000 m tg y).length≤9223372036854775807) :
  Calls Tryz.prog 28 #[.pointer (some ⟨h',0,none⟩),str m,str tg,str y] w fun e w'=>∃ r1,e=.returned (str (ansT X))∧TwoH N h a b s r h' a' b' X.2.2.2 r1 w'∧Below N w w'∧Step r' w r1 w' :=
 Calls.mono (two_bo T.swap G h1 h2 h4 hX hl) fun _ _ ⟨r1,e,T1,b1,st⟩=>⟨r1,e,T1.swap,b1,st⟩
end Go.Proofs.YtbllcgibmgbnjaaGreatDoor.P
