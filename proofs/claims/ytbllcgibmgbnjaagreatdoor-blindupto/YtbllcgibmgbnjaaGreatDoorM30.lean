import Derived.Test.YtbllcgibmgbnjaaGreatDoorM29
import Derived.Test.YtbllcgibmgbnjaaGreatDoorM02
import Derived.Laws.IdiomStrings
set_option maxHeartbeats 16000000
set_option maxRecDepth 20000
namespace Go.Proofs.YtbllcgibmgbnjaaGreatDoor.P
open Go.RowKit
open Go.Proofs.YtbllcgibmgbnjaaGreatDoor.C (ret_bool ret_int ret_str enc enc_len)
theorem boQ_any (h a b:Nat) (s:Sto) (r:Roles) (m tg y:Tx) (h1:m.length≤1000) (h2:tg.length≤1000000000000000) (h4:y.length≤1000000) (X:Nat×Hs×Tx×Sto) (hX:RespQ two 5000 s (headT tBo sBo 5000 m tg y) X) (Ks:Keys s) (w:World) (G:GL w) (H:HS h a b s r w) (hl:(headT tBo sBo 5000 m tg y).length≤9223372036854775807) :
  Calls Tryz.prog 28 #[.pointer (some ⟨h,0,none⟩),str m,str tg,str y] w fun e w'=>∃ r',e=.returned (str (ansT X))∧HS h a b X.2.2.2 r' w'∧Step r w r' w':=by
 have BH:Hid (Calls Tryz.prog 14 #[str tBo,str sBo,.int .i64 5000,str m,str tg,str y] w.drew fun e w'=>(e=.returned (str (headT tBo sBo 5000 m tg y))∧Below w.drew.heap.size w.drew w')∧w'.cell? ⟨h,0,none⟩=some (.pointer (some ⟨a,0,none⟩))):=Calls.mono (byHeader_any tBo sBo 5000 m tg y (by omega) (by simp) (by simp) h1 h2 h4 w.drew G.drew) fun e w' k=>⟨k,(k.2.cell (p:=⟨h,0,none⟩) H.hl).trans H.c⟩
 have DO:Hid (∀ W,GL W→LS a b two 5000 s r W→Calls Tryz.prog 16 #[.pointer (some ⟨a,0,none⟩),str (headT tBo sBo 5000 m tg y)] W fun e w'=>∃ r',e=.returned (str (ansT X))∧LS a b two 5000 X.2.2.2 r' w'∧Step r W r' w'):=fun W GW LW=>doQ_any a b two 5000 s r _ hl X hX Ks W GW LW
 have hc:=H.c
 have xd:w.drew.cell? ⟨h,0,none⟩=some (.pointer (some ⟨a,0,none⟩)):=hc
 have HH:Hid (HS h a b s r w):=H
 have HG:Hid (GL w):=G
 have hrh:=H.rh
 clear H
 clear hX Ks
 generalize ansT X=xt at *
 generalize headT tBo sBo 5000 m tg y=q at *
 go_enter Tryz.func28,Tryz.ntmps28
 go_wp2_with fail
 go_region_held3 (fun w'=>w'.cell? ⟨h,0,none⟩=some (.pointer (some ⟨a,0,none⟩))) (first|with_reducible exact xd|with_reducible exact x5|with_reducible exact x6)
  (first
   | (go_at_call 14;with_reducible refine Calls.mono BH.out ?_;rintro e w1 ⟨⟨rfl,b1⟩,x5⟩;have B1:=below_trans (below_drew w) b1)
   | (go_at_call 16;with_reducible refine Calls.mono (DO.out w1 (HG.out.call B1) (HH.out.L.below B1)) ?_;rintro e w2 ⟨r',rfl,L2,st2⟩;have x6:=st2.kept.cell x5 (by simp [hrh])))
 all_goals (
  go_wp2
  go_ret
  exact ⟨r',rfl,HH.out.step ((Step.of_below B1).trans st2) L2,(Step.of_below B1).trans st2⟩)
structure Out (r:Roles) (h a:Nat) (w:World):Prop where
 rh:r h=.none
 ra:r a=.none
 ru:∀ ua n uc p,w.cell? ⟨a,0,none⟩=some (.slice ua n uc)→ua=some p→r p.block=.none
theorem LS.kept {S:Nat→Prop} {a b:Nat} {us:Us} {clock:Nat} {s:Sto} {r:Roles} {w w':World} (L:LS a b us clock s r w) (k:Kept S w w') (ha:¬ S a) (hu:∀ ua n uc p,w.cell? ⟨a,0,none⟩=some (.slice ua n uc)→ua=some p→¬ S p.block) (hr:∀ g,r g≠.none→¬ S g):LS a b us clock s r w' where
 l0:=by
  obtain ⟨ua,uc,e,hU,hp⟩:=L.l0
  exact ⟨ua,uc,k.cell e ha,hU.kept k (fun p e2=>hu ua _ uc p e e2),fun p e2=>⟨(hp p e2).1,Nat.lt_of_lt_of_le (hp p e2).2 k.size⟩⟩
 l1:=k.cell L.l1 ha
 l2:=k.cell L.l2 ha
 ra:=L.ra
 al:=Nat.lt_of_lt_of_le L.al k.size
 K:=L.K.kept k hr
 sz:=Nat.le_trans L.sz k.size
 rN:=L.rN
 F:=L.F
 hu:=L.hu
 ul:=L.ul
 un:=L.un
 cl:=L.cl
theorem HS.other {h a b:Nat} {s:Sto} {r q q':Roles} {w w':World} (H:HS h a b s r w) (st:Step q w q' w') (O:Out q h a w) (dj:∀ g,r g≠.none→q g=.none):HS h a b s r w' :=
 ⟨st.kept.cell H.c (by simp [O.rh]),H.rh,Nat.lt_of_lt_of_le H.hl st.kept.size,H.L.kept st.kept (by simp [O.ra]) (fun ua n uc p e1 e2=>by simp [O.ru ua n uc p e1 e2]) (fun g e=>by simp [dj g e])⟩
theorem LS.c0 {a b:Nat} {us:Us} {clock:Nat} {s:Sto} {r:Roles} {w:World} (L:LS a b us clock s r w):∃ v,w.cell? ⟨a,0,none⟩=some v:=by
 obtain ⟨ua,uc,e,_⟩:=L.l0
 exact ⟨_,e⟩
theorem LS.ub {a b:Nat} {us:Us} {clock:Nat} {s:Sto} {r:Roles} {w:World} (L:LS a b us clock s r w) {ua:Option Addr} {n uc:Nat} {p:Addr} (e:w.cell? ⟨a,0,none⟩=some (.slice ua n uc)) (hp:ua=some p):p.block < w.heap.size:=by
 obtain ⟨ua',uc',e',_,h⟩:=L.l0
 rw [e] at e'
 cases e'
 exact (h p hp).2
structure TwoH (N h a b:Nat) (s:Sto) (r:Roles) (h' a' b':Nat) (s':Sto) (r':Roles) (w:World):Prop where
 H:HS h a b s r w
 H':HS h' a' b' s' r' w
 K:Keys s
 K':Keys s'
 dj:∀ g,r g≠.none→r' g=.none
 o:Out r' h a w
 o':Out r h' a' w
 hr:∀ g,r g≠.none→N≤g
 hr':∀ g,r' g≠.none→N≤g
 hN:N≤w.heap.size
theorem none_of {r q:Roles} (h:∀ g,r g≠.none→q g=.none):∀ g,q g≠.none→r g=.none:=fun g e=>by
 cases e2:r g with
 | none=>rfl
 | _=>exact absurd (h g (by rw [e2];simp)) e
theorem TwoH.swap {N h a b:Nat} {s:Sto} {r:Roles} {h' a' b':Nat} {s':Sto} {r':Roles} {w:World} (T:TwoH N h a b s r h' a' b' s' r' w):TwoH N h' a' b' s' r' h a b s r w :=
 ⟨T.H',T.H,T.K',T.K,none_of T.dj,T.o',T.o,T.hr',T.hr,T.hN⟩
theorem TwoH.step {N h a b:Nat} {s:Sto} {r:Roles} {h' a' b':Nat} {s':Sto} {r':Roles} {w:World} (T:TwoH N h a b s r h' a' b' s' r' w) {s1:Sto} {r1:Roles} {w1:World} (st:Step r w r1 w1) (H1:HS h a b s1 r1 w1) (K1:Keys s1):TwoH N h a b s1 r1 h' a' b' s' r' w1∧Below N w w1:=by
 obtain ⟨n1,n2⟩:=st.base T.hr T.hN
 have k1:w1.cell? ⟨a,0,none⟩=w.cell? ⟨a,0,none⟩:=by
  obtain ⟨v,e⟩:=T.H.L.c0
  rw [e];exact st.kept.cell e (by simp [T.H.L.ra])
 have k2:w1.cell? ⟨a',0,none⟩=w.cell? ⟨a',0,none⟩:=by
  obtain ⟨v,e⟩:=T.H'.L.c0
  rw [e];exact st.kept.cell e (by simp [T.o'.ra])
 refine ⟨⟨H1,T.H'.other st T.o' (none_of T.dj),K1,T.K',fun g e=>?_,⟨T.o.rh,T.o.ra,fun ua n uc p e1 e2=>T.o.ru ua n uc p (by rw [← k1];exact e1) e2⟩,⟨st.none T.H'.hl T.o'.rh,st.none T.H'.L.al T.o'.ra,fun ua n uc p e1 e2=>?_⟩,n1,T.hr',Nat.le_trans T.hN st.kept.size⟩,n2⟩
 ·rcases Nat.lt_or_ge g w.heap.size with hl|hl
  ·exact T.dj g (st.mine g hl e)
  ·cases e2:r' g with
   | none=>rfl
   | _=>have:=T.H'.L.K.dom g (by rw [e2];simp);omega
 ·rw [k2] at e1
  exact st.none (T.H'.L.ub e1 e2) (T.o'.ru ua n uc p e1 e2)
theorem TwoH.below {N h a b:Nat} {s:Sto} {r:Roles} {h' a' b':Nat} {s':Sto} {r':Roles} {w w1:World} (T:TwoH N h a b s r h' a' b' s' r' w) (k:Below w.heap.size w w1):TwoH N h a b s r h' a' b' s' r' w1∧Below N w w1 :=
 T.step (Step.of_below k) (T.H.below k) T.K
theorem TwoH.begun {N h a b:Nat} {s:Sto} {r:Roles} {h' a' b':Nat} {s':Sto} {r':Roles} {w w1:World} (H:HS h a b s r w) (K:Keys s) (hr:∀ g,r g≠.none→N≤g) (hN:N≤w.heap.size)
  (b1:Below w.heap.size w w1) (H':HS h' a' b' s' r' w1) (K':Keys s') (hr':∀ g,r' g≠.none→w.heap.size≤g) (hh:w.heap.size≤h') (F:Frsh w.heap.size a' w1):TwoH N h a b s r h' a' b' s' r' w1:=by
 have n1:∀ g,g < w.heap.size→r' g=.none:=fun g hg=>by
  cases e:r' g with
  | none=>rfl
  | _=>have:=hr' g (by rw [e];simp);omega
 have n2:∀ g,w.heap.size≤g→r g=.none:=fun g hg=>by
  cases e:r g with
  | none=>rfl
  | _=>have:=H.L.K.dom g (by rw [e];simp);omega
 refine ⟨H.below b1,H',K,K',fun g e=>n1 g (H.L.K.dom g e),⟨n1 _ H.hl,n1 _ H.L.al,fun ua n uc p e1 e2=>?_⟩,⟨n2 _ hh,n2 _ F.1,fun ua n uc p e1 e2=>n2 _ (F.2 ua n uc p e1 e2)⟩,hr,fun g e=>Nat.le_trans hN (hr' g e),Nat.le_trans hN b1.size⟩
 rw [b1.cell (p:=⟨a,0,none⟩) H.L.al] at e1
 exact n1 _ (H.L.ub e1 e2)
theorem two_al {N h a b:Nat} {s:Sto} {r:Roles} {h' a' b':Nat} {s':Sto} {r':Roles} {w:World} (T:TwoH N h a b s r h' a' b' s' r' w) (G:GL w) {m tg y:Tx} (h1:m.length≤1000) (h2:tg.length≤1000000000000000) (h4:y.length≤1000000) {X:Nat×Hs×Tx×Sto} (hX:AskQ s m tg y X) (hl:(headT tAl sAl 5000 m tg y).length≤9223372036854775807) :
  Calls Tryz.prog 25 #[.pointer (some ⟨h,0,none⟩),str m,str tg,str y] w fun e w'=>∃ r1,e=.returned (str (ansT X))∧TwoH N h a b X.2.2.2 r1 h' a' b' s' r' w'∧Below N w w'∧Step r w r1 w' :=
 Calls.mono (alQ_any h a b s r m tg y h1 h2 h4 X hX T.K w G T.H hl) fun _ _ ⟨r1,e,H1,st⟩=>⟨r1,e,(T.step st H1 (hX.keys T.K)).1,(T.step st H1 (hX.keys T.K)).2,st⟩
theorem two_al' {N h a b:Nat} {s:Sto} {r:Roles} {h' a' b':Nat} {s':Sto} {r':Roles} {w:World} (T:TwoH N h a b s r h' a' b' s' r' w) (G:GL w) {m tg y:Tx} (h1:m.length≤1000) (h2:tg.length≤1000000000000000) (h4:y.length≤1000000) {X:Nat×Hs×Tx×Sto} (hX:AskQ s' m tg y X) (hl:(headT tAl sAl 5000 m tg y).length≤9223372036854775807) :
  Calls Tryz.prog 25 #[.pointer (some ⟨h',0,none⟩),str m,str tg,str y] w fun e w'=>∃ r1,e=.returned (str (ansT X))∧TwoH N h a b s r h' a' b' X.2.2.2 r1 w'∧Below N w w'∧Step r' w r1 w' :=
 Calls.mono (two_al T.swap G h1 h2 h4 hX hl) fun _ _ ⟨r1,e,T1,b1,st⟩=>⟨r1,e,T1.swap,b1,st⟩
theorem two_bo {N h a b:Nat} {s:Sto} {r:Roles} {h' a' b':Nat} {s':Sto} {r':Roles} {w:World} (T:TwoH N h a b s r h' a' b' s' r' w) (G:GL w) {m tg y:Tx} (h1:m.length≤1000) (h2:tg.length≤1000000000000000) (h4:y.length≤1000000) {X:Nat×Hs×Tx×Sto} (hX:RespQ two 5000 s (headT tBo sBo 5000 m tg y) X) (hl:(headT tBo sBo 5000 m tg y).length≤9223372036854775807) :
  Calls Tryz.prog 28 #[.pointer (some ⟨h,0,none⟩),str m,str tg,str y] w fun e w'=>∃ r1,e=.returned (str (ansT X))∧TwoH N h a b X.2.2.2 r1 h' a' b' s' r' w'∧Below N w w'∧Step r w r1 w' :=
 Calls.mono (boQ_any h a b s r m tg y h1 h2 h4 X hX T.K w G T.H hl) fun _ _ ⟨r1,e,H1,st⟩=>⟨r1,e,(T.step st H1 (hX.keys T.K)).1,(T.step st H1 (hX.keys T.K)).2,st⟩
theorem two_bo' {N h a b:Nat} {s:Sto} {r:Roles} {h' a' b':Nat} {s':Sto} {r':Roles} {w:World} (T:TwoH N h a b s r h' a' b' s' r' w) (G:GL w) {m tg y:Tx} (h1:m.length≤1000) (h2:tg.length≤1000000000000000) (h4:y.length≤1000000) {X:Nat×Hs×Tx×Sto} (hX:RespQ two 5000 s' (headT tBo sBo 5000 m tg y) X) (hl:(headT tBo sBo 5000 m tg y).length≤9223372036854775807) :
  Calls Tryz.prog 28 #[.pointer (some ⟨h',0,none⟩),str m,str tg,str y] w fun e w'=>∃ r1,e=.returned (str (ansT X))∧TwoH N h a b s r h' a' b' X.2.2.2 r1 w'∧Below N w w'∧Step r' w r1 w' :=
 Calls.mono (two_bo T.swap G h1 h2 h4 hX hl) fun _ _ ⟨r1,e,T1,b1,st⟩=>⟨r1,e,T1.swap,b1,st⟩
end Go.Proofs.YtbllcgibmgbnjaaGreatDoor.P
namespace Go.Proofs.YtbllcgibmgbnjaaGreatDoor.P
open Go.RowKit
open Go.Proofs.YtbllcgibmgbnjaaGreatDoor.C (ret_bool ret_int ret_str)
def Byts (b n:Nat) (w:World):Prop:=∀ j,j < n→(∃ c:UInt8,w.cell? ⟨b,j,none⟩=some (.int .u8 (c.toNat:Int)))∧w.frozen? ⟨b,j,none⟩=false
theorem Byts.set {b n:Nat} {w:World} (h:Byts b n w) {k:Nat} (_hk:k < n) (c:UInt8):Byts b n (w.setCell ⟨b,k,none⟩ (.int .u8 (c.toNat:Int))):=fun j hj=>by
 obtain ⟨⟨d,h1⟩,h2⟩:=h j hj
 refine ⟨?_,by rw [World.frozen?_setCell];exact h2⟩
 by_cases e:k=j
 ·subst e;exact ⟨c,World.cell?_setCell_same' _ _ _ (by rw [h1];rfl)⟩
 ·exact ⟨d,by have:=World.cell?_setCell_other (w:=w) (a:=⟨b,k,none⟩) (b:=⟨b,j,none⟩) (v:=.int .u8 (c.toNat:Int)) (h:=by simp);rw [this];exact h1⟩
theorem Byts.list {b:Nat} {w:World}:∀ {n:Nat},Byts b n w→∃ l:List UInt8,l.length=n∧∀ j (hj:j < l.length),w.cell? ⟨b,j,none⟩=some (.int .u8 (l[j].toNat:Int))
 | 0,_=>⟨[],rfl,fun j hj=>absurd hj (by simp)⟩
 | n+1,h=>by
  obtain ⟨l,h1,h2⟩:=Byts.list (n:=n) (fun j hj=>h j (by omega))
  obtain ⟨⟨c,h3⟩,_⟩:=h n (by omega)
  refine ⟨l++[c],by simp [h1],fun j hj=>?_⟩
  by_cases e:j < l.length
  ·rw [List.getElem_append_left e];exact h2 j e
  ·have e2:j=n:=by simp at hj;omega
   subst e2
   simp only [List.getElem_append_right (Nat.le_of_not_lt e),h1,Nat.sub_self,List.getElem_cons_zero]
   exact h3
theorem other_any (y:List UInt8) (hy:y.length≤1000000) (w:World) :
  Calls Tryz.prog 27 #[str y] w fun e w'=>∃ z:List UInt8,e=.returned (str z)∧z.length=y.length∧Below w.heap.size w w':=by
 have hc1:=run_bytes_of_string (P:=Tryz.prog) w 9 70 5 ⟨y.toArray⟩ Tryz.underlying9 Tryz.underlying70 Tryz.underlying5
 have hsz:(ByteArray.mk y.toArray).size=y.length:=by simp [ByteArray.size]
 generalize hcap:grownCap w (ByteArray.mk y.toArray).size 0 5=cap at *
 generalize hrow:bytesRow ⟨y.toArray⟩ cap=C at *
 have hC:y.length≤C.size:=by rw [← hrow];simp [bytesRow]
 have B0:Byts w.heap.size y.length (w.drew.alloc (.cells C 5 (C.size,C.size+1))):=fun j hj=>by
  refine ⟨⟨y[j],?_⟩,?_⟩
  ·have h1:=World.cell?_alloc_mark w.drew C 5 (C.size,C.size+1) j
   have h2:=bytesRow_at ⟨y.toArray⟩ cap j (by simpa using hj)
   rw [hrow] at h2
   rw [h2] at h1
   simpa using h1
  ·have h1:=World.frozen?_alloc_mark w.drew C 5 C.size (C.size+1) j
   have h2:¬ C.size≤j:=by omega
   rw [show w.heap.size=w.drew.heap.size from rfl,h1]
   simp [h2]
 have b0:Below w.heap.size w (w.drew.alloc (.cells C 5 (C.size,C.size+1))):=(Below.refl _ _).drew.alloc (Nat.le_refl _) _
 have HB:Hid (_∧_):=⟨B0,b0⟩
 rw [hsz] at hc1
 clear hrow hcap B0 b0
 go_enter Tryz.func27,Tryz.ntmps27
 go_wp2
 go_loopw [4] (fun i wr=>∃ k:Nat,k≤y.length∧i=.int .i64 k∧Byts w.heap.size y.length wr∧Below w.heap.size w wr) (fun i _=>y.length - (intOf i).toNat)
 case atStart=>exact ⟨0,Nat.zero_le _,rfl,HB.out.1,HB.out.2⟩
 case round =>
  obtain ⟨k,hk,rfl,B,hb⟩:=hrel
  by_cases hlt:k < y.length
  ·obtain ⟨⟨c,q0⟩,q1⟩:=B k hlt
   have hcc:c.toNat < 256:=c.toNat_lt
   have XR:Hid (bits .xor .u8 (c.toNat:Int) 1=((c ^^^ 1).toNat:Int)):=by
    show _=_
    have:=u8_xor_nat c.toNat 1 hcc (by omega)
    rw [show ((1:Nat):Int)=1 from rfl] at this
    rw [this,UInt8.toNat_xor];rfl
   have FIN:Hid (Byts w.heap.size y.length (wr.setCell ⟨w.heap.size,k,none⟩ (.int .u8 ((c ^^^ 1).toNat:Int)))∧Below w.heap.size w (wr.setCell ⟨w.heap.size,k,none⟩ (.int .u8 ((c ^^^ 1).toNat:Int)))):=⟨B.set hlt _,hb.setCell (Nat.le_refl _) _⟩
   go_wp2
   go_roundw
   case rel=>rw [XR.out];exact ⟨k+1,by omega,by go_num,FIN.out.1,FIN.out.2⟩
   case measure=>simp [intOf];omega
  ·obtain rfl:k=y.length:=by omega
   obtain ⟨l,hl,hc⟩:=B.list
   have hbk:=run_convert_bytes_back (P:=Tryz.prog) wr 70 9 5 ⟨w.heap.size,0,none⟩ cap l Tryz.underlying70 Tryz.underlying5 Tryz.underlying9 (fun j hj=>by rw [show (⟨w.heap.size,0,none⟩:Addr).add j=⟨w.heap.size,j,none⟩ by unfold Addr.add;split <;> simp_all];exact hc j hj)
   rw [hl] at hbk
   go_wp2
   go_ret
   exact ⟨l,rfl,hl,hb⟩
end Go.Proofs.YtbllcgibmgbnjaaGreatDoor.P
namespace Go.Proofs.YtbllcgibmgbnjaaGreatDoor.P
open Go.RowKit
open Go.Proofs.YtbllcgibmgbnjaaGreatDoor.C (ret_bool ret_int ret_str enc enc_len)
structure WiP where
 method:Int
 target:Tx
 body:Tx
structure WiFit (o:WiP):Prop where
 m:i64 o.method
 t:o.target.length≤1048576
structure WR (a:Option Addr) (l:List WiP) (w:World):Prop where
 get:∀ k (h:k < l.length),∃ b o,a=some ⟨b,o,none⟩∧b < w.heap.size∧w.cell? ⟨b,o+k*3,none⟩=some (.int .i64 l[k].method)∧w.cell? ⟨b,o+k*3+1,none⟩=some (str l[k].target)∧w.cell? ⟨b,o+k*3+2,none⟩=some (str l[k].body)
theorem WR.below {a:Option Addr} {l:List WiP} {w w':World} (h:WR a l w) (k:Below w.heap.size w w'):WR a l w' :=
 ⟨fun i hi=>by
  obtain ⟨b,o,e,hb,c0,c1,c2⟩:=h.get i hi
  have:=k.size
  exact ⟨b,o,e,by omega,(k.cell (p:=⟨b,o+i*3,none⟩) hb).trans c0,(k.cell (p:=⟨b,o+i*3+1,none⟩) hb).trans c1,(k.cell (p:=⟨b,o+i*3+2,none⟩) hb).trans c2⟩⟩
def mOf:Nat→Tx
 | 0=>tGET
 | 1=>tPUT
 | _=>tDEL
theorem mOf_len (j:Nat):(mOf j).length≤1000:=by
 match j with
 | 0=>decide
 | 1=>decide
 | _+2=>show tDEL.length≤1000;decide
theorem head_bound {u sec m tg y:Tx} (hu:u.length≤1000) (hm:m.length≤1000) (ht:tg.length≤1000000000000000) (hy:y.length≤1000000):(headT u sec 5000 m tg y).length≤9223372036854775807:=by
 have h1:(lenT y).length≤13:=itoa_short (by omega)
 have h2:=sig_len sec 5000 (saidT m tg [] y)
 have h3:(Lib.itoa ((5000:Nat):Int)).length≤13:=itoa_short (by omega)
 unfold headT
 generalize sigOf sec 5000 (saidT m tg [] y)=sg at *
 unfold saidT authT
 simp only [List.length_append,List.length_cons,List.length_nil]
 omega
structure TS (N h a b:Nat) (h' a' b':Nat) (s:Sto) (r:Roles) (s':Sto) (r':Roles) (w0 w:World):Prop where
 T:TwoH N h a b s r h' a' b' s' r' w
 S:Sim s s'
 B:Below N w0 w
theorem TS.below {N h a b h' a' b':Nat} {s:Sto} {r:Roles} {s':Sto} {r':Roles} {w0 w w1:World} (T:TS N h a b h' a' b' s r s' r' w0 w) (k:Below w.heap.size w w1):TS N h a b h' a' b' s r s' r' w0 w1 :=
 ⟨(T.T.below k).1,T.S,T.B.trans (T.T.below k).2⟩
theorem kT_short {k:Tx} (hk:keyP k=true):(kT k).length≤1000:=by
 have h1:=(enc_len true k).2
 have h2:=key_len hk
 simp [kT];omega
theorem ts_put {N h a b h' a' b':Nat} {s:Sto} {r:Roles} {s':Sto} {r':Roles} {w0 w:World} (T:TS N h a b h' a' b' s r s' r' w0 w) (G:GL w0→GL w) (G0:GL w0) {k y:Tx} (hk:keyP k=true) (hy:y.length≤300) :
  ∃ X,(AskQ s tPUT (kT k) y X∧ansT X≠rNoT)∧Calls Tryz.prog 25 #[.pointer (some ⟨h,0,none⟩),str tPUT,str (kT k),str y] w fun e w'=>∃ r1,e=.returned (str (ansT X))∧TwoH N h a b X.2.2.2 r1 h' a' b' s' r' w'∧Below N w w'∧Step r w r1 w':=by
 obtain ⟨X,hX⟩:=respQ_ex T.T.K two 5000 (headT tAl sAl 5000 tPUT (kT k) y)
 obtain ⟨Y,hY⟩:=respQ_ex T.T.K' two 5000 (headT tAl sAl 5000 tPUT (kT k) y)
 have h1:=kT_short hk
 exact ⟨X,⟨hX,(put_both T.S hk hy rfl hX hY).2.2⟩,two_al T.T (G G0) (by decide) (by omega) (by omega) hX (head_bound (by decide) (by decide) (by omega) (by omega))⟩
theorem ts_put' {N h a b h' a' b':Nat} {s:Sto} {s':Sto} {r r':Roles} {w:World} {X:Nat×Hs×Tx×Sto} (S:Sim s s') (T:TwoH N h a b X.2.2.2 r h' a' b' s' r' w) (G:GL w) {k y z:Tx} (hk:keyP k=true) (hy:y.length≤300) (hz:z.length=y.length) (hX:AskQ s tPUT (kT k) y X) :
  Calls Tryz.prog 25 #[.pointer (some ⟨h',0,none⟩),str tPUT,str (kT k),str z] w fun e w'=>∃ t1 r1,e=.returned (str (ansT X))∧TwoH N h a b X.2.2.2 r h' a' b' t1 r1 w'∧Below N w w'∧Sim X.2.2.2 t1:=by
 obtain ⟨Y,hY⟩:=respQ_ex T.K' two 5000 (headT tAl sAl 5000 tPUT (kT k) z)
 have h1:=kT_short hk
 obtain ⟨e1,e2,_⟩:=put_both S hk hy hz hX hY
 rw [← e1]
 exact Calls.mono (two_al' T G (by decide) (by omega) (by omega) hY (head_bound (by decide) (by decide) (by omega) (by omega))) fun e w' ⟨r1,h1,h2,h3,_⟩=>⟨_,r1,h1,h2,h3,e2⟩
theorem ts_mark {N h a b h' a' b':Nat} {s:Sto} {r:Roles} {s':Sto} {r':Roles} {w0 w:World} (T:TS N h a b h' a' b' s r s' r' w0 w) (G:GL w0→GL w) (G0:GL w0) {k:Tx} (hk:keyP k=true) :
  ∃ X,(AskQ s tDEL (kT k) [] X∧ansT X≠rNoT)∧Calls Tryz.prog 25 #[.pointer (some ⟨h,0,none⟩),str tDEL,str (kT k),.string ⟨#[]⟩] w fun e w'=>∃ r1,e=.returned (str (ansT X))∧TwoH N h a b X.2.2.2 r1 h' a' b' s' r' w'∧Below N w w'∧Step r w r1 w':=by
 obtain ⟨X,hX⟩:=respQ_ex T.T.K two 5000 (headT tAl sAl 5000 tDEL (kT k) [])
 obtain ⟨Y,hY⟩:=respQ_ex T.T.K' two 5000 (headT tAl sAl 5000 tDEL (kT k) [])
 have h1:=kT_short hk
 exact ⟨X,⟨hX,(mark_both T.S hk hX hY).2.2⟩,two_al T.T (G G0) (by decide) (by omega) (by simp) hX (head_bound (by decide) (by decide) (by omega) (by simp))⟩
theorem ts_mark' {N h a b h' a' b':Nat} {s:Sto} {s':Sto} {r r':Roles} {w:World} {X:Nat×Hs×Tx×Sto} (S:Sim s s') (T:TwoH N h a b X.2.2.2 r h' a' b' s' r' w) (G:GL w) {k:Tx} (hk:keyP k=true) (hX:AskQ s tDEL (kT k) [] X) :
  Calls Tryz.prog 25 #[.pointer (some ⟨h',0,none⟩),str tDEL,str (kT k),.string ⟨#[]⟩] w fun e w'=>∃ t1 r1,e=.returned (str (ansT X))∧TwoH N h a b X.2.2.2 r h' a' b' t1 r1 w'∧Below N w w'∧Sim X.2.2.2 t1:=by
 obtain ⟨Y,hY⟩:=respQ_ex T.K' two 5000 (headT tAl sAl 5000 tDEL (kT k) [])
 have h1:=kT_short hk
 obtain ⟨e1,e2,_⟩:=mark_both S hk hX hY
 rw [← e1]
 exact Calls.mono (two_al' T G (by decide) (by omega) (by simp) hY (head_bound (by decide) (by decide) (by omega) (by simp))) fun e w' ⟨r1,h1,h2,h3,_⟩=>⟨_,r1,h1,h2,h3,e2⟩
def Free (r r':Roles) (g:Nat):Prop:=r g=.none∧r' g=.none
theorem TwoH.free {N h a b:Nat} {s:Sto} {r:Roles} {h' a' b':Nat} {s':Sto} {r':Roles} {w:World} (T:TwoH N h a b s r h' a' b' s' r' w):Free r r' w.heap.size:=⟨T.H.L.new,T.H'.L.new⟩
structure MS (n:Nat) (r r':Roles) (w:World):Prop where
 f:Free r r' n
 l:n < w.heap.size
 c:∀ m,m < 3→w.cell? ⟨n,m,none⟩=some (str (mOf m))
theorem MS.step {n:Nat} {r r' r1:Roles} {w w1:World} (M:MS n r r' w) (st:Step r w r1 w1):MS n r1 r' w1 :=
 ⟨⟨st.none M.l M.f.1,M.f.2⟩,Nat.lt_of_lt_of_le M.l st.kept.size,fun m hm=>st.kept.cell (M.c m hm) (by simp [M.f.1])⟩
theorem MS.swap {n:Nat} {r r':Roles} {w:World} (M:MS n r r' w):MS n r' r w:=⟨⟨M.f.2,M.f.1⟩,M.l,M.c⟩
theorem MS.below {n:Nat} {r r':Roles} {w w1:World} (M:MS n r r' w) (k:Below w.heap.size w w1):MS n r r' w1:=M.step (Step.of_below k)
abbrev metC:Obj:=.cells #[str tGET,str tPUT,str tDEL] 9
theorem ts_bo {N h a b h' a' b':Nat} {s:Sto} {r:Roles} {s':Sto} {r':Roles} {w0 w:World} {n:Nat} (T:TS N h a b h' a' b' s r s' r' w0 w) (M:MS n r r' w) (G:GL w) {m tg y:Tx} (hm:m.length≤1000) (ht:tg.length≤1048576) (hy:y.length≤300) :
  ∃ X,RespQ two 5000 s (headT tBo sBo 5000 m tg y) X∧Calls Tryz.prog 28 #[.pointer (some ⟨h,0,none⟩),str m,str tg,str y] w fun e w'=>∃ r1,e=.returned (str (ansT X))∧(TwoH N h a b X.2.2.2 r1 h' a' b' s' r' w'∧MS n r1 r' w')∧Below N w w':=by
 obtain ⟨X,hX⟩:=respQ_ex T.T.K two 5000 (headT tBo sBo 5000 m tg y)
 exact ⟨X,hX,Calls.mono (two_bo T.T G hm (by omega) (by omega) hX (head_bound (by decide) hm (by omega) (by omega))) fun e w' ⟨r1,h1,h2,h3,st⟩=>⟨r1,h1,⟨h2,M.step st⟩,h3⟩⟩
theorem ts_bo' {N h a b h' a' b':Nat} {s:Sto} {s':Sto} {r r':Roles} {w:World} {n:Nat} {X:Nat×Hs×Tx×Sto} (S:Sim s s') (T:TwoH N h a b X.2.2.2 r h' a' b' s' r' w) (M:MS n r r' w) (G:GL w) {m tg y:Tx} (hm:m.length≤1000) (ht:tg.length≤1048576) (hy:y.length≤300) (hX:RespQ two 5000 s (headT tBo sBo 5000 m tg y) X) :
  Calls Tryz.prog 28 #[.pointer (some ⟨h',0,none⟩),str m,str tg,str y] w fun e w'=>∃ t1 r1,e=.returned (str (ansT X))∧(TwoH N h a b X.2.2.2 r h' a' b' t1 r1 w'∧MS n r r1 w'∧Sim X.2.2.2 t1)∧Below N w w':=by
 obtain ⟨Y,hY⟩:=respQ_ex T.K' two 5000 (headT tBo sBo 5000 m tg y)
 obtain ⟨e1,e2⟩:=resp_both S hX hY (fun u q hr=>read_bo hr)
 rw [← e1]
 exact Calls.mono (two_bo' T G hm (by omega) (by omega) hY (head_bound (by decide) hm (by omega) (by omega))) fun e w' ⟨r1,h1,h2,h3,st⟩=>⟨_,r1,h1,⟨h2,(M.swap.step st).swap,e2⟩,h3⟩
theorem ts_last {N h a b h' a' b':Nat} {s:Sto} {r:Roles} {s':Sto} {r':Roles} {w0 w:World} (T:TS N h a b h' a' b' s r s' r' w0 w) (_G0:GL w0) (hG:∀ W,Below N w0 W→GL W) :
  ∃ (xt zt vt:Tx),(xt=rLacks∨(xt≠rLacks∧zt≠vt))∧Calls Tryz.prog 25 #[.pointer (some ⟨h,0,none⟩),str tPUT,str (kT tLast),str [49]] w fun e w1=>e=.returned (str xt) ∧
   Calls Tryz.prog 25 #[.pointer (some ⟨h',0,none⟩),str tPUT,str (kT tLast),str [48]] w1 fun e w2=>e=.returned (str xt) ∧
   Calls Tryz.prog 25 #[.pointer (some ⟨h,0,none⟩),str tGET,str (kT tLast),str []] w2 fun e w3=>e=.returned (str zt) ∧
   Calls Tryz.prog 25 #[.pointer (some ⟨h',0,none⟩),str tGET,str (kT tLast),str []] w3 fun e w4=>e=.returned (str vt)∧Below N w0 w4:=by
 obtain ⟨X,hX⟩:=respQ_ex T.T.K two 5000 (headT tAl sAl 5000 tPUT (kT tLast) [49])
 obtain ⟨Y,hY⟩:=respQ_ex T.T.K' two 5000 (headT tAl sAl 5000 tPUT (kT tLast) [48])
 obtain ⟨Z,hZ⟩:=respQ_ex (hX.keys T.T.K) two 5000 (headT tAl sAl 5000 tGET (kT tLast) [])
 obtain ⟨V,hV⟩:=respQ_ex (hY.keys T.T.K') two 5000 (headT tAl sAl 5000 tGET (kT tLast) [])
 have h1:=kT_short last_key
 obtain ⟨e1,e2⟩:=last_both T.S hX hY hZ hV
 have hb:∀ {m y:Tx},m.length≤1000→y.length≤300→(headT tAl sAl 5000 m (kT tLast) y).length≤9223372036854775807:=fun hm hy=>head_bound (by decide) hm (by omega) (by omega)
 refine ⟨ansT X,ansT Z,ansT V,e2,Calls.mono (two_al T.T (hG _ T.B) (by decide) (by omega) (by simp) hX (hb (by decide) (by simp))) ?_⟩
 rintro e w1 ⟨r1,rfl,T1,b1,_⟩
 refine ⟨rfl,?_⟩
 rw [← e1]
 refine Calls.mono (two_al' T1 (hG _ (T.B.trans b1)) (by decide) (by omega) (by simp) hY (hb (by decide) (by simp))) ?_
 rintro e w2 ⟨r2,rfl,T2,b2,_⟩
 refine ⟨rfl,Calls.mono (two_al T2 (hG _ ((T.B.trans b1).trans b2)) (by decide) (by omega) (by simp) hZ (hb (by decide) (by simp))) ?_⟩
 rintro e w3 ⟨r3,rfl,T3,b3,_⟩
 refine ⟨rfl,Calls.mono (two_al' T3 (hG _ (((T.B.trans b1).trans b2).trans b3)) (by decide) (by omega) (by simp) hV (hb (by decide) (by simp))) ?_⟩
 rintro e w4 ⟨r4,rfl,T4,b4,_⟩
 exact ⟨rfl,(((T.B.trans b1).trans b2).trans b3).trans b4⟩
theorem blaw_any (a0:Option Addr) (c0:Nat) (l:List StP) (_hl:l.length≤9223372036854775807) (hf:∀ o∈l,StFit o) (a1:Option Addr) (c1:Nat) (ws:List WiP) (hwl:ws.length≤9223372036854775807) (hw:∀ o∈ws,WiFit o) (w:World) (G:GL w) (S:SR a0 l w) (A:WR a1 ws w) :
  Calls Tryz.prog 6 #[.slice a0 l.length c0,.slice a1 ws.length c1] w fun e w'=>e=.returned (.bool true)∧Below w.heap.size w w':=by
 have BG:Hid (∀ W,GL W→Calls Tryz.prog 19 #[.int .i64 20000] W fun e w'=>∃ h a b r,e=.returned (.tuple #[.pointer (some ⟨h,0,none⟩),.bool true])∧HS h a b (sBeg 20000) r w'∧Below W.heap.size W w'∧(∀ g,r g≠.none→W.heap.size≤g)∧W.heap.size≤h∧Frsh W.heap.size a w'):=fun W GW=>by
  have:=begun_anyF 20000 (by omega) (by omega) W GW
  rw [beg_eq 20000 (by omega)] at this
  exact this
 have HS0:Hid (SR a0 l w):=S
 have HA0:Hid (WR a1 ws w):=A
 have HG:Hid (GL w):=G
 have HF:Hid (∀ o∈l,StFit o):=hf
 have HW:Hid (∀ o∈ws,WiFit o):=hw
 have HK:Hid (Keys (sBeg 20000)):=(keys_new [tAl,tBo] 20000).of_eq rfl rfl
 have HO:Hid ((sBeg 20000).bk tBkt=some ⟨tAl,[],[]⟩):=by show _=_;simp [sBeg,Sto.setBk]
 clear S A G hf hw
 go_enter Tryz.func6,Tryz.ntmps6
 go_wp2_with fail
 refine Calls.mono (BG.out w HG.out) ?_
 rintro e w1 ⟨h,a,b,r,rfl,H1,b1,hr1,_,_⟩
 go_wp2_with fail
 refine Calls.mono (BG.out w1 (HG.out.call b1)) ?_
 rintro e w2 ⟨h',a',b',r',rfl,H2,b2,hr2,hh2,F2⟩
 have TS0:Hid (TS w.heap.size h a b h' a' b' (sBeg 20000) r (sBeg 20000) r' w w2):=⟨TwoH.begun H1 HK.out hr1 b1.size b2 H2 HK.out hr2 hh2 F2,Sim.refl HO.out,b1.trans (b2.mono b1.size)⟩
 clear BG H1 H2 F2 hr1 hr2 HK HO
 go_wp2
 go_loopw [9] (fun i wr=>∃ (k:Nat) (s:Sto) (r:Roles) (s':Sto) (r':Roles),i=.int .i64 k∧k≤l.length∧k≤30∧TS w.heap.size h a b h' a' b' s r s' r' w wr) (fun i _=>l.length - (intOf i).toNat)
 case atStart=>exact ⟨0,_,_,_,_,rfl,Nat.zero_le _,by omega,TS0.out⟩
 case round =>
  clear TS0
  obtain ⟨k,s,r,s',r',rfl,hk,hk30,T⟩:=hrel
  by_cases hlt:k < l.length∧k < 30
  ·obtain ⟨hlt,hlt2⟩:=hlt
   obtain ⟨g,off,rfl,hg,q0,q1,q2,q3⟩:=(HS0.out.below T.B).get k hlt
   have ho:=HF.out _ (List.getElem_mem hlt)
   generalize l[k]=o at *
   obtain ⟨kd,ky,on,bo⟩:=o
   dsimp only at q0 q1 q2 q3
   have CU:Hid (∀ W,Calls Tryz.prog 9 #[str bo,.int .i64 300] W fun e w'=>e=.returned (str (bo.take 300))∧W=w'):=fun W=>cutK_all bo 300 (by omega) W
   have TG:Hid (∀ W,Calls Tryz.prog 26 #[.int .i64 ky] W fun e w'=>e=.returned (str (kT (keyN (pickP ky 4))))∧Below W.heap.size W w'):=fun W=>target_any ky ho.key W
   have HT:Hid (TS w.heap.size h a b h' a' b' s r s' r' w wr):=T
   have hyl:(bo.take 300).length≤300:=by simp;omega
   generalize bo.take 300=y at *
   have hkk:Hid (keyP (keyN (pickP ky 4))=true):=keyN_ok _
   generalize keyN (pickP ky 4)=kk at *
   have b0:Below wr.heap.size wr (wr.alloc (stC ⟨kd,ky,on,bo⟩)):=(Below.refl _ _).alloc (Nat.le_refl _) _
   have T1:Hid (TS w.heap.size h a b h' a' b' s r s' r' w (wr.alloc (stC ⟨kd,ky,on,bo⟩))):=T.below b0
   have hfr:Free r r' wr.heap.size:=T.T.free
   have d1:(wr.alloc (stC ⟨kd,ky,on,bo⟩)).cell? ⟨wr.heap.size,0,none⟩=some (.int .i64 kd):=by simp [go_sem]
   have d2:(wr.alloc (stC ⟨kd,ky,on,bo⟩)).cell? ⟨wr.heap.size,1,none⟩=some (.int .i64 ky):=by simp [go_sem]
   have z1:wr.heap.size < (wr.alloc (stC ⟨kd,ky,on,bo⟩)).heap.size:=by simp
   clear T ho HT b0
   go_wp2_with fail
   refine Calls.mono (CU.out _) ?_
   rintro e w3 ⟨rfl,rfl⟩
   generalize wr.alloc (stC ⟨kd,ky,on,bo⟩)=W1 at *
   have xx:True:=trivial
   by_cases k1:kd=1
   ·subst k1
    go_wp2_with fail
    refine Calls.mono (TG.out _) ?_
    rintro e w4 ⟨rfl,b4⟩
    have T4:=T1.out.below b4
    obtain ⟨X,hX,AX⟩:=ts_put T4 (fun G=>G.call T4.B) HG.out hkk.out hyl
    have HAX:Hid (_):=AX
    have HX:Hid (AskQ s tPUT (kT kk) y X):=hX.1
    have tn:(ansT X == [52,48,51,32,78,111,10,10])=false:=by simpa using hX.2
    have f2:=(b4.cell (p:=⟨wr.heap.size,1,none⟩) z1).trans d2
    have HT4:Hid (TS w.heap.size h a b h' a' b' s r s' r' w w4):=T4
    clear AX hX T4
    go_wp2_with fail
    refine Calls.mono HAX.out ?_
    rintro e w5 ⟨r5,rfl,T5,b5,st5⟩
    have g2:=st5.kept.cell f2 (by simp [hfr.1])
    have HT5:Hid (TwoH w.heap.size h a b X.2.2.2 r5 h' a' b' s' r' w5∧Below w.heap.size w w5):=⟨T5,HT4.out.B.trans b5⟩
    clear T5 b5 st5 HAX f2
    go_wp2_with fail
    refine Calls.mono (TG.out _) ?_
    rintro e w6 ⟨rfl,b6⟩
    have OT:Hid (_):=other_any y (by omega) w6
    go_wp2_with fail
    refine Calls.mono OT.out ?_
    rintro e w7 ⟨z,rfl,hz,b7⟩
    have B57:=below_trans b6 b7
    obtain ⟨T7,b57⟩:=HT5.out.1.below B57
    have B7:=HT5.out.2.trans b57
    have AY:Hid (_):=ts_put' HT4.out.S T7 (HG.out.call B7) hkk.out hyl hz HX.out
    clear T7 OT
    generalize ansT X=xt at *
    go_wp2_with fail
    refine Calls.mono AY.out ?_
    rintro e w8 ⟨t8,r8,rfl,T8,b8,S8⟩
    have FIN:Hid (TS w.heap.size h a b h' a' b' X.2.2.2 r5 t8 r8 w w8):=⟨T8,S8,B7.trans b8⟩
    clear T8 S8 AY
    go_wp2
    go_roundw
    case rel=>exact ⟨k+1,_,_,_,_,by go_num,by omega,by omega,FIN.out⟩
    case measure=>simp [intOf];omega
   ·by_cases k2:kd=2
    ·subst k2
     go_wp2_with fail
     refine Calls.mono (TG.out _) ?_
     rintro e w4 ⟨rfl,b4⟩
     have T4:=T1.out.below b4
     obtain ⟨X,hX,AX⟩:=ts_mark T4 (fun G=>G.call T4.B) HG.out hkk.out
     have HAX:Hid (_):=AX
     have HX:Hid (AskQ s tDEL (kT kk) [] X):=hX.1
     have tn:(ansT X == [52,48,51,32,78,111,10,10])=false:=by simpa using hX.2
     have f2:=(b4.cell (p:=⟨wr.heap.size,1,none⟩) z1).trans d2
     have HT4:Hid (TS w.heap.size h a b h' a' b' s r s' r' w w4):=T4
     clear AX hX T4
     go_wp2_with fail
     refine Calls.mono HAX.out ?_
     rintro e w5 ⟨r5,rfl,T5,b5,st5⟩
     have g2:=st5.kept.cell f2 (by simp [hfr.1])
     have HT5:Hid (TwoH w.heap.size h a b X.2.2.2 r5 h' a' b' s' r' w5∧Below w.heap.size w w5):=⟨T5,HT4.out.B.trans b5⟩
     clear T5 b5 st5 HAX f2
     go_wp2_with fail
     refine Calls.mono (TG.out _) ?_
     rintro e w6 ⟨rfl,b6⟩
     obtain ⟨T7,b57⟩:=HT5.out.1.below b6
     have B7:=HT5.out.2.trans b57
     have AY:Hid (_):=ts_mark' HT4.out.S T7 (HG.out.call B7) hkk.out HX.out
     clear T7
     generalize ansT X=xt at *
     go_wp2_with fail
     refine Calls.mono AY.out ?_
     rintro e w8 ⟨t8,r8,rfl,T8,b8,S8⟩
     have FIN:Hid (TS w.heap.size h a b h' a' b' X.2.2.2 r5 t8 r8 w w8):=⟨T8,S8,B7.trans b8⟩
     clear T8 S8 AY
     go_wp2
     go_roundw
     case rel=>exact ⟨k+1,_,_,_,_,by go_num,by omega,by omega,FIN.out⟩
     case measure=>simp [intOf];omega
    ·have t1:(kd == 1)=false:=by simpa using k1
     have t2:(kd == 2)=false:=by simpa using k2
     go_wp2
     go_roundw
     case rel=>exact ⟨k+1,_,_,_,_,by go_num,by omega,by omega,T1.out⟩
     case measure=>simp [intOf];omega
  ·have tt:(decide (k < l.length)=true∧decide ((k:Int) < 30)=false∧decide (k < 30)=false)∨decide (k < l.length)=false:=by
    by_cases h1:k < l.length
    ·exact .inl ⟨by simpa using h1,by simp;omega,by simp;omega⟩
    ·exact .inr (by simpa using h1)
   have b0:Below wr.heap.size wr (wr.alloc metC):=(Below.refl _ _).alloc (Nat.le_refl _) _
   have HT:Hid (TS w.heap.size h a b h' a' b' s r s' r' w (wr.alloc metC)∧MS wr.heap.size r r' (wr.alloc metC)):=⟨T.below b0,T.T.free,by simp,fun m hm=>by
    have:m=0∨m=1∨m=2:=by omega
    rcases this with rfl|rfl|rfl <;> simp [go_sem,mOf]⟩
   clear T HS0 HF hlt b0
   generalize hn:wr.heap.size=n at HT
   have HN:Hid (wr.heap.size=n):=hn
   clear hn
   rcases tt with ⟨t1,t2,t3⟩|t1
   all_goals (
    go_wp2
    go_loopw [17] (fun i wq=>∃ (j:Nat) (s:Sto) (r:Roles) (s':Sto) (r':Roles),i=.int .i64 j∧j≤ws.length∧TS w.heap.size h a b h' a' b' s r s' r' w wq∧MS n r r' wq) (fun i _=>ws.length - (intOf i).toNat)
    case atStart=>exact ⟨0,s,r,s',r',rfl,Nat.zero_le _,HT.out⟩
    case round =>
     clear HT
     (try clear t2 t3)
     clear t1
     obtain ⟨j,s2,r2,s2',r2',rfl,hj,T2,M2⟩:=hrel
     by_cases hjl:j < ws.length
     ·obtain ⟨g,off,rfl,hgN,q0,q1,q2⟩:=HA0.out.get j hjl
      have HCE:Hid (∀ W,Below w.heap.size w W→W.cell? ⟨g,off+j*3+1,none⟩=some (str ws[j].target)∧W.cell? ⟨g,off+j*3+2,none⟩=some (str ws[j].body)):=fun W hW=>⟨(hW.cell (p:=⟨g,off+j*3+1,none⟩) hgN).trans q1,(hW.cell (p:=⟨g,off+j*3+2,none⟩) hgN).trans q2⟩
      replace q0:=(T2.B.cell (p:=⟨g,off+j*3,none⟩) hgN).trans q0
      clear q1 q2
      have hwf:=HW.out _ (List.getElem_mem hjl)
      generalize ws[j]=o at *
      obtain ⟨md,tg,bo⟩:=o
      dsimp only at q0 HCE
      have htl:tg.length≤1048576:=hwf.t
      have PK:Hid (∀ W,Calls Tryz.prog 10 #[.int .i64 md,.int .i64 3] W fun e w'=>e=.returned (.int .i64 (pickP md 3:Int))∧W=w'):=fun W=>pick_any md hwf.m 3 (by omega) (by omega) W
      have hp3:=pickP_lt md (n:=3) (by omega)
      have CU:Hid (∀ W,Calls Tryz.prog 9 #[str bo,.int .i64 300] W fun e w'=>e=.returned (str (bo.take 300))∧W=w'):=fun W=>cutK_all bo 300 (by omega) W
      have hyl:(bo.take 300).length≤300:=by simp;omega
      generalize bo.take 300=y at *
      generalize pickP md 3=pj at *
      have qm:=M2.c pj hp3
      rw [← HN.out] at qm
      have hml:=mOf_len pj
      have T2d:=T2.below (below_drew wr)
      have xd:wr.drew.cell? ⟨g,off+j*3+1,none⟩=some (str tg)∧wr.drew.cell? ⟨g,off+j*3+2,none⟩=some (str bo):=HCE.out _ T2d.B
      obtain ⟨X,hX,BX⟩:=ts_bo T2d (M2.below (below_drew wr)) (HG.out.call T2d.B) hml htl hyl
      have BO:Hid (Calls Tryz.prog 28 #[.pointer (some ⟨h,0,none⟩),str (mOf pj),str tg,str y] wr.drew fun e w'=>(∃ r1,e=.returned (str (ansT X))∧(TwoH w.heap.size h a b X.2.2.2 r1 h' a' b' s2' r2' w'∧MS n r1 r2' w')∧Below w.heap.size wr.drew w')∧(w'.cell? ⟨g,off+j*3+1,none⟩=some (str tg)∧w'.cell? ⟨g,off+j*3+2,none⟩=some (str bo))):=Calls.mono BX fun e w' hh=>⟨hh,by
       obtain ⟨r1,_,_,b⟩:=hh
       exact HCE.out _ (T2d.B.trans b)⟩
      have HX:Hid (RespQ two 5000 s2 (headT tBo sBo 5000 (mOf pj) tg y) X):=hX
      have HT2:Hid (TS w.heap.size h a b h' a' b' s2 r2 s2' r2' w wr.drew):=T2d
      have HBY:Hid (∀ r5 W,TwoH w.heap.size h a b X.2.2.2 r5 h' a' b' s2' r2' W→MS n r5 r2' W→GL W→Calls Tryz.prog 28 #[.pointer (some ⟨h',0,none⟩),str (mOf pj),str tg,str y] W fun e w'=>∃ t1 r1,e=.returned (str (ansT X))∧(TwoH w.heap.size h a b X.2.2.2 r5 h' a' b' t1 r1 w'∧MS n r5 r1 w'∧Sim X.2.2.2 t1)∧Below w.heap.size W w'):=fun r5 W hT hM hG=>ts_bo' T2.S hT hM hG hml htl hyl hX
      clear T2 M2 T2d BX hX hwf
      generalize mOf pj=mm at *
      generalize ansT X=xt at *
      go_wp2_with (go_at_call 10;refine Calls.mono (PK.out _) ?_;rintro e w3 ⟨rfl,rfl⟩)
      go_region_held3 (fun w'=>w'.cell? ⟨g,off+j*3+1,none⟩=some (str tg)∧w'.cell? ⟨g,off+j*3+2,none⟩=some (str bo)) (first|with_reducible exact xd|with_reducible exact y5)
       (first
        | (go_at_call 9;with_reducible refine Calls.mono (CU.out _) ?_;rintro e w4 ⟨rfl,rfl⟩)
        | (go_at_call 28;with_reducible refine Calls.mono BO.out ?_;rintro e w5 ⟨⟨r5,rfl,⟨T5,M5⟩,b5⟩,y5⟩))
      all_goals (
       have B5:=HT2.out.B.trans b5
       have B5d:Below w.heap.size w w5.drew:=B5.drew
       obtain ⟨T5d,_⟩:=T5.below (below_drew w5)
       have x5:w5.drew.cell? ⟨g,off+j*3+1,none⟩=some (str tg)∧w5.drew.cell? ⟨g,off+j*3+2,none⟩=some (str bo):=y5
       have BY:Hid (Calls Tryz.prog 28 #[.pointer (some ⟨h',0,none⟩),str mm,str tg,str y] w5.drew fun e w'=>(∃ t1 r1,e=.returned (str xt)∧(TwoH w.heap.size h a b X.2.2.2 r5 h' a' b' t1 r1 w'∧MS n r5 r1 w'∧Sim X.2.2.2 t1)∧Below w.heap.size w5.drew w')∧(w'.cell? ⟨g,off+j*3+1,none⟩=some (str tg)∧w'.cell? ⟨g,off+j*3+2,none⟩=some (str bo))):=Calls.mono (HBY.out r5 w5.drew T5d (M5.below (below_drew w5)) (HG.out.call B5d)) fun e w' hh=>⟨hh,by
        obtain ⟨t1,r1,_,_,b⟩:=hh
        exact HCE.out _ (B5d.trans b)⟩
       clear T5 M5 T5d BO xd
       go_wp2_with fail
       go_region_held3 (fun w'=>w'.cell? ⟨g,off+j*3+1,none⟩=some (str tg)∧w'.cell? ⟨g,off+j*3+2,none⟩=some (str bo)) (first|with_reducible exact x5|with_reducible exact y6)
        (first
         | (go_at_call 9;with_reducible refine Calls.mono (CU.out _) ?_;rintro e w6 ⟨rfl,rfl⟩)
         | (go_at_call 28;with_reducible refine Calls.mono BY.out ?_;rintro e w7 ⟨⟨t7,r7,rfl,⟨T7,M7,S7⟩,b7⟩,y6⟩))
       all_goals (
        have FIN:Hid (TS w.heap.size h a b h' a' b' X.2.2.2 r5 t7 r7 w w7∧MS n r5 r7 w7):=⟨⟨T7,S7,B5d.trans b7⟩,M7⟩
        clear T7 M7 S7 BY
        go_wp2
        go_roundw
        case rel=>exact ⟨j+1,_,_,_,_,by go_num,by omega,FIN.out⟩
        case measure=>simp [intOf];omega))
     ·obtain rfl:j=ws.length:=by omega
      obtain ⟨xt,zt,vt,hd,AX⟩:=ts_last T2 HG.out (fun W hW=>HG.out.call hW)
      rw [last_kT] at AX
      have HAX:Hid (_):=AX
      clear AX T2 M2
      go_wp2_with fail
      refine Calls.mono HAX.out ?_
      rintro e w3 ⟨rfl,A2⟩
      have HA2:Hid (_):=A2
      clear HAX A2
      go_wp2_with fail
      refine Calls.mono HA2.out ?_
      rintro e w4 ⟨rfl,A3⟩
      have HA3:Hid (_):=A3
      clear HA2 A3
      go_wp2_with fail
      refine Calls.mono HA3.out ?_
      rintro e w5 ⟨rfl,A4⟩
      have HA4:Hid (_):=A4
      clear HA3 A4
      go_wp2_with fail
      refine Calls.mono HA4.out ?_
      rintro e w6 ⟨rfl,b6⟩
      clear HA4
      rcases hd with rfl|⟨h1,h2⟩
      ·rw [lacksT]
       go_wp2
       go_ret
       exact ⟨rfl,b6⟩
      ·have u1:(xt == [53,48,55,32,70,117,108,108,10,10])=false:=by rw [← lacksT];simpa using h1
       have u2:(zt == vt)=false:=by simpa using h2
       go_wp2
       go_ret
       exact ⟨rfl,b6⟩)
end Go.Proofs.YtbllcgibmgbnjaaGreatDoor.P
