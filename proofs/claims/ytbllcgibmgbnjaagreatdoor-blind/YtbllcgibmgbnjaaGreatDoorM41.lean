import Derived.Test.YtbllcgibmgbnjaaGreatDoorShelf
import Derived.Test.YtbllcgibmgbnjaaGreatDoorM02
import Derived.Test.YtbllcgibmgbnjaaGreatDoorM03
import Derived.Test.YtbllcgibmgbnjaaGreatDoorM04
import Derived.Test.YtbllcgibmgbnjaaGreatDoorM05
import Derived.Test.YtbllcgibmgbnjaaGreatDoorM06
import Derived.Test.YtbllcgibmgbnjaaGreatDoorM07
import Derived.Test.YtbllcgibmgbnjaaGreatDoorM08
import Derived.Test.YtbllcgibmgbnjaaGreatDoorM09
import Derived.Test.YtbllcgibmgbnjaaGreatDoorM10
import Derived.Test.YtbllcgibmgbnjaaGreatDoorM11
import Derived.Test.YtbllcgibmgbnjaaGreatDoorM12
import Derived.Test.YtbllcgibmgbnjaaGreatDoorM13
import Derived.Test.YtbllcgibmgbnjaaGreatDoorM14
import Derived.Test.YtbllcgibmgbnjaaGreatDoorM15
import Derived.Test.YtbllcgibmgbnjaaGreatDoorM16
import Derived.Test.YtbllcgibmgbnjaaGreatDoorM17
import Derived.Test.YtbllcgibmgbnjaaGreatDoorM18
import Derived.Test.YtbllcgibmgbnjaaGreatDoorM19
import Derived.Test.YtbllcgibmgbnjaaGreatDoorM20
import Derived.Test.YtbllcgibmgbnjaaGreatDoorM21
import Derived.Test.YtbllcgibmgbnjaaGreatDoorM22
import Derived.Test.YtbllcgibmgbnjaaGreatDoorM23
import Derived.Test.YtbllcgibmgbnjaaGreatDoorM24
import Derived.Test.YtbllcgibmgbnjaaGreatDoorM25
import Derived.Test.YtbllcgibmgbnjaaGreatDoorM26
import Derived.Test.YtbllcgibmgbnjaaGreatDoorM27
import Derived.Test.YtbllcgibmgbnjaaGreatDoorM28
import Derived.Test.YtbllcgibmgbnjaaGreatDoorM40
import Derived.Laws.IdiomStrings
import Derived.Test.YtbllcgibmgbnjaaGreatDoorRows
import Derived.WalkKit
import Derived.ProofKit
import Derived.OpenShut
import Derived.Lib.LaidTab
import Derived.Stop.LaidErr
import Derived.LaidHandle
import Derived.Test.YtbllcgibmgbnjaaGreatDoorChecked
set_option maxHeartbeats 16000000
set_option maxRecDepth 20000
namespace Go.Proofs.YtbllcgibmgbnjaaGreatDoor.P
open Go.RowKit
open Go.Proofs.YtbllcgibmgbnjaaGreatDoor.C (ret_bool ret_int ret_str)
def Byts (b n:Nat) (w:World):Prop:=∀ j,j < n→(∃ c:UInt8,w.cell? ⟨b,j,none⟩=some (.int .u8 (c.toNat:Int)))∧w.frozen? ⟨b,j,none⟩=false
theorem Byts.set {b n:Nat} {w:World} (h:Byts b n w) {k:Nat} (_hk:k < n) (c:UInt8):Byts b n (w.setCell ⟨b,k,none⟩ (.int .u8 (c.toNat:Int))):=fun j hj=>by
 obtain ⟨⟨d,h1⟩,h2⟩:=h j hj
 refine ⟨?_,by rw [World.frozen?_setCell];exact h2⟩
 by_cases e:k=j
 ·subst e;exact ⟨c,World.cell?_setCell_same' _ _ _ (by rw [h1];rfl)⟩
 ·exact ⟨d,by have:=World.cell?_setCell_other (w:=w) (a:=⟨b,k,none⟩) (b:=⟨b,j,none⟩) (v:=.int .u8 (c.toNat:Int)) (h:=by simp);rw [this];exact h1⟩
theorem Byts.list {b:Nat} {w:World}:∀ {n:Nat},Byts b n w→∃ l:List UInt8,l.length=n∧∀ j (hj:j < l.length),w.cell? ⟨b,j,none⟩=some (.int .u8 (l[j].toNat:Int))
 | 0,_=>⟨[],rfl,fun j hj=>absurd hj (by simp)⟩
 | n+1,h=>by
  obtain ⟨l,h1,h2⟩:=Byts.list (n:=n) (fun j hj=>h j (by omega))
  obtain ⟨⟨c,h3⟩,_⟩:=h n (by omega)
  refine ⟨l++[c],by simp [h1],fun j hj=>?_⟩
  by_cases e:j < l.length
  ·rw [List.getElem_append_left e];exact h2 j e
  ·have e2:j=n:=by simp at hj;omega
   subst e2
   simp only [List.getElem_append_right (Nat.le_of_not_lt e),h1,Nat.sub_self,List.getElem_cons_zero]
   exact h3
theorem other_any (y:List UInt8) (hy:y.length≤1000000) (w:World) :
  Calls Tryz.prog 27 #[str y] w fun e w'=>∃ z:List UInt8,e=.returned (str z)∧z.length=y.length∧Below w.heap.size w w':=by
 have hc1:=run_bytes_of_string (P:=Tryz.prog) w 9 70 5 ⟨y.toArray⟩ Tryz.underlying9 Tryz.underlying70 Tryz.underlying5
 have hsz:(ByteArray.mk y.toArray).size=y.length:=by simp [ByteArray.size]
 generalize hcap:grownCap w (ByteArray.mk y.toArray).size 0 5=cap at *
 generalize hrow:bytesRow ⟨y.toArray⟩ cap=C at *
 have hC:y.length≤C.size:=by rw [← hrow];simp [bytesRow]
 have B0:Byts w.heap.size y.length (w.drew.alloc (.cells C 5 (C.size,C.size+1))):=fun j hj=>by
  refine ⟨⟨y[j],?_⟩,?_⟩
  ·have h1:=World.cell?_alloc_mark w.drew C 5 (C.size,C.size+1) j
   have h2:=bytesRow_at ⟨y.toArray⟩ cap j (by simpa using hj)
   rw [hrow] at h2
   rw [h2] at h1
   simpa using h1
  ·have h1:=World.frozen?_alloc_mark w.drew C 5 C.size (C.size+1) j
   have h2:¬ C.size≤j:=by omega
   rw [show w.heap.size=w.drew.heap.size from rfl,h1]
   simp [h2]
 have b0:Below w.heap.size w (w.drew.alloc (.cells C 5 (C.size,C.size+1))):=(Below.refl _ _).drew.alloc (Nat.le_refl _) _
 have HB:Hid (_∧_):=⟨B0,b0⟩
 rw [hsz] at hc1
 clear hrow hcap B0 b0
 go_enter Tryz.func27,Tryz.ntmps27
 go_wp2
 go_loopw [4] (fun i wr=>∃ k:Nat,k≤y.length∧i=.int .i64 k∧Byts w.heap.size y.length wr∧Below w.heap.size w wr) (fun i _=>y.length - (intOf i).toNat)
 case atStart=>exact ⟨0,Nat.zero_le _,rfl,HB.out.1,HB.out.2⟩
 case round =>
  obtain ⟨k,hk,rfl,B,hb⟩:=hrel
  by_cases hlt:k < y.length
  ·obtain ⟨⟨c,q0⟩,q1⟩:=B k hlt
   have hcc:c.toNat < 256:=c.toNat_lt
   have XR:Hid (bits .xor .u8 (c.toNat:Int) 1=((c ^^^ 1).toNat:Int)):=by
    show _=_
    have:=u8_xor_nat c.toNat 1 hcc (by omega)
    rw [show ((1:Nat):Int)=1 from rfl] at this
    rw [this,UInt8.toNat_xor];rfl
   have FIN:Hid (Byts w.heap.size y.length (wr.setCell ⟨w.heap.size,k,none⟩ (.int .u8 ((c ^^^ 1).toNat:Int)))∧Below w.heap.size w (wr.setCell ⟨w.heap.size,k,none⟩ (.int .u8 ((c ^^^ 1).toNat:Int)))):=⟨B.set hlt _,hb.setCell (Nat.le_refl _) _⟩
   go_wp2
   go_roundw
   case rel=>rw [XR.out];exact ⟨k+1,by omega,by go_num,FIN.out.1,FIN.out.2⟩
   case measure=>simp [intOf];omega
  ·obtain rfl:k=y.length:=by omega
   obtain ⟨l,hl,hc⟩:=B.list
   have hbk:=run_convert_bytes_back (P:=Tryz.prog) wr 70 9 5 ⟨w.heap.size,0,none⟩ cap l Tryz.underlying70 Tryz.underlying5 Tryz.underlying9 (fun j hj=>by rw [show (⟨w.heap.size,0,none⟩:Addr).add j=⟨w.heap.size,j,none⟩ by unfold Addr.add;split <;> simp_all];exact hc j hj)
   rw [hl] at hbk
   go_wp2
   go_ret
   exact ⟨l,rfl,hl,hb⟩
end Go.Proofs.YtbllcgibmgbnjaaGreatDoor.P
namespace Go.Proofs.YtbllcgibmgbnjaaGreatDoor.P
open Go.RowKit
open Go.Proofs.YtbllcgibmgbnjaaGreatDoor.C (ret_bool ret_int ret_str enc enc_len)
structure WiP where
 method:Int
 target:Tx
 body:Tx
structure WiFit (o:WiP):Prop where
 m:i64 o.method
 t:o.target.length≤1000000000000000
structure WR (a:Option Addr) (l:List WiP) (w:World):Prop where
 get:∀ k (h:k < l.length),∃ b o,a=some ⟨b,o,none⟩∧b < w.heap.size∧w.cell? ⟨b,o+k*3,none⟩=some (.int .i64 l[k].method)∧w.cell? ⟨b,o+k*3+1,none⟩=some (str l[k].target)∧w.cell? ⟨b,o+k*3+2,none⟩=some (str l[k].body)
def mOf:Nat→Tx
 | 0=>tGET
 | 1=>tPUT
 | _=>tDEL
theorem mOf_len (j:Nat):(mOf j).length≤1000:=by
 match j with
 | 0=>decide
 | 1=>decide
 | _+2=>show tDEL.length≤1000;decide
theorem head_bound {u sec m tg y:Tx} (hu:u.length≤1000) (hm:m.length≤1000) (ht:tg.length≤1000000000000000) (hy:y.length≤1000000):(headT u sec 5000 m tg y).length≤9223372036854775807:=by
 have h1:(lenT y).length≤13:=itoa_short (by omega)
 have h2:=sig_len sec 5000 (saidT m tg [] y)
 have h3:(Lib.itoa ((5000:Nat):Int)).length≤13:=itoa_short (by omega)
 unfold headT
 generalize sigOf sec 5000 (saidT m tg [] y)=sg at *
 unfold saidT authT
 simp only [List.length_append,List.length_cons,List.length_nil]
 omega
structure TS (N h a b:Nat) (h' a' b':Nat) (s:Sto) (r:Roles) (s':Sto) (r':Roles) (w0 w:World):Prop where
 T:TwoH N h a b s r h' a' b' s' r' w
 S:Sim s s'
 B:Below N w0 w
theorem TS.below {N h a b h' a' b':Nat} {s:Sto} {r:Roles} {s':Sto} {r':Roles} {w0 w w1:World} (T:TS N h a b h' a' b' s r s' r' w0 w) (k:Below w.heap.size w w1):TS N h a b h' a' b' s r s' r' w0 w1 :=
 ⟨(T.T.below k).1,T.S,T.B.trans (T.T.below k).2⟩
theorem kT_short {k:Tx} (hk:keyP k=true):(kT k).length≤1000:=by
 have h1:=(enc_len true k).2
 have h2:=key_len hk
 simp [kT];omega
theorem ts_put {N h a b h' a' b':Nat} {s:Sto} {r:Roles} {s':Sto} {r':Roles} {w0 w:World} (T:TS N h a b h' a' b' s r s' r' w0 w) (G:GL w0→GL w) (G0:GL w0) {k y:Tx} (hk:keyP k=true) (hy:y.length≤300) :
  ∃ X,(AskQ s tPUT (kT k) y X∧ansT X≠rNoT)∧Calls Tryz.prog 25 #[.pointer (some ⟨h,0,none⟩),str tPUT,str (kT k),str y] w fun e w'=>∃ r1,e=.returned (str (ansT X))∧TwoH N h a b X.2.2.2 r1 h' a' b' s' r' w'∧Below N w w'∧Step r w r1 w':=by
 obtain ⟨X,hX⟩:=respQ_ex T.T.K two 5000 (headT tAl sAl 5000 tPUT (kT k) y)
 obtain ⟨Y,hY⟩:=respQ_ex T.T.K' two 5000 (headT tAl sAl 5000 tPUT (kT k) y)
 have h1:=kT_short hk
 exact ⟨X,⟨hX,(put_both T.S hk hy rfl hX hY).2.2⟩,two_al T.T (G G0) (by decide) (by omega) (by omega) hX (head_bound (by decide) (by decide) (by omega) (by omega))⟩
theorem ts_put' {N h a b h' a' b':Nat} {s:Sto} {s':Sto} {r r':Roles} {w:World} {X:Nat×Hs×Tx×Sto} (S:Sim s s') (T:TwoH N h a b X.2.2.2 r h' a' b' s' r' w) (G:GL w) {k y z:Tx} (hk:keyP k=true) (hy:y.length≤300) (hz:z.length=y.length) (hX:AskQ s tPUT (kT k) y X) :
  Calls Tryz.prog 25 #[.pointer (some ⟨h',0,none⟩),str tPUT,str (kT k),str z] w fun e w'=>∃ t1 r1,e=.returned (str (ansT X))∧TwoH N h a b X.2.2.2 r h' a' b' t1 r1 w'∧Below N w w'∧Sim X.2.2.2 t1:=by
 obtain ⟨Y,hY⟩:=respQ_ex T.K' two 5000 (headT tAl sAl 5000 tPUT (kT k) z)
 have h1:=kT_short hk
 obtain ⟨e1,e2,_⟩:=put_both S hk hy hz hX hY
 rw [← e1]
 exact Calls.mono (two_al' T G (by decide) (by omega) (by omega) hY (head_bound (by decide) (by decide) (by omega) (by omega))) fun e w' ⟨r1,h1,h2,h3,_⟩=>⟨_,r1,h1,h2,h3,e2⟩
theorem ts_mark {N h a b h' a' b':Nat} {s:Sto} {r:Roles} {s':Sto} {r':Roles} {w0 w:World} (T:TS N h a b h' a' b' s r s' r' w0 w) (G:GL w0→GL w) (G0:GL w0) {k:Tx} (hk:keyP k=true) :
  ∃ X,(AskQ s tDEL (kT k) [] X∧ansT X≠rNoT)∧Calls Tryz.prog 25 #[.pointer (some ⟨h,0,none⟩),str tDEL,str (kT k),.string ⟨#[]⟩] w fun e w'=>∃ r1,e=.returned (str (ansT X))∧TwoH N h a b X.2.2.2 r1 h' a' b' s' r' w'∧Below N w w'∧Step r w r1 w':=by
 obtain ⟨X,hX⟩:=respQ_ex T.T.K two 5000 (headT tAl sAl 5000 tDEL (kT k) [])
 obtain ⟨Y,hY⟩:=respQ_ex T.T.K' two 5000 (headT tAl sAl 5000 tDEL (kT k) [])
 have h1:=kT_short hk
 exact ⟨X,⟨hX,(mark_both T.S hk hX hY).2.2⟩,two_al T.T (G G0) (by decide) (by omega) (by simp) hX (head_bound (by decide) (by decide) (by omega) (by simp))⟩
theorem ts_mark' {N h a b h' a' b':Nat} {s:Sto} {s':Sto} {r r':Roles} {w:World} {X:Nat×Hs×Tx×Sto} (S:Sim s s') (T:TwoH N h a b X.2.2.2 r h' a' b' s' r' w) (G:GL w) {k:Tx} (hk:keyP k=true) (hX:AskQ s tDEL (kT k) [] X) :
  Calls Tryz.prog 25 #[.pointer (some ⟨h',0,none⟩),str tDEL,str (kT k),.string ⟨#[]⟩] w fun e w'=>∃ t1 r1,e=.returned (str (ansT X))∧TwoH N h a b X.2.2.2 r h' a' b' t1 r1 w'∧Below N w w'∧Sim X.2.2.2 t1:=by
 obtain ⟨Y,hY⟩:=respQ_ex T.K' two 5000 (headT tAl sAl 5000 tDEL (kT k) [])
 have h1:=kT_short hk
 obtain ⟨e1,e2,_⟩:=mark_both S hk hX hY
 rw [← e1]
 exact Calls.mono (two_al' T G (by decide) (by omega) (by simp) hY (head_bound (by decide) (by decide) (by omega) (by simp))) fun e w' ⟨r1,h1,h2,h3,_⟩=>⟨_,r1,h1,h2,h3,e2⟩
def Free (r r':Roles) (g:Nat):Prop:=r g=.none∧r' g=.none
theorem TwoH.free {N h a b:Nat} {s:Sto} {r:Roles} {h' a' b':Nat} {s':Sto} {r':Roles} {w:World} (T:TwoH N h a b s r h' a' b' s' r' w):Free r r' w.heap.size:=⟨T.H.L.new,T.H'.L.new⟩
structure MS (n:Nat) (r r':Roles) (w:World):Prop where
 f:Free r r' n
 l:n < w.heap.size
 c:∀ m,m < 3→w.cell? ⟨n,m,none⟩=some (str (mOf m))
theorem MS.step {n:Nat} {r r' r1:Roles} {w w1:World} (M:MS n r r' w) (st:Step r w r1 w1):MS n r1 r' w1 :=
 ⟨⟨st.none M.l M.f.1,M.f.2⟩,Nat.lt_of_lt_of_le M.l st.kept.size,fun m hm=>st.kept.cell (M.c m hm) (by simp [M.f.1])⟩
theorem MS.swap {n:Nat} {r r':Roles} {w:World} (M:MS n r r' w):MS n r' r w:=⟨⟨M.f.2,M.f.1⟩,M.l,M.c⟩
theorem MS.below {n:Nat} {r r':Roles} {w w1:World} (M:MS n r r' w) (k:Below w.heap.size w w1):MS n r r' w1:=M.step (Step.of_below k)
abbrev metC:Obj:=.cells #[str tGET,str tPUT,str tDEL] 9
theorem ts_bo {N h a b h' a' b':Nat} {s:Sto} {r:Roles} {s':Sto} {r':Roles} {w0 w:World} {n:Nat} (T:TS N h a b h' a' b' s r s' r' w0 w) (M:MS n r r' w) (G:GL w) {m tg y:Tx} (hm:m.length≤1000) (ht:tg.length≤1000000000000000) (hy:y.length≤300) :
  ∃ X,RespQ two 5000 s (headT tBo sBo 5000 m tg y) X∧Calls Tryz.prog 28 #[.pointer (some ⟨h,0,none⟩),str m,str tg,str y] w fun e w'=>∃ r1,e=.returned (str (ansT X))∧(TwoH N h a b X.2.2.2 r1 h' a' b' s' r' w'∧MS n r1 r' w')∧Below N w w':=by
 obtain ⟨X,hX⟩:=respQ_ex T.T.K two 5000 (headT tBo sBo 5000 m tg y)
 exact ⟨X,hX,Calls.mono (two_bo T.T G hm (by omega) (by omega) hX (head_bound (by decide) hm (by omega) (by omega))) fun e w' ⟨r1,h1,h2,h3,st⟩=>⟨r1,h1,⟨h2,M.step st⟩,h3⟩⟩
theorem ts_bo' {N h a b h' a' b':Nat} {s:Sto} {s':Sto} {r r':Roles} {w:World} {n:Nat} {X:Nat×Hs×Tx×Sto} (S:Sim s s') (T:TwoH N h a b X.2.2.2 r h' a' b' s' r' w) (M:MS n r r' w) (G:GL w) {m tg y:Tx} (hm:m.length≤1000) (ht:tg.length≤1000000000000000) (hy:y.length≤300) (hX:RespQ two 5000 s (headT tBo sBo 5000 m tg y) X) :
  Calls Tryz.prog 28 #[.pointer (some ⟨h',0,none⟩),str m,str tg,str y] w fun e w'=>∃ t1 r1,e=.returned (str (ansT X))∧(TwoH N h a b X.2.2.2 r h' a' b' t1 r1 w'∧MS n r r1 w'∧Sim X.2.2.2 t1)∧Below N w w':=by
 obtain ⟨Y,hY⟩:=respQ_ex T.K' two 5000 (headT tBo sBo 5000 m tg y)
 obtain ⟨e1,e2⟩:=resp_both S hX hY (fun u q hr=>read_bo hr)
 rw [← e1]
 exact Calls.mono (two_bo' T G hm (by omega) (by omega) hY (head_bound (by decide) hm (by omega) (by omega))) fun e w' ⟨r1,h1,h2,h3,st⟩=>⟨_,r1,h1,⟨h2,(M.swap.step st).swap,e2⟩,h3⟩
theorem ts_last {N h a b h' a' b':Nat} {s:Sto} {r:Roles} {s':Sto} {r':Roles} {w0 w:World} (T:TS N h a b h' a' b' s r s' r' w0 w) (_G0:GL w0) (hG:∀ W,Below N w0 W→GL W) :
  ∃ (xt zt vt:Tx),(xt=rLacks∨(xt≠rLacks∧zt≠vt))∧Calls Tryz.prog 25 #[.pointer (some ⟨h,0,none⟩),str tPUT,str (kT tLast),str [49]] w fun e w1=>e=.returned (str xt) ∧
   Calls Tryz.prog 25 #[.pointer (some ⟨h',0,none⟩),str tPUT,str (kT tLast),str [48]] w1 fun e w2=>e=.returned (str xt) ∧
   Calls Tryz.prog 25 #[.pointer (some ⟨h,0,none⟩),str tGET,str (kT tLast),str []] w2 fun e w3=>e=.returned (str zt) ∧
   Calls Tryz.prog 25 #[.pointer (some ⟨h',0,none⟩),str tGET,str (kT tLast),str []] w3 fun e w4=>e=.returned (str vt)∧Below N w0 w4:=by
 obtain ⟨X,hX⟩:=respQ_ex T.T.K two 5000 (headT tAl sAl 5000 tPUT (kT tLast) [49])
 obtain ⟨Y,hY⟩:=respQ_ex T.T.K' two 5000 (headT tAl sAl 5000 tPUT (kT tLast) [48])
 obtain ⟨Z,hZ⟩:=respQ_ex (hX.keys T.T.K) two 5000 (headT tAl sAl 5000 tGET (kT tLast) [])
 obtain ⟨V,hV⟩:=respQ_ex (hY.keys T.T.K') two 5000 (headT tAl sAl 5000 tGET (kT tLast) [])
 have h1:=kT_short last_key
 obtain ⟨e1,e2⟩:=last_both T.S hX hY hZ hV
 have hb:∀ {m y:Tx},m.length≤1000→y.length≤300→(headT tAl sAl 5000 m (kT tLast) y).length≤9223372036854775807:=fun hm hy=>head_bound (by decide) hm (by omega) (by omega)
 refine ⟨ansT X,ansT Z,ansT V,e2,Calls.mono (two_al T.T (hG _ T.B) (by decide) (by omega) (by simp) hX (hb (by decide) (by simp))) ?_⟩
 rintro e w1 ⟨r1,rfl,T1,b1,_⟩
 refine ⟨rfl,?_⟩
 rw [← e1]
 refine Calls.mono (two_al' T1 (hG _ (T.B.trans b1)) (by decide) (by omega) (by simp) hY (hb (by decide) (by simp))) ?_
 rintro e w2 ⟨r2,rfl,T2,b2,_⟩
 refine ⟨rfl,Calls.mono (two_al T2 (hG _ ((T.B.trans b1).trans b2)) (by decide) (by omega) (by simp) hZ (hb (by decide) (by simp))) ?_⟩
 rintro e w3 ⟨r3,rfl,T3,b3,_⟩
 refine ⟨rfl,Calls.mono (two_al' T3 (hG _ (((T.B.trans b1).trans b2).trans b3)) (by decide) (by omega) (by simp) hV (hb (by decide) (by simp))) ?_⟩
 rintro e w4 ⟨r4,rfl,T4,b4,_⟩
 exact ⟨rfl,(((T.B.trans b1).trans b2).trans b3).trans b4⟩
theorem blaw_any (a0:Option Addr) (c0:Nat) (l:List StP) (_hl:l.length≤9223372036854775807) (hf:∀ o∈l,StFit o) (a1:Option Addr) (c1:Nat) (ws:List WiP) (hwl:ws.length≤9223372036854775807) (hw:∀ o∈ws,WiFit o) (w:World) (G:GL w) (S:SR a0 l w) (A:WR a1 ws w) :
  Calls Tryz.prog 6 #[.slice a0 l.length c0,.slice a1 ws.length c1] w fun e w'=>e=.returned (.bool true)∧Below w.heap.size w w':=by
 have BG:Hid (∀ W,GL W→Calls Tryz.prog 19 #[.int .i64 20000] W fun e w'=>∃ h a b r,e=.returned (.tuple #[.pointer (some ⟨h,0,none⟩),.bool true])∧HS h a b (sBeg 20000) r w'∧Below W.heap.size W w'∧(∀ g,r g≠.none→W.heap.size≤g)∧W.heap.size≤h∧Frsh W.heap.size a w'):=fun W GW=>by
  have:=begun_anyF 20000 (by omega) (by omega) W GW
  rw [beg_eq 20000 (by omega)] at this
  exact this
 have HS0:Hid (SR a0 l w):=S
 have HA0:Hid (WR a1 ws w):=A
 have HG:Hid (GL w):=G
 have HF:Hid (∀ o∈l,StFit o):=hf
 have HW:Hid (∀ o∈ws,WiFit o):=hw
 have HK:Hid (Keys (sBeg 20000)):=(keys_new [tAl,tBo] 20000).of_eq rfl rfl
 have HO:Hid ((sBeg 20000).bk tBkt=some ⟨tAl,[],[]⟩):=by show _=_;simp [sBeg,Sto.setBk]
 clear S A G hf hw
 go_enter Tryz.func6,Tryz.ntmps6
 go_wp2_with fail
 refine Calls.mono (BG.out w HG.out) ?_
 rintro e w1 ⟨h,a,b,r,rfl,H1,b1,hr1,_,_⟩
 go_wp2_with fail
 refine Calls.mono (BG.out w1 (HG.out.call b1)) ?_
 rintro e w2 ⟨h',a',b',r',rfl,H2,b2,hr2,hh2,F2⟩
 have TS0:Hid (TS w.heap.size h a b h' a' b' (sBeg 20000) r (sBeg 20000) r' w w2):=⟨TwoH.begun H1 HK.out hr1 b1.size b2 H2 HK.out hr2 hh2 F2,Sim.refl HO.out,b1.trans (b2.mono b1.size)⟩
 clear BG H1 H2 F2 hr1 hr2 HK HO
 go_wp2
 go_loopw [9] (fun i wr=>∃ (k:Nat) (s:Sto) (r:Roles) (s':Sto) (r':Roles),i=.int .i64 k∧k≤l.length∧k≤30∧TS w.heap.size h a b h' a' b' s r s' r' w wr) (fun i _=>l.length - (intOf i).toNat)
 case atStart=>exact ⟨0,_,_,_,_,rfl,Nat.zero_le _,by omega,TS0.out⟩
 case round =>
  clear TS0
  obtain ⟨k,s,r,s',r',rfl,hk,hk30,T⟩:=hrel
  by_cases hlt:k < l.length∧k < 30
  ·obtain ⟨hlt,hlt2⟩:=hlt
   obtain ⟨g,off,rfl,hg,q0,q1,q2,q3⟩:=(HS0.out.below T.B).get k hlt
   have ho:=HF.out _ (List.getElem_mem hlt)
   generalize l[k]=o at *
   obtain ⟨kd,ky,on,bo⟩:=o
   dsimp only at q0 q1 q2 q3
   have CU:Hid (∀ W,Calls Tryz.prog 9 #[str bo,.int .i64 300] W fun e w'=>e=.returned (str (bo.take 300))∧W=w'):=fun W=>cutK_all bo 300 (by omega) W
   have TG:Hid (∀ W,Calls Tryz.prog 26 #[.int .i64 ky] W fun e w'=>e=.returned (str (kT (keyN (pickP ky 4))))∧Below W.heap.size W w'):=fun W=>target_any ky ho.key W
   have HT:Hid (TS w.heap.size h a b h' a' b' s r s' r' w wr):=T
   have hyl:(bo.take 300).length≤300:=by simp;omega
   generalize bo.take 300=y at *
   have hkk:Hid (keyP (keyN (pickP ky 4))=true):=keyN_ok _
   generalize keyN (pickP ky 4)=kk at *
   have b0:Below wr.heap.size wr (wr.alloc (stC ⟨kd,ky,on,bo⟩)):=(Below.refl _ _).alloc (Nat.le_refl _) _
   have T1:Hid (TS w.heap.size h a b h' a' b' s r s' r' w (wr.alloc (stC ⟨kd,ky,on,bo⟩))):=T.below b0
   have hfr:Free r r' wr.heap.size:=T.T.free
   have d1:(wr.alloc (stC ⟨kd,ky,on,bo⟩)).cell? ⟨wr.heap.size,0,none⟩=some (.int .i64 kd):=by simp [go_sem]
   have d2:(wr.alloc (stC ⟨kd,ky,on,bo⟩)).cell? ⟨wr.heap.size,1,none⟩=some (.int .i64 ky):=by simp [go_sem]
   have z1:wr.heap.size < (wr.alloc (stC ⟨kd,ky,on,bo⟩)).heap.size:=by simp
   clear T ho HT b0
   go_wp2_with fail
   refine Calls.mono (CU.out _) ?_
   rintro e w3 ⟨rfl,rfl⟩
   generalize wr.alloc (stC ⟨kd,ky,on,bo⟩)=W1 at *
   have xx:True:=trivial
   by_cases k1:kd=1
   ·subst k1
    go_wp2_with fail
    refine Calls.mono (TG.out _) ?_
    rintro e w4 ⟨rfl,b4⟩
    have T4:=T1.out.below b4
    obtain ⟨X,hX,AX⟩:=ts_put T4 (fun G=>G.call T4.B) HG.out hkk.out hyl
    have HAX:Hid (_):=AX
    have HX:Hid (AskQ s tPUT (kT kk) y X):=hX.1
    have tn:(ansT X == [52,48,51,32,78,111,10,10])=false:=by simpa using hX.2
    have f2:=(b4.cell (p:=⟨wr.heap.size,1,none⟩) z1).trans d2
    have HT4:Hid (TS w.heap.size h a b h' a' b' s r s' r' w w4):=T4
    clear AX hX T4
    go_wp2_with fail
    refine Calls.mono HAX.out ?_
    rintro e w5 ⟨r5,rfl,T5,b5,st5⟩
    have g2:=st5.kept.cell f2 (by simp [hfr.1])
    have HT5:Hid (TwoH w.heap.size h a b X.2.2.2 r5 h' a' b' s' r' w5∧Below w.heap.size w w5):=⟨T5,HT4.out.B.trans b5⟩
    clear T5 b5 st5 HAX f2
    go_wp2_with fail
    refine Calls.mono (TG.out _) ?_
    rintro e w6 ⟨rfl,b6⟩
    have OT:Hid (_):=other_any y (by omega) w6
    go_wp2_with fail
    refine Calls.mono OT.out ?_
    rintro e w7 ⟨z,rfl,hz,b7⟩
    have B57:=below_trans b6 b7
    obtain ⟨T7,b57⟩:=HT5.out.1.below B57
    have B7:=HT5.out.2.trans b57
    have AY:Hid (_):=ts_put' HT4.out.S T7 (HG.out.call B7) hkk.out hyl hz HX.out
    clear T7 OT
    generalize ansT X=xt at *
    go_wp2_with fail
    refine Calls.mono AY.out ?_
    rintro e w8 ⟨t8,r8,rfl,T8,b8,S8⟩
    have FIN:Hid (TS w.heap.size h a b h' a' b' X.2.2.2 r5 t8 r8 w w8):=⟨T8,S8,B7.trans b8⟩
    clear T8 S8 AY
    go_wp2
    go_roundw
    case rel=>exact ⟨k+1,_,_,_,_,by go_num,by omega,by omega,FIN.out⟩
    case measure=>simp [intOf];omega
   ·by_cases k2:kd=2
    ·subst k2
     go_wp2_with fail
     refine Calls.mono (TG.out _) ?_
     rintro e w4 ⟨rfl,b4⟩
     have T4:=T1.out.below b4
     obtain ⟨X,hX,AX⟩:=ts_mark T4 (fun G=>G.call T4.B) HG.out hkk.out
     have HAX:Hid (_):=AX
     have HX:Hid (AskQ s tDEL (kT kk) [] X):=hX.1
     have tn:(ansT X == [52,48,51,32,78,111,10,10])=false:=by simpa using hX.2
     have f2:=(b4.cell (p:=⟨wr.heap.size,1,none⟩) z1).trans d2
     have HT4:Hid (TS w.heap.size h a b h' a' b' s r s' r' w w4):=T4
     clear AX hX T4
     go_wp2_with fail
     refine Calls.mono HAX.out ?_
     rintro e w5 ⟨r5,rfl,T5,b5,st5⟩
     have g2:=st5.kept.cell f2 (by simp [hfr.1])
     have HT5:Hid (TwoH w.heap.size h a b X.2.2.2 r5 h' a' b' s' r' w5∧Below w.heap.size w w5):=⟨T5,HT4.out.B.trans b5⟩
     clear T5 b5 st5 HAX f2
     go_wp2_with fail
     refine Calls.mono (TG.out _) ?_
     rintro e w6 ⟨rfl,b6⟩
     obtain ⟨T7,b57⟩:=HT5.out.1.below b6
     have B7:=HT5.out.2.trans b57
     have AY:Hid (_):=ts_mark' HT4.out.S T7 (HG.out.call B7) hkk.out HX.out
     clear T7
     generalize ansT X=xt at *
     go_wp2_with fail
     refine Calls.mono AY.out ?_
     rintro e w8 ⟨t8,r8,rfl,T8,b8,S8⟩
     have FIN:Hid (TS w.heap.size h a b h' a' b' X.2.2.2 r5 t8 r8 w w8):=⟨T8,S8,B7.trans b8⟩
     clear T8 S8 AY
     go_wp2
     go_roundw
     case rel=>exact ⟨k+1,_,_,_,_,by go_num,by omega,by omega,FIN.out⟩
     case measure=>simp [intOf];omega
    ·have t1:(kd == 1)=false:=by simpa using k1
     have t2:(kd == 2)=false:=by simpa using k2
     go_wp2
     go_roundw
     case rel=>exact ⟨k+1,_,_,_,_,by go_num,by omega,by omega,T1.out⟩
     case measure=>simp [intOf];omega
  ·have tt:(decide (k < l.length)=true∧decide ((k:Int) < 30)=false∧decide (k < 30)=false)∨decide (k < l.length)=false:=by
    by_cases h1:k < l.length
    ·exact .inl ⟨by simpa using h1,by simp;omega,by simp;omega⟩
    ·exact .inr (by simpa using h1)
   have b0:Below wr.heap.size wr (wr.alloc metC):=(Below.refl _ _).alloc (Nat.le_refl _) _
   have HT:Hid (TS w.heap.size h a b h' a' b' s r s' r' w (wr.alloc metC)∧MS wr.heap.size r r' (wr.alloc metC)):=⟨T.below b0,T.T.free,by simp,fun m hm=>by
    have:m=0∨m=1∨m=2:=by omega
    rcases this with rfl|rfl|rfl <;> simp [go_sem,mOf]⟩
   clear T HS0 HF hlt b0
   generalize hn:wr.heap.size=n at HT
   have HN:Hid (wr.heap.size=n):=hn
   clear hn
   rcases tt with ⟨t1,t2,t3⟩|t1
   all_goals (
    go_wp2
    go_loopw [17] (fun i wq=>∃ (j:Nat) (s:Sto) (r:Roles) (s':Sto) (r':Roles),i=.int .i64 j∧j≤ws.length∧TS w.heap.size h a b h' a' b' s r s' r' w wq∧MS n r r' wq) (fun i _=>ws.length - (intOf i).toNat)
    case atStart=>exact ⟨0,s,r,s',r',rfl,Nat.zero_le _,HT.out⟩
    case round =>
     clear HT
     (try clear t2 t3)
     clear t1
     obtain ⟨j,s2,r2,s2',r2',rfl,hj,T2,M2⟩:=hrel
     by_cases hjl:j < ws.length
     ·obtain ⟨g,off,rfl,hgN,q0,q1,q2⟩:=HA0.out.get j hjl
      have HCE:Hid (∀ W,Below w.heap.size w W→W.cell? ⟨g,off+j*3+1,none⟩=some (str ws[j].target)∧W.cell? ⟨g,off+j*3+2,none⟩=some (str ws[j].body)):=fun W hW=>⟨(hW.cell (p:=⟨g,off+j*3+1,none⟩) hgN).trans q1,(hW.cell (p:=⟨g,off+j*3+2,none⟩) hgN).trans q2⟩
      replace q0:=(T2.B.cell (p:=⟨g,off+j*3,none⟩) hgN).trans q0
      clear q1 q2
      have hwf:=HW.out _ (List.getElem_mem hjl)
      generalize ws[j]=o at *
      obtain ⟨md,tg,bo⟩:=o
      dsimp only at q0 HCE
      have htl:tg.length≤1000000000000000:=hwf.t
      have PK:Hid (∀ W,Calls Tryz.prog 10 #[.int .i64 md,.int .i64 3] W fun e w'=>e=.returned (.int .i64 (pickP md 3:Int))∧W=w'):=fun W=>pick_any md hwf.m 3 (by omega) (by omega) W
      have hp3:=pickP_lt md (n:=3) (by omega)
      have CU:Hid (∀ W,Calls Tryz.prog 9 #[str bo,.int .i64 300] W fun e w'=>e=.returned (str (bo.take 300))∧W=w'):=fun W=>cutK_all bo 300 (by omega) W
      have hyl:(bo.take 300).length≤300:=by simp;omega
      generalize bo.take 300=y at *
      generalize pickP md 3=pj at *
      have qm:=M2.c pj hp3
      rw [← HN.out] at qm
      have hml:=mOf_len pj
      have T2d:=T2.below (below_drew wr)
      have xd:wr.drew.cell? ⟨g,off+j*3+1,none⟩=some (str tg)∧wr.drew.cell? ⟨g,off+j*3+2,none⟩=some (str bo):=HCE.out _ T2d.B
      obtain ⟨X,hX,BX⟩:=ts_bo T2d (M2.below (below_drew wr)) (HG.out.call T2d.B) hml htl hyl
      have BO:Hid (Calls Tryz.prog 28 #[.pointer (some ⟨h,0,none⟩),str (mOf pj),str tg,str y] wr.drew fun e w'=>(∃ r1,e=.returned (str (ansT X))∧(TwoH w.heap.size h a b X.2.2.2 r1 h' a' b' s2' r2' w'∧MS n r1 r2' w')∧Below w.heap.size wr.drew w')∧(w'.cell? ⟨g,off+j*3+1,none⟩=some (str tg)∧w'.cell? ⟨g,off+j*3+2,none⟩=some (str bo))):=Calls.mono BX fun e w' hh=>⟨hh,by
       obtain ⟨r1,_,_,b⟩:=hh
       exact HCE.out _ (T2d.B.trans b)⟩
      have HX:Hid (RespQ two 5000 s2 (headT tBo sBo 5000 (mOf pj) tg y) X):=hX
      have HT2:Hid (TS w.heap.size h a b h' a' b' s2 r2 s2' r2' w wr.drew):=T2d
      have HBY:Hid (∀ r5 W,TwoH w.heap.size h a b X.2.2.2 r5 h' a' b' s2' r2' W→MS n r5 r2' W→GL W→Calls Tryz.prog 28 #[.pointer (some ⟨h',0,none⟩),str (mOf pj),str tg,str y] W fun e w'=>∃ t1 r1,e=.returned (str (ansT X))∧(TwoH w.heap.size h a b X.2.2.2 r5 h' a' b' t1 r1 w'∧MS n r5 r1 w'∧Sim X.2.2.2 t1)∧Below w.heap.size W w'):=fun r5 W hT hM hG=>ts_bo' T2.S hT hM hG hml htl hyl hX
      clear T2 M2 T2d BX hX hwf
      generalize mOf pj=mm at *
      generalize ansT X=xt at *
      go_wp2_with (go_at_call 10;refine Calls.mono (PK.out _) ?_;rintro e w3 ⟨rfl,rfl⟩)
      go_region_held3 (fun w'=>w'.cell? ⟨g,off+j*3+1,none⟩=some (str tg)∧w'.cell? ⟨g,off+j*3+2,none⟩=some (str bo)) (first|with_reducible exact xd|with_reducible exact y5)
       (first
        | (go_at_call 9;with_reducible refine Calls.mono (CU.out _) ?_;rintro e w4 ⟨rfl,rfl⟩)
        | (go_at_call 28;with_reducible refine Calls.mono BO.out ?_;rintro e w5 ⟨⟨r5,rfl,⟨T5,M5⟩,b5⟩,y5⟩))
      all_goals (
       have B5:=HT2.out.B.trans b5
       have B5d:Below w.heap.size w w5.drew:=B5.drew
       obtain ⟨T5d,_⟩:=T5.below (below_drew w5)
       have x5:w5.drew.cell? ⟨g,off+j*3+1,none⟩=some (str tg)∧w5.drew.cell? ⟨g,off+j*3+2,none⟩=some (str bo):=y5
       have BY:Hid (Calls Tryz.prog 28 #[.pointer (some ⟨h',0,none⟩),str mm,str tg,str y] w5.drew fun e w'=>(∃ t1 r1,e=.returned (str xt)∧(TwoH w.heap.size h a b X.2.2.2 r5 h' a' b' t1 r1 w'∧MS n r5 r1 w'∧Sim X.2.2.2 t1)∧Below w.heap.size w5.drew w')∧(w'.cell? ⟨g,off+j*3+1,none⟩=some (str tg)∧w'.cell? ⟨g,off+j*3+2,none⟩=some (str bo))):=Calls.mono (HBY.out r5 w5.drew T5d (M5.below (below_drew w5)) (HG.out.call B5d)) fun e w' hh=>⟨hh,by
        obtain ⟨t1,r1,_,_,b⟩:=hh
        exact HCE.out _ (B5d.trans b)⟩
       clear T5 M5 T5d BO xd
       go_wp2_with fail
       go_region_held3 (fun w'=>w'.cell? ⟨g,off+j*3+1,none⟩=some (str tg)∧w'.cell? ⟨g,off+j*3+2,none⟩=some (str bo)) (first|with_reducible exact x5|with_reducible exact y6)
        (first
         | (go_at_call 9;with_reducible refine Calls.mono (CU.out _) ?_;rintro e w6 ⟨rfl,rfl⟩)
         | (go_at_call 28;with_reducible refine Calls.mono BY.out ?_;rintro e w7 ⟨⟨t7,r7,rfl,⟨T7,M7,S7⟩,b7⟩,y6⟩))
       all_goals (
        have FIN:Hid (TS w.heap.size h a b h' a' b' X.2.2.2 r5 t7 r7 w w7∧MS n r5 r7 w7):=⟨⟨T7,S7,B5d.trans b7⟩,M7⟩
        clear T7 M7 S7 BY
        go_wp2
        go_roundw
        case rel=>exact ⟨j+1,_,_,_,_,by go_num,by omega,FIN.out⟩
        case measure=>simp [intOf];omega))
     ·obtain rfl:j=ws.length:=by omega
      obtain ⟨xt,zt,vt,hd,AX⟩:=ts_last T2 HG.out (fun W hW=>HG.out.call hW)
      rw [last_kT] at AX
      have HAX:Hid (_):=AX
      clear AX T2 M2
      go_wp2_with fail
      refine Calls.mono HAX.out ?_
      rintro e w3 ⟨rfl,A2⟩
      have HA2:Hid (_):=A2
      clear HAX A2
      go_wp2_with fail
      refine Calls.mono HA2.out ?_
      rintro e w4 ⟨rfl,A3⟩
      have HA3:Hid (_):=A3
      clear HA2 A3
      go_wp2_with fail
      refine Calls.mono HA3.out ?_
      rintro e w5 ⟨rfl,A4⟩
      have HA4:Hid (_):=A4
      clear HA3 A4
      go_wp2_with fail
      refine Calls.mono HA4.out ?_
      rintro e w6 ⟨rfl,b6⟩
      clear HA4
      rcases hd with rfl|⟨h1,h2⟩
      ·rw [lacksT]
       go_wp2
       go_ret
       exact ⟨rfl,b6⟩
      ·have u1:(xt == [53,48,55,32,70,117,108,108,10,10])=false:=by rw [← lacksT];simpa using h1
       have u2:(zt == vt)=false:=by simpa using h2
       go_wp2
       go_ret
       exact ⟨rfl,b6⟩)
end Go.Proofs.YtbllcgibmgbnjaaGreatDoor.P
namespace Go.Proofs.YtbllcgibmgbnjaaGreatDoor.E
open Go.ChangeShapes Go.WideShapes Go.ChangeAt Go.RowKit
open Go.Proofs.YtbllcgibmgbnjaaGreatDoor.P (GL errT rowsC rowCells tPUT tGET tDEL tPrefix tAfter tMax tVersion sPolicy sList sPut sGet sDelete)
open Go.Proofs.YtbllcgibmgbnjaaGreatDoor.R (Bs str Env gTop)
theorem own:ownKnob Tryz.prog.godebug=none:=by kernel_rfl
theorem gP : Tryz.prog.globalNamed "internal/strconv.uint64pow10" = some 2 := by kernel_rfl
theorem gPType:(Tryz.prog.globals[2]?).map (·.type)=some 261:=by kernel_rfl
theorem cellsP:Tryz.prog.cellsOf 261=20:=by kernel_rfl
theorem cellsU:Tryz.prog.cellsOf 199=1:=by kernel_rfl
theorem gS : Tryz.prog.globalNamed "larder/mark.firstState" = some 0 := by kernel_rfl
theorem gSType:(Tryz.prog.globals[0]?).map (·.type)=some 196:=by kernel_rfl
theorem gK : Tryz.prog.globalNamed "larder/mark.roundWords" = some 4 := by kernel_rfl
theorem gKType:(Tryz.prog.globals[4]?).map (·.type)=some 312:=by kernel_rfl
theorem cells8:Tryz.prog.cellsOf 196=8:=by kernel_rfl
theorem cells64:Tryz.prog.cellsOf 312=64:=by kernel_rfl
theorem cells1:Tryz.prog.cellsOf 195=1:=by kernel_rfl
def zS:List Int:=hL.map Int.ofNat
def zK:List Int:=kL.map Int.ofNat
theorem zS_get (j:Nat) (h:j < 8):zS.getD j 0=((hL.getD j 0:Nat):Int):=by
 have:∀ n:Fin 8,zS.getD n.val 0=((hL.getD n.val 0:Nat):Int):=by decide +kernel
 exact this ⟨j,h⟩
theorem zK_get (j:Nat) (h:j < 64):zK.getD j 0=((kL.getD j 0:Nat):Int):=by
 have:∀ n:Fin 64,zK.getD n.val 0=((kL.getD n.val 0:Nat):Int):=by decide +kernel
 exact this ⟨j,h⟩
theorem zS_len:zS.length=8:=by decide +kernel
theorem zK_len:zK.length=64:=by decide +kernel
theorem cell_lt {w:World} {b j:Nat} {v:Value} (h:w.cell? ⟨b,j,none⟩=some v):b < w.heap.size:=World.block_lt_of_cell? w ⟨b,j,none⟩ h
abbrev listed : List (String × DataW Unit) := [("math/bits.deBruijn32tab", Rows.laid_math_bits_deBruijn32tab), ("math/bits.deBruijn64tab", Rows.laid_math_bits_deBruijn64tab), ("internal/strconv.uint64pow10", Lib.tabData .u64 Lib.pow10Tab), ("larder/mark.firstState", Lib.tabData .u32 zS), ("larder/mark.roundWords", Lib.tabData .u32 zK), ("unicode/utf8.acceptRanges", Rows.laid_unicode_utf8_acceptRanges),
 ("strconv.ErrRange", Rows.laid_strconv_ErrRange), ("strconv.ErrSyntax", Rows.laid_strconv_ErrSyntax), ("larder/ask.rows", Rows.laid_larder_ask_rows), ("larder/kept.errNoRoom", Rows.laid_larder_kept_errNoRoom), ("unicode/utf8.first", Rows.laid_unicode_utf8_first)]
theorem filt_no:(Rows.signedRow.laid.filter fun x=>x.2.handleName?.isNone)=listed:=by kernel_rfl
theorem filt_yes : (Rows.signedRow.laid.filter fun x => x.2.handleName?.isSome) = [("errors.errorType", Rows.laid_errors_errorType)] := by kernel_rfl
theorem parts {W : World} (h : laidMetH Tryz.prog Rows.signedRow.laid W) : laidMet Tryz.prog listed W ∧ handlesMet Tryz.prog [("errors.errorType", Rows.laid_errors_errorType)] W := by
 unfold laidMetH at h
 rw [filt_yes,filt_no] at h
 exact h
theorem gE : Tryz.prog.globalNamed "errors.errorType" = some 1 := by kernel_rfl
theorem rtN : (Tryz.prog.cutTypes.find? (·.1 == "internal/reflectlite.rtype")).map (·.2) = some 264 := by kernel_rfl
theorem tySize:Tryz.prog.types.size=449:=by kernel_rfl
theorem oneRow:((List.range 449).filter fun t=>Tryz.prog.rowNamed t [101,114,114,111,114])=[80]:=by kernel_rfl
theorem handle_of {W : World} (h : handlesMet Tryz.prog [("errors.errorType", Rows.laid_errors_errorType)] W) : errT W := by
 obtain ⟨name,u,ty,e1,e2,e3,e4,e5⟩:=h _ (List.mem_singleton.2 rfl)
 have en:name=[101,114,114,111,114]:=(Option.some.inj e1).symm
 subst en
 obtain rfl:=Option.some.inj (rtN.symm.trans e2)
 have hm:ty∈(List.range 449).filter fun t=>Tryz.prog.rowNamed t [101,114,114,111,114]:=List.mem_filter.2 ⟨List.mem_range.2 (by rw [← tySize];exact e3),e4⟩
 rw [oneRow] at hm
 obtain rfl:=List.mem_singleton.1 hm
 have hh:typeHandle Tryz.prog 80=.pointer (some ⟨13,80,none⟩):=by kernel_rfl
 rw [hh] at e5
 have:=World.var?_cell gE e5 0
 simpa [errT] using this
section
variable {H:Type} {enc:TypeId×Value→H} {w:World} {base:Nat} {sp:Nat→Bool} {held:Bool} {fuel:Nat} {cs:List Value} {p:List MemPlace}
theorem leaf_str {t:TypeId} {l:List UInt8} (ht:Tryz.prog.underlying t=some .string) (h:DataW.trod enc Tryz.prog w base sp held fuel t cs=some (.lit (.string l),p)):cs=[str l]:=by
 obtain ⟨s,rfl,e,_⟩:=DataW.trod_string ht h
 have e3:l=s.data.toList:=by have:=congrArg Prod.fst e;simpa using this
 rw [e3]
theorem leaf_bool {t:TypeId} {b:Bool} (ht:Tryz.prog.underlying t=some .bool) (h:DataW.trod enc Tryz.prog w base sp held fuel t cs=some (.lit (.bool b),p)):cs=[.bool b]:=by
 obtain ⟨s,rfl,e⟩:=DataW.trod_bool ht h
 have e3:b=s:=by have:=congrArg Prod.fst e;simpa using this
 rw [e3]
theorem leaf_int {t:TypeId} {k:IntKind} {z:Int} (ht:Tryz.prog.underlying t=some (.int k)) (h:DataW.trod enc Tryz.prog w base sp held fuel t cs=some (.lit (.int k z),p)):cs=[.int k z]:=by
 obtain ⟨s,rfl,e,_⟩:=DataW.trod_int ht h
 have e3:z=s:=by have:=congrArg Prod.fst e;simpa using this
 rw [e3]
theorem at_of {xs:List (DataW H×List MemPlace)} {ds:List (DataW H)} (h:ds=xs.map (·.1)) {i:Nat} {d:DataW H} (hd:ds[i]?=some d) {o:Option (DataW H×List MemPlace)} (ho:o=xs[i]?):∃ q,o=some (d,q):=by
 rw [h,List.getElem?_map,Option.map_eq_some_iff] at hd
 obtain ⟨x,hx,rfl⟩:=hd
 exact ⟨x.2,by rw [ho,hx]⟩
theorem agg_inj {a b:List (DataW H)} (h:DataW.agg a=DataW.agg b):a=b:=by cases h;rfl
theorem len3:∀ {l:List Value},l.length=3→∃ x y z,l=[x,y,z]
 | [x,y,z],_=>⟨x,y,z,rfl⟩
theorem len9:∀ {l:List Value},l.length=9→∃ x0 x1 x2 x3 x4 x5 x6 x7 x8,l=[x0,x1,x2,x3,x4,x5,x6,x7,x8]
 | [x0,x1,x2,x3,x4,x5,x6,x7,x8],_=>⟨x0,x1,x2,x3,x4,x5,x6,x7,x8,rfl⟩
theorem c_str:Tryz.prog.cellsOf 9=1:=by kernel_rfl
theorem c_bool:Tryz.prog.cellsOf 4=1:=by kernel_rfl
theorem c_int:Tryz.prog.cellsOf 3=1:=by kernel_rfl
theorem c_kind:Tryz.prog.cellsOf 110=1:=by kernel_rfl
theorem c_three:Tryz.prog.cellsOf 223=3:=by kernel_rfl
theorem c_row:Tryz.prog.cellsOf 225=9:=by kernel_rfl
theorem c_rows:Tryz.prog.cellsOf 279=81:=by kernel_rfl
theorem three_cells {a b c:List UInt8} (h:DataW.trod enc Tryz.prog w base sp held fuel 223 cs=some (.agg [.lit (.string a),.lit (.string b),.lit (.string c)],p)):cs=[str a,str b,str c]:=by
 obtain ⟨xs,m,rfl,e,hl,hx,hat⟩:=DataW.trod_array Tryz.underlying223 h
 have e1:=congrArg Prod.fst e
 have e2:=agg_inj e1
 rw [c_str] at hat
 rw [c_three] at hl
 obtain ⟨x,y,z,rfl⟩:=len3 hl
 focus
  obtain ⟨q0,h0⟩:=at_of e2 (i:=0) rfl (hat 0 (by omega))
  obtain ⟨q1,h1⟩:=at_of e2 (i:=1) rfl (hat 1 (by omega))
  obtain ⟨q2,h2⟩:=at_of e2 (i:=2) rfl (hat 2 (by omega))
  have r0:[x]=[str a]:=leaf_str Tryz.underlying9 h0
  have r1:[y]=[str b]:=leaf_str Tryz.underlying9 h1
  have r2:[z]=[str c]:=leaf_str Tryz.underlying9 h2
  rw [(List.cons.inj r0).1,(List.cons.inj r1).1,(List.cons.inj r2).1]
theorem row_cells {m a b c act:List UInt8} {pb yb:Bool} {n k:Int} (h:DataW.trod enc Tryz.prog w base sp held fuel 225 cs=some (.agg [.lit (.string m),.lit (.bool pb),.agg [.lit (.string a),.lit (.string b),.lit (.string c)],.lit (.int .i64 n),.lit (.int .i64 k),.lit (.string act),.lit (.bool yb)],p)) :
  cs=rowCells m pb a b c n k act yb:=by
 obtain ⟨xs,fu,rfl,e,hl,hx,hat⟩:=DataW.trod_struct Tryz.underlying225 h
 have e1:=congrArg Prod.fst e
 have e2:=agg_inj e1
 rw [c_row] at hl
 obtain ⟨x0,x1,x2,x3,x4,x5,x6,x7,x8,rfl⟩:=len9 hl
 focus
  obtain ⟨q0, h0⟩ := at_of e2 (i := 0) rfl (hat 0 { name := "method", type := 9, offset := 0, embedded := false, tag := "", pkgPath := "larder/ask", byteOffset := 0 } rfl)
  obtain ⟨q1, h1⟩ := at_of e2 (i := 1) rfl (hat 1 { name := "path", type := 4, offset := 1, embedded := false, tag := "", pkgPath := "larder/ask", byteOffset := 16 } rfl)
  obtain ⟨q2, h2⟩ := at_of e2 (i := 2) rfl (hat 2 { name := "pairs", type := 223, offset := 2, embedded := false, tag := "", pkgPath := "larder/ask", byteOffset := 24 } rfl)
  obtain ⟨q3, h3⟩ := at_of e2 (i := 3) rfl (hat 3 { name := "least", type := 3, offset := 5, embedded := false, tag := "", pkgPath := "larder/ask", byteOffset := 72 } rfl)
  obtain ⟨q4, h4⟩ := at_of e2 (i := 4) rfl (hat 4 { name := "kind", type := 110, offset := 6, embedded := false, tag := "", pkgPath := "larder/ask", byteOffset := 80 } rfl)
  obtain ⟨q5, h5⟩ := at_of e2 (i := 5) rfl (hat 5 { name := "action", type := 9, offset := 7, embedded := false, tag := "", pkgPath := "larder/ask", byteOffset := 88 } rfl)
  obtain ⟨q6, h6⟩ := at_of e2 (i := 6) rfl (hat 6 { name := "hasBody", type := 4, offset := 8, embedded := false, tag := "", pkgPath := "larder/ask", byteOffset := 104 } rfl)
  dsimp only at h0 h1 h2 h3 h4 h5 h6
  rw [c_str] at h0 h5
  rw [c_bool] at h1 h6
  rw [c_three] at h2
  rw [c_int] at h3
  rw [c_kind] at h4
  have r0:[x0]=[str m]:=leaf_str Tryz.underlying9 h0
  have r1:[x1]=[.bool pb]:=leaf_bool Tryz.underlying4 h1
  have r2:[x2,x3,x4]=[str a,str b,str c]:=three_cells h2
  have r3:[x5]=[.int .i64 n]:=leaf_int Tryz.underlying3 h3
  have r4:[x6]=[.int .i64 k]:=leaf_int Tryz.underlying110 h4
  have r5:[x7]=[str act]:=leaf_str Tryz.underlying9 h5
  have r6:[x8]=[.bool yb]:=leaf_bool Tryz.underlying4 h6
  have s1:=(List.cons.inj r2).2
  have s2:=(List.cons.inj s1).2
  rw [(List.cons.inj r0).1,(List.cons.inj r1).1,(List.cons.inj r2).1,(List.cons.inj s1).1,(List.cons.inj s2).1,(List.cons.inj r3).1,(List.cons.inj r4).1,(List.cons.inj r5).1,(List.cons.inj r6).1];rfl
theorem chunks:∀ (k:Nat) (l:List Value),l.length=k*9→l=(List.range k).flatMap (fun i=>(l.drop (i*9)).take 9)
 | 0,l,h=>by simp at h;simp [h]
 | k+1,l,h=>by
  have ih:=chunks k (l.drop 9) (by rw [List.length_drop];omega)
  rw [List.range_succ_eq_map,List.flatMap_cons,List.flatMap_map]
  have e:(fun i=>List.take 9 (List.drop ((i+1)*9) l))=fun i=>List.take 9 (List.drop (i*9) (l.drop 9)):=by
   funext i;rw [List.drop_drop];congr 2;omega
  simp only [Nat.zero_mul,List.drop_zero,Nat.succ_eq_add_one]
  rw [e,← ih,List.take_append_drop]
theorem rows_cells (h:DataW.trod enc Tryz.prog w base sp held fuel 279 cs=some (Rows.laid_larder_ask_rows,p)):cs=rowsC.flatten:=by
 obtain ⟨xs,m,rfl,e,hl,hx,hat⟩:=DataW.trod_array Tryz.underlying279 h
 unfold Rows.laid_larder_ask_rows at e
 have e1:=congrArg Prod.fst e
 have e2:=agg_inj e1
 rw [c_row] at hat
 rw [c_rows] at hl
 rw [chunks 9 cs (by omega),show List.range 9=[0,1,2,3,4,5,6,7,8] from rfl]
 obtain ⟨q0,h0⟩:=at_of e2 (i:=0) rfl (hat 0 (by omega))
 obtain ⟨q1,h1⟩:=at_of e2 (i:=1) rfl (hat 1 (by omega))
 obtain ⟨q2,h2⟩:=at_of e2 (i:=2) rfl (hat 2 (by omega))
 obtain ⟨q3,h3⟩:=at_of e2 (i:=3) rfl (hat 3 (by omega))
 obtain ⟨q4,h4⟩:=at_of e2 (i:=4) rfl (hat 4 (by omega))
 obtain ⟨q5,h5⟩:=at_of e2 (i:=5) rfl (hat 5 (by omega))
 obtain ⟨q6,h6⟩:=at_of e2 (i:=6) rfl (hat 6 (by omega))
 obtain ⟨q7,h7⟩:=at_of e2 (i:=7) rfl (hat 7 (by omega))
 obtain ⟨q8,h8⟩:=at_of e2 (i:=8) rfl (hat 8 (by omega))
 simp only [List.flatMap_cons,List.flatMap_nil]
 rw [row_cells h0,row_cells h1,row_cells h2,row_cells h3,row_cells h4,row_cells h5,row_cells h6,row_cells h7,row_cells h8]
 rfl
end
theorem gR : Tryz.prog.globalNamed "larder/ask.rows" = some 3 := by kernel_rfl
theorem gRType:(Tryz.prog.globals[3]?).map (·.type)=some 279:=by kernel_rfl
theorem rows_of {W : World} {r : List (String × DataW Unit)} (h : laidMet Tryz.prog (("larder/ask.rows", Rows.laid_larder_ask_rows) :: r) W) : ∀ j u, rowsC.flatten[j]? = some u → W.cell? ⟨3, j, none⟩ = some u := by
 obtain ⟨ps,⟨g',t',cs,fuel,p,q,hg',ht',hvar,hd,_,_⟩,_⟩:=h
 obtain rfl:=Option.some.inj (gR.symm.trans hg')
 obtain rfl:=Option.some.inj (gRType.symm.trans ht')
 have e:=rows_cells hd
 intro j u hj
 have:=World.var?_cell gR hvar j
 rw [this]
 rw [← e] at hj
 simpa using hj
theorem gG : Tryz.prog.globalNamed "strconv.ErrRange" = some 10 := by kernel_rfl
theorem gGType:(Tryz.prog.globals[10]?).map (·.type)=some 80:=by kernel_rfl
theorem gY : Tryz.prog.globalNamed "strconv.ErrSyntax" = some 9 := by kernel_rfl
theorem gYType:(Tryz.prog.globals[9]?).map (·.type)=some 80:=by kernel_rfl
theorem gM : Tryz.prog.globalNamed "larder/kept.errNoRoom" = some 5 := by kernel_rfl
theorem gMType:(Tryz.prog.globals[5]?).map (·.type)=some 80:=by kernel_rfl
theorem iface_cells {H:Type} {enc:TypeId×Value→H} {P:Program} {w:World} {base:Nat} {sp:Nat→Bool} {held:Bool} {fuel:Nat} {cs:List Value} {p:List MemPlace} {t:TypeId} {ms:Array (String×TypeId)} {nm:String} {d:DataW H} (ht:P.underlying t=some (.interface ms)) (h:DataW.trod enc P w base sp held fuel t cs=some (.iface nm d,p)):∃ u v,cs=[.iface u v]:=by
 cases fuel with
 | zero=>simp [DataW.trod] at h
 | succ n =>
  unfold DataW.trod at h
  rw [ht] at h
  split at h <;> simp_all
theorem sentinel_of {W:World} {n nm:String} {d:DataW Unit} {r:List (String×DataW Unit)} {g:Nat} (h:laidMet Tryz.prog ((n,.iface nm d) :: r) W) (hg:Tryz.prog.globalNamed n=some g) (ht:(Tryz.prog.globals[g]?).map (·.type)=some 80):∃ t p,W.cell? ⟨g,0,none⟩=some (.iface t p):=by
 obtain ⟨ps,⟨g',t',cs,fuel,p,q,hg',ht',hvar,hd,_,_⟩,_⟩:=h
 obtain rfl:=Option.some.inj (hg.symm.trans hg')
 obtain rfl:=Option.some.inj (ht.symm.trans ht')
 obtain ⟨u,v,e⟩:=iface_cells Tryz.underlying80 hd
 have:=World.var?_cell hg hvar 0
 refine ⟨u,v,?_⟩
 rw [this]
 rw [show cs=#[.iface u v] by cases cs;simpa using e]
 rfl
theorem last_row:(((begin Tryz.prog (fun _ _=>0) default).world.heap[13 - 1]?).bind Obj.row?).isSome=true:=by kernel_rfl
theorem sz_of {W:World} (h:W.ShapedOpen Tryz.prog):13≤W.heap.size:=by
 obtain ⟨x,hx⟩:=Option.isSome_iff_exists.1 last_row
 obtain ⟨cs,hc,_⟩:=h.1 (13 - 1) x.1 x.2 (of_decide_eq_true (by kernel_rfl)) hx
 have:=(Array.getElem?_eq_some_iff.1 hc).1
 omega
theorem gl_at {W:World} (h:laidMetH Tryz.prog Rows.signedRow.laid W) (hsh:W.ShapedOpen Tryz.prog):GL W:=by
 obtain ⟨h1,hh⟩:=parts h
 have h3:=laidMet.tail (laidMet.tail h1)
 have h4:=laidMet.tail h3
 have h5:=laidMet.tail h4
 have h7:=laidMet.tail (laidMet.tail h5)
 have h8:=laidMet.tail h7
 have h9:=laidMet.tail h8
 have h10:=laidMet.tail h9
 have tP : Lib.TabIs Tryz.prog W "internal/strconv.uint64pow10" .u64 Lib.pow10Tab := Lib.tabIs_of_head gP gPType Tryz.underlying261 Tryz.underlying199 cellsU cellsP h3
 have tS : Lib.TabIs Tryz.prog W "larder/mark.firstState" .u32 zS := Lib.tabIs_of_head gS gSType Tryz.underlying196 Tryz.underlying195 cells1 cells8 h4
 have tK : Lib.TabIs Tryz.prog W "larder/mark.roundWords" .u32 zK := Lib.tabIs_of_head gK gKType Tryz.underlying312 Tryz.underlying195 cells1 cells64 h5
 have cS:∀ j,j < 8→W.cell? ⟨0,j,none⟩=some (.int .u32 (hL.getD j 0:Nat)):=fun j hj=>by rw [tS.cell gS j (by rw [zS_len];exact hj),zS_get j hj]
 have cK:∀ j,j < 64→W.cell? ⟨4,j,none⟩=some (.int .u32 (kL.getD j 0:Nat)):=fun j hj=>by rw [tK.cell gK j (by rw [zK_len];exact hj),zK_get j hj]
 have hm:∃ m,W.cell? ⟨6,0,none⟩=some (.int .i64 m):=Go.Proofs.cell_of_shapedOpen_int (zero:=#[.int .i64 0]) (t:=3) hsh (of_decide_eq_true (by kernel_rfl)) (by kernel_rfl) rfl (by kernel_rfl) (by kernel_rfl) Tryz.underlying3
 have hsz:=sz_of hsh
 refine ⟨⟨hm,tP,?_⟩,⟨cK,cS,cell_lt (cK 0 (by omega)),cell_lt (cS 0 (by omega))⟩,handle_of hh,sentinel_of h10 gM gMType,sentinel_of h8 gY gYType,sentinel_of h7 gG gGType,rows_of h9,hsz⟩
 exact Nat.le_trans P.gTop_le hsz
end Go.Proofs.YtbllcgibmgbnjaaGreatDoor.E
namespace Go.Proofs.YtbllcgibmgbnjaaGreatDoor.E
open Go.ChangeShapes Go.WideShapes Go.ChangeAt Go.RowKit
def flat:DataW Unit→List Value
 | .lit (.int k z)=>[.int k z]
 | .lit (.bool b)=>[.bool b]
 | .lit (.string l)=>[.string ⟨l.toArray⟩]
 | .agg ps=>flats ps
 | _=>[]
 where flats:List (DataW Unit)→List Value
 | []=>[]
 | d :: r=>flat d++flats r
def put (cs:List Value):Obj→Obj
 | .cells _ t frozen=>.cells cs.toArray t frozen
 | o=>o
abbrev text0:List UInt8:=[118,97,108,117,101,32,111,117,116,32,111,102,32,114,97,110,103,101]
abbrev text1:List UInt8:=[105,110,118,97,108,105,100,32,115,121,110,116,97,120]
abbrev text2:List UInt8:=[116,104,101,32,108,111,103,32,104,97,115,32,110,111,32,114,111,111,109,32,102,111,114,32,116,104,101,32,102,114,97,109,101]
def laidHeap (h:Array Obj) (n:Nat):Array Obj :=
 (((((((((((((((h.modify 7 (put (flat Rows.laid_math_bits_deBruijn32tab))).modify 8 (put (flat Rows.laid_math_bits_deBruijn64tab))).modify 2 (put (flat Rows.laid_internal_strconv_uint64pow10))).modify 0 (put (flat Rows.laid_larder_mark_firstState))).modify 4 (put (flat Rows.laid_larder_mark_roundWords))).modify 12 (put (flat Rows.laid_unicode_utf8_acceptRanges))).modify 11 (put (flat Rows.laid_unicode_utf8_first))).modify 3 (put (flat Rows.laid_larder_ask_rows))).modify 1 (put [.iface 264 (.agg #[.pointer (some ⟨13,80,none⟩)])])).modify 10 (put [.iface 370 (.pointer (some ⟨n,0,none⟩))])).modify 9 (put [.iface 370 (.pointer (some ⟨n+1,0,none⟩))])).modify 5 (put [.iface 370 (.pointer (some ⟨n+2,0,none⟩))])).push (.cells #[.string ⟨text0.toArray⟩] 372 (0,0))).push (.cells #[.string ⟨text1.toArray⟩] 372 (0,0))).push (.cells #[.string ⟨text2.toArray⟩] 372 (0,0)))
noncomputable def laidWorld (os:Os):World :=
 { World.holding Tryz.prog os ⟨#[],#[],[]⟩ with heap:=laidHeap (World.holding Tryz.prog os ⟨#[],#[],[]⟩).heap (World.holding Tryz.prog os ⟨#[],#[],[]⟩).heap.size }
end Go.Proofs.YtbllcgibmgbnjaaGreatDoor.E
