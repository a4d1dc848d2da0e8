import Derived.Test.YtbllcgibmgbnjaaGreatDoorM18
import Derived.Test.YtbllcgibmgbnjaaGreatDoorM08
import Derived.Maps.RangeWalk
import Derived.Maps.OwnOps
import Derived.Maps.OwnSet
import Derived.Test.YtbllcgibmgbnjaaGreatDoorM10
import Derived.BigRegion
import Derived.Test.YtbllcgibmgbnjaaGreatDoorM13
set_option maxHeartbeats 2000000
set_option maxRecDepth 20000
namespace Go.Proofs.YtbllcgibmgbnjaaGreatDoor.P
structure AskFit (user:Tx) (q:AskP):Prop where
 u:user.length≤10000
 b:q.bucket.length≤10000
 k:q.key.length≤10000
 y:q.body.length≤10000
 v:q.version≤1000000000
def readP (us:Us) (clock:Nat) (t:Tx):Except Nat (Tx×AskP) :=
 if (R.parseOf t).1=1 then .error 413 else if (R.parseOf t).1≠0 then .error 400 else
 match signerP (R.parseOf t).2.method (R.parseOf t).2.path (R.parseOf t).2.query (R.parseOf t).2.headers (R.parseOf t).2.body us clock with
 | none=>.error 403
 | some u=>match askP (R.parseOf t).2.method (R.parseOf t).2.path (R.parseOf t).2.query (R.parseOf t).2.body with
  | none=>.error 400
  | some q=>.ok (u,q)
theorem numP_hi {t:Tx} {lo hi n:Nat} (h:numP t lo hi=some n):n≤hi:=by
 unfold numP at h
 split at h
 ·split at h
  ·cases h
  ·rename_i v hv hn
   cases h
   omega
 ·cases h
theorem pairA_keep (a:AskP) (n v:Tx):(pairA a n v).1.kind=a.kind∧(pairA a n v).1.bucket=a.bucket∧(pairA a n v).1.key=a.key∧(pairA a n v).1.body=a.body∧(pairA a n v).1.action=a.action∧(a.version≤999999999→(pairA a n v).1.version≤999999999):=by
 unfold pairA
 split
 ·exact ⟨rfl,rfl,rfl,rfl,rfl,id⟩
 ·split
  ·exact ⟨rfl,rfl,rfl,rfl,rfl,id⟩
  ·split
   ·exact ⟨rfl,rfl,rfl,rfl,rfl,id⟩
   ·split
    ·exact ⟨rfl,rfl,rfl,rfl,rfl,id⟩
    ·split
     ·refine ⟨rfl,rfl,rfl,rfl,rfl,fun _=>?_⟩
      show optN (numP v 1 999999999)≤_
      cases h:numP v 1 999999999 with
      | none=>simp [optN]
      | some n=>exact numP_hi h
     ·exact ⟨rfl,rfl,rfl,rfl,rfl,id⟩
theorem pairsA_keep:∀ (ps:Hs) (a:AskP),(pairsA a ps).1.kind=a.kind∧(pairsA a ps).1.bucket=a.bucket∧(pairsA a ps).1.key=a.key∧(pairsA a ps).1.body=a.body∧(pairsA a ps).1.action=a.action∧(a.version≤999999999→(pairsA a ps).1.version≤999999999)
 | [],a=>⟨rfl,rfl,rfl,rfl,rfl,id⟩
 | p :: ps,a=>by
  have h1:=pairA_keep a p.1 p.2
  have h2:=pairsA_keep ps (pairA a p.1 p.2).1
  unfold pairsA
  split
  ·exact ⟨h2.1.trans h1.1,h2.2.1.trans h1.2.1,h2.2.2.1.trans h1.2.2.1,h2.2.2.2.1.trans h1.2.2.2.1,h2.2.2.2.2.1.trans h1.2.2.2.2.1,fun h=>h2.2.2.2.2.2 (h1.2.2.2.2.2 h)⟩
  ·exact h1
theorem row_kind {r:RowP} (h:r∈rowsP):r.kind≤8:=by
 simp only [rowsP,List.mem_cons,List.not_mem_nil,or_false] at h
 rcases h with rfl|rfl|rfl|rfl|rfl|rfl|rfl|rfl|rfl <;> simp
theorem ask_fit {m p:Tx} {q:Hs} {y:Tx} {a:AskP} (h:askP m p q y=some a):a.kind≤8∧bktP a.bucket=true∧(a.key=[]∨keyP a.key=true)∧a.body=y∧a.version≤999999999:=by
 unfold askP at h
 split at h
 ·cases h
 ·rename_i r hr
  have hm:r∈rowsP:=List.mem_of_find?_eq_some hr
  split at h
  ·rename_i hc
   split at h
   ·cases h
    have k:=pairsA_keep (xOut q) (ask0 r p y)
    refine ⟨by rw [k.1];exact row_kind hm,by rw [k.2.1];exact hc.1,?_,by rw [k.2.2.2.1];rfl,k.2.2.2.2.2 (Nat.zero_le _)⟩
    rw [k.2.2.1]
    rcases hc.2.1 with e|e
    ·left
     show (pathP p).2.1=[]
     unfold pathP at e ⊢
     unfold Lib.cut at e ⊢
     split at e
     ·cases e
     ·rename_i hn;rw [if_neg hn]
    ·exact .inr e
   ·cases h
  ·cases h
theorem signer_in {m p:Tx} {q hs:Hs} {y:Tx} {us:Us} {clock:Nat} {u:Tx} (h:signerP m p q hs y us clock=some u):∃ s,(u,s)∈us:=by
 unfold signerP at h
 split at h
 ·cases h
 ·split at h
  ·cases h
  ·split at h
   ·cases h
   ·rw [Option.map_eq_some_iff] at h
    obtain ⟨x,hx,rfl⟩:=h
    exact ⟨x.2,List.mem_of_find?_eq_some hx⟩
theorem parse_body (t:Tx):(R.parseOf t).2.body.length≤300:=by
 unfold R.parseOf
 split
 ·simp
 ·split
  ·simp
  ·split
   ·simp
   ·simp only;omega
theorem read_nums {us:Us} {clock:Nat} {t:Tx} {n:Nat} (h:readP us clock t=.error n):n=400∨n=403∨n=413:=by
 unfold readP at h
 split at h
 ·cases h;simp
 ·split at h
  ·cases h;simp
  ·split at h
   ·cases h;simp
   ·split at h
    ·cases h;simp
    ·cases h
theorem read_num {us:Us} {clock:Nat} {t:Tx} {n:Nat} (h:readP us clock t=.error n):n≠200:=by
 rcases read_nums h with e|e|e <;> omega
theorem read_fit {us:Us} {clock:Nat} {t u:Tx} {q:AskP} (hu:∀ x∈us,x.1.length≤1000∧x.2.length≤1000000) (h:readP us clock t=.ok (u,q)):AskFit u q∧q.kind≤8:=by
 unfold readP at h
 split at h
 ·cases h
 ·split at h
  ·cases h
  ·split at h
   ·cases h
   ·rename_i u' hs
    split at h
    ·cases h
    ·rename_i q' hq
     cases h
     have f:=ask_fit hq
     obtain ⟨x,hx⟩:=signer_in hs
     have h1:=(hu _ hx).1
     have h2:q.bucket.length≤20:=by
      have:=f.2.1;unfold bktP at this;rw [Bool.and_eq_true] at this;exact (of_decide_eq_true this.1).2
     have h3:q.key.length≤40:=by
      rcases f.2.2.1 with e|e
      ·rw [e];simp
      ·unfold keyP at e;rw [Bool.and_eq_true] at e;exact (of_decide_eq_true e.1).2
     have h4:q.body.length≤300:=by rw [f.2.2.2.1];exact parse_body t
     exact ⟨⟨by simp only at h1;omega,by omega,by omega,by omega,by have:=f.2.2.2.2;omega⟩,f.1⟩
open Go.RowKit
open C (ret_bool ret_int ret_str)
def pickP (c:Int) (n:Nat):Nat:=(if c < 0 then -(c+1) else c).toNat % n
theorem pickP_lt (c:Int) {n:Nat} (h:1≤n):pickP c n < n:=Nat.mod_lt _ (by omega)
theorem pick_any (c:Int) (hc:-9223372036854775808≤c∧c≤9223372036854775807) (n:Nat) (h1:1≤n) (h2:n≤1000000000000) (w:World) :
  Calls Tryz.prog 10 #[.int .i64 c,.int .i64 (n:Int)] w fun e w'=>e=.returned (.int .i64 (pickP c n:Int))∧w=w':=by
 have hn0:((n:Int) == 0)=false:=by simp;omega
 by_cases h:c < 0
 ·have HR:Hid ((pickP c n:Int)=-(c+1).tmod (n:Int)):=by
   show _=_;unfold pickP;rw [if_pos h];have:((-(c+1)).toNat:Int)=-(c+1):=by omega
   rw [Int.natCast_emod,this,← Int.tmod_eq_emod_of_nonneg (by omega),Int.neg_tmod]
  have e1:IntKind.i64.wrap (c+1)=c+1:=by unfold IntKind.wrap;simp [IntKind.bits,IntKind.signed];omega
  have e2:IntKind.i64.wrap (-(c+1))=-(c+1):=by unfold IntKind.wrap;simp [IntKind.bits,IntKind.signed];omega
  go_enter Tryz.func10,Tryz.ntmps10
  go_wp2
  go_ret
  exact ⟨ret_int HR.out.symm,rfl⟩
 ·have HR:Hid ((pickP c n:Int)=c % (n:Int)):=by
   show _=_;unfold pickP;rw [if_neg h];have:(c.toNat:Int)=c:=by omega
   rw [Int.natCast_emod,this]
  go_enter Tryz.func10,Tryz.ntmps10
  go_wp2
  go_ret
  exact ⟨ret_int HR.out.symm,rfl⟩
theorem saidK_any (m t more y:Tx) (h1:m.length≤1000000000) (h2:t.length≤1000000000000000) (h3:more.length≤1000000000) (h4:y.length≤1000000000) (w:World) (E:R.Env w) :
  Calls Tryz.prog 32 #[str m,str t,str more,str y] w fun e w'=>e=.returned (str (saidT m t more y))∧Below w.heap.size w w':=by
 have I:Hid (_):=R.itoa_r y.length w E (by omega)
 have l1:(lenT y).length≤13:=itoa_short (by omega)
 have HT:Hid (saidT m t more y=m++[32]++t++[10,104,111,115,116,58,32,104,101,114,101,10,108,101,110,103,116,104,58,32]++lenT y++[10]++more++[10]++y):=rfl
 unfold lenT at l1 HT
 rw [HT.out]
 generalize Lib.itoa (y.length:Int)=q at *
 go_enter Tryz.func32,Tryz.ntmps32
 go_wp2_with (go_at_call 34;refine Calls.mono I.out ?_;rintro e w1 ⟨rfl,b1⟩)
 go_ret
 exact ⟨ret_str rfl,b1⟩
theorem told200:toldT 200=[50,48,48,32,79,75]:=by
 unfold toldT
 rw [itoa_nat,R.dd_big (by decide),R.dd_big (by decide),R.dd_small (by decide)]
 rfl
theorem putK_any (v:Nat) (hv:v≤1000000000000) (w:World) (E:R.Env w) :
  Calls Tryz.prog 17 #[.int .i64 (v:Int)] w fun e w'=>e=.returned (str (respT 200 [(tVersion,Lib.itoa (v:Int))] []))∧Below w.heap.size w w':=by
 have I:Hid (_):=R.itoa_r v w E (by omega)
 have l1:(Lib.itoa (v:Int)).length≤13:=itoa_short hv
 have HT:Hid (respT 200 [(tVersion,Lib.itoa (v:Int))] []=[50,48,48,32,79,75,10,118,101,114,115,105,111,110,58,32]++Lib.itoa (v:Int)++[10,10]):=by
  show _=_
  unfold respT;rw [if_pos rfl];rw [told200];simp [hLine,tVersion]
 rw [HT.out]
 generalize Lib.itoa (v:Int)=q at *
 go_enter Tryz.func17,Tryz.ntmps17
 go_wp2_with (go_at_call 34;refine Calls.mono I.out ?_;rintro e w1 ⟨rfl,b1⟩)
 go_ret
 exact ⟨ret_str rfl,b1⟩
theorem gotK_any (v:Nat) (y:Tx) (hv:v≤1000000000000) (hy:y.length≤1000000000) (w:World) (E:R.Env w) :
  Calls Tryz.prog 18 #[.int .i64 (v:Int),str y] w fun e w'=>e=.returned (str (respT 200 [(tVersion,Lib.itoa (v:Int)),(tLength,lenT y)] y))∧Below w.heap.size w w':=by
 have I:Hid (_):=R.itoa_r v w E (by omega)
 have I2:Hid (_):=fun w E=>R.itoa_r y.length w E (by omega)
 have l1:(Lib.itoa (v:Int)).length≤13:=itoa_short hv
 have l2:(lenT y).length≤13:=itoa_short (by omega)
 have HT:Hid (respT 200 [(tVersion,Lib.itoa (v:Int)),(tLength,lenT y)] y=[50,48,48,32,79,75,10,118,101,114,115,105,111,110,58,32]++Lib.itoa (v:Int)++[10,108,101,110,103,116,104,58,32]++lenT y++[10,10]++y):=by
  show _=_
  unfold respT;rw [if_pos rfl];rw [told200];simp [hLine,tVersion]
 unfold lenT at l2 HT
 rw [show lenT y=Lib.itoa (y.length:Int) from rfl,HT.out]
 generalize Lib.itoa (v:Int)=q at *
 generalize Lib.itoa (y.length:Int)=q2 at *
 go_enter Tryz.func18,Tryz.ntmps18
 go_wp2_with fail
 refine Calls.mono I.out ?_
 rintro e w1 ⟨rfl,b1⟩
 have I3:Hid (_):=I2.out w1 (E.call b1)
 go_wp2_with fail
 refine Calls.mono I3.out ?_
 rintro e w2 ⟨rfl,b2⟩
 go_wp2
 go_ret
 exact ⟨ret_str rfl,below_trans b1 b2⟩
def formOf (s:Tx):Tx:=(R.cnOf s tNames).1
theorem form_len (s:Tx):(formOf s).length≤140737488355328:=by
 unfold formOf R.cnOf
 split
 ·have F:=R.parse_fits s
  cases h:R.canonOf (R.parseOf s).2.method (R.parseOf s).2.path (R.parseOf s).2.query (R.parseOf s).2.headers (R.parseOf s).2.body tNames with
  | none=>simp
  | some t=>exact canonOf_len F.m F.p F.q F.qs (by simp) F.hs h
 ·simp
def sigOf (secret:Tx) (t:Nat) (s:Tx):Tx:=(R.signOf secret (t:Int) (formOf s)).1
theorem sig_len (secret:Tx) (t:Nat) (s:Tx):(sigOf secret t s).length≤64:=by
 unfold sigOf R.signOf
 split
 ·simp
 ·split
  ·simp
  ·have:=(mark_ok (secret:=secret) (t:=(t:Int).toNat) (form:=formOf s)).2.2.2
   unfold markT at this;simp only;omega
def headT (user secret:Tx) (t:Nat) (m tg y:Tx):Tx:=saidT m tg ([97,117,116,104,58,32]++authT user t (sigOf secret t (saidT m tg [] y))++[10]) y
theorem byHeader_any (user secret:Tx) (t:Nat) (m tg y:Tx) (ht:t≤1000000000000) (h0:user.length≤1000) (hsec:secret.length≤1000) (h1:m.length≤1000) (h2:tg.length≤1000000000000000) (h4:y.length≤1000000) (w:World) (G:GL w) :
  Calls Tryz.prog 14 #[str user,str secret,.int .i64 (t:Int),str m,str tg,str y] w fun e w'=>e=.returned (str (headT user secret t m tg y))∧Below w.heap.size w w':=by
 have S1:Hid (_):=saidK_any m tg [] y (by omega) (by omega) (by simp) (by omega) w G.env
 have hsl:(saidT m tg [] y).length≤9223372036854775807:=by
  have:(lenT y).length≤13:=itoa_short (by omega)
  simp [saidT];omega
 have C:Hid (_):=fun w E L=>R.lcanon_any (saidT m tg [] y) tNames w E L hsl (by simp)
 have hfl:=form_len (saidT m tg [] y)
 have SG:Hid (_):=fun w E L=>R.lsign_any secret (t:Int) (formOf (saidT m tg [] y)) w E L (by omega) (by omega)
 have hgl:=sig_len secret t (saidT m tg [] y)
 have I:Hid (_):=fun w E=>R.itoa_r t w E (by omega)
 have l1:(Lib.itoa (t:Int)).length≤13:=itoa_short ht
 have HT:Hid (headT user secret t m tg y=saidT m tg ([97,117,116,104,58,32]++authT user t (sigOf secret t (saidT m tg [] y))++[10]) y):=rfl
 have HA:Hid (∀ q,[97,117,116,104,58,32]++authT user t q++[10]=[97,117,116,104,58,32,76,49,32]++user++[32]++Lib.itoa (t:Int)++[32]++tNames++[32]++q++[10]):=fun q=>by simp [authT]
 have HM:Hid (∀ q:Tx,q.length≤64→([97,117,116,104,58,32]++authT user t q++[10]).length≤1000000):=fun q hq=>by rw [HA.out];simp;omega
 have S2:Hid (_):=fun w E=>saidK_any m tg ([97,117,116,104,58,32]++authT user t (sigOf secret t (saidT m tg [] y))++[10]) y (by omega) (by omega) (by have:=HM.out _ hgl;omega) (by omega) w E
 unfold sigOf at S2 HT hgl
 unfold formOf at SG S2 HT hgl
 rw [HT.out]
 simp only [HA.out] at *
 generalize saidT m tg [] y=s1 at *
 generalize R.cnOf s1 tNames=cx at *
 obtain ⟨ct,cn⟩:=cx
 simp only at *
 generalize R.signOf secret (t:Int) ct=sx at *
 obtain ⟨st,sn⟩:=sx
 simp only [R.sgEnd] at *
 generalize Lib.itoa (t:Int)=q at *
 go_enter Tryz.func14,Tryz.ntmps14
 go_wp2_with fail
 refine Calls.mono S1.out ?_
 rintro e w1 ⟨rfl,b1⟩
 have G1:=G.call b1
 go_wp2_with fail
 refine Calls.mono (C.out w1 G1.env G1.laid) ?_
 rintro e w2 ⟨rfl,b2⟩
 have G2:=G1.call b2
 go_wp2_with fail
 refine Calls.mono (SG.out w2 G2.env G2.laid) ?_
 rintro e w3 ⟨rfl,b3⟩
 have G3:=G2.call b3
 go_wp2_with fail
 refine Calls.mono (I.out w3 G3.env) ?_
 rintro e w4 ⟨rfl,b4⟩
 have G4:=G3.call b4
 have S3:Hid (_):=S2.out w4 G4.env
 go_wp2_with fail
 refine Calls.mono S3.out ?_
 rintro e w5 ⟨rfl,b5⟩
 go_wp2
 go_ret
 exact ⟨by simp,below_trans (below_trans (below_trans (below_trans b1 b2) b3) b4) b5⟩
open C (enc dec dec_enc enc1 plainB enc_cons enc_nil enc_len hexD)
structure Line (m tg p:Tx) (q:Hs):Prop where
 f:R.firstOf (m++32 :: tg)=some { method:=m,path:=p,query:=q }
 n:(10:UInt8) ∉ m++32 :: tg
theorem line_plain {m p:Tx} (hm:R.isMethod m=true):Line m (enc true (47 :: p)) (47 :: p) []:=⟨first_plain hm,first_free hm⟩
theorem form_said {m tg p y:Tx} {q:Hs} (L:Line m tg p q) (hl:(saidT m tg [] y).length≤2000) (hy:y.length≤300):formOf (saidT m tg [] y)=formT m p q y:=by
 unfold formOf R.cnOf
 rw [parse_ok (req_said L.f L.n) hl hy]
 simp only [if_true]
 rw [canon_base]
theorem sig_said {secret m tg p y:Tx} {t:Nat} {q:Hs} (L:Line m tg p q) (hl:(saidT m tg [] y).length≤2000) (hy:y.length≤300) (h1:secret≠[]) (h2:secret.length≤40) (ht:t≤1000000000000):sigOf secret t (saidT m tg [] y)=markT secret t (formT m p q y):=by
 unfold sigOf
 rw [form_said L hl hy,sign_ok h1 h2 ht]
def askR (u m p:Tx) (q:Hs) (y:Tx):Except Nat (Tx×AskP):=match askP m p q y with
 | none=>.error 400
 | some a=>.ok (u,a)
structure Has (us:Us) (user secret:Tx):Prop where
 f:us.find? (fun u=>u.1 == user)=some (user,secret)
 o:∀ u∈us,u.1=user→u.2=secret
 n1:(32:UInt8) ∉ user
 n2:user.all R.showB=true
 n3:user.length≤12
 s1:secret≠[]
 s2:secret.length≤40
theorem read_head {us:Us} {user secret m tg p y:Tx} {q:Hs} {clock t:Nat} (H:Has us user secret) (L:Line m tg p q) (hq:xIn q=[]) (hm:m.length≤10) (htg:tg.length≤1000) (hy:y.length≤300) (ht:t≤1000000000000) :
  readP us clock (headT user secret t m tg y)=if clock+900 < t∨t+900 < clock then .error 403 else askR user m p q y:=by
 have hn3:=H.n3
 have l0:(saidT m tg [] y).length≤2000:=by have:=said_len m tg [] y hy;simp at this;omega
 have e1:=sig_said (t:=t) L l0 hy H.s1 H.s2 ht
 have mk:=mark_ok (secret:=secret) (t:=t) (form:=formT m p q y)
 have l1:(headT user secret t m tg y).length≤2000:=by
  unfold headT
  rw [e1]
  have h1:=said_len m tg ([97,117,116,104,58,32]++authT user t (markT secret t (formT m p q y))++[10]) y hy
  have h2:([97,117,116,104,58,32]++authT user t (markT secret t (formT m p q y))++[10]).length≤130:=by
   have:=itoa_short ht
   have:=mk.2.2.2
   simp [authT];omega
  omega
 have e2:=req_auth L.f L.n (y:=y) (v:=authT user t (markT secret t (formT m p q y))) (auth_show H.n2 mk.1)
 have e3:R.parseOf (headT user secret t m tg y)=(0,{ method:=m,path:=p,query:=q,headers:=baseH y++[(tAuth,authT user t (markT secret t (formT m p q y)))],body:=y }):=by
  refine parse_ok ?_ l1 hy
  unfold headT
  rw [e1]
  exact e2
 unfold readP
 rw [e3]
 simp only
 rw [if_neg (by decide),if_neg (by decide),signer_head hq H.n1 H.s1 H.s2 ht H.f H.o]
 by_cases hc:clock+900 < t∨t+900 < clock
 ·rw [if_pos hc,if_pos hc]
 ·rw [if_neg hc,if_neg hc];rfl
theorem pair_of {n v c:Tx} (h1:(61:UInt8) ∉ n) (h2:dec false n=some n) (h3:dec false c=some v) (h4:n≠[]):R.pairOf (n++61 :: c)=some (n,v):=by
 unfold R.pairOf
 rw [cutc_hit c h1]
 simp only [h2,h3]
 rw [if_neg h4]
theorem query_step {l:Hs} {a n v:Tx} {r:List Tx} (h:R.pairOf a=some (n,v)) (hf:R.findP l n=none):R.queryFrom l (a :: r)=R.queryFrom (l++[(n,v)]) r:=by
 rw [R.queryFrom,h]
 simp only [R.addP]
 rw [if_pos hf]
theorem itoa_no {t:Nat} {c:UInt8} (h:¬ (48≤c.toNat∧c.toNat≤57)):c ∉ Lib.itoa (t:Int):=fun e=>h (itoa_digit c e)
theorem dec_itoa (t:Nat):dec false (Lib.itoa (t:Int))=some (Lib.itoa (t:Int)):=dec_self (fun c hc=>plain_digit false (itoa_digit c hc))
theorem line_query {m p qt:Tx} {q:Hs} (hm:R.isMethod m=true) (hq:R.queryOf qt=some q) (hf:(10:UInt8) ∉ qt):Line m (enc true (47 :: p)++63 :: qt) (47 :: p) q:=by
 refine ⟨first_query hm hq,?_⟩
 intro e
 have e':(10:UInt8)∈(m++32 :: enc true (47 :: p))++63 :: qt:=by simpa using e
 rcases List.mem_append.1 e' with e|e
 ·exact first_free hm e
 ·rcases List.mem_cons.1 e with e|e
  ·exact absurd e (by decide)
  ·exact hf e
open Go.ChangeMaps Go.MapKept
theorem strKeys:KeyB Tryz.prog 9 isStr:=str_keys Tryz.underlying9
theorem place_check (w:World) (em:Bool) (a b:ByteArray):(Instr.checkKey em 10000 289 (.agg #[.string a,.string b])).run Tryz.prog w=.ok () w:=by
 kernel_rfl
theorem place_fields : (Tryz.prog.fieldsOf 289).toList.map (fun f => (f.name == "_", f.type, f.offset)) = [(false, 9, 0), (false, 9, 1)] := by kernel_rfl
theorem part_str (w:World) (xs:Array Value) (n:Nat) (v:Value) (h:xs[n]?=some v):(part 9 xs n).run Tryz.prog w=.ok v w:=by
 have ha:(isAgg 9).run Tryz.prog w=.ok false w:=by kernel_rfl
 simp [part,ha,Result.andThen,h]
theorem place_equal (w:World) (a b c d:ByteArray):(Op.equal 289 (.agg #[.string a,.string b]) (.agg #[.string c,.string d])).run Tryz.prog w=.ok (a == c && b == d) w:=by
 show (Op.equalIn (9999+1) 289 _ _).run Tryz.prog w=_
 rw [run_equalIn_struct w 9999 289 _ _ (by kernel_rfl) (by kernel_rfl)]
 have hf:=place_fields
 generalize (Tryz.prog.fieldsOf 289).toList=l at hf
 have hl:l.length=2:=by simpa using congrArg List.length hf
 obtain ⟨f0,f1,rfl⟩:∃ f0 f1,l=[f0,f1]:=by
  match l,hl with
  | [f0,f1],_=>exact ⟨f0,f1,rfl⟩
 ·simp only [List.map_cons,List.map_nil,List.cons.injEq,Prod.mk.injEq,beq_eq_false_iff_ne] at hf
  obtain ⟨⟨n0,t0,o0⟩,⟨n1,t1,o1⟩,_⟩:=hf
  have e1:=fun w=>run_equalIn_string (P:=Tryz.prog) w 9998 9 a c Tryz.underlying9
  have e2:=fun w=>run_equalIn_string (P:=Tryz.prog) w 9998 9 b d Tryz.underlying9
  simp [Op.eqFields,n0,n1,t0,t1,o0,o1,part_str _ #[Value.string a,Value.string b] 0 _ rfl,part_str _ #[Value.string c,Value.string d] 0 _ rfl,part_str _ #[Value.string a,Value.string b] 1 _ rfl,part_str _ #[Value.string c,Value.string d] 1 _ rfl,e1,e2,Result.andThen,beq_toListBytes]
  by_cases h1:a.toList=c.toList <;> by_cases h2:b.toList=d.toList <;> simp [h1,h2]
theorem place_stays (w:World) (a b:ByteArray):(Instr.keyThatStays (.agg #[.string a,.string b]) (.agg #[.string a,.string b])).run Tryz.prog w=.ok (.agg #[.string a,.string b]) w:=by
 have h:Instr.sameBits 10000 (.agg #[.string a,.string b]) (.agg #[.string a,.string b])=true:=by
  show (_ && _)=true
  simp [Instr.sameBits,(bytes_beq _ _).2]
 simp [Instr.keyThatStays,h]
theorem placeKeys:KeyB Tryz.prog 289 isTwo:=two_keys (by kernel_rfl) place_check place_equal place_stays
theorem wpList_look {P:Program} (w:World) {ops:Array Oper} {rest:List Oper} {o:Oper} {a:Act} {Q:Exit→Act→World→Prop} (hg:o.guard=none) (m x:Operand) (t:TypeId) (c:Bool) (hop:o.op=Op.lookup t m x c)
  (k e:TypeId) (K:Value→Prop) (B:KeyB P k K) (ht:P.underlying t=some (.map k e)) (b:Nat) (f:Value→Option Value) (hm:a.eval m=.map (some b)) (h:MapIs K w b f) (z:Value) (hz:(zeroValue e).run P w=.ok z w)
  (key:Value) (hx:a.eval x=key) (hk:K key) (v:Value) (hv:lookV c z (f key)=v) (hK:wpList P ops Q rest (a.put o.dst v) w):wpList P ops Q (o :: rest) a w:=by
 refine wpList_plain hg fun K' hK'=>?_
 have hrun:=h.look B ht c hz hk
 rw [hv] at hrun
 unfold Oper.wp
 simp [execOp,hop,hm,hx,hrun,Result.andThen]
 exact hK' _ _ hK
theorem wpList_put {P:Program} (w:World) {ops:Array Oper} {rest:List Oper} {o:Oper} {a:Act} {Q:Exit→Act→World→Prop} (hg:o.guard=none) (m x v:Operand) (t:TypeId) (hop:o.op=Op.mapUpdate t m x v)
  (k e:TypeId) (K:Value→Prop) (B:KeyB P k K) (ht:P.underlying t=some (.map k e)) (b:Nat) (f:Value→Option Value) (hm:a.eval m=.map (some b)) (h:MapIs K w b f)
  (key val:Value) (hx:a.eval x=key) (hv:a.eval v=val) (hk:K key)
  (hK:∀ w' g,MapIs K w' b g→g key=some val→(∀ x,x≠key→g x=f x)→Kept (·=b) w w'→w'.heap.size=w.heap.size→wpList P ops Q rest (a.put o.dst undef) w'):wpList P ops Q (o :: rest) a w:=by
 refine wpList_plain hg fun K' hK'=>?_
 obtain ⟨w',g,hrun,h1,⟨h2,h3⟩,h4,h5⟩:=h.put B ht hk val
 unfold Oper.wp
 simp [execOp,hop,hm,hx,hv,hrun,Result.andThen]
 exact hK' _ _ (hK w' g h1 h2 h3 h4 h5)
theorem wpList_del {P:Program} (w:World) {ops:Array Oper} {rest:List Oper} {o:Oper} {a:Act} {Q:Exit→Act→World→Prop} (hg:o.guard=none) (m x:Operand) (t k:TypeId)
  (hop:o.op=.call { callee:=.builtin .delete,args:=#[m,x],argTypes:=#[t,k] })
  (e:TypeId) (K:Value→Prop) (B:KeyB P k K) (ht:P.underlying t=some (.map k e)) (b:Nat) (f:Value→Option Value) (hm:a.eval m=.map (some b)) (h:MapIs K w b f)
  (key:Value) (hx:a.eval x=key) (hk:K key)
  (hK:∀ w' g,MapIs K w' b g→g key=none→(∀ x,x≠key→g x=f x)→Kept (·=b) w w'→w'.heap.size=w.heap.size→wpList P ops Q rest (a.put o.dst (.tuple #[])) w'):wpList P ops Q (o :: rest) a w:=by
 refine wpList_plain hg fun K' hK'=>?_
 obtain ⟨w',g,hrun,h1,⟨h2,h3⟩,h4,h5⟩:=h.del (ty:=o.type) B ht hk
 unfold Oper.wp
 simp [execOp,hop,resolve,invoke,builtin,hm,hx,hrun,Result.andThen]
 exact hK' _ _ (hK w' g h1 h2 h3 h4 h5)
def backPost (m:Nat) (key:Value) (old:Option Value) (K:Value→Prop) (g:Value→Option Value) (W:World) (e:Ending) (W':World):Prop :=
 e=.returned (.tuple #[])∧(∃ f,MapIs K W' m f∧f key=old∧∀ x,x≠key→f x=g x)∧Kept (·=m) W W'
def setPost (F m:Nat) (key val:Value) (K:Value→Prop) (f:Value→Option Value) (w:World) (e:Ending) (w':World):Prop :=
 ∃ caps,e=.returned (.func (.func F) #[] caps)∧(∃ g,MapIs K w' m g∧g key=some val∧∀ x,x≠key→g x=f x)∧Kept (·=m) w w' ∧
  ∀ W g,Kept (fun k=>k < w.heap.size) w' W→MapIs K W m g→Calls Tryz.prog F caps W (backPost m key (f key) K g W)
theorem setB_back (m a b c d:Nat) (n:List UInt8) (old:Option (Value×Value×Value)) (z0 z1 z2:Value) (W:World) (g:Value→Option Value) (h:MapIs isStr W m g)
  (hz:∀ q,old=some q→z0=q.1∧z1=q.2.1∧z2=q.2.2)
  (ha:W.cell? ⟨a,0,none⟩=some (.bool old.isSome)) (hb0:W.cell? ⟨b,0,none⟩=some z0) (hb1:W.cell? ⟨b,1,none⟩=some z1) (hb2:W.cell? ⟨b,2,none⟩=some z2) (hc:W.cell? ⟨c,0,none⟩=some (.map (some m))) (hd:W.cell? ⟨d,0,none⟩=some (str n)) :
  Calls Tryz.prog 306 #[.pointer (some ⟨a,0,none⟩),.pointer (some ⟨b,0,none⟩),.pointer (some ⟨c,0,none⟩),.pointer (some ⟨d,0,none⟩)] W (backPost m (str n) (old.map fun q=>.agg #[q.1,q.2.1,q.2.2]) isStr g W):=by
 cases old with
 | none =>
  clear hz
  go_enter Tryz.func306,Tryz.ntmps306
  go_wp2_with (at_delete;refine wpList_del _ rfl _ _ _ _ rfl 162 isStr strKeys Tryz.underlying122 m g rfl h _ rfl ⟨_,rfl⟩ ?_;intro w' g' h1 h2 h3 h4 h5)
  go_end0
  exact ⟨rfl,⟨g',h1,h2,h3⟩,h4⟩
 | some q =>
  obtain ⟨rfl,rfl,rfl⟩:=hz q rfl
  go_enter Tryz.func306,Tryz.ntmps306
  go_wp2_with (at_mapUpdate;refine wpList_put _ rfl _ _ _ _ rfl 9 162 isStr strKeys Tryz.underlying122 m g rfl h _ _ rfl rfl ⟨_,rfl⟩ ?_;intro w' g' h1 h2 h3 h4 h5)
  go_end0
  exact ⟨rfl,⟨g',h1,h2,h3⟩,h4⟩
theorem zeroB (w:World):(zeroValue 162).run Tryz.prog w=.ok (.agg #[.string ⟨#[]⟩,.string ⟨#[]⟩,.slice none 0 0]) w:=by kernel_rfl
abbrev Sl:=Option Addr×Nat×Nat
abbrev Sl.v (s:Sl):Value:=.slice s.1 s.2.1 s.2.2
theorem kept_new {w w' W:World} (k:Kept (fun k=>k < w.heap.size) w' W) {b o:Nat} {v:Value} (h:w'.cell? ⟨b,o,none⟩=some v) (hb:w.heap.size≤b):W.cell? ⟨b,o,none⟩=some v :=
 k.cell h (fun e=>by simp at e;omega)
theorem setB_any (m:Nat) (n:List UInt8) (o p:List UInt8) (sl:Sl) (f:Value→Option Value) (old:Option (List UInt8×List UInt8×Sl)) (w:World) (h:MapIs isStr w m f) (ho:f (str n)=old.map fun q=>.agg #[str q.1,str q.2.1,q.2.2.v]) :
  Calls Tryz.prog 304 #[.map (some m),str n,.agg #[str o,str p,sl.v]] w (setPost 306 m (str n) (.agg #[str o,str p,sl.v]) isStr f w):=by
 obtain ⟨sa,sn,sc⟩:=sl
 have hm:=h.lt
 have HO:Hid (f (str n)=old.map fun q=>.agg #[str q.1,str q.2.1,q.2.2.v]):=ho
 have h0:MapIs isStr (((w.alloc (.cells #[.map (some m)] 122)).alloc (.cells #[str n] 9)).alloc (.cells #[str o,str p,.slice sa sn sc] 162)) m f:=((h.alloc _).alloc _).alloc _
 clear ho h
 cases old with
 | none =>
  have HL:Hid (lookV true (.agg #[.string ⟨#[]⟩,.string ⟨#[]⟩,.slice none 0 0]) (f (str n))=.tuple #[.agg #[.string ⟨#[]⟩,.string ⟨#[]⟩,.slice none 0 0],.bool false]):=by show _=_;rw [HO.out];rfl
  go_enter Tryz.func304,Tryz.ntmps304
  go_wp2_with (first|(at_lookup;refine wpList_look _ rfl _ _ _ _ rfl 9 162 isStr strKeys Tryz.underlying122 m f rfl h0 _ (zeroB _) _ rfl ⟨_,rfl⟩ _ HL.out ?_)|(at_mapUpdate;refine wpList_put _ rfl _ _ _ _ rfl 9 162 isStr strKeys Tryz.underlying122 m f rfl ((h0.alloc _).alloc _) _ _ rfl rfl ⟨_,rfl⟩ ?_;intro w' g' h1 h2 h3 h4 h5))
  go_ret
  refine ⟨_,rfl,⟨g',h1,h2,h3⟩,?_,fun W g k hg=>?_⟩
  ·exact (((((Kept.refl _ _).alloc _).alloc _).alloc _).alloc _).alloc _ |>.trans h4 (fun _ _ e=>e)
  ·rw [HO.out]
   refine setB_back m _ _ _ _ n none (str []) (str []) (.slice none 0 0) W g hg (fun q e=>by cases e) (kept_new k (h4.cell ?_ (by simp;omega)) (by omega)) (kept_new k (h4.cell ?_ (by simp;omega)) (by omega)) (kept_new k (h4.cell ?_ (by simp;omega)) (by omega)) (kept_new k (h4.cell ?_ (by simp;omega)) (by omega)) (kept_new k (h4.cell ?_ (by simp;omega)) (by omega)) (kept_new k (h4.cell ?_ (by simp;omega)) (by omega))
   all_goals simp [go_sem]
 | some q =>
  obtain ⟨qo,qp,qa,qn,qc⟩:=q
  have HL:Hid (lookV true (.agg #[.string ⟨#[]⟩,.string ⟨#[]⟩,.slice none 0 0]) (f (str n))=.tuple #[.agg #[str qo,str qp,.slice qa qn qc],.bool true]):=by show _=_;rw [HO.out];rfl
  go_enter Tryz.func304,Tryz.ntmps304
  go_wp2_with (first|(at_lookup;refine wpList_look _ rfl _ _ _ _ rfl 9 162 isStr strKeys Tryz.underlying122 m f rfl h0 _ (zeroB _) _ rfl ⟨_,rfl⟩ _ HL.out ?_)|(at_mapUpdate;refine wpList_put _ rfl _ _ _ _ rfl 9 162 isStr strKeys Tryz.underlying122 m f rfl ((h0.alloc _).alloc _) _ _ rfl rfl ⟨_,rfl⟩ ?_;intro w' g' h1 h2 h3 h4 h5))
  go_ret
  refine ⟨_,rfl,⟨g',h1,h2,h3⟩,?_,fun W g k hg=>?_⟩
  ·exact (((((Kept.refl _ _).alloc _).alloc _).alloc _).alloc _).alloc _ |>.trans h4 (fun _ _ e=>e)
  ·rw [HO.out]
   refine setB_back m _ _ _ _ n (some (str qo,str qp,.slice qa qn qc)) (str qo) (str qp) (.slice qa qn qc) W g hg (fun q e=>by cases e;exact ⟨rfl,rfl,rfl⟩) (kept_new k (h4.cell ?_ (by simp;omega)) (by omega)) (kept_new k (h4.cell ?_ (by simp;omega)) (by omega)) (kept_new k (h4.cell ?_ (by simp;omega)) (by omega)) (kept_new k (h4.cell ?_ (by simp;omega)) (by omega)) (kept_new k (h4.cell ?_ (by simp;omega)) (by omega)) (kept_new k (h4.cell ?_ (by simp;omega)) (by omega))
   all_goals simp [go_sem]
theorem zeroV (w:World):(zeroValue 290).run Tryz.prog w=.ok (.slice none 0 0) w:=by kernel_rfl
theorem setV_back (m a b c d:Nat) (x y:List UInt8) (old:Option Sl) (z:Value) (W:World) (g:Value→Option Value) (h:MapIs isTwo W m g)
  (hz:∀ q,old=some q→z=q.v)
  (ha:W.cell? ⟨a,0,none⟩=some (.bool old.isSome)) (hb0:W.cell? ⟨b,0,none⟩=some z) (hc:W.cell? ⟨c,0,none⟩=some (.map (some m))) (hd:W.cell? ⟨d,0,none⟩=some (str x)) (hd1:W.cell? ⟨d,1,none⟩=some (str y)) :
  Calls Tryz.prog 356 #[.pointer (some ⟨a,0,none⟩),.pointer (some ⟨b,0,none⟩),.pointer (some ⟨c,0,none⟩),.pointer (some ⟨d,0,none⟩)] W (backPost m (.agg #[str x,str y]) (old.map Sl.v) isTwo g W):=by
 cases old with
 | none =>
  clear hz
  go_enter Tryz.func356,Tryz.ntmps356
  go_wp2_with (at_delete;refine wpList_del _ rfl _ _ _ _ rfl 290 isTwo placeKeys Tryz.underlying123 m g rfl h _ rfl ⟨_,_,rfl⟩ ?_;intro w' g' h1 h2 h3 h4 h5)
  go_end0
  exact ⟨rfl,⟨g',h1,h2,h3⟩,h4⟩
 | some q =>
  obtain rfl:=hz q rfl
  go_enter Tryz.func356,Tryz.ntmps356
  go_wp2_with (at_mapUpdate;refine wpList_put _ rfl _ _ _ _ rfl 289 290 isTwo placeKeys Tryz.underlying123 m g rfl h _ _ rfl rfl ⟨_,_,rfl⟩ ?_;intro w' g' h1 h2 h3 h4 h5)
  go_end0
  exact ⟨rfl,⟨g',h1,h2,h3⟩,h4⟩
theorem setV_any (m:Nat) (x y:List UInt8) (sl:Sl) (f:Value→Option Value) (old:Option Sl) (w:World) (h:MapIs isTwo w m f) (ho:f (.agg #[str x,str y])=old.map Sl.v) :
  Calls Tryz.prog 354 #[.map (some m),.agg #[str x,str y],sl.v] w (setPost 356 m (.agg #[str x,str y]) sl.v isTwo f w):=by
 obtain ⟨sa,sn,sc⟩:=sl
 have hm:=h.lt
 have HO:Hid (f (.agg #[str x,str y])=old.map Sl.v):=ho
 have h0:MapIs isTwo ((w.alloc (.cells #[.map (some m)] 123)).alloc (.cells #[str x,str y] 289)) m f:=(h.alloc _).alloc _
 clear ho h
 cases old with
 | none =>
  have HL:Hid (lookV true (.slice none 0 0) (f (.agg #[str x,str y]))=.tuple #[.slice none 0 0,.bool false]):=by show _=_;rw [HO.out];rfl
  go_enter Tryz.func354,Tryz.ntmps354
  go_wp2_with (first|(at_lookup;refine wpList_look _ rfl _ _ _ _ rfl 289 290 isTwo placeKeys Tryz.underlying123 m f rfl h0 _ (zeroV _) _ rfl ⟨_,_,rfl⟩ _ HL.out ?_)|(at_mapUpdate;refine wpList_put _ rfl _ _ _ _ rfl 289 290 isTwo placeKeys Tryz.underlying123 m f rfl ((h0.alloc _).alloc _) _ _ rfl rfl ⟨_,_,rfl⟩ ?_;intro w' g' h1 h2 h3 h4 h5))
  go_ret
  refine ⟨_,rfl,⟨g',h1,h2,h3⟩,?_,fun W g k hg=>?_⟩
  ·exact ((((Kept.refl _ _).alloc _).alloc _).alloc _).alloc _ |>.trans h4 (fun _ _ e=>e)
  ·rw [HO.out]
   refine setV_back m _ _ _ _ x y none (.slice none 0 0) W g hg (fun q e=>by cases e) (kept_new k (h4.cell ?_ (by simp;omega)) (by omega)) (kept_new k (h4.cell ?_ (by simp;omega)) (by omega)) (kept_new k (h4.cell ?_ (by simp;omega)) (by omega)) (kept_new k (h4.cell ?_ (by simp;omega)) (by omega)) (kept_new k (h4.cell ?_ (by simp;omega)) (by omega))
   all_goals simp [go_sem]
 | some q =>
  obtain ⟨qa,qn,qc⟩:=q
  have HL:Hid (lookV true (.slice none 0 0) (f (.agg #[str x,str y]))=.tuple #[.slice qa qn qc,.bool true]):=by show _=_;rw [HO.out];rfl
  go_enter Tryz.func354,Tryz.ntmps354
  go_wp2_with (first|(at_lookup;refine wpList_look _ rfl _ _ _ _ rfl 289 290 isTwo placeKeys Tryz.underlying123 m f rfl h0 _ (zeroV _) _ rfl ⟨_,_,rfl⟩ _ HL.out ?_)|(at_mapUpdate;refine wpList_put _ rfl _ _ _ _ rfl 289 290 isTwo placeKeys Tryz.underlying123 m f rfl ((h0.alloc _).alloc _) _ _ rfl rfl ⟨_,_,rfl⟩ ?_;intro w' g' h1 h2 h3 h4 h5))
  go_ret
  refine ⟨_,rfl,⟨g',h1,h2,h3⟩,?_,fun W g k hg=>?_⟩
  ·exact ((((Kept.refl _ _).alloc _).alloc _).alloc _).alloc _ |>.trans h4 (fun _ _ e=>e)
  ·rw [HO.out]
   refine setV_back m _ _ _ _ x y (some (qa,qn,qc)) (.slice qa qn qc) W g hg (fun q e=>by cases e;rfl) (kept_new k (h4.cell ?_ (by simp;omega)) (by omega)) (kept_new k (h4.cell ?_ (by simp;omega)) (by omega)) (kept_new k (h4.cell ?_ (by simp;omega)) (by omega)) (kept_new k (h4.cell ?_ (by simp;omega)) (by omega)) (kept_new k (h4.cell ?_ (by simp;omega)) (by omega))
   all_goals simp [go_sem]
theorem vcells_at:∀ (l:List Ver) (k:Nat) (h:k < l.length),(vcells l)[k*3]?=some (.int .i64 (l[k].num:Int))∧(vcells l)[k*3+1]?=some (.bool l[k].mark)∧(vcells l)[k*3+2]?=some (str l[k].body)
 | v :: l,0,_=>⟨rfl,rfl,rfl⟩
 | v :: l,k+1,h=>by
  have:=vcells_at l k (by simpa using h)
  rw [show (k+1)*3=k*3+1+1+1 by omega]
  exact this
theorem vcells_len (l:List Ver):(vcells l).length=l.length*3:=by
 induction l with
 | nil=>rfl
 | cons v l ih=>simp only [vcells,List.flatMap_cons,List.length_append,List.length_cons] at *;rw [ih];simp [vcell];omega
theorem vcells_snoc (l:List Ver) (v:Ver):vcells (l++[v])=vcells l++vcell v:=by simp [vcells]
abbrev vrow (w:World) (sl:Value) (l:List Ver):Prop:=w.ownsRow 0 292 3 sl l.length (vcells l)
theorem vrow.at {w:World} {a:Option Addr} {n c:Nat} {l:List Ver} (h:vrow w (.slice a n c) l) {k:Nat} (hk:k < l.length) :
  ∃ g,a=some ⟨g,0,none⟩∧g < w.heap.size∧w.cell? ⟨g,k*3,none⟩=some (.int .i64 (l[k].num:Int))∧w.cell? ⟨g,k*3+1,none⟩=some (.bool l[k].mark)∧w.cell? ⟨g,k*3+2,none⟩=some (str l[k].body):=by
 obtain ⟨a',cap,e,_,hc⟩:=row_view h
 cases e
 obtain ⟨e0,e1,e2⟩:=vcells_at l k hk
 obtain ⟨g,rfl,c0,hg⟩:=hc _ _ e0
 obtain ⟨g1,q1,c1,_⟩:=hc _ _ e1
 obtain ⟨g2,q2,c2,_⟩:=hc _ _ e2
 obtain rfl:g=g1:=by simpa using q1
 obtain rfl:g=g2:=by simpa using q2
 exact ⟨g,rfl,hg,c0,c1,c2⟩
theorem vrow.sl {w:World} {sl:Value} {l:List Ver} (h:vrow w sl l):∃ a c,sl=.slice a l.length c∧l.length≤c:=by
 obtain ⟨a,cap,e,hc,_⟩:=row_view h
 exact ⟨a,cap,e,hc⟩
theorem vrow.below {w w':World} {sl:Value} {l:List Ver} (h:vrow w sl l) (b:Below w.heap.size w w'):vrow w' sl l :=
 (Kept.of_below b).row h (fun g hg e=>by have:=(World.ownsRow.lt h g hg).2;omega)
def vIdx (l:List Ver) (n:Nat):Option Nat:=l.findIdx? (fun v=>v.num == n)
def vIdxI (o:Option Nat):Int:=match o with
 | some i=>(i:Int)
 | none=>-1
theorem isNum_any (v:Ver) (n:Nat) (K:Nat) (w:World) (hK:w.cell? ⟨K,0,none⟩=some (.int .i64 (n:Int))) :
  Calls Tryz.prog 223 #[.agg #[.int .i64 (v.num:Int),.bool v.mark,str v.body],.pointer (some ⟨K,0,none⟩)] w fun e w'=>e=.returned (.bool (v.num == n))∧Below w.heap.size w w':=by
 have hK2:∀ o,(w.alloc o).cell? ⟨K,0,none⟩=some (.int .i64 (n:Int)):=fun o=>cell_alloc hK o
 go_enter Tryz.func223,Tryz.ntmps223
 go_wp2
 go_ret
 refine ⟨ret_bool ?_,(Below.refl _ _).alloc (Nat.le_refl _) _⟩
 rw [Bool.eq_iff_iff];simp only [beq_iff_eq];omega
theorem vIdx_none {l:List Ver} {n:Nat}:vIdx l n=none↔∀ v∈l,(v.num == n)=false:=by
 unfold vIdx;rw [List.findIdx?_eq_none_iff]
theorem vIdx_hit {l:List Ver} {n k:Nat} (hk:k < l.length) (h:∀ v∈l.take k,(v.num == n)=false) (hv:(l[k].num == n)=true):vIdx l n=some k:=by
 unfold vIdx
 rw [List.findIdx?_eq_some_iff_getElem]
 refine ⟨hk,hv,fun j hj=>?_⟩
 have:=h l[j] (by rw [List.mem_take_iff_getElem];exact ⟨j,by omega,rfl⟩)
 simp [this]
theorem vIndexFunc_any (K n:Nat) (sl:Value) (l:List Ver) (w:World) (h:vrow w sl l) (hl:l.length≤1000000) (hK:w.cell? ⟨K,0,none⟩=some (.int .i64 (n:Int))) :
  Calls Tryz.prog 222 #[sl,.func (.func 223) #[] #[.pointer (some ⟨K,0,none⟩)]] w fun e w'=>e=.returned (.int .i64 (vIdxI (vIdx l n)))∧Below w.heap.size w w':=by
 obtain ⟨a,cap,rfl,hcap⟩:=vrow.sl h
 have HR:Hid (vrow w (.slice a l.length cap) l):=h
 have hKb:=World.block_lt_of_cell? w ⟨K,0,none⟩ hK
 clear h
 go_enter Tryz.func222,Tryz.ntmps222
 go_wp2
 go_loopw [8] (fun i wr=>∃ k:Nat,k≤l.length∧i=.int .i64 k∧(∀ v∈l.take k,(v.num == n)=false)∧Below w.heap.size w wr) (fun i _=>l.length - (intOf i).toNat)
 case atStart=>exact ⟨0,Nat.zero_le _,rfl,by simp,Below.refl _ _⟩
 case round =>
  obtain ⟨k,hk,rfl,hno,hb⟩:=hrel
  have HN:Hid (∀ v∈l.take k,(v.num == n)=false):=hno
  clear hno
  by_cases hlt:k < l.length
  ·obtain ⟨g,rfl,hg,c0,c1,c2⟩:=(vrow.below HR.out hb).at hlt
   have F:Hid (_):=isNum_any l[k] n K wr ((hb.cell (p:=⟨K,0,none⟩) hKb).trans hK)
   go_wp2_with fail
   refine Calls.mono F.out ?_
   rintro e w1 ⟨rfl,hb1⟩
   clear F
   cases he:(l[k].num == n) with
   | true =>
    have HY:Hid (vIdx l n=some k):=vIdx_hit hlt HN.out he
    clear HN
    go_wp2
    go_ret
    exact ⟨by rw [HY.out];rfl,below_trans hb hb1⟩
   | false =>
    have HY:Hid (∀ v∈l.take (k+1),(v.num == n)=false):=by
     intro v hv
     rw [List.take_succ_eq_append_getElem hlt,List.mem_append] at hv
     rcases hv with hv|hv
     ·exact HN.out v hv
     ·rw [List.mem_singleton.1 hv];exact he
    clear HN
    go_wp2
    go_roundw
    case rel=>exact ⟨k+1,by omega,by go_num,HY.out,below_trans hb hb1⟩
    case measure=>simp [intOf];omega
  ·have HY:Hid (vIdx l n=none):=vIdx_none.2 (by have:=HN.out;rwa [List.take_of_length_le (by omega)] at this)
   clear HN
   go_wp2
   go_ret
   exact ⟨by rw [HY.out];rfl,hb⟩
theorem indexOf_any (n:Nat) (sl:Value) (l:List Ver) (w:World) (h:vrow w sl l) (hl:l.length≤1000000) :
  Calls Tryz.prog 187 #[sl,.int .i64 (n:Int)] w fun e w'=>e=.returned (.int .i64 (vIdxI (vIdx l n)))∧Below w.heap.size w w':=by
 have b0:Below w.heap.size w (w.alloc (.cells #[.int .i64 (n:Int)] 3)):=(Below.refl _ _).alloc (Nat.le_refl _) _
 have F:Hid (_):=vIndexFunc_any w.heap.size n sl l (w.alloc (.cells #[.int .i64 (n:Int)] 3)) (vrow.below h b0) hl (by simp [go_sem])
 have hmf:∀ (fn:Fn) (first cap:Array Value) (w:World),(Instr.makeFunc fn first cap).run Tryz.prog w=.ok (.func fn first cap) w:=fun _ _ _ _=>rfl
 clear h
 go_enter Tryz.func187,Tryz.ntmps187
 go_wp2_with fail
 refine Calls.mono F.out ?_
 rintro e w1 ⟨rfl,hb1⟩
 go_wp2
 go_ret
 exact ⟨rfl,below_trans b0 hb1⟩
theorem BMap.roles {w:World} {m:Nat} {r r':Roles} {bk:Tx→Option Bkt} (h:BMap w m r bk) (hr:∀ g,r g=.ro→r' g=.ro):BMap w m r' bk:=by
 obtain ⟨f,h1,h2,h3⟩:=h
 exact ⟨f,h1,h2,fun n x e=>by obtain ⟨sl,e1,e2⟩:=h3 n x e;exact ⟨sl,e1,e2.mono hr⟩⟩
theorem VMap.roles {w:World} {m:Nat} {r r':Roles} {vs:Tx→Tx→List Ver} (h:VMap w m r vs) (hr:∀ g b k,r g=.ver b k→r' g=.ver b k):VMap w m r' vs:=by
 obtain ⟨f,h1,h2,h3⟩:=h
 exact ⟨f,h1,h2,fun b k e=>by obtain ⟨sl,e1,e2,e3⟩:=h3 b k e;exact ⟨sl,e1,e2,fun g hg=>hr g b k (e3 g hg)⟩⟩
theorem KSv.blt {b:Nat} {s:Sto} {r:Roles} {uv lv:Value} {mb mv:Nat} {w:World} (h:KSv b s r uv lv mb mv w):b < w.heap.size:=h.dom b (by rw [h.rb];simp)
def newR (r:Roles) (o:Option Nat) (c:Role):Roles:=fun g=>if o=some g then c else r g
theorem newR_eq {r:Roles} {o p:Option Nat} {c:Role} {H:Nat} (hp:∀ g,p=some g→r g=c) (hl:o=p∨o=some H) (hd:∀ g,r g≠.none→g < H) {g:Nat} (hn:r g≠.none) (hc:r g≠c):newR r o c g=r g:=by
 unfold newR
 by_cases h:o=some g
 ·rcases hl with e|e
  ·exact absurd (hp g (e.symm.trans h)) hc
  ·rw [h] at e;cases e;exact absurd (hd _ hn) (by omega)
 ·rw [if_neg h]
theorem newR_dom {r:Roles} {o:Option Nat} {c:Role} {g:Nat} (h:newR r o c g≠.none):o=some g∨r g≠.none:=by
 unfold newR at h
 by_cases e:o=some g
 ·exact .inl e
 ·rw [if_neg e] at h;exact .inr h
theorem KSv.log {b:Nat} {s:Sto} {r:Roles} {uv lv:Value} {mb mv:Nat} {w w2:World} (h:KSv b s r uv lv mb mv w) {v':Value} {l':Tx} (k:w.grownBy w2 lv.ownBlock) (own:owns w2 0 v' l') (lies:v'.ownBlock=lv.ownBlock∨v'.ownBlock=some w.heap.size) :
  KSv b { s with log:=l' } (newR r v'.ownBlock .log) uv v' mb mv (w2.setCell ⟨b,2,none⟩ v')∧Step r w (newR r v'.ownBlock .log) (w2.setCell ⟨b,2,none⟩ v'):=by
 have hb:=h.blt
 have kk:Kept (fun g=>lv.ownBlock=some g) w w2:=Kept.of_grown k
 have nb:¬ lv.ownBlock=some b:=fun e=>by have:=h.lr b e;rw [h.rb] at this;cases this
 have E:∀ {g},r g≠.none→r g≠.log→newR r v'.ownBlock .log g=r g:=fun hn hc=>newR_eq h.lr lies h.dom hn hc
 have KS2:Kept (·=b) w2 (w2.setCell ⟨b,2,none⟩ v'):=Kept.of_grown1 (grown_set _ _ _ _)
 have c2:w2.cell? ⟨b,2,none⟩=some lv:=kk.cell h.c2 nb
 have F:∀ j:Nat,w2.frozen? ⟨b,j,none⟩=false:=fun j=>kk.frozen (a:=⟨b,j,none⟩) hb (h.fz j) nb
 have e0:=kk.cell h.c0 nb;have e1:=kk.cell h.c1 nb;have e3:=kk.cell h.c3 nb;have e4:=kk.cell h.c4 nb;have e5:=kk.cell h.c5 nb
 have no:∀ g,r g≠.none→r g≠.log→¬ lv.ownBlock=some g:=fun g _ h2 e=>h2 (h.lr g e)
 have nv:∀ g,v'.ownBlock=some g→¬ g=b:=fun g e hgb=>by
  subst hgb
  rcases lies with e2|e2
  ·exact nb (e2.symm.trans e)
  ·rw [e] at e2;cases e2;omega
 refine ⟨{ c0:=?_,c1:=?_,c2:=?_,c3:=?_,c4:=?_,c5:=?_,fz:=?_,rb:=?_,us:=?_,ur:=?_,lg:=?_,lr:=?_,bk:=?_,rk:=?_,vs:=?_,rv:=?_,dom:=?_ },?_,?_⟩
 ·simp [go_sem,e0]
 ·simp [go_sem,e1]
 ·simp [go_sem,c2]
 ·simp [go_sem,e3]
 ·simp [go_sem,e4]
 ·simp [go_sem,e5]
 ·intro j;simp [go_sem,F]
 ·rw [E (by rw [h.rb];simp) (by rw [h.rb];simp)];exact h.rb
 ·exact KS2.row (kk.row h.us (fun g e=>no g (by rw [h.ur g e];simp) (by rw [h.ur g e];simp))) (fun g e hgb=>by have:=h.ur g e;rw [hgb,h.rb] at this;cases this)
 ·intro g e;rw [E (by rw [h.ur g e];simp) (by rw [h.ur g e];simp)];exact h.ur g e
 ·exact KS2.row own nv
 ·intro g e;unfold newR;rw [if_pos e]
 ·exact ((h.bk.kept kk (no mb (by rw [h.rk];simp) (by rw [h.rk];simp)) (fun g e=>no g (by rw [e];simp) (by rw [e];simp))).kept KS2 (fun e=>by have:=h.rk;rw [e,h.rb] at this;cases this) (fun g e hgb=>by rw [hgb,h.rb] at e;cases e)).roles (fun g e=>by rw [E (by rw [e];simp) (by rw [e];simp)];exact e)
 ·rw [E (by rw [h.rk];simp) (by rw [h.rk];simp)];exact h.rk
 ·exact ((h.vs.kept kk (no mv (by rw [h.rv];simp) (by rw [h.rv];simp)) (fun g _ _ e=>no g (by rw [e];simp) (by rw [e];simp))).kept KS2 (fun e=>by have:=h.rv;rw [e,h.rb] at this;cases this) (fun g _ _ e hgb=>by rw [hgb,h.rb] at e;cases e)).roles (fun g _ _ e=>by rw [E (by rw [e];simp) (by rw [e];simp)];exact e)
 ·rw [E (by rw [h.rv];simp) (by rw [h.rv];simp)];exact h.rv
 ·intro g e
  have hs:=k.size
  simp
  rcases newR_dom e with e|e
  ·exact (World.ownsRow.lt own g e).2
  ·exact Nat.lt_of_lt_of_le (h.dom g e) hs
 ·exact (kk.mono (fun g _ e=>by have:=h.lr g e;rw [this];simp)).trans KS2 (fun g _ e=>by subst e;rw [h.rb];simp)
 ·intro g hg e
  rcases newR_dom e with e|e
  ·rcases lies with e2|e2
   ·rw [h.lr g (e2.symm.trans e)];simp
   ·rw [e] at e2;cases e2;omega
  ·exact e
theorem wpList_append_str {w:World} {ops:Array Oper} {rest:List Oper} {o:Oper} {a:Act} {Q:Exit→Act→World→Prop} (hgd:o.guard=none) (sl x:Operand)
  (ho:o.op=.call { callee:=.builtin .append,args:=#[sl,x],argTypes:=#[70,9] })
  (v:Value) (l:Tx) (hs:a.eval sl=v) (hown:owns w 0 v l) (t:Tx) (hx:a.eval x=str t) (hbytes:l.length+t.length≤140737488355328)
  (h:∀ v' w',owns w' 0 v' (l++t)→w.grownBy w' v.ownBlock→(v'.ownBlock=v.ownBlock∨v'.ownBlock=some w.heap.size)→wpList Tryz.prog ops Q rest (a.put o.dst v') w'):wpList Tryz.prog ops Q (o :: rest) a w:=by
 obtain ⟨i0,hi,hz0,hz1,hz2⟩:=info_parts Tryz.infoByte
 refine wpList_plain hgd fun K hK=>?_
 obtain ⟨v',w',hr,h2,h3,h4⟩:=run_append_str (P:=Tryz.prog) w 70 9 o.type 5 i0 Tryz.underlying70 Tryz.underlying9 hi hz0 hz1 hz2 0 v l.length (l.map u8v) hown ⟨t.toArray⟩ (by simpa [ByteArray.size] using hbytes) (Nat.zero_le _)
 unfold Oper.wp execOp
 simp only [ho,resolve,invoke,builtin,Sem.run_bind,Sem.run_pure,Result.andThen_ok,List.map_toArray,List.map_cons,List.map_nil,hs,hx,hr]
 refine hK _ _ (h v' w' ?_ h3 h4)
 rw [strCells_l] at h2
 unfold owns
 rw [List.length_append,List.map_append]
 simpa [ByteArray.size] using h2
theorem klog_any (b:Nat) (s:Sto) (r:Roles) (w:World) (h:KS b s r w) :
  Calls Tryz.prog 40 #[.pointer (some ⟨b,0,none⟩)] w fun e w'=>e=.returned (str s.log)∧w=w':=by
 obtain ⟨uv,lv,mb,mv,h⟩:=h
 have c2:=h.c2
 have hcv:=owns.conv h.lg
 clear h
 go_enter Tryz.func40,Tryz.ntmps40
 go_wp2
 go_ret
 exact ⟨rfl,rfl⟩
theorem klast_any (b:Nat) (s:Sto) (r:Roles) (w:World) (h:KS b s r w) :
  Calls Tryz.prog 132 #[.pointer (some ⟨b,0,none⟩)] w fun e w'=>e=.returned (.int .i64 (s.last:Int))∧w=w':=by
 obtain ⟨uv,lv,mb,mv,h⟩:=h
 have c5:=h.c5
 clear h
 go_enter Tryz.func132,Tryz.ntmps132
 go_wp2
 go_ret
 exact ⟨rfl,rfl⟩
theorem owns.sl {w:World} {B:Nat} {v:Value} {l:Tx} (h:owns w B v l):∃ a c,v=.slice a l.length c:=by
 obtain ⟨a,cap,e,_⟩:=row_view h
 exact ⟨a,cap,e⟩
theorem kwrite_any (b:Nat) (s:Sto) (r:Roles) (t:Tx) (w:World) (G:GL w) (h:KS b s r w) (hl:s.log.length≤1000000) (ht:t.length≤1000000) (_hrm:s.room≤1000000) :
  Calls Tryz.prog 181 #[.pointer (some ⟨b,0,none⟩),str t] w fun e w'=>if s.log.length+t.length≤s.room then e=.returned .nilIface∧∃ r',KS b { s with log:=s.log++t } r' w'∧Step r w r' w'
   else (∃ c:Value,c.oneCell'=true∧e=.returned (.iface 148 (.agg #[.int .i64 507,c])))∧Below w.heap.size w w':=by
 obtain ⟨uv,lv,mb,mv,h⟩:=h
 have HK:Hid (KSv b s r uv lv mb mv w):=h
 have hlg:=h.lg
 obtain ⟨la,lc,rfl⟩:=owns.sl hlg
 have c1:=h.c1;have c2:=h.c2;have f2:=h.fz 2
 obtain ⟨et,ep,eroom⟩:=G.room
 have RF:Hid (∀ w,Calls Tryz.prog 80 #[.int .i64 507,.iface et ep] w fun e w'=>e=.returned (.iface 148 (.agg #[.int .i64 507,.iface et ep]))∧w=w'):=fun w=>refuse_any 507 (.iface et ep) (.inr ⟨_,_,rfl⟩) w
 clear h
 by_cases hr:s.log.length+t.length≤s.room
 ·have t1:decide ((s.room:Int) < (s.log.length:Int)+(t.length:Int))=false:=by simp;omega
  simp only [if_pos hr]
  go_enter Tryz.func181,Tryz.ntmps181
  go_wp2_with fail
  go_region
  have nb:¬ (Value.slice la s.log.length lc).ownBlock=some b:=fun e=>by have:=HK.out.lr b e;rw [HK.out.rb] at this;cases this
  have hbl:=HK.out.blt
  go_wp2_with (at_builtin;refine wpList_append_str rfl _ _ rfl (.slice la s.log.length lc) s.log rfl hlg t rfl (by omega) ?_;intro v' w2 own2 g2 l2;obtain ⟨va,vc,rfl⟩:=owns.sl own2;have d2:w2.cell? ⟨b,2,none⟩=some (.slice la s.log.length lc):=(Kept.of_grown g2).cell (show w.drew.cell? ⟨b,2,none⟩=_ from c2) nb;have ff2:w2.frozen? ⟨b,2,none⟩=false:=(Kept.of_grown g2).frozen (a:=⟨b,2,none⟩) hbl f2 nb)
  go_ret
  have g3:w.grownBy w2 (Value.slice la s.log.length lc).ownBlock:=⟨g2.os,g2.tape,g2.output,g2.size,g2.block⟩
  obtain ⟨K1,K2⟩:=HK.out.log g3 own2 l2
  rw [List.length_append] at K1 K2
  exact ⟨rfl,_,⟨_,_,_,_,K1⟩,K2⟩
 ·have t1:decide ((s.room:Int) < (s.log.length:Int)+(t.length:Int))=true:=by simp;omega
  simp only [if_neg hr]
  go_enter Tryz.func181,Tryz.ntmps181
  go_wp2_with fail
  go_region
  all_goals go_wp2_with (go_at_call 80;refine (RF.out _).mono ?_;rintro e w' ⟨rfl,rfl⟩)
  all_goals go_ret
  all_goals exact ⟨⟨_,rfl,rfl⟩,(Below.refl _ _).drew⟩
structure Fine (s:Sto):Prop where
 log:s.log.length≤100000
 room:s.room≤100000
 last:s.last≤s.log.length
 bk:∀ n x,s.bk n=some x→x.rules.length≤4∧x.owner.length≤100000∧x.policy.length≤100000
 vs:∀ b k,(s.vs b k).length≤s.last∧∀ v∈s.vs b k,v.body.length≤100000∧v.num≤s.last
theorem BMap.find {w:World} {m:Nat} {r:Roles} {bk:Tx→Option Bkt} (h:BMap w m r bk) (n:Tx):∃ f,MapIs isStr w m f∧((bk n=none∧f (str n)=none)∨∃ x sl,bk n=some x∧f (str n)=some (.agg #[str x.owner,str x.policy,Sl.v sl])∧policyIn w (fun g=>r g=.ro) (Sl.v sl) x.rules):=by
 obtain ⟨f,h1,h2,h3⟩:=h
 refine ⟨f,h1,?_⟩
 cases hb:bk n with
 | none=>exact .inl ⟨rfl,h2 n hb⟩
 | some x =>
  obtain ⟨sl,e1,e2⟩:=h3 n x hb
  obtain ⟨us,p1,p2⟩:=e2
  obtain ⟨a,c,e,_⟩:=row_view p1
  exact .inr ⟨x,(a,_,c),rfl,by rw [e1,e];rfl,by rw [← show sl=Sl.v (a,x.rules.length,c) from e];exact ⟨us,p1,p2⟩⟩
theorem may_any (b:Nat) (s:Sto) (r:Roles) (user action name key:Tx) (w:World) (h:KS b s r w) (F:Fine s) (hk:key.length≤1000000) :
  Calls Tryz.prog 56 #[.pointer (some ⟨b,0,none⟩),str user,str action,str name,str key] w fun e w'=>(∃ v,e=.returned v∧errIs v (s.may user action name key))∧Below w.heap.size w w':=by
 obtain ⟨uv,lv,mb,mv,h⟩:=h
 have c3:=h.c3
 obtain ⟨f,hf,hcase⟩:=h.bk.find name
 have RF:Hid (∀ (n:Nat) w,Calls Tryz.prog 80 #[.int .i64 (n:Int),.nilIface] w fun e w'=>e=.returned (.iface 148 (.agg #[.int .i64 (n:Int),.nilIface]))∧w=w'):=fun n w=>refuse_any n .nilIface (.inl rfl) w
 have R404:Hid (_):=RF.out 404
 have R403:Hid (_):=RF.out 403
 have HM:Hid (s.may user action name key=match s.bk name with|none=>404|some x=>if saysP x.rules user action key=2∨(saysP x.rules user action key=0∧user≠x.owner) then 403 else 200):=rfl
 clear h RF
 rcases hcase with ⟨hn,hfn⟩|⟨x,sl,hx,hfx,hp⟩
 ·have HL:Hid (lookV true (.agg #[.string ⟨#[]⟩,.string ⟨#[]⟩,.slice none 0 0]) (f (str name))=.tuple #[.agg #[.string ⟨#[]⟩,.string ⟨#[]⟩,.slice none 0 0],.bool false]):=by show _=_;rw [hfn];rfl
  rw [hn] at HM
  clear hfn
  go_enter Tryz.func56,Tryz.ntmps56
  go_wp2_with (first|(at_lookup;refine wpList_look _ rfl _ _ _ _ rfl 9 162 isStr strKeys Tryz.underlying122 mb f rfl hf _ (zeroB _) _ rfl ⟨_,rfl⟩ _ HL.out ?_)|(go_at_call 80;refine (R404.out _).mono ?_;rintro e w' ⟨rfl,rfl⟩))
  go_ret
  exact ⟨⟨_,rfl,by rw [HM.out];exact .no 404 .nilIface rfl (by decide)⟩,(Below.refl _ _).alloc (Nat.le_refl _) _⟩
 ·obtain ⟨sa,sn,sc⟩:=sl
  have HL:Hid (lookV true (.agg #[.string ⟨#[]⟩,.string ⟨#[]⟩,.slice none 0 0]) (f (str name))=.tuple #[.agg #[str x.owner,str x.policy,.slice sa sn sc],.bool true]):=by show _=_;rw [hfx];rfl
  have hfb:=F.bk name x hx
  rw [hx] at HM
  simp only at HM
  have b0:Below w.heap.size w (w.alloc (.cells #[str x.owner,str x.policy,.slice sa sn sc] 162)):=(Below.refl _ _).alloc (Nat.le_refl _) _
  have hp0:policyAt w (.slice sa sn sc) x.rules:=hp.inb.mono (fun g hg=>hg.2)
  have SY:Hid (_):=says_any (.slice sa sn sc) x.rules user action key (w.alloc (.cells #[str x.owner,str x.policy,.slice sa sn sc] 162)) (policyIn.below hp0 b0) (by omega) (by omega)
  have hbd:=says_bd x.rules user action key
  generalize saysP x.rules user action key=sy at *
  have hlook:∀ w',w'=w→True:=fun _ _=>trivial
  clear hfx hp hp0 hlook
  go_enter Tryz.func56,Tryz.ntmps56
  go_wp2_with (at_lookup;refine wpList_look _ rfl _ _ _ _ rfl 9 162 isStr strKeys Tryz.underlying122 mb f rfl hf _ (zeroB _) _ rfl ⟨_,rfl⟩ _ HL.out ?_)
  refine Calls.mono SY.out ?_
  rintro e w1 ⟨rfl,b1⟩
  have o0:w1.cell? ⟨w.heap.size,0,none⟩=some (str x.owner):=(b1.cell (p:=⟨w.heap.size,0,none⟩) (by simp)).trans (by simp [go_sem])
  have B1:=below_trans b0 b1
  clear SY HL hf b0 b1
  rcases (show sy=0∨sy=1∨sy=2 by omega) with rfl|rfl|rfl
  ·cases hu:(user == x.owner) with
   | true =>
    have HY:Hid (s.may user action name key=200):=by show _=_;rw [HM.out,if_neg (by simp;exact eq_of_beq hu)]
    go_wp2
    go_ret
    exact ⟨⟨_,rfl,by rw [HY.out];exact .ok⟩,B1⟩
   | false =>
    have HY:Hid (s.may user action name key=403):=by show _=_;rw [HM.out,if_pos (.inr ⟨rfl,by simpa using hu⟩)]
    go_wp2_with (go_at_call 80;refine (R403.out _).mono ?_;rintro e w' ⟨rfl,rfl⟩)
    go_ret
    exact ⟨⟨_,rfl,by rw [HY.out];exact .no 403 .nilIface rfl (by decide)⟩,B1⟩
  ·have HY:Hid (s.may user action name key=200):=by show _=_;rw [HM.out,if_neg (by simp)]
   go_wp2
   go_ret
   exact ⟨⟨_,rfl,by rw [HY.out];exact .ok⟩,B1⟩
  ·have HY:Hid (s.may user action name key=403):=by show _=_;rw [HM.out,if_pos (.inl rfl)]
   go_wp2_with (go_at_call 80;refine (R403.out _).mono ?_;rintro e w' ⟨rfl,rfl⟩)
   go_ret
   exact ⟨⟨_,rfl,by rw [HY.out];exact .no 403 .nilIface rfl (by decide)⟩,B1⟩
end Go.Proofs.YtbllcgibmgbnjaaGreatDoor.P
