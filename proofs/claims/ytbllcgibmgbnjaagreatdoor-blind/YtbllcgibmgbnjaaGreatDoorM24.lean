import Derived.Test.YtbllcgibmgbnjaaGreatDoorM23
import Derived.Test.YtbllcgibmgbnjaaGreatDoorM19
set_option maxHeartbeats 2000000
namespace Go.Proofs.YtbllcgibmgbnjaaGreatDoor.P
open Go.RowKit
open C (ret_bool ret_int ret_str)
abbrev askC (q:AskP):Obj:=.cells #[.int .i64 (q.kind:Int),str q.action,str q.bucket,str q.key,str q.body,.int .i64 (q.version:Int),str q.pre,str q.after,.int .i64 (q.max:Int)] 112
theorem asks_below (w:World) (q:AskP):Below w.heap.size w ((w.alloc (askC q)).alloc zResp):=((Below.refl _ _).alloc (Nat.le_refl _) _).alloc (by simp) _
structure Two (w:World) (q:AskP) (W:World):Prop where
 a2:W.cell? ⟨w.heap.size,2,none⟩=some (str q.bucket)
 a3:W.cell? ⟨w.heap.size,3,none⟩=some (str q.key)
 a4:W.cell? ⟨w.heap.size,4,none⟩=some (str q.body)
 a5:W.cell? ⟨w.heap.size,5,none⟩=some (.int .i64 (q.version:Int))
 r0:W.cell? ⟨w.heap.size+1,0,none⟩=some (.slice none 0 0)
 r1:W.cell? ⟨w.heap.size+1,1,none⟩=some (str [])
 rf:∀ j:Nat,W.frozen? ⟨w.heap.size+1,j,none⟩=false
 sz:w.heap.size+2≤W.heap.size
theorem two_new (w:World) (q:AskP):Two w q ((w.alloc (askC q)).alloc zResp):=by
 refine ⟨?_,?_,?_,?_,?_,?_,?_,?_⟩
 all_goals first|(simp [go_sem];done)|(intro j;simp [go_sem];done)|(simp;done)
theorem Two.kept {S:Nat→Prop} {w W W':World} {q:AskP} (h:Two w q W) (k:Kept S W W') (h0:¬ S w.heap.size) (h1:¬ S (w.heap.size+1)):Two w q W':=by
 have hz:=h.sz
 exact ⟨k.cell h.a2 h0,k.cell h.a3 h0,k.cell h.a4 h0,k.cell h.a5 h0,k.cell h.r0 h1,k.cell h.r1 h1,fun j=>k.frozen (a:=⟨w.heap.size+1,j,none⟩) (show w.heap.size+1 < _ by omega) (h.rf j) h1,Nat.le_trans h.sz k.size⟩
theorem Two.below {w W W':World} {q:AskP} (h:Two w q W) (k:Below W.heap.size W W'):Two w q W':=by
 have hz:=h.sz
 exact h.kept (Kept.of_below k) (by omega) (by omega)
theorem Two.step {w W W':World} {q:AskP} {r r':Roles} (h:Two w q W) (k:Step r W r' W') (hr:∀ g,r g≠.none→g < w.heap.size):Two w q W' :=
 h.kept k.kept (fun e=>by have:=hr _ e;omega) (fun e=>by have:=hr _ e;omega)
theorem LS.fin {a b:Nat} {us:Us} {clock:Nat} {s s':Sto} {r r':Roles} {w W W':World} {S:Nat→Prop} (L:LS a b us clock s r w) (st:Step r w r' W) (K:KS b s' r' W) (F:Fine s') (hu:s'.users=s.users) (k:Kept S W W') (hS:∀ g,S g→w.heap.size≤g∧r' g=.none) :
  LS a b us clock s' r' W'∧Step r w r' W':=by
 have st2:Step r w r' W':=st.then k (fun j e=>(hS j e).1)
 exact ⟨L.step st2 (K.kept k (fun g e hg=>e (hS g hg).2)) F hu,st2⟩
abbrev done2 (W:World) (h:Nat) (x y:Value):World:=(W.setCell ⟨h+1,0,none⟩ x).setCell ⟨h+1,1,none⟩ y
theorem kept_two (W:World) (h:Nat) (x y:Value):Kept (·=h+1) W (done2 W h x y):=((Kept.refl _ _).setOwn 0 _).setOwn 1 _
theorem srv_end {a b:Nat} {us:Us} {clock:Nat} {s s':Sto} {r r':Roles} {w W:World} {v:Value} {n:Nat} {hs:Hs} {ob:Obj} {hv:Value} {ha:Option Addr} {hm hc:Nat} {y z:Tx} (L:LS a b us clock s r w) (st:Step r w r' W) (K:KS b s' r' W) (F:Fine s') (hu:s'.users=s.users) (hz:w.heap.size+2≤W.heap.size) (h1:r' (w.heap.size+1)=.none)
  (he:errIs v n) (hh:hv=.slice ha hm hc) (hp:n=200→R.phold (W.alloc ob) (W.alloc ob).heap.size hv hs∧y=z) (hg:hv.ownBlock=some W.heap.size) :
  srvPost a b us clock r w (n,hs,z,s') (.returned (.tuple #[.agg #[.slice ha hm hc,str y],v])) (done2 (W.alloc ob) w.heap.size hv (str y)):=by
 subst hh
 have k:Kept (·=w.heap.size+1) W (done2 (W.alloc ob) w.heap.size (.slice ha hm hc) (str y)):=(((Kept.refl _ _).alloc ob).setOwn 0 _).setOwn 1 _
 obtain ⟨h2,h3⟩:=L.fin st K F hu k (fun g e=>by rw [e];exact ⟨by omega,h1⟩)
 refine ⟨v,r',ha,hm,hc,y,rfl,he,fun e=>⟨?_,(hp e).2⟩,(fun g e=>by rw [hg] at e;cases e;omega),h2,h3⟩
 exact phold.kept (hp e).1 (kept_two _ _ _ _) (fun g e=>by rw [hg] at e;cases e;omega) (by simp)
theorem dropVersion_any (q:AskP) (hc:(Chg.drop q.bucket q.key q.version).fit) (a b:Nat) (us:Us) (clock:Nat) (s:Sto) (r:Roles) (w:World) (G:GL w) (L:LS a b us clock s r w) :
  Calls Tryz.prog 89 #[.pointer (some ⟨a,0,none⟩),q.v] w (srvPost a b us clock r w ((s.done (.drop q.bucket q.key q.version)).1,[(tVersion,Lib.itoa (q.version:Int))],[],(s.done (.drop q.bucket q.key q.version)).2)):=by
 obtain ⟨kd,ac,bk,ky,y,vn,pf,af,mx⟩:=q
 have hc2:(Chg.drop bk ky vn).fit:=hc
 clear hc
 simp only [AskP.v]
 have b0:=asks_below w ⟨kd,ac,bk,ky,y,vn,pf,af,mx⟩
 have T0:=two_new w ⟨kd,ac,bk,ky,y,vn,pf,af,mx⟩
 have hv9:vn≤1000000000:=hc2.2.2
 have hd:=L.K.dom
 have hn1:r (w.heap.size+1)=.none:=by
  cases e:r (w.heap.size+1) with
  | none=>rfl
  | _=>have:=hd (w.heap.size+1) (by rw [e];simp);omega
 have D:Hid (∀ W,Below w.heap.size w W→Calls Tryz.prog 126 #[.pointer (some ⟨b,0,none⟩),.iface 245 (.agg #[str bk,str ky,.int .i64 (vn:Int)])] W fun e w'=>∃ v r',e=.returned v∧errIs v (s.done (.drop bk ky vn)).1∧KS b (s.done (.drop bk ky vn)).2 r' w'∧Step r W r' w'):=fun W hW=>kdo_any (.drop bk ky vn) b s r W (G.call hW) L.rN (L.K.below hW) L.F (by have:=L.hu;omega) hc2
 have HF:Hid (Fine (s.done (.drop bk ky vn)).2):=done_fine L.F hc2
 have HU:Hid ((s.done (.drop bk ky vn)).2.users=s.users):=done_users s _
 have L0:=L.below b0
 have VH:Hid (_):=fun W E=>verHead_any vn (by omega) W E
 generalize s.done (.drop bk ky vn)=d at *
 have c2:=L0.l2
 have a2:=T0.a2;have a3:=T0.a3;have a5:=T0.a5
 clear L0
 generalize Lib.itoa (vn:Int)=t at *
 go_enter Tryz.func89,Tryz.ntmps89
 go_wp2_with fail
 generalize hW0:(w.alloc (askC ⟨kd,ac,bk,ky,y,vn,pf,af,mx⟩)).alloc zResp=W0 at *
 clear hW0
 have xd:W0.drew.cell? ⟨a,2,none⟩=some (.pointer (some ⟨b,0,none⟩))∧W0.drew.cell? ⟨w.heap.size,2,none⟩=some (str bk)∧W0.drew.cell? ⟨w.heap.size,3,none⟩=some (str ky)∧W0.drew.cell? ⟨w.heap.size,5,none⟩=some (.int .i64 (vn:Int)):=⟨c2,a2,a3,a5⟩
 have xw:W0.cell? ⟨a,2,none⟩=some (.pointer (some ⟨b,0,none⟩))∧W0.cell? ⟨w.heap.size,2,none⟩=some (str bk)∧W0.cell? ⟨w.heap.size,3,none⟩=some (str ky)∧W0.cell? ⟨w.heap.size,5,none⟩=some (.int .i64 (vn:Int)):=⟨c2,a2,a3,a5⟩
 have BDR:=below_trans b0 (below_drew W0)
 have hra:=L.ra
 have hn0:=L.new
 have D3:Hid (Calls Tryz.prog 126 #[.pointer (some ⟨b,0,none⟩),.iface 245 (.agg #[str bk,str ky,.int .i64 (vn:Int)])] W0.drew fun e w'=>(∃ v r',e=.returned v∧errIs v d.1∧KS b d.2 r' w'∧Step r W0.drew r' w')∧(w'.cell? ⟨a,2,none⟩=some (.pointer (some ⟨b,0,none⟩))∧w'.cell? ⟨w.heap.size,2,none⟩=some (str bk)∧w'.cell? ⟨w.heap.size,3,none⟩=some (str ky)∧w'.cell? ⟨w.heap.size,5,none⟩=some (.int .i64 (vn:Int)))):=Calls.mono (D.out W0.drew BDR) fun e w' h=>⟨h,by
  obtain ⟨_,_,_,_,_,st⟩:=h
  exact ⟨st.kept.cell xd.1 (by simp [hra]),st.kept.cell xd.2.1 (by simp [hn0]),st.kept.cell xd.2.2.1 (by simp [hn0]),st.kept.cell xd.2.2.2 (by simp [hn0])⟩⟩
 go_region_held3 (fun w'=>w'.cell? ⟨a,2,none⟩=some (.pointer (some ⟨b,0,none⟩))∧w'.cell? ⟨w.heap.size,2,none⟩=some (str bk)∧w'.cell? ⟨w.heap.size,3,none⟩=some (str ky)∧w'.cell? ⟨w.heap.size,5,none⟩=some (.int .i64 (vn:Int))) (first|with_reducible exact xd|with_reducible exact x5) ((go_at_call 126;with_reducible refine Calls.mono D3.out ?_;rintro e w1 ⟨⟨v,r',rfl,hv,hk,hs⟩,x5⟩))
 all_goals (
  have S1:Step r w r' w1:=(Step.of_below (below_trans b0 (below_drew W0))).trans hs
  have G1:=L.glob G S1
  have T1:Two w ⟨kd,ac,bk,ky,y,vn,pf,af,mx⟩ w1:=(T0.below (below_drew W0)).step hs hd
  have hn2:r' (w.heap.size+1)=.none:=hs.none (by have:=T0.sz;show _ < W0.heap.size;omega) hn1
  have x5:w1.cell? ⟨w.heap.size,5,none⟩=some (.int .i64 (vn:Int)):=T1.a5
  have VH1:Hid (_):=VH.out w1 G1.env
  clear xd xw x5 c2 a2 a3 a5 D D3 hs
  go_wp2_with fail
  refine Calls.mono VH1.out ?_
  rintro e w2 ⟨rfl,b2⟩
  have T2:=T1.below b2
  have r0:=T2.r0;have r1:=T2.r1;have rf:=T2.rf;have sz:=T2.sz
  have pa0:∀ ob,(w2.alloc ob).cell? ⟨w.heap.size+1,0,none⟩=some (.slice none 0 0):=fun ob=>cell_alloc r0 ob
  have pa1:∀ ob,(w2.alloc ob).cell? ⟨w.heap.size+1,1,none⟩=some (str []):=fun ob=>cell_alloc r1 ob
  have ga:∀ ob,∀ j:Nat,(w2.alloc ob).frozen? ⟨w.heap.size+1,j,none⟩=false:=fun ob j=>((Kept.refl (fun _=>False) w2).alloc ob).frozen (a:=⟨w.heap.size+1,j,none⟩) (show w.heap.size+1 < _ by omega) (rf j) (fun e=>e)
  have FIN:Hid (∀ ty,srvPost a b us clock r w (d.1,[(tVersion,t)],[],d.2) (.returned (.tuple #[.agg #[.slice (some ⟨w2.heap.size,0,none⟩) 1 1,str []],v])) (done2 (w2.alloc (.cells #[str tVersion,str t] ty)) w.heap.size (.slice (some ⟨w2.heap.size,0,none⟩) 1 1) (str []))):=fun ty =>
   srv_end L (S1.trans (Step.of_below b2)) (hk.below b2) HF.out HU.out sz hn2 hv rfl (fun _=>⟨phold_one w2 tVersion t ty,rfl⟩) rfl
  clear T0 T1 T2 hk S1 b2 VH1 VH x5 r0 r1 rf
  go_wp2
  refine bodyPost_ret (v:=.tuple #[.agg #[.slice (some ⟨w2.heap.size,0,none⟩) 1 1,str []],v]) ?_ rfl ?_
  ·simp [results,Tryz.results89,go_sem,pa0,pa1]
  ·exact FIN.out _)
theorem getPolicy_any (q:AskP) (a b:Nat) (us:Us) (clock:Nat) (s:Sto) (r:Roles) (w:World) (G:GL w) (L:LS a b us clock s r w) (hp:(s.policyOf q.bucket).length≤1000000) :
  Calls Tryz.prog 85 #[.pointer (some ⟨a,0,none⟩),q.v] w (srvPost a b us clock r w (if s.policyOf q.bucket=[] then 404 else 200,[(tLength,lenT (s.policyOf q.bucket))],s.policyOf q.bucket,s)):=by
 obtain ⟨kd,ac,bk,ky,y,vn,pf,af,mx⟩:=q
 simp only [AskP.v] at hp ⊢
 have b0:=asks_below w ⟨kd,ac,bk,ky,y,vn,pf,af,mx⟩
 have T0:=two_new w ⟨kd,ac,bk,ky,y,vn,pf,af,mx⟩
 have hd:=L.K.dom
 have hn1:r (w.heap.size+1)=.none:=by
  cases e:r (w.heap.size+1) with
  | none=>rfl
  | _=>have:=hd (w.heap.size+1) (by rw [e];simp);omega
 have D:Hid (∀ W,Below w.heap.size w W→Calls Tryz.prog 127 #[.pointer (some ⟨b,0,none⟩),str bk] W fun e w'=>(∃ v,e=.returned (.tuple #[str (s.policyOf bk),v])∧errIs v (if s.policyOf bk=[] then 404 else 200))∧W=w'):=fun W hW=>policy_any b s r bk W (L.K.below hW)
 have L0:=L.below b0
 generalize hp0:s.policyOf bk=p at *
 clear hp0
 have VH:Hid (_):=fun W E=>lenHead_any p (by omega) W E
 have c2:=L0.l2
 have a2:=T0.a2
 clear L0
 generalize lenT p=t at *
 generalize hn:(if p=[] then 404 else 200)=n at *
 clear hn
 go_enter Tryz.func85,Tryz.ntmps85
 go_wp2_with fail
 generalize hW0:(w.alloc (askC ⟨kd,ac,bk,ky,y,vn,pf,af,mx⟩)).alloc zResp=W0 at *
 clear hW0
 have xd:W0.drew.cell? ⟨a,2,none⟩=some (.pointer (some ⟨b,0,none⟩))∧W0.drew.cell? ⟨w.heap.size,2,none⟩=some (str bk):=⟨c2,a2⟩
 have xw:W0.cell? ⟨a,2,none⟩=some (.pointer (some ⟨b,0,none⟩))∧W0.cell? ⟨w.heap.size,2,none⟩=some (str bk):=⟨c2,a2⟩
 have BDR:=below_trans b0 (below_drew W0)
 have D3:Hid (Calls Tryz.prog 127 #[.pointer (some ⟨b,0,none⟩),str bk] W0.drew fun e w'=>((∃ v,e=.returned (.tuple #[str p,v])∧errIs v n)∧Below W0.drew.heap.size W0.drew w')∧(w'.cell? ⟨a,2,none⟩=some (.pointer (some ⟨b,0,none⟩))∧w'.cell? ⟨w.heap.size,2,none⟩=some (str bk))):=Calls.mono (D.out W0.drew BDR) fun e w' h=>⟨⟨h.1,by rw [← h.2];exact Below.refl _ _⟩,by rw [← h.2];exact xd⟩
 go_region_held3 (fun w'=>w'.cell? ⟨a,2,none⟩=some (.pointer (some ⟨b,0,none⟩))∧w'.cell? ⟨w.heap.size,2,none⟩=some (str bk)) (first|with_reducible exact xd|with_reducible exact x5) ((go_at_call 127;with_reducible refine Calls.mono D3.out ?_;rintro e w1 ⟨⟨⟨v,rfl,hv⟩,b1⟩,x5⟩))
 all_goals (
  have B1:Below w.heap.size w w1:=below_trans (below_trans b0 (below_drew W0)) b1
  have T1:Two w ⟨kd,ac,bk,ky,y,vn,pf,af,mx⟩ w1:=(T0.below (below_drew W0)).below b1
  have VH1:Hid (_):=VH.out w1 (G.call B1).env
  clear xd xw x5 c2 a2 D D3
  go_wp2_with fail
  refine Calls.mono VH1.out ?_
  rintro e w2 ⟨rfl,b2⟩
  have T2:=T1.below b2
  have r0:=T2.r0;have r1:=T2.r1;have rf:=T2.rf;have sz:=T2.sz
  have pa0:∀ ob,(w2.alloc ob).cell? ⟨w.heap.size+1,0,none⟩=some (.slice none 0 0):=fun ob=>cell_alloc r0 ob
  have pa1:∀ ob,(w2.alloc ob).cell? ⟨w.heap.size+1,1,none⟩=some (str []):=fun ob=>cell_alloc r1 ob
  have ga:∀ ob,∀ j:Nat,(w2.alloc ob).frozen? ⟨w.heap.size+1,j,none⟩=false:=fun ob j=>((Kept.refl (fun _=>False) w2).alloc ob).frozen (a:=⟨w.heap.size+1,j,none⟩) (show w.heap.size+1 < _ by omega) (rf j) (fun e=>e)
  have B2:=below_trans B1 b2
  have FIN:Hid (∀ ty,srvPost a b us clock r w (n,[(tLength,t)],p,s) (.returned (.tuple #[.agg #[.slice (some ⟨w2.heap.size,0,none⟩) 1 1,str p],v])) (done2 (w2.alloc (.cells #[str tLength,str t] ty)) w.heap.size (.slice (some ⟨w2.heap.size,0,none⟩) 1 1) (str p))):=fun ty =>
   srv_end L (Step.of_below B2) (L.K.below B2) L.F rfl sz hn1 hv rfl (fun _=>⟨phold_one w2 tLength t ty,rfl⟩) rfl
  clear T0 T1 T2 b2 VH1 VH r0 r1 rf B1 B2
  go_wp2
  refine bodyPost_ret (v:=.tuple #[.agg #[.slice (some ⟨w2.heap.size,0,none⟩) 1 1,str p],v]) ?_ rfl ?_
  ·simp [results,Tryz.results85,go_sem,pa0,pa1]
  ·exact FIN.out _)
def getP (s:Sto) (q:AskP):Nat×Hs×Tx×Sto:=match s.version q.bucket q.key q.version with
 | none=>(404,[],[],s)
 | some v=>(200,[(tVersion,Lib.itoa (v.num:Int)),(tLength,lenT v.body)],v.body,s)
theorem version_bd {s:Sto} {b k:Tx} {n:Nat} {v:Ver} (F:Fine s) (h:s.version b k n=some v):v.body.length≤100000∧v.num≤100000:=by
 have h1:=F.last;have h2:=F.log
 have hm:v∈s.vs b k:=by
  unfold Sto.version at h
  split at h
  ·cases h
  ·rename_i u hu
   split at h
   ·cases h
   ·cases h
    split at hu
    ·exact List.mem_of_getLast? hu
    ·exact List.mem_of_find?_eq_some hu
 have:=(F.vs b k).2 v hm
 exact ⟨this.1,by omega⟩
theorem get_any (q:AskP) (a b:Nat) (us:Us) (clock:Nat) (s:Sto) (r:Roles) (w:World) (G:GL w) (L:LS a b us clock s r w) :
  Calls Tryz.prog 88 #[.pointer (some ⟨a,0,none⟩),q.v] w (srvPost a b us clock r w (getP s q)):=by
 obtain ⟨kd,ac,bk,ky,y,vn,pf,af,mx⟩:=q
 simp only [AskP.v]
 have b0:=asks_below w ⟨kd,ac,bk,ky,y,vn,pf,af,mx⟩
 have T0:=two_new w ⟨kd,ac,bk,ky,y,vn,pf,af,mx⟩
 have hd:=L.K.dom
 have hn1:r (w.heap.size+1)=.none:=by
  cases e:r (w.heap.size+1) with
  | none=>rfl
  | _=>have:=hd (w.heap.size+1) (by rw [e];simp);omega
 have L0:=L.below b0
 obtain ⟨num,body,n,v,hx,hnum,hbody,hX,hY⟩:∃ num body n v,(∀ w e w',verEnd (s.version bk ky vn) w e w'→Below w.heap.size w w'∧e=.returned (.tuple #[.int .i64 ((num:Nat):Int),str body,v]))∧num≤100000∧body.length≤100000∧errIs v n∧getP s ⟨kd,ac,bk,ky,y,vn,pf,af,mx⟩=(n,(if n=200 then [(tVersion,Lib.itoa (num:Int)),(tLength,lenT body)] else []),body,s):=by
  unfold getP
  cases hv:s.version bk ky vn with
  | none=>exact ⟨0,[],404,_,fun w e w' h=>h,by omega,by simp,.no 404 .nilIface rfl (by decide),by rw [if_neg (by decide)]⟩
  | some u=>exact ⟨u.num,u.body,200,_,fun w e w' h=>h,(version_bd L.F hv).2,(version_bd L.F hv).1,.ok,by rw [if_pos rfl]⟩
 have D:Hid (∀ W,Below w.heap.size w W→Calls Tryz.prog 133 #[.pointer (some ⟨b,0,none⟩),str bk,str ky,.int .i64 (vn:Int)] W fun e w'=>e=.returned (.tuple #[.int .i64 (num:Int),str body,v])∧Below W.heap.size W w'):=fun W hW=>(version_any b s r bk ky vn W (L.K.below hW) L.F).mono (fun e w' h=>⟨(hx _ _ _ h).2,(hx _ _ _ h).1⟩)
 have HY:Hid (_):=hY
 clear hx hY
 rw [HY.out]
 have VH:Hid (_):=fun W E=>verHead_any num (by omega) W E
 have LH:Hid (_):=fun W E=>lenHead_any body (by omega) W E
 have c2:=L0.l2
 have a2:=T0.a2;have a3:=T0.a3;have a5:=T0.a5
 clear L0 HY
 generalize lenT body=t at *
 generalize Lib.itoa (num:Int)=t2 at *
 obtain ⟨hh,HHS⟩:∃ hh:Hs,Hid (hh=if n=200 then [(tVersion,t2),(tLength,t)] else []):=⟨_,rfl⟩
 rw [← HHS.out]
 go_enter Tryz.func88,Tryz.ntmps88
 go_wp2_with fail
 generalize hW0:(w.alloc (askC ⟨kd,ac,bk,ky,y,vn,pf,af,mx⟩)).alloc zResp=W0 at *
 clear hW0
 have xd:W0.drew.cell? ⟨a,2,none⟩=some (.pointer (some ⟨b,0,none⟩))∧W0.drew.cell? ⟨w.heap.size,2,none⟩=some (str bk)∧W0.drew.cell? ⟨w.heap.size,3,none⟩=some (str ky)∧W0.drew.cell? ⟨w.heap.size,5,none⟩=some (.int .i64 (vn:Int)):=⟨c2,a2,a3,a5⟩
 have xw:W0.cell? ⟨a,2,none⟩=some (.pointer (some ⟨b,0,none⟩))∧W0.cell? ⟨w.heap.size,2,none⟩=some (str bk)∧W0.cell? ⟨w.heap.size,3,none⟩=some (str ky)∧W0.cell? ⟨w.heap.size,5,none⟩=some (.int .i64 (vn:Int)):=⟨c2,a2,a3,a5⟩
 have BDR:=below_trans b0 (below_drew W0)
 have hal:a < W0.drew.heap.size:=Nat.lt_of_lt_of_le L.al BDR.size
 have hwl:w.heap.size < W0.drew.heap.size:=by have:=T0.sz;show w.heap.size < W0.heap.size;omega
 have D3:Hid (Calls Tryz.prog 133 #[.pointer (some ⟨b,0,none⟩),str bk,str ky,.int .i64 (vn:Int)] W0.drew fun e w'=>(e=.returned (.tuple #[.int .i64 (num:Int),str body,v])∧Below W0.drew.heap.size W0.drew w')∧(w'.cell? ⟨a,2,none⟩=some (.pointer (some ⟨b,0,none⟩))∧w'.cell? ⟨w.heap.size,2,none⟩=some (str bk)∧w'.cell? ⟨w.heap.size,3,none⟩=some (str ky)∧w'.cell? ⟨w.heap.size,5,none⟩=some (.int .i64 (vn:Int)))):=Calls.mono (D.out W0.drew BDR) fun e w' h=>⟨h,by
  obtain ⟨_,k⟩:=h
  exact ⟨(k.cell (p:=⟨a,2,none⟩) hal).trans xd.1,(k.cell (p:=⟨w.heap.size,2,none⟩) hwl).trans xd.2.1,(k.cell (p:=⟨w.heap.size,3,none⟩) hwl).trans xd.2.2.1,(k.cell (p:=⟨w.heap.size,5,none⟩) hwl).trans xd.2.2.2⟩⟩
 go_region_held3 (fun w'=>w'.cell? ⟨a,2,none⟩=some (.pointer (some ⟨b,0,none⟩))∧w'.cell? ⟨w.heap.size,2,none⟩=some (str bk)∧w'.cell? ⟨w.heap.size,3,none⟩=some (str ky)∧w'.cell? ⟨w.heap.size,5,none⟩=some (.int .i64 (vn:Int))) (first|with_reducible exact xd|with_reducible exact x5) ((go_at_call 133;with_reducible refine Calls.mono D3.out ?_;rintro e w1 ⟨⟨rfl,b1⟩,x5⟩))
 all_goals (
  have B1:Below w.heap.size w w1:=below_trans (below_trans b0 (below_drew W0)) b1
  have T1:Two w ⟨kd,ac,bk,ky,y,vn,pf,af,mx⟩ w1:=(T0.below (below_drew W0)).below b1
  have VH1:Hid (_):=VH.out w1 (G.call B1).env
  clear xd xw x5 c2 a2 a3 a5 D D3 b1
  go_wp2_with fail
  refine Calls.mono VH1.out ?_
  rintro e w2 ⟨rfl,b2⟩
  have B2:=below_trans B1 b2
  have LH1:Hid (_):=LH.out w2 (G.call B2).env
  go_wp2_with fail
  refine Calls.mono LH1.out ?_
  rintro e w3 ⟨rfl,b3⟩
  have T2:=(T1.below b2).below b3
  have r0:=T2.r0;have r1:=T2.r1;have rf:=T2.rf;have sz:=T2.sz
  have pa0:∀ ob,(w3.alloc ob).cell? ⟨w.heap.size+1,0,none⟩=some (.slice none 0 0):=fun ob=>cell_alloc r0 ob
  have pa1:∀ ob,(w3.alloc ob).cell? ⟨w.heap.size+1,1,none⟩=some (str []):=fun ob=>cell_alloc r1 ob
  have ga:∀ ob,∀ j:Nat,(w3.alloc ob).frozen? ⟨w.heap.size+1,j,none⟩=false:=fun ob j=>((Kept.refl (fun _=>False) w3).alloc ob).frozen (a:=⟨w.heap.size+1,j,none⟩) (show w.heap.size+1 < _ by omega) (rf j) (fun e=>e)
  have B3:=below_trans B2 b3
  have FIN:Hid (∀ ty,srvPost a b us clock r w (n,hh,body,s) (.returned (.tuple #[.agg #[.slice (some ⟨w3.heap.size,0,none⟩) 2 2,str body],v])) (done2 (w3.alloc (.cells #[str tVersion,str t2,str tLength,str t] ty)) w.heap.size (.slice (some ⟨w3.heap.size,0,none⟩) 2 2) (str body))):=fun ty =>
   srv_end L (Step.of_below B3) (L.K.below B3) L.F rfl sz hn1 hX rfl (fun e=>by rw [HHS.out,if_pos e];exact ⟨phold_two w3 tVersion t2 tLength t ty,rfl⟩) rfl
  clear T0 T1 T2 b2 b3 VH1 VH LH LH1 r0 r1 rf B1 B2 B3
  go_wp2
  refine bodyPost_ret (v:=.tuple #[.agg #[.slice (some ⟨w3.heap.size,0,none⟩) 2 2,str body],v]) ?_ rfl ?_
  ·simp [results,Tryz.results88,go_sem,pa0,pa1]
  ·exact FIN.out _)
def serveP (s:Sto) (user:Tx) (q:AskP):Nat×Hs×Tx×Sto :=
 if q.kind=0 then ((s.done (.mk q.bucket user)).1,[],[],(s.done (.mk q.bucket user)).2)
 else if q.kind=1 then ((s.done (.pol q.bucket q.body)).1,[],[],(s.done (.pol q.bucket q.body)).2)
 else if q.kind=2 then (if s.policyOf q.bucket=[] then 404 else 200,[(tLength,lenT (s.policyOf q.bucket))],s.policyOf q.bucket,s)
 else if q.kind=3 then ((s.done (.unpol q.bucket)).1,[],[],(s.done (.unpol q.bucket)).2)
 else if q.kind=5 then ((s.done (.put q.bucket q.key q.body)).1,[(tVersion,Lib.itoa ((s.done (.put q.bucket q.key q.body)).2.last:Int))],[],(s.done (.put q.bucket q.key q.body)).2)
 else if q.kind=6 then getP s q
 else if q.kind=7 then ((s.done (.mark q.bucket q.key)).1,[(tVersion,Lib.itoa ((s.done (.mark q.bucket q.key)).2.last:Int))],[],(s.done (.mark q.bucket q.key)).2)
 else ((s.done (.drop q.bucket q.key q.version)).1,[(tVersion,Lib.itoa (q.version:Int))],[],(s.done (.drop q.bucket q.key q.version)).2)
theorem srv_pass {a b:Nat} {us:Us} {clock:Nat} {s:Sto} {r r':Roles} {w W0 W:World} {v:Value} {x:Nat×Hs×Tx×Sto} {ha:Option Addr} {hm hc:Nat} {y:Tx} (L:LS a b us clock s r w) (b0:Below w.heap.size w W0) (hz:w.heap.size+2≤W0.heap.size)
  (he:errIs v x.1) (hp:x.1=200→R.phold W W.heap.size (.slice ha hm hc) x.2.1∧y=x.2.2.1) (hb:∀ g,(Value.slice ha hm hc).ownBlock=some g→W0.heap.size≤g) (L1:LS a b us clock x.2.2.2 r' W) (st:Step r W0 r' W) (hu:x.2.2.2.users=s.users) :
  srvPost a b us clock r w x (.returned (.tuple #[.agg #[.slice ha hm hc,str y],v])) (done2 W w.heap.size (.slice ha hm hc) (str y)):=by
 have hd:=L.K.dom
 have hn1:r (w.heap.size+1)=.none:=by
  cases e:r (w.heap.size+1) with
  | none=>rfl
  | _=>have:=hd (w.heap.size+1) (by rw [e];simp);omega
 have hn2:r' (w.heap.size+1)=.none:=st.none (by omega) hn1
 obtain ⟨h2,h3⟩:=L.fin ((Step.of_below b0).trans st) L1.K L1.F hu (kept_two W w.heap.size (.slice ha hm hc) (str y)) (fun g e=>by rw [e];exact ⟨by omega,hn2⟩)
 refine ⟨v,r',ha,hm,hc,y,rfl,he,fun e=>⟨?_,(hp e).2⟩,fun g e=>by have:=hb g e;omega,h2,h3⟩
 exact phold.kept (hp e).1 (kept_two _ _ _ _) (fun g e=>by have:=hb g e;omega) (by simp)
theorem serve0_any (user:Tx) (q:AskP) (hk:q.kind=0) (f:AskFit user q) (a b:Nat) (us:Us) (clock:Nat) (s:Sto) (r:Roles) (w:World) (G:GL w) (L:LS a b us clock s r w) :
  Calls Tryz.prog 57 #[.pointer (some ⟨a,0,none⟩),str user,q.v] w (srvPost a b us clock r w (((s.done (.mk q.bucket user)).1,[],[],(s.done (.mk q.bucket user)).2))):=by
 obtain ⟨kd,ac,bk,ky,y,vn,pf,af,mx⟩:=q
 simp only at hk
 subst hk
 simp only [AskP.v]
 have b0:=asks_below w ⟨0,ac,bk,ky,y,vn,pf,af,mx⟩
 have T0:=two_new w ⟨0,ac,bk,ky,y,vn,pf,af,mx⟩
 have D:Hid (∀ W,Below w.heap.size w W→Calls Tryz.prog 84 #[.pointer (some ⟨a,0,none⟩),.iface 167 (.agg #[str bk,str user])] W (srvPost a b us clock r W (((s.done (.mk bk user)).1,[],[],(s.done (.mk bk user)).2)))):=fun W hW=>by
  have:=change_any (.mk bk user) ⟨f.b,f.u⟩ a b us clock s r W (G.call hW) (L.below hW)
  exact this
 have HU:Hid (((((s.done (.mk bk user)).1,[],[],(s.done (.mk bk user)).2):Nat×Hs×Tx×Sto)).2.2.2.users=s.users):=done_users s _
 generalize (((s.done (.mk bk user)).1,[],[],(s.done (.mk bk user)).2):Nat×Hs×Tx×Sto)=x at *
 have a2:=T0.a2;have a3:=T0.a3;have a4:=T0.a4
 clear f
 go_enter Tryz.func57,Tryz.ntmps57
 go_wp2_with fail
 generalize hW0:(w.alloc (askC ⟨0,ac,bk,ky,y,vn,pf,af,mx⟩)).alloc zResp=W0 at *
 refine Calls.mono (D.out W0 b0) ?_
 rintro e w1 ⟨v,r',ha,hm,hc,z,rfl,he,hp,hb,L1,st⟩
 have T1:=T0.step st L.K.dom
 have r0:=T1.r0;have r1:=T1.r1;have rf:=T1.rf
 have FIN:Hid (_):=srv_pass L b0 T0.sz he hp hb L1 st HU.out
 clear T0 T1 D he hp hb L1 st HU hW0 a2 a3 a4
 go_wp2
 refine bodyPost_ret (v:=.tuple #[.agg #[.slice ha hm hc,str z],v]) ?_ rfl FIN.out
 simp [results,Tryz.results57,go_sem,r0,r1]
theorem serve1_any (user:Tx) (q:AskP) (hk:q.kind=1) (f:AskFit user q) (a b:Nat) (us:Us) (clock:Nat) (s:Sto) (r:Roles) (w:World) (G:GL w) (L:LS a b us clock s r w) :
  Calls Tryz.prog 57 #[.pointer (some ⟨a,0,none⟩),str user,q.v] w (srvPost a b us clock r w (((s.done (.pol q.bucket q.body)).1,[],[],(s.done (.pol q.bucket q.body)).2))):=by
 obtain ⟨kd,ac,bk,ky,y,vn,pf,af,mx⟩:=q
 simp only at hk
 subst hk
 simp only [AskP.v]
 have b0:=asks_below w ⟨1,ac,bk,ky,y,vn,pf,af,mx⟩
 have T0:=two_new w ⟨1,ac,bk,ky,y,vn,pf,af,mx⟩
 have D:Hid (∀ W,Below w.heap.size w W→Calls Tryz.prog 84 #[.pointer (some ⟨a,0,none⟩),.iface 169 (.agg #[str bk,str y])] W (srvPost a b us clock r W (((s.done (.pol bk y)).1,[],[],(s.done (.pol bk y)).2)))):=fun W hW=>by
  have:=change_any (.pol bk y) ⟨f.b,f.y⟩ a b us clock s r W (G.call hW) (L.below hW)
  exact this
 have HU:Hid (((((s.done (.pol bk y)).1,[],[],(s.done (.pol bk y)).2):Nat×Hs×Tx×Sto)).2.2.2.users=s.users):=done_users s _
 generalize (((s.done (.pol bk y)).1,[],[],(s.done (.pol bk y)).2):Nat×Hs×Tx×Sto)=x at *
 have a2:=T0.a2;have a3:=T0.a3;have a4:=T0.a4
 clear f
 go_enter Tryz.func57,Tryz.ntmps57
 go_wp2_with fail
 generalize hW0:(w.alloc (askC ⟨1,ac,bk,ky,y,vn,pf,af,mx⟩)).alloc zResp=W0 at *
 refine Calls.mono (D.out W0 b0) ?_
 rintro e w1 ⟨v,r',ha,hm,hc,z,rfl,he,hp,hb,L1,st⟩
 have T1:=T0.step st L.K.dom
 have r0:=T1.r0;have r1:=T1.r1;have rf:=T1.rf
 have FIN:Hid (_):=srv_pass L b0 T0.sz he hp hb L1 st HU.out
 clear T0 T1 D he hp hb L1 st HU hW0 a2 a3 a4
 go_wp2
 refine bodyPost_ret (v:=.tuple #[.agg #[.slice ha hm hc,str z],v]) ?_ rfl FIN.out
 simp [results,Tryz.results57,go_sem,r0,r1]
theorem serve2_any (user:Tx) (q:AskP) (hk:q.kind=2) (f:AskFit user q) (a b:Nat) (us:Us) (clock:Nat) (s:Sto) (r:Roles) (w:World) (G:GL w) (L:LS a b us clock s r w) (hp:(s.policyOf q.bucket).length≤1000000) :
  Calls Tryz.prog 57 #[.pointer (some ⟨a,0,none⟩),str user,q.v] w (srvPost a b us clock r w ((if s.policyOf q.bucket=[] then 404 else 200,[(tLength,lenT (s.policyOf q.bucket))],s.policyOf q.bucket,s))):=by
 obtain ⟨kd,ac,bk,ky,y,vn,pf,af,mx⟩:=q
 simp only at hk
 subst hk
 simp only at hp
 simp only [AskP.v]
 have b0:=asks_below w ⟨2,ac,bk,ky,y,vn,pf,af,mx⟩
 have T0:=two_new w ⟨2,ac,bk,ky,y,vn,pf,af,mx⟩
 have D:Hid (∀ W,Below w.heap.size w W→Calls Tryz.prog 85 #[.pointer (some ⟨a,0,none⟩),.agg #[.int .i64 (2:Int),str ac,str bk,str ky,str y,.int .i64 (vn:Int),str pf,str af,.int .i64 (mx:Int)]] W (srvPost a b us clock r W ((if s.policyOf bk=[] then 404 else 200,[(tLength,lenT (s.policyOf bk))],s.policyOf bk,s)))):=fun W hW=>by
  have:=getPolicy_any ⟨2,ac,bk,ky,y,vn,pf,af,mx⟩ a b us clock s r W (G.call hW) (L.below hW) hp
  exact this
 have HU:Hid ((((if s.policyOf bk=[] then 404 else 200,[(tLength,lenT (s.policyOf bk))],s.policyOf bk,s):Nat×Hs×Tx×Sto)).2.2.2.users=s.users):=rfl
 generalize ((if s.policyOf bk=[] then 404 else 200,[(tLength,lenT (s.policyOf bk))],s.policyOf bk,s):Nat×Hs×Tx×Sto)=x at *
 have a2:=T0.a2;have a3:=T0.a3;have a4:=T0.a4
 clear f
 go_enter Tryz.func57,Tryz.ntmps57
 go_wp2_with fail
 generalize hW0:(w.alloc (askC ⟨2,ac,bk,ky,y,vn,pf,af,mx⟩)).alloc zResp=W0 at *
 refine Calls.mono (D.out W0 b0) ?_
 rintro e w1 ⟨v,r',ha,hm,hc,z,rfl,he,hp,hb,L1,st⟩
 have T1:=T0.step st L.K.dom
 have r0:=T1.r0;have r1:=T1.r1;have rf:=T1.rf
 have FIN:Hid (_):=srv_pass L b0 T0.sz he hp hb L1 st HU.out
 clear T0 T1 D he hp hb L1 st HU hW0 a2 a3 a4
 go_wp2
 refine bodyPost_ret (v:=.tuple #[.agg #[.slice ha hm hc,str z],v]) ?_ rfl FIN.out
 simp [results,Tryz.results57,go_sem,r0,r1]
theorem serve3_any (user:Tx) (q:AskP) (hk:q.kind=3) (f:AskFit user q) (a b:Nat) (us:Us) (clock:Nat) (s:Sto) (r:Roles) (w:World) (G:GL w) (L:LS a b us clock s r w) :
  Calls Tryz.prog 57 #[.pointer (some ⟨a,0,none⟩),str user,q.v] w (srvPost a b us clock r w (((s.done (.unpol q.bucket)).1,[],[],(s.done (.unpol q.bucket)).2))):=by
 obtain ⟨kd,ac,bk,ky,y,vn,pf,af,mx⟩:=q
 simp only at hk
 subst hk
 simp only [AskP.v]
 have b0:=asks_below w ⟨3,ac,bk,ky,y,vn,pf,af,mx⟩
 have T0:=two_new w ⟨3,ac,bk,ky,y,vn,pf,af,mx⟩
 have D:Hid (∀ W,Below w.heap.size w W→Calls Tryz.prog 84 #[.pointer (some ⟨a,0,none⟩),.iface 172 (.agg #[str bk])] W (srvPost a b us clock r W (((s.done (.unpol bk)).1,[],[],(s.done (.unpol bk)).2)))):=fun W hW=>by
  have:=change_any (.unpol bk) f.b a b us clock s r W (G.call hW) (L.below hW)
  exact this
 have HU:Hid (((((s.done (.unpol bk)).1,[],[],(s.done (.unpol bk)).2):Nat×Hs×Tx×Sto)).2.2.2.users=s.users):=done_users s _
 generalize (((s.done (.unpol bk)).1,[],[],(s.done (.unpol bk)).2):Nat×Hs×Tx×Sto)=x at *
 have a2:=T0.a2;have a3:=T0.a3;have a4:=T0.a4
 clear f
 go_enter Tryz.func57,Tryz.ntmps57
 go_wp2_with fail
 generalize hW0:(w.alloc (askC ⟨3,ac,bk,ky,y,vn,pf,af,mx⟩)).alloc zResp=W0 at *
 refine Calls.mono (D.out W0 b0) ?_
 rintro e w1 ⟨v,r',ha,hm,hc,z,rfl,he,hp,hb,L1,st⟩
 have T1:=T0.step st L.K.dom
 have r0:=T1.r0;have r1:=T1.r1;have rf:=T1.rf
 have FIN:Hid (_):=srv_pass L b0 T0.sz he hp hb L1 st HU.out
 clear T0 T1 D he hp hb L1 st HU hW0 a2 a3 a4
 go_wp2
 refine bodyPost_ret (v:=.tuple #[.agg #[.slice ha hm hc,str z],v]) ?_ rfl FIN.out
 simp [results,Tryz.results57,go_sem,r0,r1]
theorem serve5_any (user:Tx) (q:AskP) (hk:q.kind=5) (f:AskFit user q) (a b:Nat) (us:Us) (clock:Nat) (s:Sto) (r:Roles) (w:World) (G:GL w) (L:LS a b us clock s r w) :
  Calls Tryz.prog 57 #[.pointer (some ⟨a,0,none⟩),str user,q.v] w (srvPost a b us clock r w (((s.done (.put q.bucket q.key q.body)).1,[(tVersion,Lib.itoa ((s.done (.put q.bucket q.key q.body)).2.last:Int))],[],(s.done (.put q.bucket q.key q.body)).2))):=by
 obtain ⟨kd,ac,bk,ky,y,vn,pf,af,mx⟩:=q
 simp only at hk
 subst hk
 simp only [AskP.v]
 have b0:=asks_below w ⟨5,ac,bk,ky,y,vn,pf,af,mx⟩
 have T0:=two_new w ⟨5,ac,bk,ky,y,vn,pf,af,mx⟩
 have D:Hid (∀ W,Below w.heap.size w W→Calls Tryz.prog 87 #[.pointer (some ⟨a,0,none⟩),.iface 175 (.agg #[str bk,str ky,str y])] W (srvPost a b us clock r W (((s.done (.put bk ky y)).1,[(tVersion,Lib.itoa ((s.done (.put bk ky y)).2.last:Int))],[],(s.done (.put bk ky y)).2)))):=fun W hW=>by
  have:=addVersion_any (.put bk ky y) ⟨f.b,f.k,f.y⟩ a b us clock s r W (G.call hW) (L.below hW)
  exact this
 have HU:Hid (((((s.done (.put bk ky y)).1,[(tVersion,Lib.itoa ((s.done (.put bk ky y)).2.last:Int))],[],(s.done (.put bk ky y)).2):Nat×Hs×Tx×Sto)).2.2.2.users=s.users):=done_users s _
 generalize (((s.done (.put bk ky y)).1,[(tVersion,Lib.itoa ((s.done (.put bk ky y)).2.last:Int))],[],(s.done (.put bk ky y)).2):Nat×Hs×Tx×Sto)=x at *
 have a2:=T0.a2;have a3:=T0.a3;have a4:=T0.a4
 clear f
 go_enter Tryz.func57,Tryz.ntmps57
 go_wp2_with fail
 generalize hW0:(w.alloc (askC ⟨5,ac,bk,ky,y,vn,pf,af,mx⟩)).alloc zResp=W0 at *
 refine Calls.mono (D.out W0 b0) ?_
 rintro e w1 ⟨v,r',ha,hm,hc,z,rfl,he,hp,hb,L1,st⟩
 have T1:=T0.step st L.K.dom
 have r0:=T1.r0;have r1:=T1.r1;have rf:=T1.rf
 have FIN:Hid (_):=srv_pass L b0 T0.sz he hp hb L1 st HU.out
 clear T0 T1 D he hp hb L1 st HU hW0 a2 a3 a4
 go_wp2
 refine bodyPost_ret (v:=.tuple #[.agg #[.slice ha hm hc,str z],v]) ?_ rfl FIN.out
 simp [results,Tryz.results57,go_sem,r0,r1]
theorem serve6_any (user:Tx) (q:AskP) (hk:q.kind=6) (f:AskFit user q) (a b:Nat) (us:Us) (clock:Nat) (s:Sto) (r:Roles) (w:World) (G:GL w) (L:LS a b us clock s r w) :
  Calls Tryz.prog 57 #[.pointer (some ⟨a,0,none⟩),str user,q.v] w (srvPost a b us clock r w (getP s q)):=by
 obtain ⟨kd,ac,bk,ky,y,vn,pf,af,mx⟩:=q
 simp only at hk
 subst hk
 simp only [AskP.v]
 have b0:=asks_below w ⟨6,ac,bk,ky,y,vn,pf,af,mx⟩
 have T0:=two_new w ⟨6,ac,bk,ky,y,vn,pf,af,mx⟩
 have D:Hid (∀ W,Below w.heap.size w W→Calls Tryz.prog 88 #[.pointer (some ⟨a,0,none⟩),.agg #[.int .i64 (6:Int),str ac,str bk,str ky,str y,.int .i64 (vn:Int),str pf,str af,.int .i64 (mx:Int)]] W (srvPost a b us clock r W (getP s ⟨6,ac,bk,ky,y,vn,pf,af,mx⟩))):=fun W hW=>by
  have:=get_any ⟨6,ac,bk,ky,y,vn,pf,af,mx⟩ a b us clock s r W (G.call hW) (L.below hW)
  exact this
 have HU:Hid (((getP s ⟨6,ac,bk,ky,y,vn,pf,af,mx⟩:Nat×Hs×Tx×Sto)).2.2.2.users=s.users):=(by unfold getP;split <;> rfl)
 generalize (getP s ⟨6,ac,bk,ky,y,vn,pf,af,mx⟩:Nat×Hs×Tx×Sto)=x at *
 have a2:=T0.a2;have a3:=T0.a3;have a4:=T0.a4
 clear f
 go_enter Tryz.func57,Tryz.ntmps57
 go_wp2_with fail
 generalize hW0:(w.alloc (askC ⟨6,ac,bk,ky,y,vn,pf,af,mx⟩)).alloc zResp=W0 at *
 refine Calls.mono (D.out W0 b0) ?_
 rintro e w1 ⟨v,r',ha,hm,hc,z,rfl,he,hp,hb,L1,st⟩
 have T1:=T0.step st L.K.dom
 have r0:=T1.r0;have r1:=T1.r1;have rf:=T1.rf
 have FIN:Hid (_):=srv_pass L b0 T0.sz he hp hb L1 st HU.out
 clear T0 T1 D he hp hb L1 st HU hW0 a2 a3 a4
 go_wp2
 refine bodyPost_ret (v:=.tuple #[.agg #[.slice ha hm hc,str z],v]) ?_ rfl FIN.out
 simp [results,Tryz.results57,go_sem,r0,r1]
theorem serve7_any (user:Tx) (q:AskP) (hk:q.kind=7) (f:AskFit user q) (a b:Nat) (us:Us) (clock:Nat) (s:Sto) (r:Roles) (w:World) (G:GL w) (L:LS a b us clock s r w) :
  Calls Tryz.prog 57 #[.pointer (some ⟨a,0,none⟩),str user,q.v] w (srvPost a b us clock r w (((s.done (.mark q.bucket q.key)).1,[(tVersion,Lib.itoa ((s.done (.mark q.bucket q.key)).2.last:Int))],[],(s.done (.mark q.bucket q.key)).2))):=by
 obtain ⟨kd,ac,bk,ky,y,vn,pf,af,mx⟩:=q
 simp only at hk
 subst hk
 simp only [AskP.v]
 have b0:=asks_below w ⟨7,ac,bk,ky,y,vn,pf,af,mx⟩
 have T0:=two_new w ⟨7,ac,bk,ky,y,vn,pf,af,mx⟩
 have D:Hid (∀ W,Below w.heap.size w W→Calls Tryz.prog 87 #[.pointer (some ⟨a,0,none⟩),.iface 177 (.agg #[str bk,str ky])] W (srvPost a b us clock r W (((s.done (.mark bk ky)).1,[(tVersion,Lib.itoa ((s.done (.mark bk ky)).2.last:Int))],[],(s.done (.mark bk ky)).2)))):=fun W hW=>by
  have:=addVersion_any (.mark bk ky) ⟨f.b,f.k⟩ a b us clock s r W (G.call hW) (L.below hW)
  exact this
 have HU:Hid (((((s.done (.mark bk ky)).1,[(tVersion,Lib.itoa ((s.done (.mark bk ky)).2.last:Int))],[],(s.done (.mark bk ky)).2):Nat×Hs×Tx×Sto)).2.2.2.users=s.users):=done_users s _
 generalize (((s.done (.mark bk ky)).1,[(tVersion,Lib.itoa ((s.done (.mark bk ky)).2.last:Int))],[],(s.done (.mark bk ky)).2):Nat×Hs×Tx×Sto)=x at *
 have a2:=T0.a2;have a3:=T0.a3;have a4:=T0.a4
 clear f
 go_enter Tryz.func57,Tryz.ntmps57
 go_wp2_with fail
 generalize hW0:(w.alloc (askC ⟨7,ac,bk,ky,y,vn,pf,af,mx⟩)).alloc zResp=W0 at *
 refine Calls.mono (D.out W0 b0) ?_
 rintro e w1 ⟨v,r',ha,hm,hc,z,rfl,he,hp,hb,L1,st⟩
 have T1:=T0.step st L.K.dom
 have r0:=T1.r0;have r1:=T1.r1;have rf:=T1.rf
 have FIN:Hid (_):=srv_pass L b0 T0.sz he hp hb L1 st HU.out
 clear T0 T1 D he hp hb L1 st HU hW0 a2 a3 a4
 go_wp2
 refine bodyPost_ret (v:=.tuple #[.agg #[.slice ha hm hc,str z],v]) ?_ rfl FIN.out
 simp [results,Tryz.results57,go_sem,r0,r1]
theorem serve8_any (user:Tx) (q:AskP) (hk:q.kind=8) (f:AskFit user q) (a b:Nat) (us:Us) (clock:Nat) (s:Sto) (r:Roles) (w:World) (G:GL w) (L:LS a b us clock s r w) :
  Calls Tryz.prog 57 #[.pointer (some ⟨a,0,none⟩),str user,q.v] w (srvPost a b us clock r w (((s.done (.drop q.bucket q.key q.version)).1,[(tVersion,Lib.itoa (q.version:Int))],[],(s.done (.drop q.bucket q.key q.version)).2))):=by
 obtain ⟨kd,ac,bk,ky,y,vn,pf,af,mx⟩:=q
 simp only at hk
 subst hk
 simp only [AskP.v]
 have b0:=asks_below w ⟨8,ac,bk,ky,y,vn,pf,af,mx⟩
 have T0:=two_new w ⟨8,ac,bk,ky,y,vn,pf,af,mx⟩
 have D:Hid (∀ W,Below w.heap.size w W→Calls Tryz.prog 89 #[.pointer (some ⟨a,0,none⟩),.agg #[.int .i64 (8:Int),str ac,str bk,str ky,str y,.int .i64 (vn:Int),str pf,str af,.int .i64 (mx:Int)]] W (srvPost a b us clock r W (((s.done (.drop bk ky vn)).1,[(tVersion,Lib.itoa (vn:Int))],[],(s.done (.drop bk ky vn)).2)))):=fun W hW=>by
  have:=dropVersion_any ⟨8,ac,bk,ky,y,vn,pf,af,mx⟩ ⟨f.b,f.k,f.v⟩ a b us clock s r W (G.call hW) (L.below hW)
  exact this
 have HU:Hid (((((s.done (.drop bk ky vn)).1,[(tVersion,Lib.itoa (vn:Int))],[],(s.done (.drop bk ky vn)).2):Nat×Hs×Tx×Sto)).2.2.2.users=s.users):=done_users s _
 generalize (((s.done (.drop bk ky vn)).1,[(tVersion,Lib.itoa (vn:Int))],[],(s.done (.drop bk ky vn)).2):Nat×Hs×Tx×Sto)=x at *
 have a2:=T0.a2;have a3:=T0.a3;have a4:=T0.a4
 clear f
 go_enter Tryz.func57,Tryz.ntmps57
 go_wp2_with fail
 generalize hW0:(w.alloc (askC ⟨8,ac,bk,ky,y,vn,pf,af,mx⟩)).alloc zResp=W0 at *
 refine Calls.mono (D.out W0 b0) ?_
 rintro e w1 ⟨v,r',ha,hm,hc,z,rfl,he,hp,hb,L1,st⟩
 have T1:=T0.step st L.K.dom
 have r0:=T1.r0;have r1:=T1.r1;have rf:=T1.rf
 have FIN:Hid (_):=srv_pass L b0 T0.sz he hp hb L1 st HU.out
 clear T0 T1 D he hp hb L1 st HU hW0 a2 a3 a4
 go_wp2
 refine bodyPost_ret (v:=.tuple #[.agg #[.slice ha hm hc,str z],v]) ?_ rfl FIN.out
 simp [results,Tryz.results57,go_sem,r0,r1]
theorem policy_bd {s:Sto} (F:Fine s) (n:Tx):(s.policyOf n).length≤1000000:=by
 unfold Sto.policyOf
 split
 ·simp
 ·rename_i x hx;have:=(F.bk n x hx).2.2;omega
theorem serve_any (user:Tx) (q:AskP) (hk:q.kind≤8) (h4:q.kind≠4) (f:AskFit user q) (a b:Nat) (us:Us) (clock:Nat) (s:Sto) (r:Roles) (w:World) (G:GL w) (L:LS a b us clock s r w) :
  Calls Tryz.prog 57 #[.pointer (some ⟨a,0,none⟩),str user,q.v] w (srvPost a b us clock r w (serveP s user q)):=by
 have:q.kind=0∨q.kind=1∨q.kind=2∨q.kind=3∨q.kind=5∨q.kind=6∨q.kind=7∨q.kind=8:=by omega
 unfold serveP
 rcases this with h|h|h|h|h|h|h|h
 ·rw [if_pos h];exact serve0_any user q h f a b us clock s r w G L
 ·rw [if_neg (by omega),if_pos h];exact serve1_any user q h f a b us clock s r w G L
 ·rw [if_neg (by omega),if_neg (by omega),if_pos h];exact serve2_any user q h f a b us clock s r w G L (policy_bd L.F _)
 ·rw [if_neg (by omega),if_neg (by omega),if_neg (by omega),if_pos h];exact serve3_any user q h f a b us clock s r w G L
 ·rw [if_neg (by omega),if_neg (by omega),if_neg (by omega),if_neg (by omega),if_pos h];exact serve5_any user q h f a b us clock s r w G L
 ·rw [if_neg (by omega),if_neg (by omega),if_neg (by omega),if_neg (by omega),if_neg (by omega),if_pos h];exact serve6_any user q h f a b us clock s r w G L
 ·rw [if_neg (by omega),if_neg (by omega),if_neg (by omega),if_neg (by omega),if_neg (by omega),if_neg (by omega),if_pos h];exact serve7_any user q h f a b us clock s r w G L
 ·rw [if_neg (by omega),if_neg (by omega),if_neg (by omega),if_neg (by omega),if_neg (by omega),if_neg (by omega),if_neg (by omega)];exact serve8_any user q h f a b us clock s r w G L
end Go.Proofs.YtbllcgibmgbnjaaGreatDoor.P
