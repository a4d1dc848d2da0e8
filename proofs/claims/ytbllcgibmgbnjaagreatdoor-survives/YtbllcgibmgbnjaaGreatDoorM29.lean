import Derived.Test.YtbllcgibmgbnjaaGreatDoorM27
import Derived.Test.YtbllcgibmgbnjaaGreatDoorM28
import Derived.Test.YtbllcgibmgbnjaaGreatDoorM26
set_option maxHeartbeats 4000000
set_option maxRecDepth 20000
namespace Go.Proofs.YtbllcgibmgbnjaaGreatDoor.P
open C (enc dec dec_enc enc1 plainB enc_cons enc_nil enc_len hexD)
structure BK (s:Sto) (l:List BV) (room:Nat):Prop where
 b:s.bk tBkt=some ⟨tAl,[],[]⟩
 v:∀ k,s.vs tBkt k=vsOf l k
 ks:∀ v∈l,∃ i,i < 4∧v.key=keyN i
 y:∀ v∈l,v.body.length≤300
 n:l.length≤s.last
 r:s.room=room
 K:Keys s
 F:Fine s
abbrev AskQ (s:Sto) (m tg y:Tx) (X:Nat×Hs×Tx×Sto):Prop:=RespQ two 5000 s (headT tAl sAl 5000 m tg y) X
abbrev ansT (X:Nat×Hs×Tx×Sto):Tx:=respT X.1 X.2.1 X.2.2.1
theorem bk_may {s:Sto} {l:List BV} {room:Nat} (H:BK s l room) {q:AskP} (hb:q.bucket=tBkt) (h0:q.kind≠0):mayP s tAl q=200:=by
 unfold mayP;rw [if_neg h0,hb];exact may_owner H.b
theorem bk_serve {s:Sto} {l:List BV} {room:Nat} (H:BK s l room) {m tg y:Tx} {q:AskP} {X:Nat×Hs×Tx×Sto} (hX:AskQ s m tg y X) (hr:readP two 5000 (headT tAl sAl 5000 m tg y)=.ok (tAl,q)) (hb:q.bucket=tBkt) (h0:q.kind≠0) (h4:q.kind≠4):X=serveP s tAl q :=
 (hX.serves tAl q hr (bk_may H hb h0)).1 h4
theorem lacks_ne {hs:Hs} {y:Tx}:respT 200 hs y≠rLacks:=by
 intro e
 rw [lacksT] at e
 unfold respT at e
 rw [told200] at e
 exact absurd (congrArg List.head? e) (by simp)
theorem none_ne:rNone≠rLacks:=by
 rw [lacksT,noneT];decide
theorem got_ne_none {hs:Hs} {y:Tx}:respT 200 hs y≠rNone:=by
 intro e
 rw [noneT] at e
 unfold respT at e
 rw [told200] at e
 exact absurd (congrArg (fun l:Tx=>l[0]?) e) (by simp)
theorem got_serve {s:Sto} {k:Tx} {n:Nat} {o:Option BV} (h:s.version tBkt k n=(match o.map BV.ver with|none=>none|some v=>if v.mark=true then none else some v)) :
  ansT (getP s ⟨6,sGet,tBkt,k,[],n,[],[],10⟩)=gotB o∧(getP s ⟨6,sGet,tBkt,k,[],n,[],[],10⟩).2.2.2=s:=by
 unfold getP
 simp only
 rw [h]
 cases o with
 | none=>exact ⟨rfl,rfl⟩
 | some v =>
  simp only [Option.map_some,BV.ver,gotB]
  cases v.mark
  ·exact ⟨rfl,rfl⟩
  ·exact ⟨rfl,rfl⟩
theorem gotB_ne (o:Option BV):gotB o≠rLacks:=by
 unfold gotB
 split
 ·exact none_ne
 ·split
  ·exact none_ne
  ·exact lacks_ne
theorem done_of {s t:Sto} {c:Chg} (h:s.begin c=.ok t):(s.done c=(507,s)∧s.room < s.log.length+(frameT c.text).length)∨s.done c=(200,{ t with log:=s.log++frameT c.text }):=by
 unfold Sto.done;rw [h];simp only
 by_cases hl:s.log.length+(frameT c.text).length≤s.room
 ·rw [if_pos hl];exact .inr rfl
 ·rw [if_neg hl];exact .inl ⟨rfl,by omega⟩
theorem frame_put {k y:Tx} (hk:k.length≤3) (hy:y.length≤300):(frameT (Chg.put tBkt k y).text).length≤330:=by
 simp [frameT,Chg.text,shortT,longT,numT,bigL_len];omega
theorem frame_mark {k:Tx} (hk:k.length≤3):(frameT (Chg.mark tBkt k).text).length≤330:=by
 simp [frameT,Chg.text,shortT,longT,numT,bigL_len];omega
theorem frame_drop {k:Tx} {n:Nat} (hk:k.length≤3):(frameT (Chg.drop tBkt k n).text).length≤330:=by
 simp [frameT,Chg.text,shortT,longT,numT,bigL_len];omega
theorem serve5 (s:Sto) (k y:Tx):serveP s tAl ⟨5,sPut,tBkt,k,y,0,[],[],10⟩=((s.done (.put tBkt k y)).1,[(tVersion,Lib.itoa ((s.done (.put tBkt k y)).2.last:Int))],[],(s.done (.put tBkt k y)).2):=rfl
theorem serve7 (s:Sto) (k:Tx):serveP s tAl ⟨7,sDelete,tBkt,k,[],0,[],[],10⟩=((s.done (.mark tBkt k)).1,[(tVersion,Lib.itoa ((s.done (.mark tBkt k)).2.last:Int))],[],(s.done (.mark tBkt k)).2):=rfl
theorem serve8 (s:Sto) (k:Tx) (n:Nat):serveP s tAl ⟨8,sDelete,tBkt,k,[],n,[],[],10⟩=((s.done (.drop tBkt k n)).1,[(tVersion,Lib.itoa (n:Int))],[],(s.done (.drop tBkt k n)).2):=rfl
theorem serve6 (s:Sto) (k:Tx) (n:Nat):serveP s tAl ⟨6,sGet,tBkt,k,[],n,[],[],10⟩=getP s ⟨6,sGet,tBkt,k,[],n,[],[],10⟩:=rfl
def Ends (s:Sto) (_l:List BV) (room:Nat) (X:Nat×Hs×Tx×Sto) (want:Tx) (l':List BV) (g:Nat) (chg:Prop):Prop :=
 (ansT X=rLacks∧X.2.2.2=s∧room < s.log.length+330∧chg∧want≠rNone)∨(ansT X=want∧want≠rLacks∧BK X.2.2.2 l' room∧X.2.2.2.last=g)
theorem bk_add {s s':Sto} {l:List BV} {room:Nat} (H:BK s l room) {i:Nat} (hi:i < 4) {m:Bool} {y:Tx} (hy:y.length≤300) (e1:s'.bk=s.bk) (e2:s'.vs=(s.add tBkt (keyN i) m y).vs) (e3:s'.room=s.room) (e4:s'.last=s.last+1) (K:Keys s') (F:Fine s'):BK s' (l++[⟨keyN i,s.last+1,m,y⟩]) room where
 b:=by rw [e1];exact H.b
 v:=fun k=>by
  rw [e2,vs_snoc]
  simp only [Sto.add,Sto.setVs,BV.ver]
  by_cases hk:k=keyN i
  ·rw [if_pos ⟨trivial,hk⟩,if_pos hk,H.v,hk]
  ·rw [if_neg (fun e=>hk e.2),if_neg hk,H.v]
 ks:=fun v hv=>by
  rcases List.mem_append.1 hv with h|h
  ·exact H.ks v h
  ·rw [List.mem_singleton] at h;subst h;exact ⟨i,hi,rfl⟩
 y:=fun v hv=>by
  rcases List.mem_append.1 hv with h|h
  ·exact H.y v h
  ·rw [List.mem_singleton] at h;subst h;exact hy
 n:=by rw [e4,List.length_append];have:=H.n;simp;omega
 r:=by rw [e3];exact H.r
 K:=K
 F:=F
theorem bk_put {s:Sto} {l:List BV} {room:Nat} (H:BK s l room) {i:Nat} (hi:i < 4) {y:Tx} (hy:y.length≤300) {X:Nat×Hs×Tx×Sto} (hX:AskQ s tPUT (kT (keyN i)) y X):Ends s l room X (rPut (s.last+1)) (l++[⟨keyN i,s.last+1,false,y⟩]) (s.last+1) True:=by
 have e:=bk_serve H hX (rd_put has_al (keyN_ok i) hy) rfl (by simp) (by simp)
 rw [serve5] at e
 have hb:s.begin (.put tBkt (keyN i) y)=.ok (s.add tBkt (keyN i) false y):=by
  simp only [Sto.begin];rw [if_neg (by omega),H.b];simp only;rw [if_pos (keyN_ok i)]
 have fr:=frame_put (k:=keyN i) (keyN_len i) hy
 have K:=H.K.done (.put tBkt (keyN i) y)
 have F:=done_fine (c:=.put tBkt (keyN i) y) H.F ⟨by simp,by have:=keyN_len i;omega,by omega⟩
 have hr:=H.r
 rcases done_of hb with ⟨d,hl⟩|d
 ·rw [d] at e
  subst e
  exact .inl ⟨rfl,rfl,by omega,trivial,got_ne_none⟩
 ·rw [d] at e K F
  subst e
  exact .inr ⟨rfl,lacks_ne,bk_add H hi hy rfl rfl rfl rfl K F,rfl⟩
theorem bk_mark {s:Sto} {l:List BV} {room:Nat} (H:BK s l room) {i:Nat} (hi:i < 4) {X:Nat×Hs×Tx×Sto} (hX:AskQ s tDEL (kT (keyN i)) [] X):Ends s l room X (rPut (s.last+1)) (l++[⟨keyN i,s.last+1,true,[]⟩]) (s.last+1) True:=by
 have e:=bk_serve H hX (rd_del has_al (keyN_ok i)) rfl (by simp) (by simp)
 rw [serve7] at e
 have hb:s.begin (.mark tBkt (keyN i))=.ok (s.add tBkt (keyN i) true []):=by
  simp only [Sto.begin];rw [H.b];simp only;rw [if_pos (keyN_ok i)]
 have fr:=frame_mark (k:=keyN i) (keyN_len i)
 have K:=H.K.done (.mark tBkt (keyN i))
 have F:=done_fine (c:=.mark tBkt (keyN i)) H.F ⟨by simp,by have:=keyN_len i;omega⟩
 have hr:=H.r
 rcases done_of hb with ⟨d,hl⟩|d
 ·rw [d] at e
  subst e
  exact .inl ⟨rfl,rfl,by omega,trivial,got_ne_none⟩
 ·rw [d] at e K F
  subst e
  exact .inr ⟨rfl,lacks_ne,bk_add H hi (by simp) rfl rfl rfl rfl K F,rfl⟩
theorem bk_drop {s:Sto} {l:List BV} {room:Nat} (H:BK s l room) {i n:Nat} (h1:1≤n) (h2:n≤999999999) {X:Nat×Hs×Tx×Sto} (hX:AskQ s tDEL (kV (keyN i) n) [] X):Ends s l room X (goneB (findB l (keyN i) n) n) (l.eraseP (isV (keyN i) n)) s.last True:=by
 have e:=bk_serve H hX (rd_drop has_al (keyN_ok i) h1 h2) rfl (by simp) (by simp)
 rw [serve8] at e
 have ha:(s.vs tBkt (keyN i)).any (fun v=>v.num == n)=(findB l (keyN i) n).isSome:=by rw [H.v,vs_any]
 have fr:=frame_drop (k:=keyN i) (n:=n) (keyN_len i)
 have K:=H.K.done (.drop tBkt (keyN i) n)
 have F:=done_fine (c:=.drop tBkt (keyN i) n) H.F ⟨by simp,by have:=keyN_len i;omega⟩
 have hr:=H.r
 cases hf:findB l (keyN i) n with
 | none =>
  have hb:s.begin (.drop tBkt (keyN i) n)=.error 404:=by
   simp only [Sto.begin];rw [ha,hf];rfl
  have d:s.done (.drop tBkt (keyN i) n)=(404,s):=by unfold Sto.done;rw [hb]
  have el:l.eraseP (isV (keyN i) n)=l:=by
   rw [List.eraseP_of_forall_not]
   intro v hv hc
   have:=List.find?_eq_none.1 hf v hv
   exact this hc
  rw [d] at e
  subst e
  exact .inr ⟨rfl,none_ne,by rw [el];exact H,rfl⟩
 | some v =>
  have hb:s.begin (.drop tBkt (keyN i) n)=.ok (s.setVs tBkt (keyN i) ((s.vs tBkt (keyN i)).eraseP (fun v=>v.num == n))):=by
   simp only [Sto.begin];rw [ha,hf];rfl
  rcases done_of hb with ⟨d,hl⟩|d
  ·rw [d] at e
   subst e
   exact .inl ⟨rfl,rfl,by omega,trivial,got_ne_none⟩
  ·rw [d] at e K F
   subst e
   refine .inr ⟨rfl,lacks_ne,?_,rfl⟩
   exact { b := H.b
           v:=fun k=>by
             show (if tBkt=tBkt∧k=keyN i then _ else s.vs tBkt k)=_
             rw [vs_erase,H.v,H.v]
             by_cases hk:k=keyN i
             · rw [if_pos ⟨rfl,hk⟩,if_pos hk]
             · rw [if_neg (fun e=>hk e.2),if_neg hk]
           ks:=fun v hv=>H.ks v (List.mem_of_mem_eraseP hv)
           y:=fun v hv=>H.y v (List.mem_of_mem_eraseP hv)
           n:=Nat.le_trans (List.length_eraseP_le) H.n
           r:=H.r
           K:=K
           F:=F }
theorem bk_old {s:Sto} {l:List BV} {room:Nat} (H:BK s l room) {i n:Nat} (h1:1≤n) (h2:n≤999999999) {X:Nat×Hs×Tx×Sto} (hX:AskQ s tGET (kV (keyN i) n) [] X):ansT X=gotB (findB l (keyN i) n)∧X.2.2.2=s:=by
 have e:=bk_serve H hX (rd_old has_al (keyN_ok i) h1 h2) rfl (by simp) (by simp)
 rw [e,serve6]
 refine got_serve ?_
 unfold Sto.version
 rw [if_neg (by omega),H.v,vs_find]
 cases findB l (keyN i) n <;> rfl
theorem bk_get {s:Sto} {l:List BV} {room:Nat} (H:BK s l room) {i:Nat} {X:Nat×Hs×Tx×Sto} (hX:AskQ s tGET (kT (keyN i)) [] X):ansT X=gotB (latB l (keyN i))∧X.2.2.2=s:=by
 have e:=bk_serve H hX (rd_get has_al (keyN_ok i)) rfl (by simp) (by simp)
 rw [e,serve6]
 refine got_serve ?_
 unfold Sto.version
 rw [if_pos rfl,H.v,vs_last]
 cases latB l (keyN i) <;> rfl
theorem entB_key {l:List BV} {i:Nat} {e:Ent} (h:entB l i=some e):e.key=keyN i:=by
 unfold entB at h
 split at h
 ·cases h
 ·split at h
  ·cases h
  ·cases h;rfl
theorem lat_mem {l:List BV} {k:Tx} {v:BV} (h:latB l k=some v):v∈l∧v.key=k:=by
 have:=List.mem_of_getLast? h
 rw [List.mem_filter] at this
 exact ⟨this.1,by simpa using this.2⟩
theorem bk_lists {s:Sto} {l:List BV} {room:Nat} (H:BK s l room):Lists s tBkt [] [] (entsB l):=by
 constructor
 ·rw [entsB_eq,List.pairwise_filterMap]
  have:[0,1,2,3].Pairwise (fun i j=>keyN i < keyN j):=by decide
  exact this.imp fun hij b hb b' hb'=>by rw [entB_key hb,entB_key hb'];exact hij
 ·intro e
  rw [entsB_eq,List.mem_filterMap]
  constructor
  ·rintro ⟨i,_,hi⟩
   have hk:=entB_key hi
   unfold entB at hi
   cases hl:latB l (keyN i) with
   | none=>rw [hl] at hi;cases hi
   | some v =>
    rw [hl] at hi
    simp only at hi
    cases hm:v.mark with
    | true=>rw [hm] at hi;simp at hi
    | false =>
     rw [hm] at hi
     simp at hi
     subst hi
     have hne:keyN i≠[]:=fun e0=>by have:=keyN_ok i;rw [e0] at this;cases this
     exact ⟨v.ver,by rw [H.v,vs_last,hl];rfl,hm,by simp,by cases hkk:keyN i with
      | nil=>exact absurd hkk hne
      | cons x r=>simp,rfl,rfl⟩
  ·rintro ⟨v,h1,h2,_,_,h5,h6⟩
   rw [H.v,vs_last] at h1
   cases hl:latB l e.key with
   | none=>rw [hl] at h1;cases h1
   | some u =>
    rw [hl] at h1
    simp only [Option.map_some,Option.some.injEq] at h1
    subst h1
    obtain ⟨hm,hk⟩:=lat_mem hl
    obtain ⟨i,hi,hki⟩:=H.ks u hm
    rw [hk] at hki
    refine ⟨i, by have : i = 0 ∨ i = 1 ∨ i = 2 ∨ i = 3 := by omega
                  rcases this with rfl|rfl|rfl|rfl <;> simp,?_⟩
    unfold entB
    rw [← hki,hl]
    have h2':u.mark=false:=h2
    simp only
    rw [h2']
    obtain ⟨ek,en,es⟩:=e
    simp only at h5 h6
    subst h5 h6
    rfl
theorem entsB_len (l:List BV):(entsB l).length≤4:=by rw [entsB_eq];exact List.length_filterMap_le _ _
theorem bk_list {s:Sto} {l:List BV} {room:Nat} (H:BK s l room) {X:Nat×Hs×Tx×Sto} (hX:AskQ s tGET tABox [] X):ansT X=listB l∧X.2.2.2=s:=by
 obtain ⟨L,hL,e⟩:=(hX.serves tAl _ (rd_list has_al) (bk_may H rfl (by simp))).2 rfl
 have:=lists_uniq hL (bk_lists H)
 subst this
 have hl:=entsB_len l
 rw [e]
 refine ⟨?_,rfl⟩
 simp only [ansT,listR,listB]
 rw [List.take_of_length_le (by omega),decide_eq_false (by omega)]
 rfl
open Go.RowKit
open C (ret_bool ret_int ret_str enc enc_len)
theorem alQ_any (h a b:Nat) (s:Sto) (r:Roles) (m tg y:Tx) (h1:m.length≤1000) (h2:tg.length≤1000000000000000) (h4:y.length≤1000000) (X:Nat×Hs×Tx×Sto) (hX:AskQ s m tg y X) (Ks:Keys s) (w:World) (G:GL w) (H:HS h a b s r w) (hl:(headT tAl sAl 5000 m tg y).length≤9223372036854775807) :
  Calls Tryz.prog 25 #[.pointer (some ⟨h,0,none⟩),str m,str tg,str y] w fun e w'=>∃ r',e=.returned (str (ansT X))∧HS h a b X.2.2.2 r' w'∧Step r w r' w':=by
 have BH:Hid (Calls Tryz.prog 14 #[str tAl,str sAl,.int .i64 5000,str m,str tg,str y] w.drew fun e w'=>(e=.returned (str (headT tAl sAl 5000 m tg y))∧Below w.drew.heap.size w.drew w')∧w'.cell? ⟨h,0,none⟩=some (.pointer (some ⟨a,0,none⟩))):=Calls.mono (byHeader_any tAl sAl 5000 m tg y (by omega) (by simp) (by simp) h1 h2 h4 w.drew G.drew) fun e w' k=>⟨k,(k.2.cell (p:=⟨h,0,none⟩) H.hl).trans H.c⟩
 have DO:Hid (∀ W,GL W→LS a b two 5000 s r W→Calls Tryz.prog 16 #[.pointer (some ⟨a,0,none⟩),str (headT tAl sAl 5000 m tg y)] W fun e w'=>∃ r',e=.returned (str (ansT X))∧LS a b two 5000 X.2.2.2 r' w'∧Step r W r' w'):=fun W GW LW=>doQ_any a b two 5000 s r _ hl X hX Ks W GW LW
 have hc:=H.c
 have xd:w.drew.cell? ⟨h,0,none⟩=some (.pointer (some ⟨a,0,none⟩)):=hc
 have HH:Hid (HS h a b s r w):=H
 have HG:Hid (GL w):=G
 have hrh:=H.rh
 clear H
 clear hX Ks
 generalize ansT X=xt at *
 generalize headT tAl sAl 5000 m tg y=q at *
 go_enter Tryz.func25,Tryz.ntmps25
 go_wp2_with fail
 go_region_held3 (fun w'=>w'.cell? ⟨h,0,none⟩=some (.pointer (some ⟨a,0,none⟩))) (first|with_reducible exact xd|with_reducible exact x5|with_reducible exact x6)
  (first
   | (go_at_call 14;with_reducible refine Calls.mono BH.out ?_;rintro e w1 ⟨⟨rfl,b1⟩,x5⟩;have B1:=below_trans (below_drew w) b1)
   | (go_at_call 16;with_reducible refine Calls.mono (DO.out w1 (HG.out.call B1) (HH.out.L.below B1)) ?_;rintro e w2 ⟨r',rfl,L2,st2⟩;have x6:=st2.kept.cell x5 (by simp [hrh])))
 all_goals (
  go_wp2
  go_ret
  exact ⟨r',rfl,HH.out.step ((Step.of_below B1).trans st2) L2,(Step.of_below B1).trans st2⟩)
theorem full_any (h a b:Nat) (s:Sto) (r:Roles) (room:Nat) (_hr:room≤1000000) (w:World) (H:HS h a b s r w) :
  Calls Tryz.prog 37 #[.pointer (some ⟨h,0,none⟩),.int .i64 (room:Int)] w fun e w'=>e=.returned (.bool (decide (room < s.log.length+330)))∧w=w':=by
 have LG:Hid (_):=llog_any a b two 5000 s r w H.L
 have hc:=H.c
 have hf:=H.L.F.log
 clear H
 generalize s.log=lg at *
 go_enter Tryz.func37,Tryz.ntmps37
 go_wp2_with (go_at_call 21;refine Calls.mono LG.out ?_;rintro e w1 ⟨rfl,rfl⟩)
 go_ret
 refine ⟨ret_bool ?_,rfl⟩
 exact decide_eq_decide.2 (by omega)
theorem lenc_any (l:Tx) (p:Bool) (hl:l.length≤1000000000) (w:World) :
  Calls Tryz.prog 12 #[str l,.bool p] w fun e w'=>e=.returned (str (enc p l))∧Below w.heap.size w w':=by
 have C:Hid (_):=R.encode_r l p w hl
 go_enter Tryz.func12,Tryz.ntmps12
 go_wp2_with fail
 refine Calls.mono C.out ?_
 rintro e w1 ⟨rfl,b1⟩
 go_wp2
 go_ret
 exact ⟨rfl,b1⟩
abbrev i64 (c:Int):Prop:=-9223372036854775808≤c∧c≤9223372036854775807
theorem keyK_any (c:Int) (hc:i64 c) (w:World) :
  Calls Tryz.prog 45 #[.int .i64 c] w fun e w'=>e=.returned (str (keyN (pickP c 4)))∧Below w.heap.size w w':=by
 have PK:Hid (∀ W,Calls Tryz.prog 10 #[.int .i64 c,.int .i64 4] W fun e w'=>e=.returned (.int .i64 (pickP c 4:Int))∧W=w'):=fun W=>pick_any c hc 4 (by omega) (by omega) W
 have hp:=pickP_lt c (n:=4) (by omega)
 generalize pickP c 4=i at *
 have b0:Below w.heap.size w (w.alloc (.cells #[str [97],str [97,47,98],str [98,32,99],str [122,126]] 9)):=(Below.refl _ _).alloc (Nat.le_refl _) _
 have:i=0∨i=1∨i=2∨i=3:=by omega
 rcases this with rfl|rfl|rfl|rfl
 all_goals (
  go_enter Tryz.func45,Tryz.ntmps45
  go_wp2_with (go_at_call 10;refine Calls.mono (PK.out _) ?_;rintro e w1 ⟨rfl,rfl⟩)
  go_ret
  exact ⟨rfl,b0⟩)
theorem target_any (c:Int) (hc:i64 c) (w:World) :
  Calls Tryz.prog 26 #[.int .i64 c] w fun e w'=>e=.returned (str (kT (keyN (pickP c 4))))∧Below w.heap.size w w':=by
 have K:Hid (_):=keyK_any c hc w
 have hk:=keyN_len (pickP c 4)
 generalize keyN (pickP c 4)=k at *
 have EN:Hid (∀ W,Calls Tryz.prog 12 #[str k,.bool true] W fun e w'=>e=.returned (str (enc true k))∧Below W.heap.size W w'):=fun W=>lenc_any k true (by omega) W
 have HT:Hid (kT k=[47,97,108,115,98,111,120,47]++enc true k):=rfl
 rw [HT.out]
 have el:=(enc_len true k).2
 generalize enc true k=z at *
 go_enter Tryz.func26,Tryz.ntmps26
 go_wp2_with (first|(go_at_call 45;refine Calls.mono K.out ?_;rintro e w1 ⟨rfl,b1⟩)|(go_at_call 12;refine Calls.mono (EN.out _) ?_;rintro e w2 ⟨rfl,b2⟩))
 go_ret
 exact ⟨ret_str (by simp),below_trans b1 b2⟩
def bcell (v:BV):List Value:=[str v.key,.int .i64 (v.num:Int),.bool v.mark,str v.body]
def bcells (l:List BV):List Value:=l.flatMap bcell
theorem bcells_at:∀ (l:List BV) (k:Nat) (h:k < l.length),(bcells l)[k*4]?=some (str l[k].key)∧(bcells l)[k*4+1]?=some (.int .i64 (l[k].num:Int))∧(bcells l)[k*4+2]?=some (.bool l[k].mark)∧(bcells l)[k*4+3]?=some (str l[k].body)
 | v :: l,0,_=>⟨rfl,rfl,rfl,rfl⟩
 | v :: l,k+1,h=>by
  have:=bcells_at l k (by simpa using h)
  rw [show (k+1)*4=k*4+1+1+1+1 by omega]
  exact this
theorem bcells_snoc (l:List BV) (v:BV):bcells (l++[v])=bcells l++bcell v:=by simp [bcells]
abbrev brow (w:World) (B:Nat) (sl:Value) (l:List BV):Prop:=w.ownsRow B 120 4 sl l.length (bcells l)
theorem brow.sl {w:World} {B:Nat} {sl:Value} {l:List BV} (h:brow w B sl l):∃ a c,sl=.slice a l.length c∧l.length≤c:=by
 obtain ⟨a,cap,e,hc,_⟩:=row_view h
 exact ⟨a,cap,e,hc⟩
theorem brow.at {w:World} {B:Nat} {a:Option Addr} {n c:Nat} {l:List BV} (h:brow w B (.slice a n c) l) {k:Nat} (hk:k < l.length) :
  ∃ g,a=some ⟨g,0,none⟩∧B≤g∧g < w.heap.size∧w.cell? ⟨g,k*4,none⟩=some (str l[k].key)∧w.cell? ⟨g,k*4+1,none⟩=some (.int .i64 (l[k].num:Int))∧w.cell? ⟨g,k*4+2,none⟩=some (.bool l[k].mark)∧w.cell? ⟨g,k*4+3,none⟩=some (str l[k].body):=by
 have hb:=World.ownsRow.lt h
 have hc:=fun g hv=>World.ownsRow.cells h (g:=g) hv
 obtain ⟨h1,⟨e,hn⟩|⟨g,cap,cur,e,_⟩⟩:=h
 ·cases e;omega
 ·cases e
  obtain ⟨e0,e1,e2,e3⟩:=bcells_at l k hk
  refine ⟨g,rfl,(hb g rfl).1,(hb g rfl).2,?_,?_,?_,?_⟩
  ·have:=hc g rfl _ _ e0;rwa [row_add] at this
  ·have:=hc g rfl _ _ e1;rwa [row_add] at this
  ·have:=hc g rfl _ _ e2;rwa [row_add] at this
  ·have:=hc g rfl _ _ e3;rwa [row_add] at this
structure Bok (b:Nat) (l:List BV) (given:Nat) (sl:Value) (w:World):Prop where
 c0:w.cell? ⟨b,0,none⟩=some sl
 c1:w.cell? ⟨b,1,none⟩=some (.int .i64 (given:Int))
 fz:∀ j:Nat,w.frozen? ⟨b,j,none⟩=false
 row:brow w (b+1) sl l
theorem Bok.lt {b:Nat} {l:List BV} {given:Nat} {sl:Value} {w:World} (h:Bok b l given sl w):b < w.heap.size:=World.block_lt_of_cell? w ⟨b,0,none⟩ h.c0
theorem Bok.kept {S:Nat→Prop} {b:Nat} {l:List BV} {given:Nat} {sl:Value} {w w':World} (h:Bok b l given sl w) (k:Kept S w w') (hb:¬ S b) (hs:∀ g,sl.ownBlock=some g→¬ S g):Bok b l given sl w' :=
 ⟨k.cell h.c0 hb,k.cell h.c1 hb,fun j=>k.frozen (a:=⟨b,j,none⟩) h.lt (h.fz j) hb,k.row h.row hs⟩
theorem Bok.below {b:Nat} {l:List BV} {given:Nat} {sl:Value} {w w':World} (h:Bok b l given sl w) (k:Below w.heap.size w w'):Bok b l given sl w' :=
 h.kept (Kept.of_below k) (by have:=h.lt;omega) (fun g hg=>by have:=(World.ownsRow.lt h.row g hg).2;omega)
def PlaceOf (l:List BV) (o:Option BV) (i:Int):Prop:=(o=none∧i=-1)∨∃ (j:Nat) (h:j < l.length),i=j∧o=some l[j]
theorem lat_take {l:List BV} {k:Tx} {i:Nat} (h:i < l.length):latB (l.take (i+1)) k=if l[i].key=k then some l[i] else latB (l.take i) k:=by
 unfold latB
 rw [List.take_succ_eq_append_getElem h,List.filter_append]
 by_cases e:l[i].key=k
 ·rw [if_pos e,List.filter_cons_of_pos (by simp [e])];simp
 ·rw [if_neg e,List.filter_cons_of_neg (by simpa using e)];simp
theorem latest_any (b:Nat) (l:List BV) (given:Nat) (sl:Value) (k:Tx) (hl:l.length≤1000000) (w:World) (H:Bok b l given sl w) :
  Calls Tryz.prog 61 #[.pointer (some ⟨b,0,none⟩),str k] w fun e w'=>(∃ i,e=.returned (.int .i64 i)∧PlaceOf l (latB l k) i)∧w=w':=by
 obtain ⟨a,c,rfl,hc⟩:=H.row.sl
 have c0:=H.c0
 have HR:Hid (brow w (b+1) (.slice a l.length c) l):=H.row
 clear H
 go_enter Tryz.func61,Tryz.ntmps61
 go_wp2
 go_loopw [5,6] (fun v i wr=>∃ (x:Int) (n:Nat),v=.int .i64 x∧i=.int .i64 n∧n≤l.length∧PlaceOf l (latB (l.take n) k) x∧wr=w) (fun _ i _=>l.length - (intOf i).toNat)
 case atStart=>exact ⟨-1,0,rfl,rfl,Nat.zero_le _,.inl ⟨rfl,rfl⟩,rfl⟩
 case round =>
  obtain ⟨x,n,rfl,rfl,hn,hp,rfl⟩:=hrel
  have HP:Hid (PlaceOf l (latB (l.take n) k) x):=hp
  clear hp
  by_cases hlt:n < l.length
  ·obtain ⟨g,rfl,hB,hg,q0,_⟩:=HR.out.at hlt
   have HT:Hid (latB (l.take (n+1)) k=if l[n].key=k then some l[n] else latB (l.take n) k):=lat_take hlt
   have HN:Hid (∃ (j:Nat) (h:j < l.length),(n:Int)=j∧some l[n]=some l[j]):=⟨n,hlt,rfl,rfl⟩
   generalize hv:l[n]=vv at *
   obtain ⟨vk,vn,vm,vb⟩:=vv
   dsimp only at q0 HT
   clear hv
   by_cases hk:vk=k
   ·subst hk
    rw [if_pos rfl] at HT
    go_wp2
    go_roundw
    case rel=>exact ⟨n,n+1,rfl,by go_num,by omega,by rw [HT.out];exact .inr HN.out,trivial⟩
    case measure=>simp [intOf];omega
   ·have tk:(vk == k)=false:=by simpa using hk
    rw [if_neg hk] at HT
    go_wp2
    go_roundw
    case rel=>exact ⟨x,n+1,rfl,by go_num,by omega,by rw [HT.out];exact HP.out,trivial⟩
    case measure=>simp [intOf];omega
  ·obtain rfl:n=l.length:=by omega
   rw [List.take_length] at HP
   go_wp2
   go_ret
   exact ⟨⟨x,rfl,HP.out⟩,rfl⟩
def FirstOf (l:List BV) (k:Tx) (n:Nat) (i:Int):Prop:=(findB l k n=none∧i=-1)∨∃ (j:Nat) (h:j < l.length),i=j∧findB l k n=some l[j]∧l.eraseP (isV k n)=l.eraseIdx j
theorem findB_take {l:List BV} {k:Tx} {n i:Nat} (h:i < l.length) (h0:findB (l.take i) k n=none):findB (l.take (i+1)) k n=if isV k n l[i]=true then some l[i] else none:=by
 unfold findB at *
 rw [List.take_succ_eq_append_getElem h,List.find?_append,h0]
 simp only [Option.none_or,List.find?_cons,List.find?_nil]
 cases isV k n l[i] <;> rfl
theorem find_hit {l:List BV} {k:Tx} {n i:Nat} (h:i < l.length) (h0:findB (l.take i) k n=none) (h1:isV k n l[i]=true):findB l k n=some l[i]∧l.eraseP (isV k n)=l.eraseIdx i:=by
 unfold findB at *
 have hno:∀ v∈l.take i,¬ isV k n v=true:=fun v hv=>by have:=List.find?_eq_none.1 h0 v hv;exact this
 have e:l=l.take i++l[i] :: l.drop (i+1):=by rw [← List.drop_eq_getElem_cons h,List.take_append_drop]
 constructor
 ·conv=>lhs;rw [e]
  rw [List.find?_append,h0,Option.none_or,List.find?_cons_of_pos h1]
 ·have hl:(l.take i).length=i:=by simp;omega
  conv=>lhs;rw [e]
  rw [List.eraseP_append_right _ hno,List.eraseP_cons_of_pos h1,List.eraseIdx_eq_take_drop_succ]
theorem findK_any (b:Nat) (l:List BV) (given:Nat) (sl:Value) (k:Tx) (n:Nat) (hl:l.length≤1000000) (w:World) (H:Bok b l given sl w) :
  Calls Tryz.prog 58 #[.pointer (some ⟨b,0,none⟩),str k,.int .i64 (n:Int)] w fun e w'=>(∃ i,e=.returned (.int .i64 i)∧FirstOf l k n i)∧w=w':=by
 obtain ⟨a,c,rfl,hc⟩:=H.row.sl
 have c0:=H.c0
 have HR:Hid (brow w (b+1) (.slice a l.length c) l):=H.row
 clear H
 go_enter Tryz.func58,Tryz.ntmps58
 go_wp2
 go_loopw [7] (fun i wr=>∃ (m:Nat),i=.int .i64 m∧m≤l.length∧findB (l.take m) k n=none∧wr=w) (fun i _=>l.length - (intOf i).toNat)
 case atStart=>exact ⟨0,rfl,Nat.zero_le _,rfl,rfl⟩
 case round =>
  obtain ⟨m,rfl,hm,hp,rfl⟩:=hrel
  have HP:Hid (findB (l.take m) k n=none):=hp
  clear hp
  by_cases hlt:m < l.length
  ·obtain ⟨g,rfl,hB,hg,q0,q1,_⟩:=HR.out.at hlt
   have HT:Hid (findB (l.take (m+1)) k n=if isV k n l[m]=true then some l[m] else none):=findB_take hlt HP.out
   have HF:Hid (isV k n l[m]=true→FirstOf l k n m):=fun e=>.inr ⟨m,hlt,rfl,(find_hit hlt HP.out e).1,(find_hit hlt HP.out e).2⟩
   have HV:Hid (isV k n l[m]=(l[m].key == k && l[m].num == n)):=rfl
   generalize isV k n l[m]=t at *
   generalize hv:l[m]=vv at *
   obtain ⟨vk,vn,vm,vb⟩:=vv
   dsimp only at q0 q1 HT HV
   clear hv
   by_cases hk:vk=k
   ·subst hk
    by_cases hn:vn=n
    ·subst hn
     have ht:t=true:=by rw [HV.out];simp
     go_wp2
     go_ret
     exact ⟨⟨m,rfl,HF.out ht⟩,rfl⟩
    ·have tn:((vn:Int) == (n:Int))=false:=by simp;omega
     have ht:t=false:=by rw [HV.out];simpa using hn
     go_wp2
     go_roundw
     case rel=>exact ⟨m+1,by go_num,by omega,by rw [HT.out,ht];rfl,trivial⟩
     case measure=>simp [intOf];omega
   ·have tk:(vk == k)=false:=by simpa using hk
    have ht:t=false:=by rw [HV.out,tk];rfl
    go_wp2
    go_roundw
    case rel=>exact ⟨m+1,by go_num,by omega,by rw [HT.out,ht];rfl,trivial⟩
    case measure=>simp [intOf];omega
  ·obtain rfl:m=l.length:=by omega
   rw [List.take_length] at HP
   go_wp2
   go_ret
   exact ⟨⟨-1,rfl,.inl ⟨HP.out,rfl⟩⟩,rfl⟩
structure BFit (l:List BV):Prop where
 n:l.length≤100000
 v:∀ v∈l,v.num≤100000∧v.body.length≤300
theorem gotK_book (b:Nat) (l:List BV) (given:Nat) (sl:Value) (o:Option BV) (i:Int) (hp:PlaceOf l o i) (hf:BFit l) (w:World) (E:R.Env w) (H:Bok b l given sl w) :
  Calls Tryz.prog 59 #[.pointer (some ⟨b,0,none⟩),.int .i64 i] w fun e w'=>e=.returned (str (gotB o))∧Below w.heap.size w w':=by
 obtain ⟨a,c,rfl,hc⟩:=H.row.sl
 have c0:=H.c0
 have hln:=hf.n
 rcases hp with ⟨rfl,rfl⟩|⟨j,hj,rfl,rfl⟩
 ·have HG:Hid (gotB none=[52,48,52,32,78,111,110,101,10,10]):=noneT
  rw [HG.out]
  go_enter Tryz.func59,Tryz.ntmps59
  go_wp2
  go_ret
  exact ⟨rfl,Below.refl _ _⟩
 ·obtain ⟨g,rfl,hB,hg,q0,q1,q2,q3⟩:=H.row.at hj
  have hv:=hf.v _ (List.getElem_mem hj)
  have HG:Hid (gotB (some l[j])=if l[j].mark=true then rNone else rGot l[j].num l[j].body):=rfl
  rw [HG.out]
  clear HG H
  generalize l[j]=vv at *
  obtain ⟨vk,vn,vm,vb⟩:=vv
  dsimp only at q0 q1 q2 q3 hv ⊢
  have GK:Hid (∀ W,Below w.heap.size w W→Calls Tryz.prog 18 #[.int .i64 (vn:Int),str vb] W fun e w'=>e=.returned (str (rGot vn vb))∧Below W.heap.size W w'):=fun W hW=>gotK_any vn vb (by omega) (by omega) W (E.below hW E.sz)
  cases vm with
  | true =>
   rw [if_pos rfl,noneT]
   go_enter Tryz.func59,Tryz.ntmps59
   go_wp2
   go_ret
   exact ⟨rfl,Below.refl _ _⟩
  | false =>
   rw [if_neg (by simp)]
   generalize rGot vn vb=z at *
   have hbl:b < w.drew.heap.size:=World.block_lt_of_cell? w ⟨b,0,none⟩ c0
   have hgl:g < w.drew.heap.size:=hg
   have xd:w.drew.cell? ⟨b,0,none⟩=some (.slice (some ⟨g,0,none⟩) l.length c)∧w.drew.cell? ⟨g,j*4+1,none⟩=some (.int .i64 (vn:Int))∧w.drew.cell? ⟨g,j*4+3,none⟩=some (str vb):=⟨c0,q1,q3⟩
   have GK2:Hid (Calls Tryz.prog 18 #[.int .i64 (vn:Int),str vb] w.drew fun e w'=>(e=.returned (str z)∧Below w.drew.heap.size w.drew w')∧(w'.cell? ⟨b,0,none⟩=some (.slice (some ⟨g,0,none⟩) l.length c)∧w'.cell? ⟨g,j*4+1,none⟩=some (.int .i64 (vn:Int))∧w'.cell? ⟨g,j*4+3,none⟩=some (str vb))):=Calls.mono (GK.out w.drew (below_drew w)) fun e w' h=>⟨h,(h.2.cell (p:=⟨b,0,none⟩) hbl).trans xd.1,(h.2.cell (p:=⟨g,j*4+1,none⟩) hgl).trans xd.2.1,(h.2.cell (p:=⟨g,j*4+3,none⟩) hgl).trans xd.2.2⟩
   clear GK
   go_enter Tryz.func59,Tryz.ntmps59
   go_wp2_with fail
   go_region_held3 (fun w'=>w'.cell? ⟨b,0,none⟩=some (.slice (some ⟨g,0,none⟩) l.length c)∧w'.cell? ⟨g,j*4+1,none⟩=some (.int .i64 (vn:Int))∧w'.cell? ⟨g,j*4+3,none⟩=some (str vb)) (first|with_reducible exact xd|with_reducible exact x5) ((go_at_call 18;with_reducible refine Calls.mono GK2.out ?_;rintro e w1 ⟨⟨rfl,b1⟩,x5⟩))
   all_goals (
    go_wp2
    go_ret
    exact ⟨rfl,below_trans (below_drew w) b1⟩)
theorem brow.mono {w:World} {B B':Nat} {v:Value} {l:List BV} (h:brow w B v l) (hb:B'≤B):brow w B' v l:=by
 obtain ⟨h1,h2|⟨g,cap,cur,e,hg,r⟩⟩:=h
 ·exact ⟨h1,.inl h2⟩
 ·exact ⟨h1,.inr ⟨g,cap,cur,e,Nat.le_trans hb hg,r⟩⟩
theorem infoB:(Tryz.prog.info? 120).map (fun i=>(i.zero,i.size,i.bytes))=some (some (.agg #[.string ⟨#[]⟩,.int .i64 0,.bool false,.string ⟨#[]⟩]),4,48):=by kernel_rfl
abbrev bvC (v:BV):Obj:=.cells #[str v.key,.int .i64 (v.num:Int),.bool v.mark,str v.body] 120
theorem bapp_law {W:World} {ops:Array Oper} {rest:List Oper} {o:Oper} {a:Act} {Q:Exit→Act→World→Prop} (hgd:o.guard=none) (s x:Operand)
  (ho:o.op=.call { callee:=.builtin .append,args:=#[s,x],argTypes:=#[45,45] })
  (B:Nat) (l:List BV) (bv:BV) (v:Value) (hs:a.eval s=v) (hown:brow W B v l) (H:Nat) (hx:a.eval x=.slice (some ⟨H,0,none⟩) 1 1) (hH:W.heap.size=H) (hlen:l.length≤1000000000) (hB:B≤W.heap.size)
  (h:∀ v' w',brow w' B v' (l++[bv])→Below B (W.alloc (bvC bv)) w'→wpList Tryz.prog ops Q rest (a.put o.dst v') w'):wpList Tryz.prog ops Q (o :: rest) a (W.alloc (bvC bv)):=by
 subst hH
 obtain ⟨i0,hi,hz0,hz1,hz2⟩:=info_parts infoB
 have hown':brow (W.alloc (bvC bv)) B v l:=World.ownsRow.alloc hown _
 refine wpList_append_lies _ hgd s x 45 ho B 120 i0 (.agg #[.string ⟨#[]⟩,.int .i64 0,.bool false,.string ⟨#[]⟩]) 4 48 Tryz.underlying45 hi hz0 hz1 hz2 rfl (by omega) v l.length (bcells l) hs hown' ⟨W.heap.size,0,none⟩ 1 1 (bcell bv) hx (by simp [bcell])
  (fun j u hu=>World.news_of_block (heap_alloc_new _ _) j u (by simpa [bcell] using hu)) (by intro u hu;simp [bcell] at hu;rcases hu with rfl|rfl|rfl|rfl <;> rfl) (by omega) (by unfold maxLen;omega) (by omega) (by simp;omega) _ rfl ?_
 intro g cap w' h1 h2 _ _
 refine h _ w' ?_ ((Below.refl B _).grown h2 (by simp;omega) (fun k hk=>(World.ownsRow.lt hown' k hk).1))
 show World.ownsRow _ _ _ _ _ _ _
 rw [bcells_snoc,List.length_append]
 exact h1
theorem cut_no {l:List BV} {j n:Nat} (h:n < l.length) (hne:n≠j):(l.take (n+1)).eraseIdx j=(l.take n).eraseIdx j++[l[n]]:=by
 rw [List.take_succ_eq_append_getElem h]
 by_cases hj:j < n
 ·rw [List.eraseIdx_append_of_lt_length (by simp;omega)]
 ·rw [List.eraseIdx_of_length_le (by simp;omega),List.eraseIdx_of_length_le (by simp;omega)]
theorem cut_yes {l:List BV} {n:Nat} (h:n < l.length):(l.take (n+1)).eraseIdx n=(l.take n).eraseIdx n:=by
 have e:(l.take n).length=n:=by simp;omega
 rw [List.take_succ_eq_append_getElem h,List.eraseIdx_append_of_length_le (by omega),e,List.eraseIdx_of_length_le (l:=l.take n) (by omega)]
 simp
theorem dropK_any (b:Nat) (l:List BV) (given:Nat) (sl:Value) (j:Nat) (hl:l.length≤1000000) (hj:j≤1000000) (w:World) (H:Bok b l given sl w) :
  Calls Tryz.prog 62 #[.pointer (some ⟨b,0,none⟩),.int .i64 (j:Int)] w fun e w'=>∃ sl',e=.returned (.tuple #[])∧Bok b (l.eraseIdx j) given sl' w'∧Kept (·=b) w w'∧(∀ g,sl'.ownBlock=some g→w.heap.size≤g):=by
 obtain ⟨a,c,rfl,hc⟩:=H.row.sl
 have HH:Hid (Bok b l given (.slice a l.length c) w):=H
 have hbl:=H.lt
 clear H
 go_enter Tryz.func62,Tryz.ntmps62
 go_wp2
 go_loopw [4,5] (fun v i wr=>∃ n:Nat,i=.int .i64 n∧n≤l.length∧brow wr w.heap.size v ((l.take n).eraseIdx j)∧Below w.heap.size w wr) (fun _ i _=>l.length - (intOf i).toNat)
 case atStart=>exact ⟨0,rfl,Nat.zero_le _,World.ownsRow_nil _ _ _ _,Below.refl _ _⟩
 case round =>
  obtain ⟨n,rfl,hn,hr,hb⟩:=hrel
  have hsz:=hb.size
  have HW:=HH.out.below hb
  have c0:=HW.c0
  obtain ⟨va,vc,rfl,hvc⟩:=brow.sl hr
  have hlz:((l.take n).eraseIdx j).length≤1000000:=Nat.le_trans (List.length_eraseIdx_le _ _) (by simp;omega)
  by_cases hlt:n < l.length
  ·by_cases hne:n=j
   ·subst hne
    have HC:Hid ((l.take (n+1)).eraseIdx n=(l.take n).eraseIdx n):=cut_yes hlt
    clear HW
    go_wp2
    go_roundw
    case rel=>exact ⟨n+1,by go_num,by omega,by rw [HC.out];exact hr,hb⟩
    case measure=>simp [intOf];omega
   ·obtain ⟨g,rfl,hB,hg,q0,q1,q2,q3⟩:=HW.row.at hlt
    have HC:Hid ((l.take (n+1)).eraseIdx j=(l.take n).eraseIdx j++[l[n]]):=cut_no hlt hne
    have tn:((n:Int) == (j:Int))=false:=by simp;omega
    clear HW
    generalize l[n]=vv at *
    generalize (l.take n).eraseIdx j=zz at *
    obtain ⟨vk,vn,vm,vb⟩:=vv
    dsimp only at q0 q1 q2 q3
    go_wp2_with (at_builtin;refine bapp_law rfl _ _ rfl w.heap.size zz ⟨vk,vn,vm,vb⟩ (.slice va zz.length vc) rfl hr wr.heap.size rfl rfl (by omega) hsz ?_;intro v' w2 hr3 hb3)
    go_roundw
    case rel=>exact ⟨n+1,by go_num,by omega,by rw [HC.out];exact hr3,(hb.alloc hsz _).trans hb3⟩
    case measure=>simp [intOf];omega
  ·obtain rfl:n=l.length:=by omega
   rw [List.take_length] at hr
   have fz:=HW.fz
   have c1:=HW.c1
   have k2:∀ v,Kept (·=b) w (wr.setCell ⟨b,0,none⟩ v):=fun v=>((Kept.of_below hb).mono (fun g hg e=>absurd hg (by omega))).setCell b 0 v (fun _=>rfl)
   have FIN:Hid (Bok b (l.eraseIdx j) given (.slice va (l.eraseIdx j).length vc) (wr.setCell ⟨b,0,none⟩ (.slice va (l.eraseIdx j).length vc))∧Kept (·=b) w (wr.setCell ⟨b,0,none⟩ (.slice va (l.eraseIdx j).length vc))):=by
    refine ⟨⟨by simp [go_sem,c0],by simp [go_sem,c1],fun i=>by simp [fz],?_⟩,k2 _⟩
    have hr':brow wr (b+1) (.slice va (l.eraseIdx j).length vc) (l.eraseIdx j):=brow.mono hr (by omega)
    exact ((Kept.refl (·=b) wr).setCell b 0 _ (fun _=>rfl)).row hr' (fun g hg e=>by have:=(World.ownsRow.lt hr' g hg).1;omega)
   have OWN:Hid (∀ g,(Value.slice va (l.eraseIdx j).length vc).ownBlock=some g→w.heap.size≤g):=fun g hg=>(World.ownsRow.lt hr g hg).1
   clear HW hr k2 c1 hlz
   go_wp2
   go_end0
   exact ⟨_,rfl,FIN.out.1,FIN.out.2,OWN.out⟩
theorem pick_self {n:Nat} (h:n < 4):pickP (n:Int) 4=n:=by
 unfold pickP
 rw [if_neg (by omega),Int.toNat_natCast]
 exact Nat.mod_eq_of_lt h
theorem ents_fit {l:List BV} (hf:BFit l) (n:Nat):∀ e∈entsTo l n,EntFit e:=by
 intro e he
 unfold entsTo at he
 rw [List.mem_filterMap] at he
 obtain ⟨i,_,hi⟩:=he
 unfold entB at hi
 cases hl:latB l (keyN i) with
 | none=>rw [hl] at hi;cases hi
 | some v =>
  rw [hl] at hi
  simp only at hi
  split at hi
  ·cases hi
  ·cases hi
   have hm:v∈l:=(List.mem_filter.1 (List.mem_of_getLast? hl)).1
   have:=hf.v v hm
   have:=keyN_len i
   exact ⟨by simp only;omega,by simp only;omega,by simp only;omega⟩
theorem ents_len (l:List BV) (n:Nat):(entsTo l n).length≤n:=by
 have:=List.length_filterMap_le (entB l) (List.range n)
 rw [List.length_range] at this
 exact this
theorem listB_eq (l:List BV):listB l=[50,48,48,32,79,75,10,108,101,110,103,116,104,58,32]++Lib.itoa ((listT (entsB l)).length:Int)++[10,109,111,114,101,58,32,102,97,108,115,101,10,10]++listT (entsB l):=by
 unfold listB respT
 rw [told200,if_pos rfl]
 simp [hLine,lenT]
theorem listK_any (b:Nat) (l:List BV) (given:Nat) (sl:Value) (hf:BFit l) (w:World) (G:GL w) (H:Bok b l given sl w) :
  Calls Tryz.prog 60 #[.pointer (some ⟨b,0,none⟩)] w fun e w'=>e=.returned (str (listB l))∧Below w.heap.size w w':=by
 obtain ⟨a,c,rfl,hc⟩:=H.row.sl
 have HH:Hid (Bok b l given (.slice a l.length c) w):=H
 have HF:Hid (BFit l):=hf
 have HE:Hid (∀ W,Below w.heap.size w W→R.Env W):=fun W hW=>(G.call hW).env
 have hln:=hf.n
 have hbl:=H.lt
 clear H hf G
 go_enter Tryz.func60,Tryz.ntmps60
 go_wp2
 go_loopw [3,4] (fun v i wr=>∃ n:Nat,i=.int .i64 n∧n≤4∧v=str (listT (entsTo l n))∧Below w.heap.size w wr) (fun _ i _=>4 - (intOf i).toNat)
 case atStart=>exact ⟨0,rfl,by omega,rfl,Below.refl _ _⟩
 case round =>
  obtain ⟨n,rfl,hn,rfl,hb⟩:=hrel
  have hsz:=hb.size
  have hlt0:(listT (entsTo l n)).length≤800:=by
   have h1:=list_len (ents_fit HF.out n)
   have h2:=ents_len l n
   omega
  by_cases hn4:n < 4
  ·have HT:Hid (listT (entsTo l (n+1))=listT (entsTo l n)++listT (entB l n).toList):=by show _=_;rw [ents_succ];simp [listT]
   have HEN:Hid (entB l n=match latB l (keyN n) with|none=>none|some v=>if v.mark=true then none else some ⟨keyN n,v.num,v.body.length⟩):=rfl
   generalize listT (entsTo l n)=tx at *
   have K:Hid (∀ W,Calls Tryz.prog 45 #[.int .i64 (n:Int)] W fun e w'=>e=.returned (str (keyN n))∧Below W.heap.size W w'):=fun W=>by
    have:=keyK_any (n:Int) (by constructor <;> omega) W
    rwa [pick_self hn4] at this
   have LA:Hid (∀ W,Below w.heap.size w W→Calls Tryz.prog 61 #[.pointer (some ⟨b,0,none⟩),str (keyN n)] W fun e w'=>(∃ i,e=.returned (.int .i64 i)∧PlaceOf l (latB l (keyN n)) i)∧W=w'):=fun W hW=>latest_any b l given (.slice a l.length c) (keyN n) (by omega) W (HH.out.below hW)
   have hkl:=keyN_len n
   generalize hkn:keyN n=kk at *
   clear hkn
   go_wp2_with fail
   refine Calls.mono (K.out _) ?_
   rintro e w1 ⟨rfl,b1⟩
   have hb1:=below_trans hb b1
   go_wp2_with fail
   refine Calls.mono (LA.out w1 hb1) ?_
   rintro e w2 ⟨⟨i,rfl,hp⟩,rfl⟩
   have HB1:=HH.out.below hb1
   have c0:=HB1.c0
   rcases hp with ⟨hp,rfl⟩|⟨j,hj,rfl,hp⟩
   ·have HT2:Hid (listT (entsTo l (n+1))=tx):=by show _=_;rw [HT.out,HEN.out,hp];simp [listT]
    clear HT HEN hp LA K HB1
    go_wp2
    go_roundw
    case rel=>exact ⟨n+1,by go_num,by omega,by rw [HT2.out],hb1⟩
    case measure=>simp [intOf];omega
   ·obtain ⟨g,rfl,hB,hg,q0,q1,q2,q3⟩:=HB1.row.at hj
    have hv:=HF.out.v _ (List.getElem_mem hj)
    rw [hp] at HEN
    clear HB1 hp LA
    generalize l[j]=vv at *
    obtain ⟨vk,vn,vm,vb⟩:=vv
    dsimp only at q0 q1 q2 q3 hv HEN
    cases vm with
    | true =>
     have HT2:Hid (listT (entsTo l (n+1))=tx):=by show _=_;rw [HT.out,HEN.out];simp [listT]
     clear HT HEN K
     go_wp2
     go_roundw
     case rel=>exact ⟨n+1,by go_num,by omega,by rw [HT2.out],hb1⟩
     case measure=>simp [intOf];omega
    | false =>
     have HT2:Hid (listT (entsTo l (n+1))=tx++linT ⟨kk,vn,vb.length⟩):=by show _=_;rw [HT.out,HEN.out];simp [listT]
     have HLN:Hid (linT ⟨kk,vn,vb.length⟩=enc false kk++[32]++Lib.itoa (vn:Int)++[32]++Lib.itoa (vb.length:Int)++[10]):=rfl
     clear HT HEN
     have l1:=(enc_len false kk).2
     have l2:=itoa_len (n:=vn) (by omega)
     have l3:=itoa_len (n:=vb.length) (by omega)
     have I1:Hid (∀ V,R.Env V→Calls Tryz.prog 34 #[.int .i64 (vn:Int)] V fun e w'=>e=.returned (str (Lib.itoa (vn:Int)))∧Below V.heap.size V w'):=fun V E=>R.itoa_r vn V E (by omega)
     have I2:Hid (∀ V,R.Env V→Calls Tryz.prog 34 #[.int .i64 (vb.length:Int)] V fun e w'=>e=.returned (str (Lib.itoa (vb.length:Int)))∧Below V.heap.size V w'):=fun V E=>R.itoa_r vb.length V E (by omega)
     have EN:Hid (∀ V,Calls Tryz.prog 12 #[str kk,.bool false] V fun e w'=>e=.returned (str (enc false kk))∧Below V.heap.size V w'):=fun V=>lenc_any kk false (by omega) V
     generalize enc false kk=t0 at *
     generalize Lib.itoa (vn:Int)=t1 at *
     generalize Lib.itoa (vb.length:Int)=t2 at *
     have n1:¬ 9223372036854775807 < tx.length+t0.length:=by omega
     have n2:¬ 9223372036854775806 < tx.length+t0.length:=by omega
     have n3:¬ 9223372036854775807 < tx.length+t0.length+1:=by omega
     have n4:¬ 9223372036854775806 < tx.length+t0.length+1:=by omega
     have n5:¬ 9223372036854775807 < tx.length+t0.length+1+t1.length:=by omega
     have n6:¬ 9223372036854775806 < tx.length+t0.length+1+t1.length:=by omega
     have n7:¬ 9223372036854775807 < tx.length+t0.length+1+t1.length+1:=by omega
     have n8:¬ 9223372036854775806 < tx.length+t0.length+1+t1.length+1:=by omega
     have n9:¬ 9223372036854775807 < tx.length+t0.length+1+t1.length+1+t2.length:=by omega
     have n10:¬ 9223372036854775806 < tx.length+t0.length+1+t1.length+1+t2.length:=by omega
     have n11:¬ 9223372036854775807 < tx.length+t0.length+1+t1.length+1+t2.length+1:=by omega
     have n12:¬ 9223372036854775806 < tx.length+t0.length+1+t1.length+1+t2.length+1:=by omega
     have hb1l:b < w1.drew.heap.size:=World.block_lt_of_cell? w1 ⟨b,0,none⟩ c0
     have hgl:g < w1.drew.heap.size:=hg
     have xd:w1.drew.cell? ⟨b,0,none⟩=some (.slice (some ⟨g,0,none⟩) l.length c)∧w1.drew.cell? ⟨g,j*4+1,none⟩=some (.int .i64 (vn:Int))∧w1.drew.cell? ⟨g,j*4+3,none⟩=some (str vb):=⟨c0,q1,q3⟩
     have HS:Hid (∀ V,Below w1.drew.heap.size w1.drew V→V.cell? ⟨b,0,none⟩=some (.slice (some ⟨g,0,none⟩) l.length c)∧V.cell? ⟨g,j*4+1,none⟩=some (.int .i64 (vn:Int))∧V.cell? ⟨g,j*4+3,none⟩=some (str vb)):=fun V hV=>⟨(hV.cell (p:=⟨b,0,none⟩) hb1l).trans xd.1,(hV.cell (p:=⟨g,j*4+1,none⟩) hgl).trans xd.2.1,(hV.cell (p:=⟨g,j*4+3,none⟩) hgl).trans xd.2.2⟩
     have HEV:Hid (∀ V,Below w1.drew.heap.size w1.drew V→R.Env V):=fun V hV=>HE.out V (below_trans (below_trans hb1 (below_drew w1)) hV)
     go_wp2_with fail
     go_region_held3 (fun w'=>w'.cell? ⟨b,0,none⟩=some (.slice (some ⟨g,0,none⟩) l.length c)∧w'.cell? ⟨g,j*4+1,none⟩=some (.int .i64 (vn:Int))∧w'.cell? ⟨g,j*4+3,none⟩=some (str vb)) (first|with_reducible exact xd|with_reducible exact y3|with_reducible exact y4|with_reducible exact y5|with_reducible exact y6)
      ((first
       | (go_at_call 45;with_reducible refine Calls.mono (K.out w1.drew) ?_;rintro e w3 ⟨rfl,b3⟩;have y3:=HS.out w3 b3)
       | (go_at_call 12;with_reducible refine Calls.mono (EN.out w3) ?_;rintro e w4 ⟨rfl,b4⟩;have b34:=below_trans b3 b4;have y4:=HS.out w4 b34)
       | (go_at_call 34;with_reducible refine Calls.mono (I1.out w4 (HEV.out w4 b34)) ?_;rintro e w5 ⟨rfl,b5⟩;have b35:=below_trans b34 b5;have y5:=HS.out w5 b35)
       | (go_at_call 34;with_reducible refine Calls.mono (I2.out w5 (HEV.out w5 b35)) ?_;rintro e w6 ⟨rfl,b6⟩;have b36:=below_trans b35 b6;have y6:=HS.out w6 b36)))
     all_goals (
      have BB:Below w.heap.size w w6:=below_trans (below_trans hb1 (below_drew w1)) b36
      clear b3 b4 b5 b6 b34 b35 b36 y3 y4 y5 y6 xd HS HEV K EN I1 I2 c0 q0 q1 q2 q3
      go_wp2
      go_roundw
      case rel=>exact ⟨n+1,by go_num,by omega,by rw [HT2.out,HLN.out];exact congrArg Value.string (by apply ByteArray.ext;simp),BB⟩
      case measure=>simp [intOf];omega)
  ·obtain rfl:n=4:=by omega
   have HL:Hid (listB l=[50,48,48,32,79,75,10,108,101,110,103,116,104,58,32]++Lib.itoa ((listT (entsTo l 4)).length:Int)++[10,109,111,114,101,58,32,102,97,108,115,101,10,10]++listT (entsTo l 4)):=listB_eq l
   generalize listT (entsTo l 4)=tx at *
   have l3:=itoa_len (n:=tx.length) (by omega)
   have I1:Hid (∀ V,R.Env V→Calls Tryz.prog 34 #[.int .i64 (tx.length:Int)] V fun e w'=>e=.returned (str (Lib.itoa (tx.length:Int)))∧Below V.heap.size V w'):=fun V E=>R.itoa_r tx.length V E (by omega)
   generalize Lib.itoa (tx.length:Int)=t1 at *
   go_wp2_with (go_at_call 34;refine Calls.mono (I1.out _ (HE.out _ hb)) ?_;rintro e w3 ⟨rfl,b3⟩)
   go_ret
   exact ⟨by rw [HL.out];exact ret_str (by simp),below_trans hb b3⟩
theorem cutK_all (s:Tx) (n:Nat) (_hn:n≤1000000) (w:World) :
  Calls Tryz.prog 9 #[str s,.int .i64 (n:Int)] w fun e w'=>e=.returned (str (s.take n))∧w=w':=by
 by_cases h:n < s.length
 ·have t1:decide ((n:Int) < (s.length:Int))=true:=by simp;omega
  go_enter Tryz.func9,Tryz.ntmps9
  go_wp2
  go_ret
  exact ⟨ret_str (Lib.extract_from_zero _ _),rfl⟩
 ·have t1:decide ((n:Int) < (s.length:Int))=false:=by simp;omega
  have HR:Hid (s.take n=s):=List.take_of_length_le (by omega)
  go_enter Tryz.func9,Tryz.ntmps9
  go_wp2
  go_ret
  exact ⟨ret_str HR.out.symm,rfl⟩
structure StP where
 kind:Int
 key:Int
 n:Int
 body:Tx
structure StFit (o:StP):Prop where
 kind:i64 o.kind
 key:i64 o.key
 n:i64 o.n
abbrev StP.v (o:StP):Value:=.agg #[.int .i64 o.kind,.int .i64 o.key,.int .i64 o.n,str o.body]
abbrev stC (o:StP):Obj:=.cells #[.int .i64 o.kind,.int .i64 o.key,.int .i64 o.n,str o.body] 50
def stI (o:StP):Nat:=pickP o.key 4
def stN (o:StP) (g:Nat):Nat:=1+pickP o.n (g+1)
def stAsk (o:StP) (g:Nat):Tx×Tx×Tx :=
 if o.kind=1 then (tPUT,kT (keyN (stI o)),o.body.take 300)
 else if o.kind=2 then (tDEL,kT (keyN (stI o)),[])
 else if o.kind=3 then (tDEL,kV (keyN (stI o)) (stN o g),[])
 else if o.kind=4 then (tGET,kV (keyN (stI o)) (stN o g),[])
 else if o.kind=5 then (tGET,tABox,[])
 else (tGET,kT (keyN (stI o)),[])
def stWant (l:List BV) (o:StP) (g:Nat):Tx :=
 if o.kind=1 then rPut (g+1)
 else if o.kind=2 then rPut (g+1)
 else if o.kind=3 then goneB (findB l (keyN (stI o)) (stN o g)) (stN o g)
 else if o.kind=4 then gotB (findB l (keyN (stI o)) (stN o g))
 else if o.kind=5 then listB l
 else gotB (latB l (keyN (stI o)))
def stTurn (l:List BV) (o:StP) (g:Nat):List BV :=
 if o.kind=1 then l++[⟨keyN (stI o),g+1,false,o.body.take 300⟩]
 else if o.kind=2 then l++[⟨keyN (stI o),g+1,true,[]⟩]
 else if o.kind=3 then l.eraseP (isV (keyN (stI o)) (stN o g))
 else l
def stGiven (o:StP) (g:Nat):Nat:=if o.kind=1∨o.kind=2 then g+1 else g
def stChg (o:StP):Prop:=o.kind=1∨o.kind=2∨o.kind=3
theorem stN_bd {s:Sto} {l:List BV} {room:Nat} (H:BK s l room) (o:StP):1≤stN o s.last∧stN o s.last≤999999999:=by
 have h1:=pickP_lt o.n (n:=s.last+1) (by omega)
 have h2:=H.F.last;have h3:=H.F.log
 unfold stN
 omega
theorem step_ends {s:Sto} {l:List BV} {room:Nat} (H:BK s l room) (o:StP) {X:Nat×Hs×Tx×Sto} (hX:AskQ s (stAsk o s.last).1 (stAsk o s.last).2.1 (stAsk o s.last).2.2 X) :
  Ends s l room X (stWant l o s.last) (stTurn l o s.last) (stGiven o s.last) (stChg o):=by
 obtain ⟨n1,n2⟩:=stN_bd H o
 have hi:stI o < 4:=pickP_lt o.key (by omega)
 have got:∀ want,ansT X=want→want≠rLacks→X.2.2.2=s→Ends s l room X want l s.last (stChg o):=fun want h1 h2 h3=>.inr ⟨h1,h2,by rw [h3];exact H,by rw [h3]⟩
 by_cases h1:o.kind=1
 ·simp only [stAsk,stWant,stTurn,stGiven,h1,true_or,if_true] at hX ⊢
  have:=bk_put H hi (y:=o.body.take 300) (by simp;omega) hX
  exact this.imp (fun ⟨a,b,c,_,e⟩=>⟨a,b,c,.inl h1,e⟩) id
 by_cases h2:o.kind=2
 ·simp only [stAsk,stWant,stTurn,stGiven,h2,or_true,if_true] at hX ⊢
  have:=bk_mark H hi hX
  exact this.imp (fun ⟨a,b,c,_,e⟩=>⟨a,b,c,.inr (.inl h2),e⟩) id
 have hg : stGiven o s.last = s.last := if_neg (by rintro (e | e)
                                                   · exact h1 e
                                                   · exact h2 e)
 rw [hg]
 by_cases h3:o.kind=3
 ·simp only [stAsk,stWant,stTurn,if_neg h1,if_neg h2,if_pos h3] at hX ⊢
  have:=bk_drop H n1 n2 hX
  exact this.imp (fun ⟨a,b,c,_,e⟩=>⟨a,b,c,.inr (.inr h3),e⟩) id
 by_cases h4:o.kind=4
 ·simp only [stAsk,stWant,stTurn,if_neg h1,if_neg h2,if_neg h3,if_pos h4] at hX ⊢
  obtain ⟨e1,e2⟩:=bk_old H n1 n2 hX
  exact got _ e1 (gotB_ne _) e2
 by_cases h5:o.kind=5
 ·simp only [stAsk,stWant,stTurn,if_neg h1,if_neg h2,if_neg h3,if_neg h4,if_pos h5] at hX ⊢
  obtain ⟨e1,e2⟩:=bk_list H hX
  exact got _ e1 lacks_ne e2
 ·simp only [stAsk,stWant,stTurn,if_neg h1,if_neg h2,if_neg h3,if_neg h4,if_neg h5] at hX ⊢
  obtain ⟨e1,e2⟩:=bk_get H hX
  exact got _ e1 (gotB_ne _) e2
theorem step_len {s:Sto} {l:List BV} {room:Nat} (H:BK s l room) (o:StP):(headT tAl sAl 5000 (stAsk o s.last).1 (stAsk o s.last).2.1 (stAsk o s.last).2.2).length≤2000:=by
 obtain ⟨n1,n2⟩:=stN_bd H o
 have hk:=keyN_ok (stI o)
 unfold stAsk
 repeat' split
 ·exact readlen (.inl ⟨_,rd_put has_al hk (by simp;omega)⟩)
 ·exact readlen (.inl ⟨_,rd_del has_al hk⟩)
 ·exact readlen (.inl ⟨_,rd_drop has_al hk n1 n2⟩)
 ·exact readlen (.inl ⟨_,rd_old has_al hk n1 n2⟩)
 ·exact readlen (.inl ⟨_,rd_list has_al⟩)
 ·exact readlen (.inl ⟨_,rd_get has_al hk⟩)
theorem bk_fit {s:Sto} {l:List BV} {room:Nat} (H:BK s l room):BFit l:=by
 have h1:=H.F.last;have h2:=H.F.log;have h3:=H.n
 refine ⟨by omega,fun v hv=>⟨?_,H.y v hv⟩⟩
 have:v.ver∈s.vs tBkt v.key:=by rw [H.v];unfold vsOf;exact List.mem_map.2 ⟨v,List.mem_filter.2 ⟨hv,by simp⟩,rfl⟩
 have h4:=((H.F.vs tBkt v.key).2 _ this).2
 simp only [BV.ver] at h4
 omega
end Go.Proofs.YtbllcgibmgbnjaaGreatDoor.P
