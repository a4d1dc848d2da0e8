import Derived.Test.YtbllcgibmgbnjaaGreatDoorM27
import Derived.Test.YtbllcgibmgbnjaaGreatDoorM24
import Derived.Test.YtbllcgibmgbnjaaGreatDoorM14
import Derived.Test.YtbllcgibmgbnjaaGreatDoorM25
set_option maxHeartbeats 4000000
set_option maxRecDepth 20000
namespace Go.Proofs.YtbllcgibmgbnjaaGreatDoor.P
open Go.RowKit
open C (ret_bool ret_int ret_str enc enc_len)
structure EntFit (e:Ent):Prop where
 k:e.key.length≤40
 n:e.num≤100000
 s:e.size≤100000
theorem ent_fit {s:Sto} (Ks:Keys s) (F:Fine s) {b p a:Tx} {e:Ent} (h:Listed s b p a e):EntFit e:=by
 obtain ⟨v,h1,_,_,_,h5,h6⟩:=h
 have hm:v∈s.vs b e.key:=List.mem_of_getLast? h1
 have hv:=(F.vs b e.key).2 v hm
 have f1:=F.last;have f2:=F.log
 exact ⟨key_le (Ks.key b e.key (List.ne_nil_of_mem hm)),by omega,by omega⟩
theorem lin_len {e:Ent} (h:EntFit e):(linT e).length≤200:=by
 have h1:=h.k;have h2:=h.n;have h3:=h.s
 have h4:=(enc_len false e.key).2
 have h5:=itoa_len (n:=e.num) (by omega)
 have h6:=itoa_len (n:=e.size) (by omega)
 simp [linT];omega
theorem list_len:∀ {l:List Ent},(∀ e∈l,EntFit e)→(listT l).length≤l.length*200
 | [],_=>by simp [listT]
 | e :: l,h=>by
  have h1:=lin_len (h e (.head _))
  have h2:=list_len (l:=l) (fun x hx=>h x (.tail _ hx))
  simp only [listT,List.flatMap_cons,List.length_append,List.length_cons] at *
  omega
theorem list_fit {s:Sto} (Ks:Keys s) (F:Fine s) {b p a:Tx} {l:List Ent} (hl:Lists s b p a l):(∀ e∈l,EntFit e)∧l.length≤100000:=by
 have h1:=lists_len Ks hl
 have f1:=F.last;have f2:=F.log
 exact ⟨fun e he=>ent_fit Ks F ((hl.2 e).1 he),by omega⟩
theorem listT_snoc (l:List Ent) (e:Ent):listT (l++[e])=listT l++linT e:=by simp [listT]
def llPost (w:World) (x:Hs×Tx) (e:Ending) (w':World):Prop:=∃ ha hm hc,e=.returned (.agg #[.slice ha hm hc,str x.2])∧R.phold w' w'.heap.size (.slice ha hm hc) x.1∧(∀ g,(Value.slice ha hm hc).ownBlock=some g→w.heap.size≤g)∧Below w.heap.size w w'
abbrev bC:Obj:=.cells #[.pointer none,.slice none 0 0] 105
abbrev eC (e:Ent):Obj:=.cells #[str e.key,.int .i64 (e.num:Int),.int .i64 (e.size:Int)] 238
theorem bstring_k (B b:Nat) (l:List UInt8) (w:World) (h:BL B b l w) (hBw:B≤w.heap.size) :
  Calls Tryz.prog 54 #[.pointer (some ⟨b,0,none⟩)] w fun e w'=>e=.returned (str l)∧BL B b l w'∧Below B w w'∧Lib.OthersKept 5 (some b) w w':=Tryz.Builder_String_any_k B b l w h hBw
structure LEnd (w:World) (q:AskP) (B h:Nat) (tx t2:Tx) (V:World):Prop where
 p:V.heap[h]?=some (.cells #[str tMore,str t2] 109 (0,0))
 bl:BL B B tx V
 T:Two w q V
 bb:Below w.heap.size w V
 sB:B≤V.heap.size
theorem LEnd.cells {w V:World} {q:AskP} {B h:Nat} {tx t2:Tx} (H:LEnd w q B h tx t2 V):V.cell? ⟨h,0,none⟩=some (str tMore)∧V.cell? ⟨h,1,none⟩=some (str t2) :=
 ⟨by rw [Lib.cell_of_heap H.p];rfl,by rw [Lib.cell_of_heap H.p];rfl⟩
theorem LEnd.call {w V V':World} {q:AskP} {B h:Nat} {tx t2:Tx} (H:LEnd w q B h tx t2 V) (b:Below V.heap.size V V'):LEnd w q B h tx t2 V' :=
 ⟨(b.block h (Array.getElem?_eq_some_iff.1 H.p).1).trans H.p,H.bl.belowL b,H.T.below b,below_trans H.bb b,Nat.le_trans H.sB b.size⟩
theorem LEnd.str {w V V':World} {q:AskP} {B h:Nat} {tx t2:Tx} (H:LEnd w q B h tx t2 V) (hB:w.heap.size+2≤B) (hne:h≠B) (bl:BL B B tx V') (b:Below B V V') (o:Lib.OthersKept 5 (some B) V V'):LEnd w q B h tx t2 V' :=
 ⟨o h _ H.p (fun e=>hne (by cases e;rfl)) (fun c fz e=>by cases e),bl,H.T.kept (Kept.of_below b) (by omega) (by omega),H.bb.trans (b.mono (by omega)),Nat.le_trans H.sB b.size⟩
theorem cells_alloc {V:World} {h:Nat} {x y:Value} (H:V.cell? ⟨h,0,none⟩=some x∧V.cell? ⟨h,1,none⟩=some y) (ob:Obj):(V.alloc ob).cell? ⟨h,0,none⟩=some x∧(V.alloc ob).cell? ⟨h,1,none⟩=some y:=⟨cell_alloc H.1 ob,cell_alloc H.2 ob⟩
theorem cells_done {V:World} {h k:Nat} {x y a b:Value} (H:V.cell? ⟨h,0,none⟩=some x∧V.cell? ⟨h,1,none⟩=some y) (hne:h≠k+1):(done2 V k a b).cell? ⟨h,0,none⟩=some x∧(done2 V k a b).cell? ⟨h,1,none⟩=some y :=
 ⟨(kept_two V k a b).cell H.1 hne,(kept_two V k a b).cell H.2 hne⟩
theorem froz_alloc {V:World} {h:Nat} (rf:∀ j:Nat,V.frozen? ⟨h+1,j,none⟩=false) (ob:Obj) (sz:h+2≤V.heap.size) (j:Nat):(V.alloc ob).frozen? ⟨h+1,j,none⟩=false :=
 ((Kept.refl (fun _=>False) V).alloc ob).frozen (a:=⟨h+1,j,none⟩) (show h+1 < _ by omega) (rf j) (fun e=>e)
theorem list_endB {w V:World} {q:AskP} {B h:Nat} {tx t2:Tx} (E:LEnd w q B h tx t2 V) (t1:Tx) (ty:TypeId) :
  llPost w ([(tLength,t1),(tMore,t2)],tx) (.returned (.agg #[.slice (some ⟨V.heap.size,0,none⟩) 2 2,str tx])) (done2 (V.alloc (.cells #[str tLength,str t1,str tMore,str t2] ty)) w.heap.size (.slice (some ⟨V.heap.size,0,none⟩) 2 2) (str tx)):=by
 have hz:=E.T.sz
 have k:=kept_two (V.alloc (.cells #[str tLength,str t1,str tMore,str t2] ty)) w.heap.size (.slice (some ⟨V.heap.size,0,none⟩) 2 2) (str tx)
 refine ⟨_,_,_,rfl,phold.kept (phold_two V tLength t1 tMore t2 ty) k (fun g e=>by simp [Value.ownBlock] at e;omega) (by simp),(fun g e=>by simp [Value.ownBlock] at e;omega),?_⟩
 exact (E.bb.alloc E.bb.size _).trans (k.below (by simp;omega) (fun j e=>by omega))
theorem list_endA {w V V':World} {q:AskP} {B h:Nat} {tx t2:Tx} {ty:TypeId} (E:LEnd w q B h tx t2 V) (t1:Tx) (E':LEnd w q B h tx t2 V') (o:Lib.OthersKept 5 (some B) (V.alloc (.cells #[str tLength,str t1,str tMore,str t2] ty)) V') (c:Below B (V.alloc (.cells #[str tLength,str t1,str tMore,str t2] ty)) V') (_hB:w.heap.size+2≤B) (hty:ty≠5:=by decide) :
  llPost w ([(tLength,t1),(tMore,t2)],tx) (.returned (.agg #[.slice (some ⟨V.heap.size,0,none⟩) 2 2,str tx])) (done2 V' w.heap.size (.slice (some ⟨V.heap.size,0,none⟩) 2 2) (str tx)):=by
 have hz:=E.T.sz
 have hsB:=E.bl.slot.1
 have hb:=o V.heap.size _ (heap_alloc_new _ _) (fun e=>by have:=Option.some.inj e;omega) (fun c fz e=>by cases e;exact hty rfl)
 have K1:Kept (fun g=>g≠V.heap.size) (V.alloc (.cells #[str tLength,str t1,str tMore,str t2] ty)) V':=⟨c.os,c.tape,c.output,c.size,fun g hg hn=>by
  have:g=V.heap.size:=Classical.not_not.1 hn
  subst this
  rw [hb];exact (heap_alloc_new _ _).symm⟩
 have k:=kept_two V' w.heap.size (.slice (some ⟨V.heap.size,0,none⟩) 2 2) (str tx)
 have p1:=phold.kept (phold_two V tLength t1 tMore t2 ty) K1 (fun g e=>by cases e;exact fun h=>h rfl) (by have:=c.size;omega)
 refine ⟨_,_,_,rfl,phold.kept p1 k (fun g e=>by simp [Value.ownBlock] at e;omega) (by simp),(fun g e=>by simp [Value.ownBlock] at e;omega),?_⟩
 exact E'.bb.trans (k.below E'.bb.size (fun j e=>by omega))
theorem llist_any (q:AskP) (a b:Nat) (us:Us) (clock:Nat) (s:Sto) (r:Roles) (l:List Ent) (hl:Lists s q.bucket q.pre q.after l) (Ks:Keys s) (w:World) (G:GL w) (L:LS a b us clock s r w) :
  Calls Tryz.prog 86 #[.pointer (some ⟨a,0,none⟩),q.v] w (llPost w (listR l q.max)):=by
 obtain ⟨hfit,hll⟩:=list_fit Ks L.F hl
 obtain ⟨kd,ac,bk,ky,y,vn,pf,af,mx⟩:=q
 simp only [AskP.v] at *
 have b0:=asks_below w ⟨kd,ac,bk,ky,y,vn,pf,af,mx⟩
 have T0:=two_new w ⟨kd,ac,bk,ky,y,vn,pf,af,mx⟩
 have a2:=T0.a2
 have a6:((w.alloc (askC ⟨kd,ac,bk,ky,y,vn,pf,af,mx⟩)).alloc zResp).cell? ⟨w.heap.size,6,none⟩=some (str pf):=by simp [go_sem]
 have a7:((w.alloc (askC ⟨kd,ac,bk,ky,y,vn,pf,af,mx⟩)).alloc zResp).cell? ⟨w.heap.size,7,none⟩=some (str af):=by simp [go_sem]
 have a8:((w.alloc (askC ⟨kd,ac,bk,ky,y,vn,pf,af,mx⟩)).alloc zResp).cell? ⟨w.heap.size,8,none⟩=some (.int .i64 (mx:Int)):=by simp [go_sem]
 have LI:Hid (∀ W,Below w.heap.size w W→Calls Tryz.prog 129 #[.pointer (some ⟨b,0,none⟩),str bk,str pf,str af] W fun e w'=>∃ a c,e=.returned (.slice a l.length c)∧l.length≤c∧ERd w' W.heap.size a l∧Below W.heap.size W w'):=fun W hW=>Calls.mono (klist_any b s r bk pf af W (L.K.below hW) L.F Ks) (by
  rintro e w' ⟨l',a,c,rfl,hc,hl',h3,h4⟩
  have:=lists_uniq hl' hl
  subst this
  exact ⟨a,c,rfl,hc,h3,h4⟩)
 have c2:=(L.below b0).l2
 have HF:Hid (∀ e∈l,EntFit e):=hfit
 have HX:Hid (listR l mx=([(tLength,lenT (listT (l.take mx))),(tMore,Lib.formatBool (decide (mx < l.length)))],listT (l.take mx))):=rfl
 have hal:=L.al
 have HE:Hid (∀ W,Below w.heap.size w W→R.Env W):=fun W hW=>(G.call hW).env
 rw [HX.out]
 clear hl Ks HX hfit L
 go_enter Tryz.func86,Tryz.ntmps86
 go_wp2_with fail
 generalize hW0:(w.alloc (askC ⟨kd,ac,bk,ky,y,vn,pf,af,mx⟩)).alloc zResp=W0 at *
 clear hW0
 have hal0:a < W0.drew.heap.size:=by have:=b0.size;show _ < W0.heap.size;omega
 have sz0:=T0.sz
 have xd:W0.drew.cell? ⟨a,2,none⟩=some (.pointer (some ⟨b,0,none⟩))∧W0.drew.cell? ⟨w.heap.size,2,none⟩=some (str bk)∧W0.drew.cell? ⟨w.heap.size,6,none⟩=some (str pf)∧W0.drew.cell? ⟨w.heap.size,7,none⟩=some (str af):=⟨c2,a2,a6,a7⟩
 have xw:W0.cell? ⟨a,2,none⟩=some (.pointer (some ⟨b,0,none⟩))∧W0.cell? ⟨w.heap.size,2,none⟩=some (str bk)∧W0.cell? ⟨w.heap.size,6,none⟩=some (str pf)∧W0.cell? ⟨w.heap.size,7,none⟩=some (str af):=⟨c2,a2,a6,a7⟩
 have BDR:=below_trans b0 (below_drew W0)
 have D3:Hid (Calls Tryz.prog 129 #[.pointer (some ⟨b,0,none⟩),str bk,str pf,str af] W0.drew fun e w'=>(∃ a c,e=.returned (.slice a l.length c)∧l.length≤c∧ERd w' W0.drew.heap.size a l∧Below W0.drew.heap.size W0.drew w')∧(w'.cell? ⟨a,2,none⟩=some (.pointer (some ⟨b,0,none⟩))∧w'.cell? ⟨w.heap.size,2,none⟩=some (str bk)∧w'.cell? ⟨w.heap.size,6,none⟩=some (str pf)∧w'.cell? ⟨w.heap.size,7,none⟩=some (str af))):=Calls.mono (LI.out W0.drew BDR) fun e w' h=>⟨h,by
  obtain ⟨_,_,_,_,_,k⟩:=h
  have hh:w.heap.size < W0.drew.heap.size:=by show _ < W0.heap.size;omega
  exact ⟨(k.cell (p:=⟨a,2,none⟩) hal0).trans xd.1,(k.cell (p:=⟨w.heap.size,2,none⟩) hh).trans xd.2.1,(k.cell (p:=⟨w.heap.size,6,none⟩) hh).trans xd.2.2.1,(k.cell (p:=⟨w.heap.size,7,none⟩) hh).trans xd.2.2.2⟩⟩
 clear LI
 go_region_held3 (fun w'=>w'.cell? ⟨a,2,none⟩=some (.pointer (some ⟨b,0,none⟩))∧w'.cell? ⟨w.heap.size,2,none⟩=some (str bk)∧w'.cell? ⟨w.heap.size,6,none⟩=some (str pf)∧w'.cell? ⟨w.heap.size,7,none⟩=some (str af)) (first|with_reducible exact xd|with_reducible exact x5) ((go_at_call 129;with_reducible refine Calls.mono D3.out ?_;rintro e w1 ⟨⟨ea,ec,rfl,hec,hrd,b1⟩,x5⟩))
 all_goals (
  have B1:Below w.heap.size w w1:=below_trans BDR b1
  have b01:Below W0.heap.size W0 w1:=below_trans (below_drew W0) b1
  have T1:=T0.below b01
  have d8:=(b01.cell (p:=⟨w.heap.size,8,none⟩) (show w.heap.size < W0.heap.size by omega)).trans a8
  have HRD:Hid (ERd w1 W0.heap.size ea l):=hrd
  clear xd xw x5 c2 a2 a6 a7 a8 D3 hrd T0 b1 BDR b01 b0
  go_upto_if 27 with (fail)
  go_cut [5] from 27 to 31 (fun v wx=>v=.slice ea (l.take mx).length ec∧wx=w1)
  case first =>
   by_cases hm:mx < l.length
   ·have e:(l.take mx).length=mx:=by simp;omega
    go_wp2
    go_meet
    exact ⟨by rw [e],rfl⟩
   ·have e:(l.take mx).length=l.length:=by simp;omega
    go_wp2
    go_meet
    exact ⟨by rw [e],rfl⟩
  case rest =>
   obtain ⟨rfl,rfl⟩:=hcut
   have HRT:Hid (ERd wc W0.heap.size ea (l.take mx)):=HRD.out.take mx
   have HFT:Hid (∀ e∈l.take mx,EntFit e):=fun e he=>HF.out e (List.mem_of_mem_take he)
   have hlt:(l.take mx).length≤100000:=by simp;omega
   clear HRD HF
   generalize decide (mx < l.length)=tm at *
   generalize l.take mx=lt at *
   have hszc:=B1.size
   have BN:BL wc.heap.size wc.heap.size [] (wc.alloc bC):=BL_new wc
   have bn:Below wc.heap.size wc (wc.alloc bC):=(Below.refl _ _).alloc (Nat.le_refl _) _
   go_wp2
   go_loopw [34] (fun vi wr=>∃ k:Nat,k≤lt.length∧vi=.int .i64 k∧BL wc.heap.size wc.heap.size (listT (lt.take k)) wr∧Below wc.heap.size wc wr) (fun vi _=>lt.length - (intOf vi).toNat)
   case atStart=>exact ⟨0,Nat.zero_le _,rfl,BN,bn⟩
   case round =>
    obtain ⟨k,hk,rfl,hbl,hb⟩:=hrel
    have hsz:=hb.size
    by_cases hkl:k < lt.length
    ·obtain ⟨g,rfl,hB,hg,q0,q1,q2⟩:=(HRT.out.below hb).get k hkl
     have HT:Hid (listT (lt.take (k+1))=listT (lt.take k)++linT lt[k]):=by show _=_;rw [List.take_succ_eq_append_getElem hkl,listT_snoc]
     have fit:=HFT.out _ (List.getElem_mem hkl)
     have hll2:(listT (lt.take k)).length≤100000*200:=by
      have:=list_len (l:=lt.take k) (fun e he=>HFT.out e (List.mem_of_mem_take he))
      have:(lt.take k).length≤100000:=by simp;omega
      omega
     generalize listT (lt.take k)=tx at *
     generalize lt[k]=ee at *
     obtain ⟨ek,en,es⟩:=ee
     have f1:=fit.k;have f2:=fit.n;have f3:=fit.s
     dsimp only at q0 q1 q2 f1 f2 f3
     clear fit
     have HLN:Hid (linT ⟨ek,en,es⟩=enc false ek++[32]++Lib.itoa (en:Int)++[32]++Lib.itoa (es:Int)++[10]):=rfl
     have x0:(wr.alloc (eC ⟨ek,en,es⟩)).cell? ⟨wr.heap.size,0,none⟩=some (str ek):=by simp [go_sem]
     have x1:(wr.alloc (eC ⟨ek,en,es⟩)).cell? ⟨wr.heap.size,1,none⟩=some (.int .i64 (en:Int)):=by simp [go_sem]
     have x2:(wr.alloc (eC ⟨ek,en,es⟩)).cell? ⟨wr.heap.size,2,none⟩=some (.int .i64 (es:Int)):=by simp [go_sem]
     have xs:(wr.alloc (eC ⟨ek,en,es⟩)).heap.size=wr.heap.size+1:=by simp
     have be:Below wr.heap.size wr (wr.alloc (eC ⟨ek,en,es⟩)):=(Below.refl _ _).alloc (Nat.le_refl _) _
     have l1:=(enc_len false ek).2
     have l2:=itoa_len (n:=en) (by omega)
     have l3:=itoa_len (n:=es) (by omega)
     have I1:Hid (∀ V,R.Env V→Calls Tryz.prog 34 #[.int .i64 (en:Int)] V fun e w'=>e=.returned (str (Lib.itoa (en:Int)))∧Below V.heap.size V w'):=fun V E=>R.itoa_r en V E (by omega)
     have I2:Hid (∀ V,R.Env V→Calls Tryz.prog 34 #[.int .i64 (es:Int)] V fun e w'=>e=.returned (str (Lib.itoa (es:Int)))∧Below V.heap.size V w'):=fun V E=>R.itoa_r es V E (by omega)
     have EN:Hid (∀ V,Calls Tryz.prog 30 #[str ek,.bool false] V fun e w'=>e=.returned (str (enc false ek))∧Below V.heap.size V w'):=fun V=>R.encode_r ek false V (by omega)
     generalize enc false ek=t0 at *
     generalize Lib.itoa (en:Int)=t1 at *
     generalize Lib.itoa (es:Int)=t2 at *
     have n1:¬ 9223372036854775807 < t0.length:=by omega
     have n2:¬ 9223372036854775806 < t0.length:=by omega
     have n3:¬ 9223372036854775807 < t0.length+1:=by omega
     have n4:¬ 9223372036854775806 < t0.length+1:=by omega
     have n5:¬ 9223372036854775807 < t0.length+1+t1.length:=by omega
     have n6:¬ 9223372036854775806 < t0.length+1+t1.length:=by omega
     have n7:¬ 9223372036854775807 < t0.length+1+t1.length+1:=by omega
     have n8:¬ 9223372036854775806 < t0.length+1+t1.length+1:=by omega
     have n9:¬ 9223372036854775807 < t0.length+1+t1.length+1+t2.length:=by omega
     have n10:¬ 9223372036854775806 < t0.length+1+t1.length+1+t2.length:=by omega
     have n11:¬ 9223372036854775807 < t0.length+1+t1.length+1+t2.length+1:=by omega
     have n12:¬ 9223372036854775806 < t0.length+1+t1.length+1+t2.length+1:=by omega
     go_wp2_with fail
     generalize hWe:wr.alloc (eC ⟨ek,en,es⟩)=We at *
     clear hWe
     have BE:Hid (Below wr.heap.size wr We.drew):=below_trans be (below_drew We)
     have HS:Hid (∀ V,Below We.drew.heap.size We.drew V→V.cell? ⟨wr.heap.size,0,none⟩=some (str ek)∧V.cell? ⟨wr.heap.size,1,none⟩=some (.int .i64 (en:Int))∧V.cell? ⟨wr.heap.size,2,none⟩=some (.int .i64 (es:Int))):=fun V hV=>by
      have hh:wr.heap.size < We.drew.heap.size:=by show _ < We.heap.size;omega
      exact ⟨(hV.cell (p:=⟨wr.heap.size,0,none⟩) hh).trans x0,(hV.cell (p:=⟨wr.heap.size,1,none⟩) hh).trans x1,(hV.cell (p:=⟨wr.heap.size,2,none⟩) hh).trans x2⟩
     have HEV:Hid (∀ V,Below We.drew.heap.size We.drew V→R.Env V):=fun V hV=>HE.out V (below_trans B1 (hb.trans ((below_trans BE.out hV).mono hsz)))
     have xd:We.drew.cell? ⟨wr.heap.size,0,none⟩=some (str ek)∧We.drew.cell? ⟨wr.heap.size,1,none⟩=some (.int .i64 (en:Int))∧We.drew.cell? ⟨wr.heap.size,2,none⟩=some (.int .i64 (es:Int)):=⟨x0,x1,x2⟩
     have WS:Hid (∀ V,Below We.drew.heap.size We.drew V→Calls Tryz.prog 52 #[.pointer (some ⟨wc.heap.size,0,none⟩),.string ({ data:=t0.toArray }++{ data:=#[32] }++{ data:=t1.toArray }++{ data:=#[32] }++{ data:=t2.toArray }++{ data:=#[10] })] V fun e w'=>(e=.returned (.tuple #[.int .i64 ((t0++[32]++t1++[32]++t2++[10]).length:Int),.nilIface])∧BL wc.heap.size wc.heap.size (tx++(t0++[32]++t1++[32]++t2++[10])) w'∧Below wc.heap.size V w')∧(w'.cell? ⟨wr.heap.size,0,none⟩=some (str ek)∧w'.cell? ⟨wr.heap.size,1,none⟩=some (.int .i64 (en:Int))∧w'.cell? ⟨wr.heap.size,2,none⟩=some (.int .i64 (es:Int)))):=fun V hV=>by
      have hv:=below_trans BE.out hV
      have hs:=HS.out V hV
      refine Calls.mono (writeStr_kb wc.heap.size wc.heap.size tx _ (t0++[32]++t1++[32]++t2++[10]) (by apply ByteArray.ext;simp) wr V hbl hv (by simp;omega) (by have:=hv.size;omega)) ?_
      rintro e w' ⟨h1,h2,h3,h4⟩
      exact ⟨⟨h1,h2,h3⟩,h4.cell hs.1 (Nat.lt_irrefl _),h4.cell hs.2.1 (Nat.lt_irrefl _),h4.cell hs.2.2 (Nat.lt_irrefl _)⟩
     go_region_held3 (fun w'=>w'.cell? ⟨wr.heap.size,0,none⟩=some (str ek)∧w'.cell? ⟨wr.heap.size,1,none⟩=some (.int .i64 (en:Int))∧w'.cell? ⟨wr.heap.size,2,none⟩=some (.int .i64 (es:Int))) (first|with_reducible exact xd|with_reducible exact y1|with_reducible exact y2|with_reducible exact y3|with_reducible exact y4)
      ((first
       | (go_at_call 30;with_reducible refine Calls.mono (EN.out We.drew) ?_;rintro e w1 ⟨rfl,b1⟩;have y1:=HS.out w1 b1)
       | (go_at_call 34;with_reducible refine Calls.mono (I1.out w1 (HEV.out w1 b1)) ?_;rintro e w2 ⟨rfl,b2⟩;have b12:=below_trans b1 b2;have y2:=HS.out w2 b12)
       | (go_at_call 34;with_reducible refine Calls.mono (I2.out w2 (HEV.out w2 b12)) ?_;rintro e w3 ⟨rfl,b3⟩;have b13:=below_trans b12 b3;have y3:=HS.out w3 b13)
       | (go_at_call 52;with_reducible refine Calls.mono (WS.out w3 b13) ?_;rintro e w4 ⟨⟨rfl,hbl4,b4⟩,y4⟩)))
     all_goals (
      have BB:Below wc.heap.size wc w4:=hb.trans (((below_trans BE.out b13).mono hsz).trans b4)
      clear b1 b2 b3 b4 b12 b13 y1 y2 y3 y4 xd x0 x1 x2
      go_wp2
      go_roundw
      case rel=>exact ⟨k+1,by omega,by go_num,by rw [HT.out,HLN.out];exact hbl4,BB⟩
      case measure=>simp [intOf];omega)
    ·obtain rfl:k=lt.length:=by omega
     rw [List.take_length] at hbl
     have hll2:(listT lt).length≤100000*200:=by
      have:=list_len (l:=lt) HFT.out
      omega
     have FB:Hid (∀ V,Calls Tryz.prog 130 #[.bool tm] V fun e w'=>e=.returned (str (Lib.formatBool tm))∧V=w'):=fun V=>(Tryz.strconv_FormatBool tm V).mono fun _ _ ⟨h1,h2⟩=>⟨h1,h2.symm⟩
     have LH:Hid (_):=fun W E=>lenHead_any (listT lt) (by omega) W E
     generalize listT lt=tx at *
     generalize lenT tx=t1 at *
     generalize Lib.formatBool tm=t2 at *
     go_wp2_with (go_at_call 130;refine Calls.mono (FB.out _) ?_;rintro e w2 ⟨rfl,rfl⟩)
     have hp0:(wr.alloc (.cells #[str tMore,str t2] 109)).heap[wr.heap.size]?=some (.cells #[str tMore,str t2] 109 (0,0)):=heap_alloc_new _ _
     have bp:Below wr.heap.size wr (wr.alloc (.cells #[str tMore,str t2] 109)):=(Below.refl _ _).alloc (Nat.le_refl _) _
     have bwr:Below w.heap.size w wr:=B1.trans (hb.mono hszc)
     have sz1:=T1.sz
     have E0:Hid (LEnd w ⟨kd,ac,bk,ky,y,vn,pf,af,mx⟩ wc.heap.size wr.heap.size tx t2 (wr.alloc (.cells #[str tMore,str t2] 109))):=⟨hp0,hbl.belowL bp,(T1.below hb).below bp,below_trans bwr bp,by simp;omega⟩
     generalize hWp:wr.alloc (.cells #[str tMore,str t2] 109)=Wp at *
     have hne1:wr.heap.size≠wc.heap.size:=by have:=hbl.slot.1;omega
     have hne2:wr.heap.size≠w.heap.size+1:=by omega
     have ED:Hid (LEnd w ⟨kd,ac,bk,ky,y,vn,pf,af,mx⟩ wc.heap.size wr.heap.size tx t2 Wp.drew):=E0.out.call (below_drew Wp)
     have xd:=ED.out.cells
     have BS:Hid (∀ V,LEnd w ⟨kd,ac,bk,ky,y,vn,pf,af,mx⟩ wc.heap.size wr.heap.size tx t2 V→Calls Tryz.prog 54 #[.pointer (some ⟨wc.heap.size,0,none⟩)] V fun e w'=>e=.returned (str tx)∧LEnd w ⟨kd,ac,bk,ky,y,vn,pf,af,mx⟩ wc.heap.size wr.heap.size tx t2 w'∧Lib.OthersKept 5 (some wc.heap.size) V w'∧Below wc.heap.size V w'):=fun V H=>Calls.mono (bstring_k wc.heap.size wc.heap.size tx V H.bl H.sB) (fun e w' ⟨h1,h2,h3,h4⟩=>⟨h1,H.str sz1 hne1 h2 h3 h4,h4,h3⟩)
     clear hWp hp0 bp hbl E0 bwr B1 hb T1 d8 BN bn HRT HFT FB
     go_region_held3 (fun w'=>w'.cell? ⟨wr.heap.size,0,none⟩=some (str tMore)∧w'.cell? ⟨wr.heap.size,1,none⟩=some (str t2)) (first|with_reducible exact xd|with_reducible exact y1|with_reducible exact y2|with_reducible exact y3|with_reducible exact cells_alloc y2 _|with_reducible exact cells_alloc y3 _|with_reducible exact cells_done y3 hne2|with_reducible exact cells_done (cells_alloc y3 _) hne2)
      ((first
       | (go_at_call 54;with_reducible refine Calls.mono (BS.out Wp.drew ED.out) ?_;rintro e w1 ⟨rfl,E1,o1,c1⟩;have y1:=E1.cells)
       | (go_at_call 128;with_reducible refine Calls.mono (LH.out w1 (HE.out w1 E1.bb)) ?_;rintro e w2 ⟨rfl,b2⟩;have E2:=E1.call b2;have y2:=E2.cells)
       | (go_at_call 54;with_reducible refine Calls.mono (BS.out w2 E2) ?_;rintro e w3 ⟨rfl,E3,o3,c3⟩;have y3:=E3.cells;have r0:=E3.T.r0;have r1:=E3.T.r1;have rf:=E3.T.rf;have pa0:=fun ob=>cell_alloc r0 ob;have pa1:=fun ob=>cell_alloc r1 ob;have ga:=fun ob=>froz_alloc rf ob E3.T.sz;have FB:=list_endB E3 t1 109)
       | (go_at_call 54;with_reducible refine Calls.mono (BS.out (w2.alloc (.cells #[str tLength,str t1,str tMore,str t2] 109)) (E2.call ((Below.refl _ _).alloc (Nat.le_refl _) _))) ?_;rintro e w3 ⟨rfl,E3,o3,c3⟩;have y3:=E3.cells;have r0:=E3.T.r0;have r1:=E3.T.r1;have rf:=E3.T.rf;have FA:=list_endA E2 t1 E3 o3 c3 sz1)))
     all_goals first
      | (have HFIN : Hid (_) := FA
         clear FA E1 E2 E3 o1 o3 c1 c3 b2 y1 y2 y3 BS LH ED HE xd
         go_wp2
         refine bodyPost_ret (v:=.agg #[.slice (some ⟨w2.heap.size,0,none⟩) 2 2,str tx]) ?_ rfl HFIN.out
         simp [results,Tryz.results86,go_sem,r0,r1])
      | (have HFIN : Hid (_) := FB
         clear FB E1 E2 E3 o1 o3 c1 c3 b2 y1 y2 y3 BS LH ED HE xd
         go_wp2
         refine bodyPost_ret (v:=.agg #[.slice (some ⟨w3.heap.size,0,none⟩) 2 2,str tx]) ?_ rfl HFIN.out
         simp [results,Tryz.results86,go_sem,pa0,pa1]))
theorem serve4_any (user:Tx) (q:AskP) (hk:q.kind=4) (a b:Nat) (us:Us) (clock:Nat) (s:Sto) (r:Roles) (l:List Ent) (hl:Lists s q.bucket q.pre q.after l) (Ks:Keys s) (w:World) (G:GL w) (L:LS a b us clock s r w) :
  Calls Tryz.prog 57 #[.pointer (some ⟨a,0,none⟩),str user,q.v] w (srvPost a b us clock r w (200,(listR l q.max).1,(listR l q.max).2,s)):=by
 obtain ⟨kd,ac,bk,ky,y,vn,pf,af,mx⟩:=q
 simp only at hk
 subst hk
 have b0:=asks_below w ⟨4,ac,bk,ky,y,vn,pf,af,mx⟩
 have T0:=two_new w ⟨4,ac,bk,ky,y,vn,pf,af,mx⟩
 have D:Hid (∀ W,Below w.heap.size w W→Calls Tryz.prog 86 #[.pointer (some ⟨a,0,none⟩),.agg #[.int .i64 4,str ac,str bk,str ky,str y,.int .i64 (vn:Int),str pf,str af,.int .i64 (mx:Int)]] W (llPost W (listR l mx))):=fun W hW=>llist_any ⟨4,ac,bk,ky,y,vn,pf,af,mx⟩ a b us clock s r l hl Ks W (G.call hW) (L.below hW)
 simp only [AskP.v] at *
 generalize listR l mx=x at *
 obtain ⟨X,HX⟩:∃ X:Nat×Hs×Tx×Sto,Hid (X=(200,x.1,x.2,s)):=⟨_,rfl⟩
 rw [← HX.out]
 clear hl Ks
 go_enter Tryz.func57,Tryz.ntmps57
 go_wp2_with fail
 generalize hW0:(w.alloc (askC ⟨4,ac,bk,ky,y,vn,pf,af,mx⟩)).alloc zResp=W0 at *
 refine Calls.mono (D.out W0 b0) ?_
 rintro e w1 ⟨ha,hm,hc,rfl,hp,hb,b1⟩
 have T1:=T0.below b1
 have r0:=T1.r0;have r1:=T1.r1;have rf:=T1.rf
 have FIN:Hid (srvPost a b us clock r w X (.returned (.tuple #[.agg #[.slice ha hm hc,str x.2],.nilIface])) (done2 w1 w.heap.size (.slice ha hm hc) (str x.2))):=by
  rw [HX.out]
  exact srv_pass (x:=(200,x.1,x.2,s)) (v:=.nilIface) (y:=x.2) L b0 T0.sz .ok (fun _=>⟨hp,rfl⟩) hb (L.below (below_trans b0 b1)) (Step.of_below b1) rfl
 clear T0 T1 D hp hb b1 hW0 b0
 go_wp2
 refine bodyPost_ret (v:=.tuple #[.agg #[.slice ha hm hc,str x.2],.nilIface]) ?_ rfl FIN.out
 simp [results,Tryz.results57,go_sem,r0,r1]
theorem bool_len (b:Bool):(Lib.formatBool b).length≤5:=by cases b <;> decide
theorem list_good {s:Sto} (Ks:Keys s) (F:Fine s) {b p a:Tx} {l:List Ent} (hl:Lists s b p a l) (n:Nat):Good (200,(listR l n).1,(listR l n).2,s):=by
 obtain ⟨h1,h2⟩:=list_fit Ks F hl
 have h3:=list_len (l:=l.take n) (fun e he=>h1 e (List.mem_of_mem_take he))
 have h4:(l.take n).length≤l.length:=by simp;omega
 have h5:(listT (l.take n)).length≤20000000:=by omega
 refine ⟨.inl rfl,by simp [listR],fun p hp=>?_,by simp only [listR];omega⟩
 simp only [listR,List.mem_cons,List.not_mem_nil,or_false] at hp
 rcases hp with rfl|rfl
 ·exact ⟨by simp,itoa_k (by omega)⟩
 ·exact ⟨by simp,by have:=bool_len (decide (n < l.length));simp only;omega⟩
def ServQ (s:Sto) (u:Tx) (q:AskP) (X:Nat×Hs×Tx×Sto):Prop:=(q.kind≠4→X=serveP s u q)∧(q.kind=4→∃ l,Lists s q.bucket q.pre q.after l∧X=(200,(listR l q.max).1,(listR l q.max).2,s))
structure RespQ (us:Us) (clock:Nat) (s:Sto) (t:Tx) (X:Nat×Hs×Tx×Sto):Prop where
 err:∀ n,readP us clock t=.error n→X=(n,[],[],s)
 no:∀ u q,readP us clock t=.ok (u,q)→mayP s u q≠200→X=(mayP s u q,[],[],s)
 serves:∀ u q,readP us clock t=.ok (u,q)→mayP s u q=200→ServQ s u q X
theorem servQ_ex {s:Sto} (Ks:Keys s) (u:Tx) (q:AskP):∃ X,ServQ s u q X:=by
 by_cases h:q.kind=4
 ·obtain ⟨l,hl⟩:=Ks.lists q.bucket q.pre q.after
  exact ⟨_,fun e=>absurd h e,fun _=>⟨l,hl,rfl⟩⟩
 ·exact ⟨_,fun _=>rfl,fun e=>absurd e h⟩
theorem respQ_ex {s:Sto} (Ks:Keys s) (us:Us) (clock:Nat) (t:Tx):∃ X,RespQ us clock s t X:=by
 cases hr:readP us clock t with
 | error n =>
  refine ⟨(n,[],[],s),⟨fun m e=>?_,fun u q e=>?_,fun u q e=>?_⟩⟩
  ·rw [hr] at e;cases e;rfl
  ·rw [hr] at e;cases e
  ·rw [hr] at e;cases e
 | ok p =>
  obtain ⟨u,q⟩:=p
  by_cases hm:mayP s u q=200
  ·obtain ⟨X,hX⟩:=servQ_ex Ks u q
   refine ⟨X,⟨fun m e=>?_,fun u' q' e h=>?_,fun u' q' e h=>?_⟩⟩
   ·rw [hr] at e;cases e
   ·rw [hr] at e;cases e;exact absurd hm h
   ·rw [hr] at e;cases e;exact hX
  ·refine ⟨(mayP s u q,[],[],s),⟨fun m e=>?_,fun u' q' e h=>?_,fun u' q' e h=>?_⟩⟩
   ·rw [hr] at e;cases e
   ·rw [hr] at e;cases e;rfl
   ·rw [hr] at e;cases e;exact absurd h hm
theorem servQ_users {s:Sto} {u:Tx} {q:AskP} {X:Nat×Hs×Tx×Sto} (h:ServQ s u q X):X.2.2.2.users=s.users:=by
 by_cases hk:q.kind=4
 ·obtain ⟨l,_,rfl⟩:=h.2 hk;rfl
 ·rw [h.1 hk];exact serve_users s u q
theorem RespQ.users {us:Us} {clock:Nat} {s:Sto} {t:Tx} {X:Nat×Hs×Tx×Sto} (h:RespQ us clock s t X):X.2.2.2.users=s.users:=by
 cases hr:readP us clock t with
 | error n=>rw [h.err n hr]
 | ok p =>
  obtain ⟨u,q⟩:=p
  by_cases hm:mayP s u q=200
  ·exact servQ_users (h.serves u q hr hm)
  ·rw [h.no u q hr hm]
theorem serve_keys {s:Sto} (Ks:Keys s) (u:Tx) (q:AskP):Keys (serveP s u q).2.2.2:=by
 unfold serveP
 repeat' split
 all_goals first|exact Ks.done _|exact Ks|(unfold getP;split <;> exact Ks)
theorem RespQ.keys {us:Us} {clock:Nat} {s:Sto} {t:Tx} {X:Nat×Hs×Tx×Sto} (h:RespQ us clock s t X) (Ks:Keys s):Keys X.2.2.2:=by
 cases hr:readP us clock t with
 | error n=>rw [h.err n hr];exact Ks
 | ok p =>
  obtain ⟨u,q⟩:=p
  by_cases hm:mayP s u q=200
  ·have hs:=h.serves u q hr hm
   by_cases hk:q.kind=4
   ·obtain ⟨l,_,rfl⟩:=hs.2 hk;exact Ks
   ·rw [hs.1 hk];exact serve_keys Ks u q
  ·rw [h.no u q hr hm];exact Ks
theorem RespQ.good {us:Us} {clock:Nat} {s:Sto} {t:Tx} {X:Nat×Hs×Tx×Sto} (h:RespQ us clock s t X) (Ks:Keys s) (F:Fine s) (hu:∀ x∈us,x.1.length≤1000∧x.2.length≤1000000):Good X:=by
 cases hr:readP us clock t with
 | error n=>rw [h.err n hr];exact good_no _ _ (by unfold isNum;rcases read_nums hr with e|e|e <;> simp [e])
 | ok p =>
  obtain ⟨u,q⟩:=p
  by_cases hm:mayP s u q=200
  ·have hs:=h.serves u q hr hm
   by_cases hk:q.kind=4
   ·obtain ⟨l,hl,rfl⟩:=hs.2 hk;exact list_good Ks F hl q.max
   ·rw [hs.1 hk];exact serve_good F (read_fit hu hr).1
  ·rw [h.no u q hr hm];exact good_no _ _ (by unfold isNum;rcases may_num s u q with e|e|e <;> simp [e])
theorem serveQ_any (user:Tx) (q:AskP) (hk:q.kind≤8) (f:AskFit user q) (a b:Nat) (us:Us) (clock:Nat) (s:Sto) (r:Roles) (X:Nat×Hs×Tx×Sto) (hX:ServQ s user q X) (Ks:Keys s) (w:World) (G:GL w) (L:LS a b us clock s r w) :
  Calls Tryz.prog 57 #[.pointer (some ⟨a,0,none⟩),str user,q.v] w (srvPost a b us clock r w X):=by
 by_cases h4:q.kind=4
 ·obtain ⟨l,hl,rfl⟩:=hX.2 h4
  exact serve4_any user q h4 a b us clock s r l hl Ks w G L
 ·rw [hX.1 h4]
  exact serve_any user q hk h4 f a b us clock s r w G L
theorem respondQ_any (a b:Nat) (us:Us) (clock:Nat) (s:Sto) (r:Roles) (t:Tx) (hl:t.length≤9223372036854775807) (X:Nat×Hs×Tx×Sto) (hX:RespQ us clock s t X) (Ks:Keys s) (w:World) (G:GL w) (L:LS a b us clock s r w) :
  Calls Tryz.prog 36 #[.pointer (some ⟨a,0,none⟩),str t] w (srvPost a b us clock r w X):=by
 have b0:Below w.heap.size w (w.alloc zResp):=(Below.refl _ _).alloc (Nat.le_refl _) _
 have O0:=one_new w
 have RD:Hid (_):=rq_any a b us clock s r t hl (w.alloc zResp) (G.call b0) (L.below b0)
 have E1:=hX.err
 have E2:=hX.no
 have E3:=hX.serves
 have HU:Hid (X.2.2.2.users=s.users):=hX.users
 have FT:=fun u q=>@read_fit us clock t u q L.un
 have NE:=fun n=>@read_num us clock t n
 have HK:Hid (Keys s):=Ks
 clear hX Ks
 generalize readP us clock t=x at *
 go_enter Tryz.func36,Tryz.ntmps36
 go_wp2_with fail
 refine Calls.mono RD.out ?_
 rintro e w1 ⟨b1,hx⟩
 have O1:=O0.below b1
 have B1:=below_trans b0 b1
 clear RD O0 b0 b1
 cases x with
 | error n =>
  obtain ⟨u,q,c,hcc,rfl⟩:=hx
  have HE:Hid (X=(n,[],[],s)):=E1 n rfl
  have h200:n≠200:=NE n rfl
  have hb2:Below w1.heap.size w1 (w1.alloc (askC q)):=(Below.refl _ _).alloc (Nat.le_refl _) _
  have O2:=O1.below hb2
  have r0:=O2.r0;have r1:=O2.r1;have rf:=O2.rf
  have FIN:Hid (_):=srv_no L (below_trans B1 hb2) O2.sz (errIs.no n c hcc h200)
  clear E1 E2 E3 FT NE O1 O2 B1 hb2 h200
  obtain ⟨kd,ac,bk,ky,y,vn,pf,af,mx⟩:=q
  simp only [AskP.v] at *
  go_wp2
  refine bodyPost_ret (v:=.tuple #[.agg #[.slice none 0 0,str []],.iface 148 (.agg #[.int .i64 (n:Int),c])]) ?_ rfl ?_
  ·simp [results,Tryz.results36,go_sem,r0,r1]
  ·rw [HE.out];exact FIN.out
 | ok p =>
  obtain ⟨u,q⟩:=p
  obtain rfl:=hx
  have ft:=FT u q rfl
  have E2':=E2 u q rfl
  have E3':=E3 u q rfl
  have HE2:Hid (_):=E2'
  have HE3:Hid (_):=E3'
  clear E1 E2 E3 FT NE E2' E3'
  have hb2:Below w1.heap.size w1 (w1.alloc (askC q)):=(Below.refl _ _).alloc (Nat.le_refl _) _
  have O2:=O1.below hb2
  have B2:=below_trans B1 hb2
  have HL2:Hid (LS a b us clock s r (w1.alloc (askC q))):=L.below B2
  have l2:=HL2.out.l2
  have HF:Hid (AskFit u q∧q.kind≤8):=ft
  have MY:Hid (∀ W,Below (w1.alloc (askC q)).heap.size (w1.alloc (askC q)) W→_):=fun W hW=>may_any b s r u q.action q.bucket q.key W (HL2.out.K.below hW) HL2.out.F (by have:=HF.out.1.k;omega)
  have SV:Hid (mayP s u q=200→∀ W,Below (w1.alloc (askC q)).heap.size (w1.alloc (askC q)) W→Calls Tryz.prog 57 #[.pointer (some ⟨a,0,none⟩),str u,q.v] W (srvPost a b us clock r W (X))):=fun hm W hW=>serveQ_any u q HF.out.2 HF.out.1 a b us clock s r X (HE3.out hm) HK.out W (G.call (below_trans B2 hW)) (HL2.out.below hW)
  have HM:Hid (mayP s u q=if q.kind=0 then 200 else s.may u q.action q.bucket q.key):=rfl
  have HSU:Hid (X.2.2.2.users=s.users):=HU.out
  clear ft hb2 O1 B1
  have PASS:Hid (∀ W W3 v r' ha hm hc z,Below (w1.alloc (askC q)).heap.size (w1.alloc (askC q)) W→errIs v (X).1→((X).1=200→R.phold W3 W3.heap.size (.slice ha hm hc) (X).2.1∧z=(X).2.2.1)→(∀ g,(Value.slice ha hm hc).ownBlock=some g→W.heap.size≤g)→LS a b us clock (X).2.2.2 r' W3→Step r W r' W3→srvPost a b us clock r w (X) (.returned (.tuple #[.agg #[.slice ha hm hc,str z],v])) (done1 W3 w.heap.size (.slice ha hm hc) (str z))):=fun W W3 v r' ha hm hc z hW he hp hb L1 st =>
   srv_pass1 L (below_trans B2 hW) (by have:=O2.sz;have:=hW.size;omega) he hp hb L1 st HSU.out
  by_cases hk:q.kind=0
  ·have HM2:mayP s u q=200:=by rw [HM.out,if_pos hk]
   have SV2:Hid (_):=SV.out HM2 (w1.alloc (askC q)) (Below.refl _ _)
   have PS:Hid (_):=fun W3 v r' ha hm hc z=>PASS.out (w1.alloc (askC q)) W3 v r' ha hm hc z (Below.refl _ _)
   clear SV PASS HE2 HE3 MY HM HM2 HSU
   obtain ⟨kd,ac,bk,ky,yy,vn,pf,af,mx⟩:=q
   simp only [AskP.v] at *
   subst hk
   go_wp2_with fail
   refine Calls.mono SV2.out ?_
   rintro e w3 ⟨v,r',ha,hm,hc,z,rfl,he,hp,hb,L1,st⟩
   have O3:=O2.step st L.K.dom
   have r0:=O3.r0;have r1:=O3.r1;have rf:=O3.rf
   have FIN:Hid (_):=PS.out w3 v r' ha hm hc z he hp hb L1 st
   clear O2 O3 SV2 PS he hp hb L1 st HL2 l2
   go_wp2
   refine bodyPost_ret (v:=.tuple #[.agg #[.slice ha hm hc,str z],v]) ?_ rfl ?_
   ·simp [results,Tryz.results36,go_sem,r0,r1]
   ·exact FIN.out
  ·have HM2:mayP s u q=s.may u q.action q.bucket q.key:=by rw [HM.out,if_neg hk]
   have SV2:Hid (_):=SV.out
   have HNO:Hid (∀ n c W,n≠200→c.oneCell'=true→Below (w1.alloc (askC q)).heap.size (w1.alloc (askC q)) W→srvPost a b us clock r w (n,[],[],s) (.returned (.tuple #[.agg #[.slice none 0 0,str []],.iface 148 (.agg #[.int .i64 (n:Int),c])])) (done1 W w.heap.size (.slice none 0 0) (str []))):=fun n c W h200 hcc hW =>
    srv_no L (below_trans B2 hW) (by have:=O2.sz;have:=hW.size;omega) (errIs.no n c hcc h200)
   rw [HM2] at HE2 SV2
   clear HE3
   have a0:(w1.alloc (askC q)).cell? ⟨w1.heap.size,0,none⟩=some (.int .i64 (q.kind:Int)):=by simp [go_sem]
   have a1:(w1.alloc (askC q)).cell? ⟨w1.heap.size,1,none⟩=some (str q.action):=by simp [go_sem]
   have a2:(w1.alloc (askC q)).cell? ⟨w1.heap.size,2,none⟩=some (str q.bucket):=by simp [go_sem]
   have a3:(w1.alloc (askC q)).cell? ⟨w1.heap.size,3,none⟩=some (str q.key):=by simp [go_sem]
   have a4:(w1.alloc (askC q)).cell? ⟨w1.heap.size,4,none⟩=some (str q.body):=by simp [go_sem]
   have a5:(w1.alloc (askC q)).cell? ⟨w1.heap.size,5,none⟩=some (.int .i64 (q.version:Int)):=by simp [go_sem]
   have a6:(w1.alloc (askC q)).cell? ⟨w1.heap.size,6,none⟩=some (str q.pre):=by simp [go_sem]
   have a7:(w1.alloc (askC q)).cell? ⟨w1.heap.size,7,none⟩=some (str q.after):=by simp [go_sem]
   have a8:(w1.alloc (askC q)).cell? ⟨w1.heap.size,8,none⟩=some (.int .i64 (q.max:Int)):=by simp [go_sem]
   have m2:w1.heap.size < (w1.alloc (askC q)).heap.size:=by simp
   have kz:((q.kind:Int) != 0)=true:=by simp;omega
   clear SV HM HM2
   generalize s.may u q.action q.bucket q.key=mn at *
   obtain ⟨kd,ac,bk,ky,yy,vn,pf,af,mx⟩:=q
   simp only [AskP.v] at *
   go_wp2_with fail
   generalize hW2:w1.alloc (askC ⟨kd,ac,bk,ky,yy,vn,pf,af,mx⟩)=W2 at *
   clear hW2
   have hal:a < W2.drew.heap.size:=HL2.out.al
   have hm2:w1.heap.size < W2.drew.heap.size:=m2
   have xd:W2.drew.cell? ⟨a,2,none⟩=some (.pointer (some ⟨b,0,none⟩))∧W2.drew.cell? ⟨w1.heap.size,1,none⟩=some (str ac)∧W2.drew.cell? ⟨w1.heap.size,2,none⟩=some (str bk)∧W2.drew.cell? ⟨w1.heap.size,3,none⟩=some (str ky):=⟨l2,a1,a2,a3⟩
   have xw:W2.cell? ⟨a,2,none⟩=some (.pointer (some ⟨b,0,none⟩))∧W2.cell? ⟨w1.heap.size,1,none⟩=some (str ac)∧W2.cell? ⟨w1.heap.size,2,none⟩=some (str bk)∧W2.cell? ⟨w1.heap.size,3,none⟩=some (str ky):=⟨l2,a1,a2,a3⟩
   have D3:Hid (Calls Tryz.prog 56 #[.pointer (some ⟨b,0,none⟩),str u,str ac,str bk,str ky] W2.drew fun e w'=>((∃ v,e=.returned v∧errIs v mn)∧Below W2.drew.heap.size W2.drew w')∧(w'.cell? ⟨a,2,none⟩=some (.pointer (some ⟨b,0,none⟩))∧w'.cell? ⟨w1.heap.size,1,none⟩=some (str ac)∧w'.cell? ⟨w1.heap.size,2,none⟩=some (str bk)∧w'.cell? ⟨w1.heap.size,3,none⟩=some (str ky))):=Calls.mono (MY.out W2.drew (below_drew W2)) fun e w' h=>⟨h,by
    have k:=h.2
    exact ⟨(k.cell (p:=⟨a,2,none⟩) hal).trans xd.1,(k.cell (p:=⟨w1.heap.size,1,none⟩) hm2).trans xd.2.1,(k.cell (p:=⟨w1.heap.size,2,none⟩) hm2).trans xd.2.2.1,(k.cell (p:=⟨w1.heap.size,3,none⟩) hm2).trans xd.2.2.2⟩⟩
   clear MY
   by_cases hmn:mn=200
   ·have D4:Hid (Calls Tryz.prog 56 #[.pointer (some ⟨b,0,none⟩),str u,str ac,str bk,str ky] W2.drew fun e w'=>(e=.returned .nilIface∧Below W2.drew.heap.size W2.drew w')∧(w'.cell? ⟨a,2,none⟩=some (.pointer (some ⟨b,0,none⟩))∧w'.cell? ⟨w1.heap.size,1,none⟩=some (str ac)∧w'.cell? ⟨w1.heap.size,2,none⟩=some (str bk)∧w'.cell? ⟨w1.heap.size,3,none⟩=some (str ky))):=Calls.mono D3.out fun e w' h=>⟨⟨by
     obtain ⟨⟨⟨v,rfl,hv⟩,_⟩,_⟩:=h
     rw [errIs_ok hv hmn],h.1.2⟩,h.2⟩
    clear D3
    go_region_held3 (fun w'=>w'.cell? ⟨a,2,none⟩=some (.pointer (some ⟨b,0,none⟩))∧w'.cell? ⟨w1.heap.size,1,none⟩=some (str ac)∧w'.cell? ⟨w1.heap.size,2,none⟩=some (str bk)∧w'.cell? ⟨w1.heap.size,3,none⟩=some (str ky)) (first|with_reducible exact xd|with_reducible exact x5) ((go_at_call 56;with_reducible refine Calls.mono D4.out ?_;rintro e w3 ⟨⟨rfl,b3⟩,x5⟩))
    all_goals (
     have b23:Below W2.heap.size W2 w3:=below_trans (below_drew W2) b3
     have O3:=O2.below b23
     have SV3:Hid (_):=SV2.out hmn w3 b23
     have PS:Hid (_):=fun W3 v r' ha hm hc z=>PASS.out w3 W3 v r' ha hm hc z b23
     have e0:=(b23.cell (p:=⟨w1.heap.size,0,none⟩) m2).trans a0
     have e1:=(b23.cell (p:=⟨w1.heap.size,1,none⟩) m2).trans a1
     have e2:=(b23.cell (p:=⟨w1.heap.size,2,none⟩) m2).trans a2
     have e3:=(b23.cell (p:=⟨w1.heap.size,3,none⟩) m2).trans a3
     have e4:=(b23.cell (p:=⟨w1.heap.size,4,none⟩) m2).trans a4
     have e5:=(b23.cell (p:=⟨w1.heap.size,5,none⟩) m2).trans a5
     have e6:=(b23.cell (p:=⟨w1.heap.size,6,none⟩) m2).trans a6
     have e7:=(b23.cell (p:=⟨w1.heap.size,7,none⟩) m2).trans a7
     have e8:=(b23.cell (p:=⟨w1.heap.size,8,none⟩) m2).trans a8
     clear SV2 PASS HE2 HSU HNO a0 a1 a2 a3 a4 a5 a6 a7 a8 HL2 l2 xd xw x5 D4
     go_wp2_with fail
     refine Calls.mono SV3.out ?_
     rintro e w4 ⟨v,r',ha,hm,hc,z,rfl,he,hp,hb,L1,st⟩
     have O4:=O3.step st L.K.dom
     have r0:=O4.r0;have r1:=O4.r1;have rf:=O4.rf
     have FIN:Hid (_):=PS.out w4 v r' ha hm hc z he hp hb L1 st
     clear O2 O3 O4 SV3 PS he hp hb L1 st
     go_wp2
     refine bodyPost_ret (v:=.tuple #[.agg #[.slice ha hm hc,str z],v]) ?_ rfl ?_
     ·simp [results,Tryz.results36,go_sem,r0,r1]
     ·exact FIN.out)
   ·have D4:Hid (Calls Tryz.prog 56 #[.pointer (some ⟨b,0,none⟩),str u,str ac,str bk,str ky] W2.drew fun e w'=>((∃ c:Value,c.oneCell'=true∧e=.returned (.iface 148 (.agg #[.int .i64 (mn:Int),c])))∧Below W2.drew.heap.size W2.drew w')∧(w'.cell? ⟨a,2,none⟩=some (.pointer (some ⟨b,0,none⟩))∧w'.cell? ⟨w1.heap.size,1,none⟩=some (str ac)∧w'.cell? ⟨w1.heap.size,2,none⟩=some (str bk)∧w'.cell? ⟨w1.heap.size,3,none⟩=some (str ky))):=Calls.mono D3.out fun e w' h=>⟨⟨by
     obtain ⟨⟨⟨v,rfl,hv⟩,_⟩,_⟩:=h
     obtain ⟨c,hcc,rfl⟩:=errIs_no hv hmn
     exact ⟨c,hcc,rfl⟩,h.1.2⟩,h.2⟩
    clear D3
    go_region_held3 (fun w'=>w'.cell? ⟨a,2,none⟩=some (.pointer (some ⟨b,0,none⟩))∧w'.cell? ⟨w1.heap.size,1,none⟩=some (str ac)∧w'.cell? ⟨w1.heap.size,2,none⟩=some (str bk)∧w'.cell? ⟨w1.heap.size,3,none⟩=some (str ky)) (first|with_reducible exact xd|with_reducible exact x5) ((go_at_call 56;with_reducible refine Calls.mono D4.out ?_;rintro e w3 ⟨⟨⟨c,hcc,rfl⟩,b3⟩,x5⟩))
    all_goals (
     have b23:Below W2.heap.size W2 w3:=below_trans (below_drew W2) b3
     have O3:=O2.below b23
     have r0:=O3.r0;have r1:=O3.r1;have rf:=O3.rf
     have HE:Hid (X=(mn,[],[],s)):=HE2.out hmn
     have FIN:Hid (_):=HNO.out mn c w3 hmn hcc b23
     clear SV2 PASS HE2 HSU HNO a0 a1 a2 a3 a4 a5 a6 a7 a8 HL2 l2 O2 O3 xd xw x5 D4
     go_wp2
     refine bodyPost_ret (v:=.tuple #[.agg #[.slice none 0 0,str []],.iface 148 (.agg #[.int .i64 (mn:Int),c])]) ?_ rfl ?_
     ·simp [results,Tryz.results36,go_sem,r0,r1]
     ·rw [HE.out];exact FIN.out)
theorem doQ_any (a b:Nat) (us:Us) (clock:Nat) (s:Sto) (r:Roles) (t:Tx) (hl:t.length≤9223372036854775807) (x:Nat×Hs×Tx×Sto) (hX:RespQ us clock s t x) (Ks:Keys s) (w:World) (G:GL w) (L:LS a b us clock s r w) :
  Calls Tryz.prog 16 #[.pointer (some ⟨a,0,none⟩),str t] w fun e w'=>∃ r',e=.returned (str (respT x.1 x.2.1 x.2.2.1))∧LS a b us clock x.2.2.2 r' w'∧Step r w r' w':=by
 have R:Hid (_):=respondQ_any a b us clock s r t hl x hX Ks w G L
 have GG:=hX.good Ks L.F L.un
 clear hX
 go_enter Tryz.func16,Tryz.ntmps16
 go_wp2_with fail
 refine Calls.mono R.out ?_
 rintro e w1 ⟨v,r',ha,hm,hc,y,rfl,he,hp,hb,L1,st⟩
 have G1:=L.glob G st
 have W:Hid (_):=write_any x.1 GG.n v he ha hm hc x.2.1 y w1 G1 (fun e=>⟨(hp e).1,GG.l,GG.h,by rw [(hp e).2];exact GG.y⟩) x.2.2.1 (fun e=>(hp e).2.symm)
 go_wp2_with fail
 refine Calls.mono W.out ?_
 rintro e w2 ⟨rfl,b2⟩
 go_wp2
 go_ret
 exact ⟨r',rfl,L1.below b2,st.trans (Step.of_below b2)⟩
end Go.Proofs.YtbllcgibmgbnjaaGreatDoor.P
