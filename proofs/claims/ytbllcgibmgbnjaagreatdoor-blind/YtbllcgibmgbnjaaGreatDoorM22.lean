import Derived.Test.YtbllcgibmgbnjaaGreatDoorM21
import Derived.Test.YtbllcgibmgbnjaaGreatDoorM20
import Derived.Test.YtbllcgibmgbnjaaGreatDoorM10
import Derived.Test.YtbllcgibmgbnjaaGreatDoorM08
import Derived.Deep.RegionWith
set_option maxHeartbeats 4000000
set_option maxRecDepth 20000
namespace Go.Proofs.YtbllcgibmgbnjaaGreatDoor.P
open Go.RowKit
open C (ret_bool ret_int ret_str)
theorem erase_idx {N:Nat}:∀ (l:List Ver) (i:Nat),vIdx l N=some i→l.eraseP (fun v=>v.num == N)=l.take i++l.drop (i+1)
 | [],_,h=>by cases h
 | v :: l,i,h=>by
  unfold vIdx at h
  rw [List.findIdx?_cons] at h
  cases hv:(v.num == N) with
  | true =>
   rw [hv] at h
   cases h
   rw [List.eraseP_cons_of_pos (p:=fun v:Ver=>v.num == N) hv];rfl
  | false =>
   rw [hv] at h
   simp only [Bool.false_eq_true,if_false,Option.map_eq_some_iff] at h
   obtain ⟨j,hj,rfl⟩:=h
   rw [List.eraseP_cons_of_neg (p:=fun v:Ver=>v.num == N) (by simp [hv]),erase_idx l j hj];rfl
theorem any_idx {l:List Ver} {N:Nat}:l.any (fun v=>v.num == N)=(vIdx l N).isSome:=by
 unfold vIdx
 induction l with
 | nil=>rfl
 | cons v l ih =>
  rw [List.any_cons,List.findIdx?_cons]
  cases hv:(v.num == N) with
  | true=>rfl
  | false=>rw [ih];simp
theorem delV_beg {b:Nat} {s:Sto} {r:Roles} {uv lv:Value} {mb mv:Nat} {Y w5:World} (h:KSv b s r uv lv mb mv Y) {n k:Tx} {f g:Value→Option Value} (hf:VF Y r f s.vs) (hm2:MapIs isTwo w5 mv g) (hg1:g (keyV n k)=none) (hg2:∀ v,v≠keyV n k→g v=f v) (k2:Kept (·=mv) Y w5) :
  KSv b (s.setVs n k []) r uv lv mb mv w5∧∀ (lo:Nat) W W' f',Kept (fun g=>g < lo∧r g=.none) w5 W→MapIs isTwo W' mv f'→f' (keyV n k)=f (keyV n k)→(∀ v,v≠keyV n k→f' v=g v)→Kept (·=mv) W W'→KSv b s r uv lv mb mv W':=by
 have nv:∀ {q},r q≠.vss→¬ q=mv:=fun h1 e=>h1 (by rw [e];exact h.rv)
 have hf2:VF w5 r f s.vs:=hf.kept k2 (fun q _ _ e=>nv (by rw [e];simp))
 have K2:KSv b (s.setVs n k []) r uv lv mb mv w5:=h.putV k2 hm2 (hf2.del hg1 hg2)
 refine ⟨K2,fun lo W W' f' hW hm' e1 e2 k'=>?_⟩
 have nn:∀ q,r q≠.none→¬ (q < lo∧r q=.none):=fun q h1 h2=>h1 h2.2
 have ff:f'=f:=funext fun v=>by
  by_cases hv:v=keyV n k
  ·rw [hv];exact e1
  ·rw [e2 v hv];exact hg2 v hv
 have hB':VF W' r f' s.vs:=by
  rw [ff]
  exact (hf2.kept hW (fun q c j e=>nn q (by rw [e];simp))).kept k' (fun q _ _ e=>nv (by rw [e];simp))
 have KB:KSv b { s.setVs n k [] with vs:=s.vs } r uv lv mb mv W':=(K2.kept hW nn).putV k' hm' hB'
 exact KB
theorem vcells_take (l:List Ver) (i:Nat):(vcells l).take (i*3)=vcells (l.take i):=by
 induction l generalizing i with
 | nil=>simp [vcells]
 | cons v l ih =>
  cases i with
  | zero=>simp [vcells]
  | succ i =>
   rw [show (i+1)*3=i*3+1+1+1 by omega,List.take_succ_cons]
   show List.take (i*3+1+1+1) (_ :: _ :: _ :: vcells l)=_ :: _ :: _ :: vcells (l.take i)
   rw [List.take_succ_cons,List.take_succ_cons,List.take_succ_cons,ih i]
theorem vcells_drop (l:List Ver) (i:Nat):(vcells l).drop (i*3)=vcells (l.drop i):=by
 induction l generalizing i with
 | nil=>simp [vcells]
 | cons v l ih =>
  cases i with
  | zero=>simp
  | succ i =>
   rw [show (i+1)*3=i*3+1+1+1 by omega,List.drop_succ_cons]
   show List.drop (i*3+1+1+1) (_ :: _ :: _ :: vcells l)=vcells (l.drop i)
   rw [List.drop_succ_cons,List.drop_succ_cons,List.drop_succ_cons,ih i]
theorem getElem?_of_take {l:List Value} {m j:Nat} {u:Value} (h:(l.take m)[j]?=some u):l[j]?=some u:=by
 rw [List.getElem?_take] at h
 split at h
 ·exact h
 ·cases h
theorem drop_set {b:Nat} {s:Sto} {r:Roles} {uv lv:Value} {mb mv:Nat} {W0 w2:World} (h:KSv b s r uv lv mb mv W0) {n k:Tx} {f:Value→Option Value} (hm:MapIs isTwo W0 mv f) (hf:VF W0 r f s.vs) {o:Option Sl} (ho:f (keyV n k)=o.map Sl.v) (hb2:Below W0.heap.size W0 w2) {g cap:Nat} {l:List Ver} (hl:l≠[]) (hrow:vrow w2 (.slice (some ⟨g,0,none⟩) l.length cap) l) (hg:W0.heap.size≤g) :
  Calls Tryz.prog 354 #[.map (some mv),.agg #[str n,str k],.slice (some ⟨g,0,none⟩) l.length cap] w2 fun e w5=>∃ caps r',e=.returned (.func (.func 356) #[] caps)∧KS b (s.setVs n k l) r' w5∧Step r W0 r' w5∧Undo b s r' w5 W0.heap.size 356 caps∧Kept (·=mv) w2 w5:=by
 have hgl:=(World.ownsRow.lt hrow g rfl).2
 have E:∀ q,r q≠.none→newR r (some g) (.ver n k) q=r q:=fun q e=>by
  unfold newR
  rw [if_neg (fun e2=>by cases e2;have:=h.dom g e;omega)]
 have D:∀ q,newR r (some g) (.ver n k) q≠.none→q < w2.heap.size:=fun q e=>by
  rcases newR_dom e with e1|e1
  ·cases e1;exact hgl
  ·exact Nat.lt_of_lt_of_le (h.dom q e1) hb2.size
 have hK:=h.roles hb2 E D
 have hM:=hm.below hb2
 have hV:VF w2 (newR r (some g) (.ver n k)) f s.vs:=(hf.kept (Kept.of_below hb2) (fun q c j e hq=>by have:=h.dom q (by rw [e];simp);omega)).roles (fun q c j e=>by rw [E q (by rw [e];simp)];exact e)
 refine Calls.mono (setV_any mv n k (some ⟨g,0,none⟩,l.length,cap) f o w2 hM ho) ?_
 intro e w5 hs
 obtain ⟨caps,rfl,K5,k5,un⟩:=setV_beg hK hM hV hl hrow (fun q e=>by cases e;unfold newR;rw [if_pos rfl]) hs
 refine ⟨caps,_,rfl,⟨_,_,_,_,K5⟩,⟨((Kept.of_below hb2).mono (T:=fun q=>r q≠.none) (fun q hq e=>by omega)).trans k5 (fun q hq e=>by rw [e,h.rv];simp),fun q hq e=>?_⟩,fun W hW=>?_,k5⟩
 ·rcases newR_dom e with e1|e1
  ·cases e1;omega
  ·exact e1
 ·refine Calls.mono (un W (hW.mono (fun q hq e=>⟨by have:=e.1;have:=hb2.size;omega,e.2⟩))) ?_
  rintro e W' ⟨rfl,h2,h3⟩
  exact ⟨rfl,⟨_,_,_,_,h2⟩,Step.of_kept h3 (fun q e=>by rw [e,hK.rv];simp)⟩
theorem dropBegin_any (b:Nat) (s:Sto) (r:Roles) (n k:Tx) (N:Nat) (w:World) (h:KS b s r w) (F:Fine s) :
  Calls Tryz.prog 362 #[.agg #[str n,str k,.int .i64 (N:Int)],.pointer (some ⟨b,0,none⟩)] w (begPost b s r w (s.begin (.drop n k N))):=by
 obtain ⟨uv,lv,mb,mv,h⟩:=h
 have hb:=h.blt
 have HBG:Hid (s.begin (.drop n k N)=if (s.vs n k).any (fun v=>v.num == N)=true then .ok (s.setVs n k ((s.vs n k).eraseP (fun v=>v.num == N))) else .error 404):=rfl
 have R404:Hid (∀ w,Calls Tryz.prog 80 #[.int .i64 404,.nilIface] w fun e w'=>e=.returned (.iface 148 (.agg #[.int .i64 404,.nilIface]))∧w=w'):=fun w=>refuse_any 404 .nilIface (.inl rfl) w
 have hlen:(s.vs n k).length≤100000:=by have:=(F.vs n k).1;have:=F.last;have:=F.log;omega
 obtain ⟨W0,hW0⟩:∃ W0,W0=((w.alloc (.cells #[str n,str k,.int .i64 (N:Int)] 245)).alloc (.cells #[.pointer (some ⟨b,0,none⟩)] 87)).alloc (.cells #[str n,str k] 289):=⟨_,rfl⟩
 have B0:Below w.heap.size w W0:=by rw [hW0];exact (((Below.refl _ _).alloc (Nat.le_refl _) _).alloc (by simp) _).alloc (by simp;omega) _
 have h0:=h.below B0
 have S0:W0.heap.size=w.heap.size+1+1+1:=by rw [hW0];simp
 have y0:W0.cell? ⟨w.heap.size,2,none⟩=some (.int .i64 (N:Int)):=by rw [hW0];simp [go_sem]
 have y1:W0.cell? ⟨w.heap.size+1,0,none⟩=some (.pointer (some ⟨b,0,none⟩)):=by rw [hW0];simp [go_sem]
 have y2:W0.cell? ⟨w.heap.size+1+1,0,none⟩=some (str n):=by rw [hW0];simp [go_sem]
 have y3:W0.cell? ⟨w.heap.size+1+1,1,none⟩=some (str k):=by rw [hW0];simp [go_sem]
 have HW0:Hid (W0=((w.alloc (.cells #[str n,str k,.int .i64 (N:Int)] 245)).alloc (.cells #[.pointer (some ⟨b,0,none⟩)] 87)).alloc (.cells #[str n,str k] 289)):=hW0
 clear hW0
 have c4:=h0.c4
 obtain ⟨f,hm,hvf,sl,o,hfo,hlk,hrow,hrr,hne,hem⟩:=h0.vs.find2 n k
 obtain ⟨va,vn,vc⟩:=sl
 have LK:∀ X,MapIs isTwo X mv f→(Instr.lookup 123 (.map (some mv)) (.agg #[str n,str k]) false).run Tryz.prog X=.ok (.slice va vn vc) X:=fun X hX=>by
  rw [hX.look placeKeys Tryz.underlying123 false (zeroV _) ⟨_,_,rfl⟩,hlk]
 have L0:=LK W0.drew hm.drew
 have L1:=fun ob=>LK (W0.alloc ob).drew (hm.alloc ob).drew
 have hsl:vn=(s.vs n k).length∧vn≤vc:=by obtain ⟨a,c,e,hc⟩:=vrow.sl hrow;cases e;exact ⟨rfl,hc⟩
 have za:∀ ob,(W0.alloc ob).cell? ⟨w.heap.size+1,0,none⟩=some (.pointer (some ⟨b,0,none⟩)):=fun ob=>cell_alloc y1 ob
 have zb:∀ ob,(W0.alloc ob).cell? ⟨b,4,none⟩=some (.map (some mv)):=fun ob=>cell_alloc c4 ob
 have zc:∀ ob,(W0.alloc ob).cell? ⟨w.heap.size+1+1,0,none⟩=some (str n):=fun ob=>cell_alloc y2 ob
 have zd:∀ ob,(W0.alloc ob).cell? ⟨w.heap.size+1+1,1,none⟩=some (str k):=fun ob=>cell_alloc y3 ob
 have ze:∀ ob,(W0.alloc ob).cell? ⟨w.heap.size,2,none⟩=some (.int .i64 (N:Int)):=fun ob=>cell_alloc y0 ob
 have BA:Below W0.heap.size W0 (W0.alloc (.cells #[.slice va vn vc] 290)).drew:=((Below.refl _ _).alloc (Nat.le_refl _) _).drew
 have IX:Hid (_):=indexOf_any N (.slice va vn vc) (s.vs n k) (W0.alloc (.cells #[.slice va vn vc] 290)).drew (vrow.below hrow BA) (by omega)
 have HH:Hid (KSv b s r uv lv mb mv w):=h
 have HH0:Hid (KSv b s r uv lv mb mv W0):=h0
 have HM:Hid (MapIs isTwo W0 mv f):=hm
 have HVF:Hid (VF W0 r f s.vs):=hvf
 have HROW:Hid (vrow W0 (.slice va vn vc) (s.vs n k)):=hrow
 have HFO:Hid (f (keyV n k)=o.map Sl.v∧(s.vs n k≠[]→o=some (va,vn,vc))):=⟨hfo,hne⟩
 clear h h0 hm hvf hrow hlk hfo hne hem LK
 obtain ⟨rfl,hcap⟩:=hsl
 go_enter Tryz.func362,Tryz.ntmps362
 go_wp2_with fail
 rw [← HW0.out]
 go_region
 go_wp2_with fail
 refine Calls.mono IX.out ?_
 rintro e w1 ⟨rfl,b1⟩
 have WAn:(W0.alloc (.cells #[.slice va (s.vs n k).length vc] 290)).drew.heap.size=w.heap.size+1+1+1+1:=by simp [S0]
 have B1:Below W0.heap.size W0 w1:=below_trans BA b1
 have q1:w1.cell? ⟨w.heap.size+1,0,none⟩=some (.pointer (some ⟨b,0,none⟩)):=(B1.cell (p:=⟨w.heap.size+1,0,none⟩) (by simp;omega)).trans y1
 have q2:w1.cell? ⟨w.heap.size+1+1,0,none⟩=some (str n):=(B1.cell (p:=⟨w.heap.size+1+1,0,none⟩) (by simp;omega)).trans y2
 have q3:w1.cell? ⟨w.heap.size+1+1,1,none⟩=some (str k):=(B1.cell (p:=⟨w.heap.size+1+1,1,none⟩) (by simp;omega)).trans y3
 have q4:w1.cell? ⟨b,4,none⟩=some (.map (some mv)):=(B1.cell (p:=⟨b,4,none⟩) (by simp;omega)).trans c4
 have q5:w1.cell? ⟨w.heap.size+1+1+1,0,none⟩=some (.slice va (s.vs n k).length vc):=(b1.cell (p:=⟨w.heap.size+1+1+1,0,none⟩) (by simp;omega)).trans (by simp [go_sem,← S0])
 clear IX L0 L1 za zb zc zd ze WAn b1 BA y0 y1 y2 y3 c4
 have hsz1:=B1.size
 have BW:=below_trans B0 B1
 cases hix:vIdx (s.vs n k) N with
 | none =>
  have HX:Hid (s.begin (.drop n k N)=.error 404):=by show _=_;rw [HBG.out,any_idx,hix];rfl
  dsimp only [vIdxI]
  go_wp2_with (go_at_call 80;refine (R404.out _).mono ?_;rintro e w' ⟨rfl,rfl⟩)
  go_ret2
  exact begPost_no HX.out rfl BW
 | some i =>
  have hi:=(find_idx hix).1
  have HX:Hid (s.begin (.drop n k N)=.ok (s.setVs n k ((s.vs n k).take i++(s.vs n k).drop (i+1)))):=by show _=_;rw [HBG.out,any_idx,hix,erase_idx _ _ hix];rfl
  dsimp only [vIdxI]
  clear HBG
  by_cases h1:(s.vs n k).length=1
  ·obtain rfl:i=0:=by omega
   have hLL:(s.vs n k).take 0++(s.vs n k).drop (0+1)=[]:=by rw [List.drop_eq_nil_of_le (by omega)];rfl
   rw [hLL] at HX
   have hm1:MapIs isTwo w1 mv f:=HM.out.below B1
   have hK1:KSv b s r uv lv mb mv w1.drew:=HH0.out.below B1.drew
   have hV1:VF w1.drew r f s.vs:=HVF.out.kept (Kept.of_below B1.drew) (fun q c j e hq=>by have:=HH0.out.dom q (by rw [e];simp);omega)
   obtain ⟨w',g',hrun,h2,⟨h3,h4⟩,h5,h6⟩:=hm1.drew.del (P:=Tryz.prog) (ty:=0) placeKeys Tryz.underlying123 (key:=.agg #[str n,str k]) ⟨_,_,rfl⟩
   have DV:Hid (_):=delV_beg (Y:=w1.drew) hK1 hV1 h2 h3 h4 h5
   have hmv:mv < w.heap.size:=HH.out.dom mv (by rw [HH.out.rv];simp)
   have nmb:¬ b=mv:=fun e=>by have:=HH.out.rv;rw [← e,HH.out.rb] at this;cases this
   have hfk:f (keyV n k)=some (.slice va (s.vs n k).length vc):=by rw [HFO.out.1,HFO.out.2 (fun e=>by rw [e] at h1;simp at h1)];rfl
   have UN:Hid (Undo b s r w' w.heap.size 364 #[.pointer (some ⟨w.heap.size+1+1+1,0,none⟩),.pointer (some ⟨w.heap.size+1,0,none⟩),.pointer (some ⟨w.heap.size+1+1,0,none⟩)]):=fun W hW=>by
    have cc:∀ {p:Addr} {v:Value},w1.cell? p=some v→¬ p.block=mv→¬ (p.block < w.heap.size∧r p.block=.none)→W.cell? p=some v:=fun {p v} e1 e2 e3=>hW.cell (a:=p) (h5.cell (a:=p) e1 e2) e3
    have g1:=cc q5 (show ¬ w.heap.size+1+1+1=mv by omega) (fun e=>by have:w.heap.size+1+1+1 < w.heap.size:=e.1;omega)
    have g2:=cc q1 (show ¬ w.heap.size+1=mv by omega) (fun e=>by have:w.heap.size+1 < w.heap.size:=e.1;omega)
    have g3:=cc q4 nmb (fun e=>by have:r b=.none:=e.2;rw [HH.out.rb] at this;cases this)
    have g4:=cc q2 (show ¬ w.heap.size+1+1=mv by omega) (fun e=>by have:w.heap.size+1+1 < w.heap.size:=e.1;omega)
    have g5:=cc q3 (show ¬ w.heap.size+1+1=mv by omega) (fun e=>by have:w.heap.size+1+1 < w.heap.size:=e.1;omega)
    have hmW:MapIs isTwo W mv g':=h2.kept hW (fun e=>by have:r mv=.none:=e.2;rw [HH.out.rv] at this;cases this)
    refine Calls.mono (drop_back mv _ _ _ b n k (va,(s.vs n k).length,vc) W g' hmW g1 g2 g3 g4 g5) ?_
    rintro e W' ⟨rfl,⟨f',m1,m2,m3⟩,m4⟩
    exact ⟨rfl,⟨_,_,_,_,DV.out.2 _ W W' f' hW m1 (by rw [m2,hfk]) m3 m4⟩,Step.of_kept m4 (fun q e=>by rw [e,HH.out.rv];simp)⟩
   have STP:Hid (Step r w r w'):=(Step.of_below BW).trans (Step.trans (Step.of_below (below_drew w1)) (Step.of_kept h5 (fun q e=>by rw [e,HH.out.rv];simp)))
   have hmf:∀ (fn:Fn) (first cap:Array Value) (w:World),(Instr.makeFunc fn first cap).run Tryz.prog w=.ok (.func fn first cap) w:=fun _ _ _ _=>rfl
   clear hm1 hK1 hV1 h2 h3 h4 h5 h6 hfk hix hLL
   go_wp2_with fail
   go_region
   all_goals go_wp2
   all_goals go_ret2
   all_goals exact begPost_ok HX.out (enters_of Tryz.func364 (by kernel_rfl) rfl) ⟨_,_,_,_,DV.out.1⟩ STP.out UN.out
  ·have t1:(((s.vs n k).length:Int) == 1)=false:=by simp;omega
   obtain ⟨g,rfl⟩:∃ g,va=some ⟨g,0,none⟩:=by
    obtain ⟨g,cap,e,_⟩:=HROW.out.form (by omega)
    cases e;exact ⟨g,rfl⟩
   have bz:∀ ob,Below w1.heap.size w1 (w1.alloc ob).drew:=fun ob=>((Below.refl _ _).alloc (Nat.le_refl _) _).drew
   have xd:w1.drew.cell? ⟨w.heap.size+1,0,none⟩=some (.pointer (some ⟨b,0,none⟩))∧w1.drew.cell? ⟨b,4,none⟩=some (.map (some mv))∧w1.drew.cell? ⟨w.heap.size+1+1,0,none⟩=some (str n)∧w1.drew.cell? ⟨w.heap.size+1+1,1,none⟩=some (str k)∧w1.drew.cell? ⟨w.heap.size+1+1+1,0,none⟩=some (.slice (some ⟨g,0,none⟩) (s.vs n k).length vc):=⟨q1,q4,q2,q3,q5⟩
   have xa:∀ ob,(w1.alloc ob).drew.cell? ⟨w.heap.size+1,0,none⟩=some (.pointer (some ⟨b,0,none⟩))∧(w1.alloc ob).drew.cell? ⟨b,4,none⟩=some (.map (some mv))∧(w1.alloc ob).drew.cell? ⟨w.heap.size+1+1,0,none⟩=some (str n)∧(w1.alloc ob).drew.cell? ⟨w.heap.size+1+1,1,none⟩=some (str k)∧(w1.alloc ob).drew.cell? ⟨w.heap.size+1+1+1,0,none⟩=some (.slice (some ⟨g,0,none⟩) (s.vs n k).length vc):=fun ob=>⟨cell_alloc q1 ob,cell_alloc q4 ob,cell_alloc q2 ob,cell_alloc q3 ob,cell_alloc q5 ob⟩
   have i1:(i:Int)≤(vc:Int):=by omega
   have i2:(i:Int)+1≤((s.vs n k).length:Int):=by omega
   have i3:(0:Int)≤(i:Int)+1:=by omega
   have hwr:IntKind.i64.wrap ((i:Int)+1)=(i:Int)+1:=by rw [IntKind.wrap_i64];omega
   have lt1:((s.vs n k).take i).length=i:=by rw [List.length_take];omega
   have lt2:((s.vs n k).drop (i+1)).length=(s.vs n k).length - (i+1):=List.length_drop
   have hg1:g < W0.heap.size:=(World.ownsRow.lt HROW.out g rfl).2
   have cells:=HROW.out.cells (g:=g) rfl
   have RD1:Hid (RdV w1 w1.heap.size (some ⟨g,0,none⟩) ((s.vs n k).take i)):=fun j u hj=>⟨⟨g,0,none⟩,rfl,show g < w1.heap.size by omega,(B1.cell (p:=(⟨g,0,none⟩:Addr).add j) (by rw [Addr.add_lit];exact hg1)).trans (cells j u (by rw [← vcells_take] at hj;exact getElem?_of_take hj))⟩
   have RD2:Hid (RdV w1 w1.heap.size (some ⟨g,(i+1)*3,none⟩) ((s.vs n k).drop (i+1))):=fun j u hj=>⟨⟨g,(i+1)*3,none⟩,rfl,show g < w1.heap.size by omega,by
    rw [← vcells_drop,List.getElem?_drop] at hj
    have:=cells ((i+1)*3+j) u hj
    rw [Addr.add_lit,Nat.zero_add] at this
    rw [Addr.add_lit]
    exact (B1.cell (p:=⟨g,(i+1)*3+j,none⟩) hg1).trans this⟩
   have RD0:Hid (vc=i+1→RdV w1 w1.heap.size (some ⟨g,0,none⟩) ((s.vs n k).drop (i+1))):=fun e j u hj=>by
    rw [show (s.vs n k).drop (i+1)=[] from List.drop_eq_nil_of_le (by omega)] at hj
    simp [vcells] at hj
   have CT:Hid (∀ a2:Addr,RdV w1 w1.heap.size (some a2) ((s.vs n k).drop (i+1))→Calls Tryz.prog 365 #[.slice (some ⟨w1.heap.size,0,none⟩) 2 2] (w1.alloc (.cells #[.slice (some ⟨g,0,none⟩) i vc,.slice (some a2) ((s.vs n k).length - (i+1)) (vc - (i+1))] 290)).drew fun e w2=>∃ g' cap',e=.returned (.slice (some ⟨g',0,none⟩) ((s.vs n k).take i++(s.vs n k).drop (i+1)).length cap')∧vrow w2 (.slice (some ⟨g',0,none⟩) ((s.vs n k).take i++(s.vs n k).drop (i+1)).length cap') ((s.vs n k).take i++(s.vs n k).drop (i+1))∧W0.heap.size≤g'∧Below W0.heap.size W0 w2∧(w2.cell? ⟨w.heap.size+1,0,none⟩=some (.pointer (some ⟨b,0,none⟩))∧w2.cell? ⟨b,4,none⟩=some (.map (some mv))∧w2.cell? ⟨w.heap.size+1+1,0,none⟩=some (str n)∧w2.cell? ⟨w.heap.size+1+1,1,none⟩=some (str k)∧w2.cell? ⟨w.heap.size+1+1+1,0,none⟩=some (.slice (some ⟨g,0,none⟩) (s.vs n k).length vc))):=fun a2 hr2=>by
    have bb:=bz (.cells #[.slice (some ⟨g,0,none⟩) i vc,.slice (some a2) ((s.vs n k).length - (i+1)) (vc - (i+1))] 290)
    have sz:(w1.alloc (.cells #[.slice (some ⟨g,0,none⟩) i vc,.slice (some a2) ((s.vs n k).length - (i+1)) (vc - (i+1))] 290)).drew.heap.size=w1.heap.size+1:=by simp
    have e1:(w1.alloc (.cells #[.slice (some ⟨g,0,none⟩) i vc,.slice (some a2) ((s.vs n k).length - (i+1)) (vc - (i+1))] 290)).drew.cell? ⟨w1.heap.size,0,none⟩=some (.slice (some ⟨g,0,none⟩) ((s.vs n k).take i).length vc):=by rw [lt1];simp [go_sem]
    have e2:(w1.alloc (.cells #[.slice (some ⟨g,0,none⟩) i vc,.slice (some a2) ((s.vs n k).length - (i+1)) (vc - (i+1))] 290)).drew.cell? ⟨w1.heap.size,1,none⟩=some (.slice (some a2) ((s.vs n k).drop (i+1)).length (vc - (i+1))):=by rw [lt2];simp [go_sem]
    refine Calls.mono (vcat_any w1.heap.size (some ⟨g,0,none⟩) (some a2) vc (vc - (i+1)) ((s.vs n k).take i) ((s.vs n k).drop (i+1)) _ e1 e2 (fun j u hj=>?_) (fun j u hj=>?_) (by rw [lt1,lt2];omega) (by rw [lt1,lt2];omega)) ?_
    ·obtain ⟨a,p1,p2,p3⟩:=RdV.below RD1.out bb j u hj;exact ⟨a,p1,by omega,p3⟩
    ·obtain ⟨a,p1,p2,p3⟩:=RdV.below hr2 bb j u hj;exact ⟨a,p1,by omega,p3⟩
    ·rintro e w2 ⟨g',cap',rfl,h1',h2',h3'⟩
     have B2:=below_trans B1 (below_trans bb h3')
     have hx:=xa (.cells #[.slice (some ⟨g,0,none⟩) i vc,.slice (some a2) ((s.vs n k).length - (i+1)) (vc - (i+1))] 290)
     exact ⟨g',cap',rfl,h1',by omega,B2,(h3'.cell (p:=⟨w.heap.size+1,0,none⟩) (show w.heap.size+1 < _ by omega)).trans hx.1,(h3'.cell (p:=⟨b,4,none⟩) (show b < _ by omega)).trans hx.2.1,(h3'.cell (p:=⟨w.heap.size+1+1,0,none⟩) (show w.heap.size+1+1 < _ by omega)).trans hx.2.2.1,(h3'.cell (p:=⟨w.heap.size+1+1,1,none⟩) (show w.heap.size+1+1 < _ by omega)).trans hx.2.2.2.1,(h3'.cell (p:=⟨w.heap.size+1+1+1,0,none⟩) (show w.heap.size+1+1+1 < _ by omega)).trans hx.2.2.2.2⟩
   have hmv:mv < w.heap.size:=HH.out.dom mv (by rw [HH.out.rv];simp)
   have nmb:¬ b=mv:=fun e=>by have:=HH.out.rv;rw [← e,HH.out.rb] at this;cases this
   have hne:(s.vs n k).take i++(s.vs n k).drop (i+1)≠[]:=fun e=>by have:=congrArg List.length e;rw [List.length_append,lt1,lt2] at this;simp at this;omega
   have ST:Hid (∀ w2 g' cap',Below W0.heap.size W0 w2→vrow w2 (.slice (some ⟨g',0,none⟩) ((s.vs n k).take i++(s.vs n k).drop (i+1)).length cap') ((s.vs n k).take i++(s.vs n k).drop (i+1))→W0.heap.size≤g'→(w2.cell? ⟨w.heap.size+1,0,none⟩=some (.pointer (some ⟨b,0,none⟩))∧w2.cell? ⟨b,4,none⟩=some (.map (some mv))∧w2.cell? ⟨w.heap.size+1+1,0,none⟩=some (str n)∧w2.cell? ⟨w.heap.size+1+1,1,none⟩=some (str k)∧w2.cell? ⟨w.heap.size+1+1+1,0,none⟩=some (.slice (some ⟨g,0,none⟩) (s.vs n k).length vc))→Calls Tryz.prog 354 #[.map (some mv),.agg #[str n,str k],.slice (some ⟨g',0,none⟩) ((s.vs n k).take i++(s.vs n k).drop (i+1)).length cap'] w2 fun e w5=>∃ caps r',e=.returned (.func (.func 356) #[] caps)∧KS b (s.setVs n k ((s.vs n k).take i++(s.vs n k).drop (i+1))) r' w5∧Step r W0 r' w5∧Undo b s r' w5 W0.heap.size 356 caps∧(w5.cell? ⟨w.heap.size+1,0,none⟩=some (.pointer (some ⟨b,0,none⟩))∧w5.cell? ⟨b,4,none⟩=some (.map (some mv))∧w5.cell? ⟨w.heap.size+1+1,0,none⟩=some (str n)∧w5.cell? ⟨w.heap.size+1+1,1,none⟩=some (str k)∧w5.cell? ⟨w.heap.size+1+1+1,0,none⟩=some (.slice (some ⟨g,0,none⟩) (s.vs n k).length vc))):=fun w2 g' cap' hb2 hr hg' hx =>
    Calls.mono (drop_set HH0.out HM.out HVF.out HFO.out.1 hb2 hne hr hg') fun e w5 h=>by
     obtain ⟨caps,r',p1,p2,p3,p4,p5⟩:=h
     exact ⟨caps,r',p1,p2,p3,p4,p5.cell hx.1 (show ¬ w.heap.size+1=mv by omega),p5.cell hx.2.1 nmb,p5.cell hx.2.2.1 (show ¬ w.heap.size+1+1=mv by omega),p5.cell hx.2.2.2.1 (show ¬ w.heap.size+1+1=mv by omega),p5.cell hx.2.2.2.2 (show ¬ w.heap.size+1+1+1=mv by omega)⟩
   generalize hLL:(s.vs n k).take i++(s.vs n k).drop (i+1)=LL at *
   clear lt1 lt2 hLL hne cells bz
   by_cases hvc:vc=i+1
   ·subst hvc
    have i4:(i:Int)≤(i:Int)+1:=by omega
    have CC0:=CT.out ⟨g,0,none⟩ (RD0.out rfl)
    rw [Nat.sub_self,Nat.sub_eq_zero_of_le hcap] at CC0
    have CC:Hid (_):=CC0
    clear CC0
    go_wp2_with fail
    go_region_held3 (fun w'=>w'.cell? ⟨w.heap.size+1,0,none⟩=some (.pointer (some ⟨b,0,none⟩))∧w'.cell? ⟨b,4,none⟩=some (.map (some mv))∧w'.cell? ⟨w.heap.size+1+1,0,none⟩=some (str n)∧w'.cell? ⟨w.heap.size+1+1,1,none⟩=some (str k)∧w'.cell? ⟨w.heap.size+1+1+1,0,none⟩=some (.slice (some ⟨g,0,none⟩) (s.vs n k).length (i+1))) (first|with_reducible exact xd|with_reducible exact xa _|with_reducible exact x2|with_reducible exact x5) (first|(go_at_call 365;refine Calls.mono CC.out ?_;rintro e w2 ⟨g',cap',rfl,hrow',hg',hb2,x2⟩)|(go_at_call 354;with_reducible refine Calls.mono (ST.out _ _ _ hb2 hrow' hg' x2) ?_;rintro e w5 ⟨caps,r',rfl,K5,st,un,x5⟩))
    all_goals go_wp2_with fail
    all_goals go_ret2
    all_goals exact begPost_ok HX.out (enters_of Tryz.func356 (by kernel_rfl) rfl) K5 ((Step.of_below B0).trans st) (fun W hW=>un W (hW.mono (fun g _ e=>⟨by have:=e.1;omega,e.2⟩)))
   ·have tv:¬ vc=((i:Int)+1).toNat:=by omega
    have CC:Hid (_):=CT.out ⟨g,(i+1)*3,none⟩ RD2.out
    go_wp2_with fail
    go_region_held3 (fun w'=>w'.cell? ⟨w.heap.size+1,0,none⟩=some (.pointer (some ⟨b,0,none⟩))∧w'.cell? ⟨b,4,none⟩=some (.map (some mv))∧w'.cell? ⟨w.heap.size+1+1,0,none⟩=some (str n)∧w'.cell? ⟨w.heap.size+1+1,1,none⟩=some (str k)∧w'.cell? ⟨w.heap.size+1+1+1,0,none⟩=some (.slice (some ⟨g,0,none⟩) (s.vs n k).length vc)) (first|with_reducible exact xd|with_reducible exact xa _|with_reducible exact x2|with_reducible exact x5) (first|(go_at_call 365;refine Calls.mono CC.out ?_;rintro e w2 ⟨g',cap',rfl,hrow',hg',hb2,x2⟩)|(go_at_call 354;with_reducible refine Calls.mono (ST.out _ _ _ hb2 hrow' hg' x2) ?_;rintro e w5 ⟨caps,r',rfl,K5,st,un,x5⟩))
    all_goals go_wp2_with fail
    all_goals go_ret2
    all_goals exact begPost_ok HX.out (enters_of Tryz.func356 (by kernel_rfl) rfl) K5 ((Step.of_below B0).trans st) (fun W hW=>un W (hW.mono (fun g _ e=>⟨by have:=e.1;omega,e.2⟩)))
def roR (r:Roles) (a b:Nat):Roles:=fun g=>if a≤g∧g < b then .ro else r g
theorem roR_old {r:Roles} {a b g:Nat} (h:g < a):roR r a b g=r g:=by unfold roR;rw [if_neg (by omega)]
theorem roR_new {r:Roles} {a b g:Nat} (h:a≤g∧g < b):roR r a b g=.ro:=by unfold roR;rw [if_pos h]
theorem roR_dom {r:Roles} {a b g:Nat} (h:roR r a b g≠.none):g < b∨r g≠.none:=by
 unfold roR at h
 by_cases e:a≤g∧g < b
 ·exact .inl e.2
 ·rw [if_neg e] at h;exact .inr h
theorem polBegin_any (b:Nat) (s:Sto) (r:Roles) (n p:Tx) (w:World) (h:KS b s r w) (hl:p.length≤1000000) :
  Calls Tryz.prog 307 #[.agg #[str n,str p],.pointer (some ⟨b,0,none⟩)] w (begPost b s r w (s.begin (.pol n p))):=by
 obtain ⟨uv,lv,mb,mv,h⟩:=h
 have hb:=h.blt
 have HBG:Hid (s.begin (.pol n p)=match s.bk n with
   | none=>.error 404
   | some x=>if (rulesOf p).1=0 then .ok (s.setBk n ⟨x.owner,p,(rulesOf p).2⟩) else .error 400):=rfl
 have R404:Hid (∀ w,Calls Tryz.prog 80 #[.int .i64 404,.nilIface] w fun e w'=>e=.returned (.iface 148 (.agg #[.int .i64 404,.nilIface]))∧w=w'):=fun w=>refuse_any 404 .nilIface (.inl rfl) w
 have R400:Hid (∀ c d,c=.iface 153 d→∀ w,Calls Tryz.prog 80 #[.int .i64 400,c] w fun e w'=>e=.returned (.iface 148 (.agg #[.int .i64 400,c]))∧w=w'):=fun c d hc w=>refuse_any 400 c (.inr ⟨_,_,hc⟩) w
 have RD:Hid (∀ w,Calls Tryz.prog 309 #[str p] w (rdPost2 w (rulesOf p))):=fun w=>rread_new p w (by omega)
 obtain ⟨W0,hW0⟩:∃ W0,W0=w.alloc (.cells #[str n,str p] 169):=⟨_,rfl⟩
 have B0:Below w.heap.size w W0:=by rw [hW0];exact (Below.refl _ _).alloc (Nat.le_refl _) _
 have h0:=h.below B0
 have S0:W0.heap.size=w.heap.size+1:=by rw [hW0];simp
 have c3:=h0.c3
 have y0:W0.cell? ⟨w.heap.size,0,none⟩=some (str n):=by rw [hW0];simp [go_sem]
 have y1:W0.cell? ⟨w.heap.size,1,none⟩=some (str p):=by rw [hW0];simp [go_sem]
 have ZB:=zeroB
 have HW0:Hid (W0=w.alloc (.cells #[str n,str p] 169)):=hW0
 clear hW0
 obtain ⟨f,hf,hbf,hcase⟩:=h.bk.find2 n
 have HF:Hid (BF w r f s.bk):=hbf
 have hfc:MapIs isStr W0 mb f:=hf.below B0
 have hmb:mb < w.heap.size:=h.dom mb (by rw [h.rk];simp)
 have n1:¬ b=w.heap.size:=by omega
 have za:∀ ob,(W0.alloc ob).cell? ⟨w.heap.size,0,none⟩=some (str n):=fun ob=>cell_alloc y0 ob
 have zb:∀ ob,(W0.alloc ob).cell? ⟨w.heap.size,1,none⟩=some (str p):=fun ob=>cell_alloc y1 ob
 have zc:∀ ob,(W0.alloc ob).cell? ⟨b,3,none⟩=some (.map (some mb)):=fun ob=>cell_alloc c3 ob
 have HH:Hid (KSv b s r uv lv mb mv w):=h
 have HM:Hid (MapIs isStr w mb f):=hf
 have HMC:Hid (MapIs isStr W0 mb f):=hfc
 clear h h0 hf
 rcases hcase with ⟨hn,hfn⟩|⟨x,sl,hx,hfx,hp⟩
 ·rw [hn] at HBG
  have LA:(Instr.lookup 122 (.map (some mb)) (str n) true).run Tryz.prog W0.drew=.ok (.tuple #[.agg #[.string ⟨#[]⟩,.string ⟨#[]⟩,.slice none 0 0],.bool false]) W0.drew:=by
   rw [hfc.drew.look strKeys Tryz.underlying122 true (zeroB _) ⟨_,rfl⟩,hfn];rfl
  have LB:∀ ob,(Instr.lookup 122 (.map (some mb)) (str n) true).run Tryz.prog (W0.alloc ob).drew=.ok (.tuple #[.agg #[.string ⟨#[]⟩,.string ⟨#[]⟩,.slice none 0 0],.bool false]) (W0.alloc ob).drew:=fun ob=>by
   rw [(hfc.alloc ob).drew.look strKeys Tryz.underlying122 true (zeroB _) ⟨_,rfl⟩,hfn];rfl
  clear hfc hfn
  go_enter Tryz.func307,Tryz.ntmps307
  go_wp2_with fail
  rw [← HW0.out]
  go_region
  all_goals go_wp2_with (go_at_call 80;refine (R404.out _).mono ?_;rintro e w' ⟨rfl,rfl⟩)
  all_goals go_ret2
  all_goals exact begPost_no HBG.out rfl (B0.alloc B0.size _).drew
 ·rw [hx] at HBG
  obtain ⟨sa,sn,sc⟩:=sl
  have LA:(Instr.lookup 122 (.map (some mb)) (str n) true).run Tryz.prog W0.drew=.ok (.tuple #[.agg #[str x.owner,str x.policy,.slice sa sn sc],.bool true]) W0.drew:=by
   rw [hfc.drew.look strKeys Tryz.underlying122 true (zeroB _) ⟨_,rfl⟩,hfx];rfl
  have LB:∀ ob,(Instr.lookup 122 (.map (some mb)) (str n) true).run Tryz.prog (W0.alloc ob).drew=.ok (.tuple #[.agg #[str x.owner,str x.policy,.slice sa sn sc],.bool true]) (W0.alloc ob).drew:=fun ob=>by
   rw [(hfc.alloc ob).drew.look strKeys Tryz.underlying122 true (zeroB _) ⟨_,rfl⟩,hfx];rfl
  have SB:Hid (∀ (sl:Sl) w',MapIs isStr w' mb f→Calls Tryz.prog 304 #[.map (some mb),str n,.agg #[str x.owner,str p,sl.v]] w' (setPost 306 mb (str n) (.agg #[str x.owner,str p,sl.v]) isStr f w')):=fun sl w' hw=>setB_any mb n x.owner p sl f (some (x.owner,x.policy,(sa,sn,sc))) w' hw (by rw [hfx];rfl)
  clear hfc hfx hp
  go_enter Tryz.func307,Tryz.ntmps307
  go_wp2_with fail
  rw [← HW0.out]
  go_region
  go_wp2_with fail
  refine Calls.mono (RD.out _) ?_
  rintro e w1 ⟨b1,sl,rfl,hp⟩
  have WAn:(W0.alloc (.cells #[str x.owner,str x.policy,.slice sa sn sc] 162)).drew.heap.size=w.heap.size+1+1:=by simp [S0]
  have BA:Below w.heap.size w (W0.alloc (.cells #[str x.owner,str x.policy,.slice sa sn sc] 162)).drew:=(B0.alloc B0.size _).drew
  have q0:(W0.alloc (.cells #[str x.owner,str x.policy,.slice sa sn sc] 162)).drew.cell? ⟨w.heap.size+1,0,none⟩=some (str x.owner):=by simp [go_sem,← S0]
  have q1:(W0.alloc (.cells #[str x.owner,str x.policy,.slice sa sn sc] 162)).drew.cell? ⟨w.heap.size,0,none⟩=some (str n):=za _
  have q2:(W0.alloc (.cells #[str x.owner,str x.policy,.slice sa sn sc] 162)).drew.cell? ⟨w.heap.size,1,none⟩=some (str p):=zb _
  have q3:(W0.alloc (.cells #[str x.owner,str x.policy,.slice sa sn sc] 162)).drew.cell? ⟨b,3,none⟩=some (.map (some mb)):=zc _
  replace b1:Below (W0.alloc (.cells #[str x.owner,str x.policy,.slice sa sn sc] 162)).drew.heap.size (W0.alloc (.cells #[str x.owner,str x.policy,.slice sa sn sc] 162)).drew w1:=b1
  replace hp:policyIn w1 (fun g=>(W0.alloc (.cells #[str x.owner,str x.policy,.slice sa sn sc] 162)).drew.heap.size≤g∧g < w1.heap.size) sl (rulesOf p).2:=hp
  generalize (W0.alloc (.cells #[str x.owner,str x.policy,.slice sa sn sc] 162)).drew=WA at *
  have B1:=below_trans BA b1
  replace q0:=(b1.cell (p:=⟨w.heap.size+1,0,none⟩) (by simp;omega)).trans q0
  replace q1:=(b1.cell (p:=⟨w.heap.size,0,none⟩) (by simp;omega)).trans q1
  replace q2:=(b1.cell (p:=⟨w.heap.size,1,none⟩) (by simp;omega)).trans q2
  replace q3:=(b1.cell (p:=⟨b,3,none⟩) (by simp;omega)).trans q3
  have hs1:=b1.size
  have m1:¬ w.heap.size=w1.heap.size:=by omega
  have m2:¬ w.heap.size+1=w1.heap.size:=by omega
  have m3:¬ b=w1.heap.size:=by omega
  obtain ⟨us,hp1,hp2⟩:=hp
  obtain ⟨pa,pc,e,hpc⟩:=row_view hp1
  subst e
  have HP:Hid (policyIn w1 (fun g=>WA.heap.size≤g∧g < w1.heap.size) (.slice pa (rulesOf p).2.length pc) (rulesOf p).2):=⟨us,hp1,hp2⟩
  clear LA LB za zb zc y0 y1 c3 hp1 hp2 hpc RD
  generalize rulesOf p=X at *
  obtain ⟨en,rs⟩:=X
  dsimp only at HBG HP ⊢
  by_cases he:en=0
  ·subst he
   rw [if_pos rfl] at HBG
   have SB2:Hid (Calls Tryz.prog 304 #[.map (some mb),str n,.agg #[str x.owner,str p,.slice pa rs.length pc]] (w1.alloc (.cells #[.slice pa rs.length pc] 160)).drew _):=SB.out (pa,rs.length,pc) _ ((HM.out.below B1).alloc _).drew
   have BW:Below w.heap.size w (w1.alloc (.cells #[.slice pa rs.length pc] 160)).drew:=(B1.alloc B1.size _).drew
   have HPW:Hid (policyIn (w1.alloc (.cells #[.slice pa rs.length pc] 160)).drew (fun g=>roR r WA.heap.size w1.heap.size g=.ro) (.slice pa rs.length pc) rs) :=
    (HP.out.kept (w':=(w1.alloc (.cells #[.slice pa rs.length pc] 160)).drew) (Kept.of_below ((Below.refl _ _).alloc (Nat.le_refl _) _).drew) (fun g h hS=>by have:=h.2;omega)).mono (fun g h=>roR_new h)
   have D1:Hid (∀ g,r g≠.none→roR r WA.heap.size w1.heap.size g=r g):=fun g e=>roR_old (by have:=HH.out.dom g e;omega)
   have D2:Hid (∀ g,roR r WA.heap.size w1.heap.size g≠.none→g < (w1.alloc (.cells #[.slice pa rs.length pc] 160)).drew.heap.size):=fun g e=>by
    have hz:(w1.alloc (.cells #[.slice pa rs.length pc] 160)).drew.heap.size=w1.heap.size+1:=by simp
    rw [hz]
    rcases roR_dom e with h|h
    ·omega
    ·have:=HH.out.dom g h;omega
   have D3:Hid (∀ g,g < w.heap.size→roR r WA.heap.size w1.heap.size g≠.none→r g≠.none):=fun g hg h=>by rw [roR_old (by omega)] at h;exact h
   have v0:∀ ob,(w1.alloc ob).cell? ⟨w.heap.size+1,0,none⟩=some (str x.owner):=fun ob=>cell_alloc q0 ob
   have v1:∀ ob,(w1.alloc ob).cell? ⟨w.heap.size,0,none⟩=some (str n):=fun ob=>cell_alloc q1 ob
   have v2:∀ ob,(w1.alloc ob).cell? ⟨w.heap.size,1,none⟩=some (str p):=fun ob=>cell_alloc q2 ob
   have v3:∀ ob,(w1.alloc ob).cell? ⟨b,3,none⟩=some (.map (some mb)):=fun ob=>cell_alloc q3 ob
   have xd:(w1.alloc (.cells #[.slice pa rs.length pc] 160)).drew.cell? ⟨b,3,none⟩=some (.map (some mb))∧(w1.alloc (.cells #[.slice pa rs.length pc] 160)).drew.cell? ⟨w.heap.size,0,none⟩=some (str n)∧(w1.alloc (.cells #[.slice pa rs.length pc] 160)).drew.cell? ⟨w.heap.size,1,none⟩=some (str p)∧(w1.alloc (.cells #[.slice pa rs.length pc] 160)).drew.cell? ⟨w.heap.size+1,0,none⟩=some (str x.owner)∧(w1.alloc (.cells #[.slice pa rs.length pc] 160)).drew.cell? ⟨w1.heap.size,0,none⟩=some (.slice pa rs.length pc):=⟨v3 _,v1 _,v2 _,v0 _,by simp [go_sem]⟩
   have nbm:¬ b=mb:=fun e=>by have:=HH.out.rk;rw [← e,HH.out.rb] at this;cases this
   have SB3:Hid (Calls Tryz.prog 304 #[.map (some mb),str n,.agg #[str x.owner,str p,.slice pa rs.length pc]] (w1.alloc (.cells #[.slice pa rs.length pc] 160)).drew fun e w5=>setPost 306 mb (str n) (.agg #[str x.owner,str p,.slice pa rs.length pc]) isStr f (w1.alloc (.cells #[.slice pa rs.length pc] 160)).drew e w5∧(w5.cell? ⟨b,3,none⟩=some (.map (some mb))∧w5.cell? ⟨w.heap.size,0,none⟩=some (str n)∧w5.cell? ⟨w.heap.size,1,none⟩=some (str p)∧w5.cell? ⟨w.heap.size+1,0,none⟩=some (str x.owner)∧w5.cell? ⟨w1.heap.size,0,none⟩=some (.slice pa rs.length pc))) :=
    Calls.mono SB2.out fun e w5 h=>⟨h,by
     obtain ⟨_,_,_,k,_⟩:=h
     exact ⟨k.cell xd.1 nbm,k.cell xd.2.1 (show ¬ w.heap.size=mb by omega),k.cell xd.2.2.1 (show ¬ w.heap.size=mb by omega),k.cell xd.2.2.2.1 (show ¬ w.heap.size+1=mb by omega),k.cell xd.2.2.2.2 (show ¬ w1.heap.size=mb by omega)⟩⟩
   clear SB SB2
   go_wp2_with fail
   go_region_held3 (fun w'=>w'.cell? ⟨b,3,none⟩=some (.map (some mb))∧w'.cell? ⟨w.heap.size,0,none⟩=some (str n)∧w'.cell? ⟨w.heap.size,1,none⟩=some (str p)∧w'.cell? ⟨w.heap.size+1,0,none⟩=some (str x.owner)∧w'.cell? ⟨w1.heap.size,0,none⟩=some (.slice pa rs.length pc)) (first|with_reducible exact xd|with_reducible exact x5) ((go_at_call 304;with_reducible refine Calls.mono SB3.out ?_;rintro e w5 ⟨hs,x5⟩;obtain ⟨caps,rfl,K2,st,un⟩:=setB_beg (x:=⟨x.owner,p,rs⟩) (r1:=roR r WA.heap.size w1.heap.size) HH.out BW D1.out D2.out D3.out HM.out HF.out HPW.out rfl hs))
   all_goals go_wp2_with fail
   all_goals go_ret2
   all_goals exact begPost_ok HBG.out (enters_of Tryz.func306 (by kernel_rfl) rfl) K2 st un
  ·have te:(en == 0)=false:=by simpa using he
   rw [if_neg he] at HBG
   clear SB
   go_wp2_with fail
   refine (R400.out _ _ rfl _).mono ?_
   rintro e w' ⟨rfl,rfl⟩
   go_wp2_with fail
   go_ret2
   exact begPost_no HBG.out rfl (B1.alloc B1.size _)
theorem unpolBegin_any (b:Nat) (s:Sto) (r:Roles) (n:Tx) (w:World) (h:KS b s r w) :
  Calls Tryz.prog 349 #[.agg #[str n],.pointer (some ⟨b,0,none⟩)] w (begPost b s r w (s.begin (.unpol n))):=by
 obtain ⟨uv,lv,mb,mv,h⟩:=h
 have hb:=h.blt
 have HBG:Hid (s.begin (.unpol n)=match s.bk n with
   | none=>.error 404
   | some x=>if x.policy=[] then .error 404 else .ok (s.setBk n ⟨x.owner,[],[]⟩)):=rfl
 obtain ⟨W0,hW0⟩:∃ W0,W0=w.alloc (.cells #[str n] 172):=⟨_,rfl⟩
 have B0:Below w.heap.size w W0:=by rw [hW0];exact (Below.refl _ _).alloc (Nat.le_refl _) _
 have h0:=h.below B0
 have PL:Hid (_):=policy_any b s r n W0 ⟨_,_,_,_,h0⟩
 have S0:W0.heap.size=w.heap.size+1:=by rw [hW0];simp
 have c3:=h0.c3
 have y0:W0.cell? ⟨w.heap.size,0,none⟩=some (str n):=by rw [hW0];simp [go_sem]
 have ZB:=zeroB
 have B1:=bfield0
 have HW0:Hid (W0=w.alloc (.cells #[str n] 172)):=hW0
 clear hW0
 obtain ⟨f,hf,hbf,hcase⟩:=h.bk.find2 n
 have HF:Hid (BF w r f s.bk):=hbf
 have hfc:MapIs isStr W0 mb f:=hf.below B0
 have hmb:mb < w.heap.size:=h.dom mb (by rw [h.rk];simp)
 have n1:¬ b=w.heap.size:=by omega
 have HH:Hid (KSv b s r uv lv mb mv w):=h
 have HM:Hid (MapIs isStr w mb f):=hf
 have HMC:Hid (MapIs isStr W0 mb f):=hfc
 have HPO:Hid (s.policyOf n=match s.bk n with|none=>[]|some x=>x.policy):=rfl
 clear h h0 hf
 by_cases hpo:s.policyOf n=[]
 ·have HB:Hid (s.begin (.unpol n)=.error 404):=by
   show _=_
   rw [HBG.out]
   rcases hcase with ⟨hn,_⟩|⟨x,sl,hx,_⟩
   ·rw [hn]
   ·have:=HPO.out
    rw [hx,hpo] at this
    rw [hx];dsimp only at this ⊢;rw [if_pos this.symm]
  rw [hpo,if_pos rfl] at PL
  clear hfc hcase
  go_enter Tryz.func349,Tryz.ntmps349
  go_wp2_with fail
  rw [← HW0.out]
  refine Calls.mono PL.out ?_
  rintro e w' ⟨⟨v,rfl,hv⟩,rfl⟩
  cases hv with
  | no _ c hc hnn =>
   go_wp2_with fail
   go_ret2
   exact begPost_no HB.out hc B0
 ·obtain ⟨x,sl,hx,hfx⟩:∃ x sl,s.bk n=some x∧f (str n)=some (.agg #[str x.owner,str x.policy,Sl.v sl]):=by
   rcases hcase with ⟨hn,_⟩|⟨x,sl,hx,hfx,_⟩
   ·exact absurd (by rw [HPO.out,hn]) hpo
   ·exact ⟨x,sl,hx,hfx⟩
  rw [hx] at HBG HPO
  have hxp:¬ x.policy=[]:=fun e=>hpo (HPO.out.trans e)
  replace HBG:Hid (s.begin (.unpol n)=.ok (s.setBk n ⟨x.owner,[],[]⟩)):=by show _=_;rw [HBG.out];dsimp only;rw [if_neg hxp]
  rw [if_neg hpo] at PL
  obtain ⟨sa,sn,sc⟩:=sl
  have LA:(Instr.lookup 122 (.map (some mb)) (str n) false).run Tryz.prog W0.drew=.ok (.agg #[str x.owner,str x.policy,.slice sa sn sc]) W0.drew:=by
   rw [hfc.drew.look strKeys Tryz.underlying122 false (zeroB _) ⟨_,rfl⟩,hfx];rfl
  have SB2:Hid (Calls Tryz.prog 304 #[.map (some mb),str n,.agg #[str x.owner,.string ⟨#[]⟩,.slice none 0 0]] W0.drew _):=setB_any mb n x.owner [] (none,0,0) f (some (x.owner,x.policy,(sa,sn,sc))) W0.drew hfc.drew (by rw [hfx];rfl)
  have nbm:¬ b=mb:=fun e=>by have:=HH.out.rk;rw [← e,HH.out.rb] at this;cases this
  have xd:W0.drew.cell? ⟨b,3,none⟩=some (.map (some mb))∧W0.drew.cell? ⟨w.heap.size,0,none⟩=some (str n):=⟨c3,y0⟩
  have SB3:Hid (Calls Tryz.prog 304 #[.map (some mb),str n,.agg #[str x.owner,.string ⟨#[]⟩,.slice none 0 0]] W0.drew fun e w5=>setPost 306 mb (str n) (bktV ⟨x.owner,[],[]⟩ (.slice none 0 0)) isStr f W0.drew e w5∧(w5.cell? ⟨b,3,none⟩=some (.map (some mb))∧w5.cell? ⟨w.heap.size,0,none⟩=some (str n))) :=
   Calls.mono SB2.out fun e w5 h=>⟨h,by
    obtain ⟨_,_,_,k,_⟩:=h
    exact ⟨k.cell xd.1 nbm,k.cell xd.2 (show ¬ w.heap.size=mb by omega)⟩⟩
  clear hfc hfx SB2 hcase
  go_enter Tryz.func349,Tryz.ntmps349
  go_wp2_with fail
  rw [← HW0.out]
  refine Calls.mono PL.out ?_
  rintro e w' ⟨⟨v,rfl,hv⟩,rfl⟩
  cases hv with
  | no _ c hc hnn=>exact absurd rfl hnn
  | ok =>
   go_wp2_with fail
   go_region_held3 (fun w'=>w'.cell? ⟨b,3,none⟩=some (.map (some mb))∧w'.cell? ⟨w.heap.size,0,none⟩=some (str n)) (first|with_reducible exact xd|with_reducible exact x5) ((go_at_call 304;with_reducible refine Calls.mono SB3.out ?_;rintro e w5 ⟨hs,x5⟩;obtain ⟨caps,rfl,K2,st,un⟩:=setB_beg (x:=⟨x.owner,[],[]⟩) HH.out B0.drew (fun _ _=>rfl) (fun g e=>Nat.lt_of_lt_of_le (HH.out.dom g e) B0.drew.size) (fun _ _ h=>h) HM.out HF.out (policyIn_nil _ _) rfl hs))
   all_goals go_wp2_with fail
   all_goals go_ret2
   all_goals exact begPost_ok HBG.out (enters_of Tryz.func306 (by kernel_rfl) rfl) K2 st un
theorem begPost_up {b:Nat} {s:Sto} {r:Roles} {w w0 w':World} {x:Except Nat Sto} {e:Ending} (h:begPost b s r w0 x e w') (hb:Below w.heap.size w w0):begPost b s r w x e w':=by
 cases x with
 | error n=>exact ⟨h.1,below_trans hb h.2⟩
 | ok t =>
  obtain ⟨F,caps,r',e1,e2,e3,e4,e5⟩:=h
  exact ⟨F,caps,r',e1,e2,e3,(Step.of_below hb).trans e4,fun W hW=>e5 W (hW.mono (fun g _ e=>⟨Nat.lt_of_lt_of_le e.1 hb.size,e.2⟩))⟩
theorem begPost_two {b:Nat} {s:Sto} {r:Roles} {w w':World} {x:Except Nat Sto} {e:Ending} (h:begPost b s r w x e w'):∃ f v,e=.returned (.tuple #[f,v])∧((∃ F caps,f=.func (.func F) #[] caps∧v=.nilIface)∨(∃ n c,f=.nilFunc∧v=.iface 148 (.agg #[.int .i64 n,c]))):=by
 cases x with
 | error n=>obtain ⟨⟨c,_,e⟩,_⟩:=h;exact ⟨_,_,e,.inr ⟨_,_,rfl,rfl⟩⟩
 | ok t=>obtain ⟨F,caps,r',e,_⟩:=h;exact ⟨_,_,e,.inl ⟨_,_,rfl,rfl⟩⟩
theorem markBegin_any (b:Nat) (s:Sto) (r:Roles) (n k:Tx) (w:World) (h:KS b s r w) (F:Fine s) (hk:k.length≤1000000) :
  Calls Tryz.prog 357 #[.agg #[str n,str k],.pointer (some ⟨b,0,none⟩)] w (begPost b s r w (s.begin (.mark n k))):=by
 have B0:Below w.heap.size w (w.alloc (.cells #[str n,str k] 177)):=(Below.refl _ _).alloc (Nat.le_refl _) _
 have AD:Hid (Calls Tryz.prog 353 #[.pointer (some ⟨b,0,none⟩),.agg #[str n,str k],.agg #[.int .i64 0,.bool true,.string ⟨#[]⟩]] (w.alloc (.cells #[str n,str k] 177)) _):=add_any b s r n k true [] (w.alloc (.cells #[str n,str k] 177)) (h.below B0) F hk
 have HX:Hid (s.begin (.mark n k)=s.adds n k true []):=rfl
 clear h
 go_enter Tryz.func357,Tryz.ntmps357
 go_wp2_with fail
 refine Calls.mono AD.out ?_
 intro e w' hp
 obtain ⟨f,v,rfl,hfv⟩:=begPost_two hp
 have HP:Hid (begPost b s r w (s.begin (.mark n k)) (.returned (.tuple #[f,v])) w'):=by show begPost _ _ _ _ _ _ _;rw [HX.out];exact begPost_up hp B0
 clear AD HX hp
 rcases hfv with ⟨F1,caps,rfl,rfl⟩|⟨n1,c1,rfl,rfl⟩
 ·go_wp2
  go_ret2
  exact HP.out
 ·go_wp2
  go_ret2
  exact HP.out
theorem putBegin_any (b:Nat) (s:Sto) (r:Roles) (n k y:Tx) (w:World) (h:KS b s r w) (F:Fine s) (hk:k.length≤1000000) (hy:y.length≤9223372036854775807) :
  Calls Tryz.prog 351 #[.agg #[str n,str k,str y],.pointer (some ⟨b,0,none⟩)] w (begPost b s r w (s.begin (.put n k y))):=by
 have B0:Below w.heap.size w (w.alloc (.cells #[str n,str k,str y] 175)):=(Below.refl _ _).alloc (Nat.le_refl _) _
 have AD:Hid (Calls Tryz.prog 353 #[.pointer (some ⟨b,0,none⟩),.agg #[str n,str k],.agg #[.int .i64 0,.bool false,str y]] (w.alloc (.cells #[str n,str k,str y] 175)) _):=add_any b s r n k false y (w.alloc (.cells #[str n,str k,str y] 175)) (h.below B0) F hk
 have R413:Hid (∀ w,Calls Tryz.prog 80 #[.int .i64 413,.nilIface] w fun e w'=>e=.returned (.iface 148 (.agg #[.int .i64 413,.nilIface]))∧w=w'):=fun w=>refuse_any 413 .nilIface (.inl rfl) w
 have HX:Hid (s.begin (.put n k y)=if 300 < y.length then .error 413 else s.adds n k false y):=rfl
 clear h
 by_cases hl:300 < y.length
 ·rw [if_pos hl] at HX
  go_enter Tryz.func351,Tryz.ntmps351
  go_wp2_with (go_at_call 80;refine (R413.out _).mono ?_;rintro e w' ⟨rfl,rfl⟩)
  go_ret2
  exact begPost_no HX.out rfl B0
 ·rw [if_neg hl] at HX
  go_enter Tryz.func351,Tryz.ntmps351
  go_wp2_with fail
  refine Calls.mono AD.out ?_
  intro e w' hp
  obtain ⟨f,v,rfl,hfv⟩:=begPost_two hp
  have HP:Hid (begPost b s r w (s.begin (.put n k y)) (.returned (.tuple #[f,v])) w'):=by show begPost _ _ _ _ _ _ _;rw [HX.out];exact begPost_up hp B0
  clear AD HX hp
  rcases hfv with ⟨F1,caps,rfl,rfl⟩|⟨n1,c1,rfl,rfl⟩
  ·go_wp2
   go_ret2
   exact HP.out
  ·go_wp2
   go_ret2
   exact HP.out
theorem app3 (c:UInt8) (q r:List UInt8):(⟨#[c]⟩:ByteArray)++⟨q.toArray⟩++⟨r.toArray⟩=⟨(c :: (q++r)).toArray⟩:=by apply ByteArray.ext;simp
def bodyB (b o:List UInt8):List UInt8:=66 :: (shortT b++shortT o)
theorem bodyB_any (b o:List UInt8) (hb:b.length≤100000) (ho:o.length≤100000) (w:World) :
  Calls Tryz.prog 303 #[.agg #[str b,str o]] w fun e w'=>e=.returned (str (bodyB b o))∧Below w.heap.size w w':=by
 have C1:Hid (_):=fshort_any b (by omega)
 have C2:Hid (_):=fshort_any o (by omega)
 have l1:(shortT b).length≤200000:=by simp [shortT,bigL_len];omega
 have l2:(shortT o).length≤200000:=by simp [shortT,bigL_len];omega
 have HR:Hid (bodyB b o=66 :: (shortT b++shortT o)):=rfl
 have b0:Below w.heap.size w (w.alloc (.cells #[str b,str o] 167)).drew:=((Below.refl _ _).alloc (Nat.le_refl _) _).drew
 have HS:Hid (_):=app3 66 (shortT b) (shortT o)
 generalize shortT b=q at *
 generalize shortT o=r at *
 go_enter Tryz.func303,Tryz.ntmps303
 go_wp2_with fail
 go_region_with (first|(go_at_call 305;refine (C1.out _).mono ?_;rintro e w1 ⟨rfl,b1⟩;try (have d1:w1.cell? ⟨w.heap.size,1,none⟩=some (str o):=(b1.cell (p:=⟨w.heap.size,1,none⟩) (by simp)).trans (by simp [go_sem])))|(go_at_call 305;refine (C2.out _).mono ?_;rintro e w2 ⟨rfl,b2⟩;try (have d0:w2.cell? ⟨w.heap.size,0,none⟩=some (str b):=(b2.cell (p:=⟨w.heap.size,0,none⟩) (by simp)).trans (by simp [go_sem]))))
 all_goals go_wp2
 all_goals go_ret
 all_goals exact ⟨by rw [HR.out];exact congrArg (fun z=>Ending.returned (Value.string z)) HS.out,below_trans (below_trans b0 b1) b2⟩
end Go.Proofs.YtbllcgibmgbnjaaGreatDoor.P
