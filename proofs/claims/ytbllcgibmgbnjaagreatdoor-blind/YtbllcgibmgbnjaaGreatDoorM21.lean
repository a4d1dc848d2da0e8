import Derived.Test.YtbllcgibmgbnjaaGreatDoorM20
import Derived.Deep.RegionHeldLaw
import Derived.Laws.EntriesVeiled
import Derived.Lib.AppendZeros
import Derived.Deep.AppendSrc
import Derived.Test.YtbllcgibmgbnjaaGreatDoorM19
import Derived.BigRegion
set_option maxHeartbeats 4000000
set_option maxRecDepth 20000
namespace Go.Proofs.YtbllcgibmgbnjaaGreatDoor.P
open Go.RowKit
open C (ret_bool ret_int ret_str)
theorem KSv.setLast {b:Nat} {s:Sto} {r:Roles} {uv lv:Value} {mb mv:Nat} {W:World} (h:KSv b s r uv lv mb mv W) (m:Nat):KSv b { s with last:=m } r uv lv mb mv (W.setCell ⟨b,5,none⟩ (.int .i64 (m:Int)))∧Kept (·=b) W (W.setCell ⟨b,5,none⟩ (.int .i64 (m:Int))):=by
 have k:Kept (·=b) W (W.setCell ⟨b,5,none⟩ (.int .i64 (m:Int))):=Kept.of_grown1 (grown_set _ _ _ _)
 have nb:∀ {g},r g≠.self→¬ g=b:=fun h1 e=>h1 (by rw [e];exact h.rb)
 have hb:=h.blt
 have c0:=h.c0;have c1:=h.c1;have c2:=h.c2;have c3:=h.c3;have c4:=h.c4;have c5:=h.c5;have fz:=h.fz
 refine ⟨{ c0:=?_,c1:=?_,c2:=?_,c3:=?_,c4:=?_,c5:=?_,fz:=?_,rb:=h.rb,us:=k.row h.us (fun g e=>nb (by rw [h.ur g e];simp)),ur:=h.ur,lg:=k.row h.lg (fun g e=>nb (by rw [h.lr g e];simp)),lr:=h.lr,bk:=h.bk.kept k (nb (by rw [h.rk];simp)) (fun g e=>nb (by rw [e];simp)),rk:=h.rk,vs:=h.vs.kept k (nb (by rw [h.rv];simp)) (fun g _ _ e=>nb (by rw [e];simp)),rv:=h.rv,dom:=fun g e=>Nat.lt_of_lt_of_le (h.dom g e) k.size },k⟩
 ·simp [go_sem,c0]
 ·simp [go_sem,c1]
 ·simp [go_sem,c2]
 ·simp [go_sem,c3]
 ·simp [go_sem,c4]
 ·simp [go_sem,c5]
 ·intro j;simp [go_sem,fz]
theorem addBack_any {b:Nat} {s:Sto} {r:Roles} {uv lv:Value} {mb mv fb sp:Nat} {caps:Array Value} {W:World} (hl:s.last≤1000000)
  (hsp:¬ sp=mv)
  (hc:Calls Tryz.prog 356 caps W fun e W'=>e=.returned (.tuple #[])∧KSv b { s with last:=s.last+1 } r uv lv mb mv W'∧Kept (·=mv) W W')
  (h1:W.cell? ⟨fb,0,none⟩=some (.func (.func 356) #[] caps)) (h2:W.cell? ⟨sp,0,none⟩=some (.pointer (some ⟨b,0,none⟩))) :
  Calls Tryz.prog 355 #[.pointer (some ⟨fb,0,none⟩),.pointer (some ⟨sp,0,none⟩)] W fun e W'=>e=.returned (.tuple #[])∧KSv b s r uv lv mb mv W'∧Kept (fun g=>g=mv∨g=b) W W':=by
 have CL:Hid (_):=hc
 have hen:=enters_of Tryz.func356 (by kernel_rfl) rfl
 clear hc
 go_enter Tryz.func355,Tryz.ntmps355
 go_wp2_with fail
 refine Calls.mono CL.out ?_
 rintro e W1 ⟨rfl,K1,k1⟩
 replace h2:=k1.cell h2 hsp
 have c5:=K1.c5
 have f5:=K1.fz 5
 have HK:Hid (KSv b { s with last:=s.last+1 } r uv lv mb mv W1):=K1
 clear CL h1 K1
 dsimp only at c5
 go_wp2
 go_end0
 obtain ⟨K3,k3⟩:=HK.out.setLast s.last
 refine ⟨rfl,?_,(k1.mono (T:=fun g=>g=mv∨g=b) (fun g _ e=>.inl e)).trans (k3.mono (T:=fun g=>g=mv∨g=b) (fun g _ e=>.inr e)) (fun _ _ e=>e)⟩
 exact K3
def Sto.adds (s:Sto) (n k:Tx) (mark:Bool) (y:Tx):Except Nat Sto:=match s.bk n with
 | none=>.error 404
 | some _=>if keyP k=true then .ok (s.add n k mark y) else .error 400
abbrev vcellsA (m:Nat) (mark:Bool) (y:Tx):Array Value:=#[.int .i64 (m:Int),.bool mark,str y]
abbrev addS (b mv H:Nat) (n k:Tx) (m:Int) (mark:Bool) (y:Tx) (X:World):Prop :=
 X.cell? ⟨H,0,none⟩=some (.pointer (some ⟨b,0,none⟩))∧X.cell? ⟨b,4,none⟩=some (.map (some mv))∧X.cell? ⟨H+1,0,none⟩=some (str n)∧X.cell? ⟨H+1,1,none⟩=some (str k)∧X.cell? ⟨H+1+1,0,none⟩=some (.int .i64 m)∧X.cell? ⟨H+1+1,1,none⟩=some (.bool mark)∧X.cell? ⟨H+1+1,2,none⟩=some (str y)
theorem addS.kept {b mv H:Nat} {n k:Tx} {m:Int} {mark:Bool} {y:Tx} {S:Nat→Prop} {X X':World} (h:addS b mv H n k m mark y X) (q:Kept S X X') (h1:¬ S H) (h2:¬ S b) (h3:¬ S (H+1)) (h4:¬ S (H+1+1)):addS b mv H n k m mark y X' :=
 ⟨q.cell h.1 h1,q.cell h.2.1 h2,q.cell h.2.2.1 h3,q.cell h.2.2.2.1 h3,q.cell h.2.2.2.2.1 h4,q.cell h.2.2.2.2.2.1 h4,q.cell h.2.2.2.2.2.2 h4⟩
theorem addS.alloc {b mv H:Nat} {n k:Tx} {m:Int} {mark:Bool} {y:Tx} {X:World} (h:addS b mv H n k m mark y X) (o:Obj):addS b mv H n k m mark y (X.alloc o) :=
 ⟨cell_alloc h.1 o,cell_alloc h.2.1 o,cell_alloc h.2.2.1 o,cell_alloc h.2.2.2.1 o,cell_alloc h.2.2.2.2.1 o,cell_alloc h.2.2.2.2.2.1 o,cell_alloc h.2.2.2.2.2.2 o⟩
theorem addS.set {b mv H:Nat} {n k:Tx} {m:Int} {mark:Bool} {y:Tx} {X:World} (h:addS b mv H n k m mark y X) {fb:Nat} (hf:b < fb∧H+1+1 < fb) (v:Value):addS b mv H n k m mark y (X.setCell ⟨fb,0,none⟩ v) :=
 h.kept (Kept.of_grown1 (grown_set _ fb _ _)) (by omega) (by omega) (by omega) (by omega)
theorem Tryz.infoVer:(Tryz.prog.info? 292).map (fun i=>(i.zero,i.size,i.bytes))=some (some (.agg #[.int .i64 0,.bool false,.string ⟨#[]⟩]),3,32):=by kernel_rfl
theorem verapp_step {X:World} {ops:Array Oper} {o:Oper} {a:Act} {K:Act→World→Prop} {Q:Exit→Act→World→Prop} {E:Prop} (hgd:o.guard=none) (s x:Operand)
  (ho:o.op=.call { callee:=.builtin .append,args:=#[s,x],argTypes:=#[290,290] })
  (l:List Ver) (u:Ver) (v:Value) (hs:a.eval s=v) (hown:vrow X v l) (H:Nat) (hx:a.eval x=.slice (some ⟨H,0,none⟩) 1 1)
  (fr:Nat×Nat) (q:Int) (hq:q=(u.num:Int)) (hblk:X.heap[H]?=some (.cells #[.int .i64 q,.bool u.mark,str u.body] 292 fr)) (hlen:l.length≤1000000000)
  (h:∀ g cap w',Appended X w' 0 292 3 v (.slice (some ⟨g,0,none⟩) (l.length+1) cap) l.length 1 (vcells l) (vcell u)→K (a.put o.dst (.slice (some ⟨g,0,none⟩) (l.length+1) cap)) w') :
  if Region.wanted o (yielded ops a.tmps)=true then Oper.wp Tryz.prog o a X K Q else E:=by
 subst hq
 have hw:Region.wanted o (yielded ops a.tmps)=true:=by simp [Region.wanted,hgd]
 rw [if_pos hw]
 obtain ⟨i0,hi,hz0,hz1,hz2⟩:=info_parts Tryz.infoVer
 obtain ⟨v',w',hr,h2⟩:=run_append_two (P:=Tryz.prog) X 290 o.type 0 292 i0 (.agg #[.int .i64 0,.bool false,.string ⟨#[]⟩]) 3 32 Tryz.underlying290 hi hz0 hz1 hz2 rfl v l.length (vcells l) hown ⟨H,0,none⟩ 1 1 (vcell u) (by simp [vcell])
  (fun j q hq=>World.news_of_block hblk j q (by simpa [vcell] using hq)) (by intro q hq;simp [vcell] at hq;rcases hq with e|e|e <;> rw [e] <;> rfl) (by omega) (by unfold maxLen;omega) (by omega) (Nat.zero_le _)
 obtain ⟨g,cap,rfl,_,_⟩:=h2.own.form (by omega)
 unfold Oper.wp execOp
 simp only [ho,resolve,invoke,builtin,Sem.run_bind,Sem.run_pure,Result.andThen_ok,List.map_toArray,List.map_cons,List.map_nil,hs,hx,hr]
 exact h g cap w' h2
theorem KSv.fresh {b:Nat} {s:Sto} {r:Roles} {uv lv:Value} {mb mv:Nat} {w:World} (h:KSv b s r uv lv mb mv w) {q:Nat} (hq:w.heap.size≤q):r q=.none:=by
 cases e:r q with
 | none=>rfl
 | _=>have:=h.dom q (by rw [e];simp);omega
theorem Step.then {r r':Roles} {S:Nat→Prop} {W w5 wx:World} (h:Step r W r' w5) (k:Kept S w5 wx) (hS:∀ j,S j→W.heap.size≤j):Step r W r' wx :=
 ⟨h.kept.trans k (fun j hj e=>absurd (hS j e) (by omega)),h.mine⟩
structure AddA (b:Nat) (s:Sto) (r:Roles) (uv lv:Value) (mb mv:Nat) (n k:Tx) (u:Ver) (f:Value→Option Value) (W2:World) (g cap:Nat) (w1:World):Prop where
 ks:KSv b s (newR r (some g) (.ver n k)) uv lv mb mv w1
 map:MapIs isTwo w1 mv f
 vf:VF w1 (newR r (some g) (.ver n k)) f s.vs
 row:vrow w1 (.slice (some ⟨g,0,none⟩) ((s.vs n k).length+1) cap) (s.vs n k++[u])
 step:Step r W2 (newR r (some g) (.ver n k)) w1
 size:W2.heap.size≤w1.heap.size
theorem add_app {b:Nat} {s:Sto} {r:Roles} {uv lv:Value} {mb mv:Nat} {W2 X w1:World} (h:KSv b s r uv lv mb mv W2) (hX:Below W2.heap.size W2 X) {n k:Tx} {f:Value→Option Value} (hm:MapIs isTwo W2 mv f) (hf:VF W2 r f s.vs) {sl:Value} (hlook:s.vs n k≠[]→f (keyV n k)=some sl) (hr:∀ g,sl.ownBlock=some g→r g=.ver n k) {u:Ver} {g cap:Nat}
  (ha:Appended X w1 0 292 3 sl (.slice (some ⟨g,0,none⟩) ((s.vs n k).length+1) cap) (s.vs n k).length 1 (vcells (s.vs n k)) (vcell u)) :
  AddA b s r uv lv mb mv n k u f W2 g cap w1∧X.heap.size≤w1.heap.size∧Kept (fun q=>r q=.ver n k) X w1∧(∀ q,W2.heap.size≤q→q < X.heap.size∨w1.heap.size≤q→newR r (some g) (.ver n k) q=.none):=by
 obtain ⟨a1,a2,a3,a4⟩:=(h.below hX).app (hm.below hX) (hf.kept (Kept.of_below hX) (fun g c j e hg=>by have:=h.dom g (by rw [e];simp);omega)) hlook hr ha rfl
 have hrow:=ha.own
 rw [← vcells_snoc] at hrow
 refine ⟨⟨a1,a2,a3,by simpa [vrow] using hrow,(Step.of_below hX).trans a4,Nat.le_trans hX.size a4.kept.size⟩,a4.kept.size,ha.kept.mono (fun q _ e=>hr q e),fun q h1 h2=>?_⟩
 have hgl:g < w1.heap.size:=a1.dom g (by show newR r (some g) (.ver n k) g≠_;unfold newR;rw [if_pos rfl];simp)
 unfold newR
 by_cases e:some g=some q
 ·cases e
  rcases h2 with h2|h2
  ·rcases ha.lies with h3|h3
   ·have:=h.dom g (by rw [hr g h3.symm];simp);omega
   ·have:g=X.heap.size:=by simpa [Value.ownBlock] using h3
    omega
  ·omega
 ·rw [if_neg e]
  cases hq:r q with
  | none=>rfl
  | _=>have:=h.dom q (by rw [hq];simp);omega
structure AddB (b:Nat) (s:Sto) (r r':Roles) (uv lv:Value) (mb mv:Nat) (n k:Tx) (l:List Ver) (W2 Y:World) (caps:Array Value) (w5:World):Prop where
 ks:KSv b (s.setVs n k l) r' uv lv mb mv w5
 step:Step r W2 r' w5
 size:Y.heap.size≤w5.heap.size
 wy:W2.heap.size≤Y.heap.size
 back:∀ W,Kept (fun q=>q < Y.heap.size∧r' q=.none) w5 W→Calls Tryz.prog 356 caps W fun e W'=>e=.returned (.tuple #[])∧KSv b s r' uv lv mb mv W'∧Kept (·=mv) W W'
theorem add_set {b:Nat} {s:Sto} {r:Roles} {uv lv:Value} {mb mv:Nat} {n k:Tx} {u:Ver} {f:Value→Option Value} {W2 w1 Y:World} {g cap:Nat} (h:AddA b s r uv lv mb mv n k u f W2 g cap w1) (hY:Below w1.heap.size w1 Y) {o:Option Sl} (ho:f (keyV n k)=o.map Sl.v) :
  Calls Tryz.prog 354 #[.map (some mv),.agg #[str n,str k],.slice (some ⟨g,0,none⟩) ((s.vs n k).length+1) cap] Y fun e w5=>∃ caps,e=.returned (.func (.func 356) #[] caps)∧AddB b s r (newR r (some g) (.ver n k)) uv lv mb mv n k (s.vs n k++[u]) W2 Y caps w5∧Kept (·=mv) Y w5:=by
 have hKY:=h.ks.below hY
 have hMY:=h.map.below hY
 have dom:=h.ks.dom
 have hVY:VF Y (newR r (some g) (.ver n k)) f s.vs:=h.vf.kept (Kept.of_below hY) (fun q c j e hg=>by have:=dom q (by rw [e];simp);omega)
 have hRY:=vrow.below h.row hY
 refine Calls.mono (setV_any mv n k (some ⟨g,0,none⟩,(s.vs n k).length+1,cap) f o Y hMY ho) ?_
 intro e w5 hs
 obtain ⟨caps,rfl,K5,k5,un⟩:=setV_beg hKY hMY hVY (by simp) hRY (fun q e=>by cases e;unfold newR;rw [if_pos rfl]) hs
 refine ⟨caps,rfl,⟨K5,?_,k5.size,Nat.le_trans h.size hY.size,un⟩,k5⟩
 refine h.step.trans (Step.trans (Step.of_below hY) (Step.of_kept k5 (fun q e=>by rw [e,hKY.rv];simp)))
def AddEnd (b:Nat) (s:Sto) (r:Roles) (uv lv:Value) (mb mv:Nat) (n k:Tx) (l:List Ver) (H:Nat) (W2:World) (fb:Nat) (wx:World):Prop :=
 W2.heap.size≤fb∧∃ r' caps,wx.cell? ⟨fb,0,none⟩=some (.func (.func 356) #[] caps)∧wx.cell? ⟨H,0,none⟩=some (.pointer (some ⟨b,0,none⟩))∧KSv b (s.setVs n k l) r' uv lv mb mv wx∧Step r W2 r' wx ∧
  ∀ W,Kept (fun g=>g < W2.heap.size∧r' g=.none) wx W→Calls Tryz.prog 356 caps W fun e W'=>e=.returned (.tuple #[])∧KSv b s r' uv lv mb mv W'∧Kept (·=mv) W W'
theorem add_end {b:Nat} {s:Sto} {r r':Roles} {uv lv:Value} {mb mv:Nat} {n k:Tx} {l:List Ver} {W2 Y w5 wx:World} {caps:Array Value} {H fb:Nat} (h:AddB b s r r' uv lv mb mv n k l W2 Y caps w5) (q:Kept (·=fb) w5 wx) (hfb:W2.heap.size≤fb) (hn:r' fb=.none) (hY:fb < w5.heap.size→fb < Y.heap.size)
  (hc:wx.cell? ⟨fb,0,none⟩=some (.func (.func 356) #[] caps)) (hH:wx.cell? ⟨H,0,none⟩=some (.pointer (some ⟨b,0,none⟩))):AddEnd b s r uv lv mb mv n k l H W2 fb wx:=by
 refine ⟨hfb,r',caps,hc,hH,h.ks.kept q (fun g e hg=>e (by rw [hg];exact hn)),h.step.then q (fun j e=>by rw [e];exact hfb),fun W hW=>?_⟩
 refine h.back W ((q.mono (T:=fun q=>q < Y.heap.size∧r' q=.none) (fun j hj e=>⟨by rw [e];exact hY (by rw [← e];exact hj),by rw [e];exact hn⟩)).trans hW (fun j hj e=>⟨by have:=e.1;have:=h.wy;omega,e.2⟩))
theorem add_any (b:Nat) (s:Sto) (r:Roles) (n k:Tx) (mark:Bool) (y:Tx) (w:World) (h:KS b s r w) (F:Fine s) (hk:k.length≤1000000) :
  Calls Tryz.prog 353 #[.pointer (some ⟨b,0,none⟩),.agg #[str n,str k],.agg #[.int .i64 0,.bool mark,str y]] w (begPost b s r w (s.adds n k mark y)):=by
 obtain ⟨uv,lv,mb,mv,h⟩:=h
 have hb:=h.blt
 have HBG:Hid (s.adds n k mark y=match s.bk n with
   | none=>.error 404
   | some _=>if keyP k=true then .ok (s.add n k mark y) else .error 400):=rfl
 have R404:Hid (∀ w,Calls Tryz.prog 80 #[.int .i64 404,.nilIface] w fun e w'=>e=.returned (.iface 148 (.agg #[.int .i64 404,.nilIface]))∧w=w'):=fun w=>refuse_any 404 .nilIface (.inl rfl) w
 have R400:Hid (∀ w,Calls Tryz.prog 80 #[.int .i64 400,.nilIface] w fun e w'=>e=.returned (.iface 148 (.agg #[.int .i64 400,.nilIface]))∧w=w'):=fun w=>refuse_any 400 .nilIface (.inl rfl) w
 have IK:Hid (_):=fun w=>isKey_any k w hk
 have hlast:s.last≤100000:=Nat.le_trans F.last F.log
 obtain ⟨W0,hW0⟩:∃ W0,W0=((w.alloc (.cells #[.pointer (some ⟨b,0,none⟩)] 87)).alloc (.cells #[str n,str k] 289)).alloc (.cells (vcellsA 0 mark y) 292):=⟨_,rfl⟩
 have B0:Below w.heap.size w W0:=by rw [hW0];exact (((Below.refl _ _).alloc (Nat.le_refl _) _).alloc (by simp) _).alloc (by simp;omega) _
 have h0:=h.below B0
 have S0:W0.heap.size=w.heap.size+1+1+1:=by rw [hW0];simp
 have c3:=h0.c3
 have y0:W0.cell? ⟨w.heap.size,0,none⟩=some (.pointer (some ⟨b,0,none⟩)):=by rw [hW0];simp [go_sem]
 have y1:W0.cell? ⟨w.heap.size+1,0,none⟩=some (str n):=by rw [hW0];simp [go_sem]
 have y2:W0.cell? ⟨w.heap.size+1,1,none⟩=some (str k):=by rw [hW0];simp [go_sem]
 have y3:W0.heap[w.heap.size+1+1]?=some (.cells (vcellsA 0 mark y) 292):=by
  have e:((w.alloc (.cells #[.pointer (some ⟨b,0,none⟩)] 87)).alloc (.cells #[str n,str k] 289)).heap.size=w.heap.size+1+1:=by simp
  rw [hW0,← e];exact heap_alloc_new _ _
 have HW0:Hid (W0=((w.alloc (.cells #[.pointer (some ⟨b,0,none⟩)] 87)).alloc (.cells #[str n,str k] 289)).alloc (.cells (vcellsA 0 mark y) 292)):=hW0
 clear hW0
 obtain ⟨f,hf,_,hcase⟩:=h0.bk.find2 n
 have n1:¬ b=w.heap.size:=by omega
 have za:∀ ob,(W0.alloc ob).cell? ⟨w.heap.size,0,none⟩=some (.pointer (some ⟨b,0,none⟩)):=fun ob=>cell_alloc y0 ob
 have zb:∀ ob,(W0.alloc ob).cell? ⟨w.heap.size+1,0,none⟩=some (str n):=fun ob=>cell_alloc y1 ob
 have zb2:∀ ob,(W0.alloc ob).cell? ⟨w.heap.size+1,1,none⟩=some (str k):=fun ob=>cell_alloc y2 ob
 have zc:∀ ob,(W0.alloc ob).cell? ⟨b,3,none⟩=some (.map (some mb)):=fun ob=>cell_alloc c3 ob
 have ZB:=zeroB
 have HH:Hid (KSv b s r uv lv mb mv w):=h
 have HH0:Hid (KSv b s r uv lv mb mv W0):=h0
 clear h h0
 rcases hcase with ⟨hn,hfn⟩|⟨x,sl,hx,hfx,hp⟩
 ·rw [hn] at HBG
  have LA:(Instr.lookup 122 (.map (some mb)) (str n) true).run Tryz.prog W0.drew=.ok (.tuple #[.agg #[.string ⟨#[]⟩,.string ⟨#[]⟩,.slice none 0 0],.bool false]) W0.drew:=by
   rw [hf.drew.look strKeys Tryz.underlying122 true (zeroB _) ⟨_,rfl⟩,hfn];rfl
  have LB:∀ ob,(Instr.lookup 122 (.map (some mb)) (str n) true).run Tryz.prog (W0.alloc ob).drew=.ok (.tuple #[.agg #[.string ⟨#[]⟩,.string ⟨#[]⟩,.slice none 0 0],.bool false]) (W0.alloc ob).drew:=fun ob=>by
   rw [(hf.alloc ob).drew.look strKeys Tryz.underlying122 true (zeroB _) ⟨_,rfl⟩,hfn];rfl
  clear hf hfn
  go_enter Tryz.func353,Tryz.ntmps353
  go_wp2_with fail
  rw [show ((w.alloc (.cells #[.pointer (some ⟨b,0,none⟩)] 87)).alloc (.cells #[str n,str k] 289)).alloc (.cells #[.int .i64 0,.bool mark,str y] 292)=W0 from HW0.out.symm]
  go_region
  all_goals go_wp2_with (go_at_call 80;refine (R404.out _).mono ?_;rintro e w' ⟨rfl,rfl⟩)
  all_goals go_ret2
  all_goals exact begPost_no HBG.out rfl (B0.alloc B0.size _).drew
 ·rw [hx] at HBG
  obtain ⟨sa,sn,sc⟩:=sl
  have LA:(Instr.lookup 122 (.map (some mb)) (str n) true).run Tryz.prog W0.drew=.ok (.tuple #[.agg #[str x.owner,str x.policy,.slice sa sn sc],.bool true]) W0.drew:=by
   rw [hf.drew.look strKeys Tryz.underlying122 true (zeroB _) ⟨_,rfl⟩,hfx];rfl
  have LB:∀ ob,(Instr.lookup 122 (.map (some mb)) (str n) true).run Tryz.prog (W0.alloc ob).drew=.ok (.tuple #[.agg #[str x.owner,str x.policy,.slice sa sn sc],.bool true]) (W0.alloc ob).drew:=fun ob=>by
   rw [(hf.alloc ob).drew.look strKeys Tryz.underlying122 true (zeroB _) ⟨_,rfl⟩,hfx];rfl
  clear hf hfx hp
  go_enter Tryz.func353,Tryz.ntmps353
  go_wp2_with fail
  rw [show ((w.alloc (.cells #[.pointer (some ⟨b,0,none⟩)] 87)).alloc (.cells #[str n,str k] 289)).alloc (.cells #[.int .i64 0,.bool mark,str y] 292)=W0 from HW0.out.symm]
  go_region
  go_wp2_with fail
  refine (IK.out _).mono ?_
  rintro e w' ⟨rfl,rfl⟩
  have BA:Below W0.heap.size W0 (W0.alloc (.cells #[str x.owner,str x.policy,.slice sa sn sc] 162)).drew:=((Below.refl _ _).alloc (Nat.le_refl _) _).drew
  replace y0:(W0.alloc (.cells #[str x.owner,str x.policy,.slice sa sn sc] 162)).drew.cell? ⟨w.heap.size,0,none⟩=some (.pointer (some ⟨b,0,none⟩)):=za _
  replace y1:(W0.alloc (.cells #[str x.owner,str x.policy,.slice sa sn sc] 162)).drew.cell? ⟨w.heap.size+1,0,none⟩=some (str n):=zb _
  replace y2:(W0.alloc (.cells #[str x.owner,str x.policy,.slice sa sn sc] 162)).drew.cell? ⟨w.heap.size+1,1,none⟩=some (str k):=zb2 _
  clear LA LB za zb zb2 zc c3
  generalize (W0.alloc (.cells #[str x.owner,str x.policy,.slice sa sn sc] 162)).drew=WA at *
  have BW:=below_trans B0 BA
  generalize keyP k=kp at *
  cases kp with
  | false =>
   rw [if_neg (by simp)] at HBG
   go_wp2_with (go_at_call 80;refine (R400.out _).mono ?_;rintro e w' ⟨rfl,rfl⟩)
   go_ret2
   exact begPost_no HBG.out rfl BW
  | true =>
   rw [if_pos rfl] at HBG
   have hA:=HH0.out.below BA
   have c5:=hA.c5
   have f5:=hA.fz 5
   replace y3:WA.heap[w.heap.size+1+1]?=some (.cells (vcellsA 0 mark y) 292):=(BA.block _ (by omega)).trans y3
   have v0:WA.cell? ⟨w.heap.size+1+1,0,none⟩=some (.int .i64 0):=by simp [World.cell?,y3]
   have g0:WA.frozen? ⟨w.heap.size+1+1,0,none⟩=false:=by simp [World.frozen?,y3]
   have HA:Hid (KSv b s r uv lv mb mv WA):=hA
   have Y3:Hid (WA.heap[w.heap.size+1+1]?=some (.cells (vcellsA 0 mark y) 292)):=y3
   clear hA y3
   have eN:((s.last+1:Nat):Int)=(s.last:Int)+1:=by omega
   have z0:=BW.size;have zz:=BA.size
   have K1:=(HA.out.setLast (s.last+1)).1
   have k1:=(HA.out.setLast (s.last+1)).2
   rw [eN] at K1 k1
   have k2:Kept (·=w.heap.size+1+1) (WA.setCell ⟨b,5,none⟩ (.int .i64 ((s.last:Int)+1))) ((WA.setCell ⟨b,5,none⟩ (.int .i64 ((s.last:Int)+1))).setCell ⟨w.heap.size+1+1,0,none⟩ (.int .i64 ((s.last:Int)+1))):=Kept.of_grown1 (grown_set _ _ _ _)
   have K2:=K1.kept k2 (fun g e hg=>by have:=HH.out.dom g e;omega)
   have X0:addS b mv w.heap.size n k ((s.last:Int)+1) mark y ((WA.setCell ⟨b,5,none⟩ (.int .i64 ((s.last:Int)+1))).setCell ⟨w.heap.size+1+1,0,none⟩ (.int .i64 ((s.last:Int)+1))):=by
    have v1:WA.cell? ⟨w.heap.size+1+1,1,none⟩=some (.bool mark):=by simp [World.cell?,Y3.out]
    have v2:WA.cell? ⟨w.heap.size+1+1,2,none⟩=some (str y):=by simp [World.cell?,Y3.out]
    have m1:¬ w.heap.size+1+1=b:=by omega
    have m2:¬ b=w.heap.size+1+1:=by omega
    have m3:¬ w.heap.size=b:=by omega
    have m4:¬ w.heap.size+1=b:=by omega
    refine ⟨?_,K2.c4,?_,?_,?_,?_,?_⟩
    ·simp [go_sem,y0]
    ·simp [go_sem,y1]
    ·simp [go_sem,y2]
    ·simp [go_sem,v0]
    ·simp [go_sem,v1]
    ·simp [go_sem,v2]
   have Z2:((WA.setCell ⟨b,5,none⟩ (.int .i64 ((s.last:Int)+1))).setCell ⟨w.heap.size+1+1,0,none⟩ (.int .i64 ((s.last:Int)+1))).heap.size=WA.heap.size:=by simp
   have T2:Step r w r ((WA.setCell ⟨b,5,none⟩ (.int .i64 ((s.last:Int)+1))).setCell ⟨w.heap.size+1+1,0,none⟩ (.int .i64 ((s.last:Int)+1))):=((Step.of_below BW).trans (Step.of_kept k1 (fun g e=>by rw [e,HH.out.rb];simp))).then k2 (fun j e=>by omega)
   go_wp2_with fail
   clear k1 k2 K1 v0 g0 c5 f5 y0 y1 y2 Y3 HA
   generalize (WA.setCell ⟨b,5,none⟩ (.int .i64 ((s.last:Int)+1))).setCell ⟨w.heap.size+1+1,0,none⟩ (.int .i64 ((s.last:Int)+1))=W2 at *
   obtain ⟨f,hm,hvf,sl,o,hfo,hlk,hrow,hrr,hne,hem⟩:=K2.vs.find2 n k
   obtain ⟨va,vn,vc⟩:=sl
   dsimp only at hrow hne hem hvf
   have hlook:s.vs n k≠[]→f (keyV n k)=some (.slice va vn vc):=fun e=>by rw [hfo,hne e];rfl
   have LK:∀ X,MapIs isTwo X mv f→(Instr.lookup 123 (.map (some mv)) (.agg #[str n,str k]) false).run Tryz.prog X=.ok (.slice va vn vc) X:=fun X hX=>by
    rw [hX.look placeKeys Tryz.underlying123 false (zeroV _) ⟨_,_,rfl⟩,hlk]
   have L0:=LK W2.drew hm.drew
   have L1:=fun ob=>LK (W2.alloc ob).drew (hm.alloc ob).drew
   have L2:=fun ob ob'=>LK ((W2.alloc ob).alloc ob').drew ((hm.alloc ob).alloc ob').drew
   have xd:addS b mv w.heap.size n k ((s.last:Int)+1) mark y W2.drew:=X0
   have xa:∀ ob,addS b mv w.heap.size n k ((s.last:Int)+1) mark y (W2.alloc ob).drew:=fun ob=>addS.alloc X0 ob
   have xaa:∀ ob ob',addS b mv w.heap.size n k ((s.last:Int)+1) mark y ((W2.alloc ob).alloc ob').drew:=fun ob ob'=>addS.alloc (addS.alloc X0 ob) ob'
   have hlen:(s.vs n k).length≤1000000000:=by have:=(F.vs n k).1;omega
   have b1:∀ ob,Below W2.heap.size W2 (W2.alloc ob).drew:=fun ob=>((Below.refl _ _).alloc (Nat.le_refl _) _).drew
   have b2:∀ ob ob',Below W2.heap.size W2 ((W2.alloc ob).alloc ob').drew:=fun ob ob'=>(((Below.refl _ _).alloc (Nat.le_refl _) _).alloc (by simp) _).drew
   have hmv:mv < w.heap.size:=HH.out.dom mv (by rw [HH.out.rv];simp)
   have nmb:¬ b=mv:=fun e=>by have:=HH.out.rv;rw [← e,HH.out.rb] at this;cases this
   have hrw:r (w.heap.size)=.none∧r (w.heap.size+1)=.none∧r (w.heap.size+1+1)=.none:=by
    refine ⟨?_,?_,?_⟩
    ·cases hq:r w.heap.size with
     | none=>rfl
     | _=>have:=HH.out.dom w.heap.size (by rw [hq];simp);omega
    ·cases hq:r (w.heap.size+1) with
     | none=>rfl
     | _=>have:=HH.out.dom (w.heap.size+1) (by rw [hq];simp);omega
    ·cases hq:r (w.heap.size+1+1) with
     | none=>rfl
     | _=>have:=HH.out.dom (w.heap.size+1+1) (by rw [hq];simp);omega
   have AF:Hid (∀ X,Below W2.heap.size W2 X→addS b mv w.heap.size n k ((s.last:Int)+1) mark y X→∀ g cap w1,Appended X w1 0 292 3 (.slice va vn vc) (.slice (some ⟨g,0,none⟩) ((s.vs n k).length+1) cap) (s.vs n k).length 1 (vcells (s.vs n k)) (vcell ⟨s.last+1,mark,y⟩) →
     addS b mv w.heap.size n k ((s.last:Int)+1) mark y w1∧AddA b { s with last:=s.last+1 } r uv lv mb mv n k ⟨s.last+1,mark,y⟩ f W2 g cap w1∧Kept (fun q=>r q=.ver n k) X w1∧(∀ q,W2.heap.size≤q→q < X.heap.size∨w1.heap.size≤q→newR r (some g) (.ver n k) q=.none)):=fun X hX hS g cap w1 ha=>by
    obtain ⟨a1,a2,a3,a4⟩:=add_app (s:={ s with last:=s.last+1 }) K2 hX hm hvf hlook hrr ha
    exact ⟨hS.kept a3 (by rw [hrw.1];simp) (by rw [HH.out.rb];simp) (by rw [hrw.2.1];simp) (by rw [hrw.2.2];simp),a1,a3,a4⟩
   have SV:Hid (∀ w1 g cap,AddA b { s with last:=s.last+1 } r uv lv mb mv n k ⟨s.last+1,mark,y⟩ f W2 g cap w1→addS b mv w.heap.size n k ((s.last:Int)+1) mark y w1→∀ Y,Below w1.heap.size w1 Y→Calls Tryz.prog 354 #[.map (some mv),.agg #[str n,str k],.slice (some ⟨g,0,none⟩) ((s.vs n k).length+1) cap] Y fun e w5=>∃ caps,e=.returned (.func (.func 356) #[] caps)∧AddB b { s with last:=s.last+1 } r (newR r (some g) (.ver n k)) uv lv mb mv n k (s.vs n k++[⟨s.last+1,mark,y⟩]) W2 Y caps w5∧Kept (·=mv) Y w5∧addS b mv w.heap.size n k ((s.last:Int)+1) mark y w5):=fun w1 g cap hA hS Y hY =>
    Calls.mono (add_set (s:={ s with last:=s.last+1 }) hA hY hfo) fun e w5 h=>by
     obtain ⟨caps,e1,e2,e3⟩:=h
     have hl:w.heap.size+1+1 < w1.heap.size:=by have:=hA.size;omega
     exact ⟨caps,e1,e2,e3,(hS.kept (Kept.of_below hY) (by omega) (by omega) (by omega) (by omega)).kept e3 (show ¬ w.heap.size=mv by omega) nmb (show ¬ w.heap.size+1=mv by omega) (show ¬ w.heap.size+1+1=mv by omega)⟩
   have HROW:Hid (vrow W2 (.slice va vn vc) (s.vs n k)):=hrow
   have HX0:Hid (addS b mv w.heap.size n k ((s.last:Int)+1) mark y W2):=X0
   have hbl:w.heap.size+1+1 < W2.heap.size∧b < w.heap.size:=⟨by omega,hb⟩
   have H1:∀ ob,(W2.alloc ob).drew.heap[W2.heap.size]?=some ob:=fun ob=>heap_alloc_new _ _
   have H2:∀ ob ob',((W2.alloc ob).alloc ob').drew.heap[W2.heap.size]?=some ob:=fun ob ob'=>(((Below.refl (W2.alloc ob).heap.size (W2.alloc ob)).alloc (Nat.le_refl _) ob').block W2.heap.size (by simp)).trans (heap_alloc_new _ _)
   have H3:∀ ob ob',((W2.alloc ob).alloc ob').drew.heap[W2.heap.size+1]?=some ob':=fun ob ob'=>by
    have:=heap_alloc_new (W2.alloc ob) ob'
    rwa [show (W2.alloc ob).heap.size=W2.heap.size+1 by simp] at this
   have hR:∀ q,W2.heap.size≤q→¬ r q=.ver n k:=fun q hq e=>by have:=HH.out.dom q (by rw [e];simp);omega
   have cX3:∀ ob',((W2.alloc (.cells #[.nilFunc] 1)).alloc ob').drew.cell? ⟨W2.heap.size,0,none⟩=some .nilFunc:=fun ob'=>cell_alloc (show (W2.alloc (.cells #[.nilFunc] 1)).cell? ⟨W2.heap.size,0,none⟩=some .nilFunc by simp [go_sem]) ob'
   have fX3:∀ ob',((W2.alloc (.cells #[.nilFunc] 1)).alloc ob').drew.frozen? ⟨W2.heap.size,0,none⟩=false:=fun ob'=>((Kept.refl (fun _=>False) (W2.alloc (.cells #[.nilFunc] 1))).alloc ob').frozen (a:=⟨W2.heap.size,0,none⟩) (by simp) (by simp [go_sem]) (fun e=>e)
   have lt2:∀ ob ob',W2.heap.size < ((W2.alloc ob).alloc ob').drew.heap.size:=fun ob ob'=>by simp;omega
   have ba1:∀ (w1:World) ob,Below w1.heap.size w1 (w1.alloc ob):=fun w1 ob=>(Below.refl _ _).alloc (Nat.le_refl _) _
   clear Z2 X0 hrow hlook hvf hlk hfo hne hem LK K2 hrw hm
   go_cut [10] from 41 to 55 (fun v wx=>∃ fb,v=.pointer (some ⟨fb,0,none⟩)∧AddEnd b { s with last:=s.last+1 } r uv lv mb mv n k (s.vs n k++[⟨s.last+1,mark,y⟩]) w.heap.size W2 fb wx)
   case first =>
    go_region_held_law (fun w'=>w'.cell? ⟨w.heap.size,0,none⟩=some (.pointer (some ⟨b,0,none⟩))∧w'.cell? ⟨b,4,none⟩=some (.map (some mv))∧w'.cell? ⟨w.heap.size+1,0,none⟩=some (str n)∧w'.cell? ⟨w.heap.size+1,1,none⟩=some (str k)∧w'.cell? ⟨w.heap.size+1+1,0,none⟩=some (.int .i64 ((s.last:Int)+1))∧w'.cell? ⟨w.heap.size+1+1,1,none⟩=some (.bool mark)∧w'.cell? ⟨w.heap.size+1+1,2,none⟩=some (str y))
     (first|with_reducible exact xd|with_reducible exact xa _|with_reducible exact xaa _ _|with_reducible exact x1|with_reducible exact addS.alloc x1 _|with_reducible exact x5|with_reducible exact addS.alloc x5 _|with_reducible exact addS.set x5 (by have:=A1.size;omega) _|with_reducible exact addS.set (addS.alloc x5 _) (by have:=A1.size;have:=B5.size;omega) _)
     (first
      | (refine verapp_step rfl _ _ rfl (s.vs n k) ⟨s.last+1,mark,y⟩ _ rfl (vrow.below HROW.out (b1 _)) W2.heap.size rfl (0,0) ((s.last:Int)+1) eN.symm (H1 _) hlen ?_;intro g cap w1 hap;obtain ⟨x1,A1,z1,n1'⟩:=AF.out _ (b1 _) (xa _) g cap w1 hap;have zz1:=A1.size)
      | (refine verapp_step rfl _ _ rfl (s.vs n k) ⟨s.last+1,mark,y⟩ _ rfl (vrow.below HROW.out (b2 _ _)) W2.heap.size rfl (0,0) ((s.last:Int)+1) eN.symm (H2 _ _) hlen ?_;intro g cap w1 hap;obtain ⟨x1,A1,z1,n1'⟩:=AF.out _ (b2 _ _) (xaa _ _) g cap w1 hap;have zz1:=A1.size;have cF:w1.cell? ⟨W2.heap.size+1,0,none⟩=some .nilFunc:=z1.cell (by simp [go_sem]) (hR _ (by simp));have fF:w1.frozen? ⟨W2.heap.size+1,0,none⟩=false:=z1.frozen (by simp) (by simp [go_sem]) (hR _ (by simp));have nF:newR r (some g) (.ver n k) (W2.heap.size+1)=.none:=n1' _ (by simp) (.inl (by simp)))
      | (refine verapp_step rfl _ _ rfl (s.vs n k) ⟨s.last+1,mark,y⟩ _ rfl (vrow.below HROW.out (b2 _ _)) (W2.heap.size+1) rfl (0,0) ((s.last:Int)+1) eN.symm (H3 _ _) hlen ?_;intro g cap w1 hap;obtain ⟨x1,A1,z1,n1'⟩:=AF.out _ (b2 _ _) (xaa _ _) g cap w1 hap;have zz1:=A1.size;have cF:w1.cell? ⟨W2.heap.size,0,none⟩=some .nilFunc:=z1.cell (cX3 _) (hR _ (by simp));have fF:w1.frozen? ⟨W2.heap.size,0,none⟩=false:=z1.frozen (lt2 _ _) (fX3 _) (hR _ (by simp));have nF:newR r (some g) (.ver n k) (W2.heap.size)=.none:=n1' _ (by simp) (.inl (lt2 _ _)))
      | (go_at_call 354;with_reducible refine Calls.mono (SV.out _ _ _ A1 x1 _ (Below.refl _ _)) ?_;rintro e w5 ⟨caps,rfl,B5,k5,x5⟩;have zz5:=B5.size;try (have cF5:=k5.cell cF (by simp only;omega);have fF5:=k5.frozen (World.block_lt_of_cell? _ _ cF) fF (by simp only;omega)))
      | (go_at_call 354;with_reducible refine Calls.mono (SV.out _ _ _ A1 x1 _ (ba1 _ _)) ?_;rintro e w5 ⟨caps,rfl,B5,k5,x5⟩;have zz5:w1.heap.size+1≤w5.heap.size:=(by have:=B5.size;simpa using this);have cF5:w5.cell? ⟨w1.heap.size,0,none⟩=some .nilFunc:=k5.cell (by simp [go_sem]) (by simp only;omega);have fF5:w5.frozen? ⟨w1.heap.size,0,none⟩=false:=k5.frozen (by simp) (by simp [go_sem]) (by simp only;omega);have nF:=n1' w1.heap.size zz1 (.inr (Nat.le_refl _))))
    all_goals go_wp2_with fail
    all_goals go_meet
    all_goals first
     | with_reducible exact ⟨_,rfl,add_end B5 ((Kept.refl _ _).alloc _) (by omega) (B5.ks.fresh (Nat.le_refl _)) (fun h=>absurd h (Nat.lt_irrefl _)) (by simp [go_sem]) (cell_alloc x5.1 _)⟩
     | with_reducible exact ⟨_,rfl,add_end B5 (Kept.of_grown1 (grown_set _ _ _ _)) (by omega) nF (fun _=>World.block_lt_of_cell? _ _ cF) (by simp [go_sem,cF5]) ((addS.set x5 (by omega) _).1)⟩
     | with_reducible exact ⟨_,rfl,add_end B5 (Kept.of_grown1 (grown_set _ _ _ _)) (by omega) nF (fun _=>by simp) (by simp [go_sem,cF5]) ((addS.set x5 (by omega) _).1)⟩
   case rest =>
    obtain ⟨fb,rfl,hfb,r',caps,e1,e2,K,st,un⟩:=hcut
    have HB2:Hid (Undo b s r' wc w.heap.size 355 #[.pointer (some ⟨fb,0,none⟩),.pointer (some ⟨w.heap.size,0,none⟩)]):=fun W hW=>by
     refine Calls.mono (addBack_any (s:=s) (by omega) (show ¬ w.heap.size=mv by omega) (un W (hW.mono (fun g _ e=>⟨by have:=e.1;omega,e.2⟩))) (hW.cell e1 (fun e=>by have:fb < w.heap.size:=e.1;omega)) (hW.cell e2 (fun e=>by have:w.heap.size < w.heap.size:=e.1;omega))) ?_
     rintro e W' ⟨rfl,h2,h3⟩
     exact ⟨rfl,⟨_,_,_,_,h2⟩,Step.of_kept h3 (fun g e=>by rcases e with e|e;(rw [e,K.rv];simp);(rw [e,K.rb];simp))⟩
    have HK:Hid (KS b (s.add n k mark y) r' wc∧Step r w r' wc):=⟨⟨_,_,_,_,K⟩,T2.trans st⟩
    have hmf:∀ (fn:Fn) (first cap:Array Value) (w:World),(Instr.makeFunc fn first cap).run Tryz.prog w=.ok (.func fn first cap) w:=fun _ _ _ _=>rfl
    clear K st un e1 e2 T2 AF SV L0 L1 L2 xd xa xaa b1 b2 H1 H2 H3 hR cX3 fX3 lt2 ba1
    go_wp2
    go_ret2
    exact begPost_ok HBG.out (enters_of Tryz.func355 (by kernel_rfl) rfl) HK.out.1 HK.out.2 HB2.out
theorem zeroCells_size (z:Array Value) (n:Nat):(Builtin.zeroCells z n).size=n*z.size:=by rw [size_zeroCells]
theorem vgrow_any (n:Nat) (h0:0 < n) (hn:n≤1000000000) (w:World) :
  Calls Tryz.prog 366 #[.slice none 0 0,.int .i64 (n:Int)] w fun e w'=>∃ cap,e=.returned (.slice (some ⟨w.heap.size,0,none⟩) 0 cap)∧vrow w' (.slice (some ⟨w.heap.size,0,none⟩) 0 cap) []∧Below w.heap.size w w':=by
 obtain ⟨i0,hi,hz0,hz1,hz2⟩:=info_parts Tryz.infoVer
 have AP:∀ ty,(Builtin.append_ #[290,3] ty #[.slice none 0 0,.int .i64 (n:Int)]).run Tryz.prog w=_:=fun ty=>Lib.run_append_nil_zeros w 290 3 ty 292 i0 (.agg #[.int .i64 0,.bool false,.string ⟨#[]⟩]) .i64 .i64 Tryz.underlying290 Tryz.underlying3 hi hz0 n h0 (by rw [hz1];omega) (by omega) (by rw [hz2];omega)
 have hge:=grownCap_ge w n 0 292
 have hcm:grownCap w n 0 292≤maxLen:=grownCap_le_maxLen w n 0 292 (by unfold maxLen;omega)
 have HR:Hid (vrow (w.drew.alloc (.cells (Builtin.zeroCells (Value.agg #[.int .i64 0,.bool false,.string ⟨#[]⟩]).cells n++Builtin.zeroCells (Value.agg #[.int .i64 0,.bool false,.string ⟨#[]⟩]).cells (grownCap w n 0 292 - n)) 292)) (.slice (some ⟨w.heap.size,0,none⟩) 0 (grownCap w n 0 292)) []):=by
  refine ⟨rfl,.inr ⟨w.heap.size,_,_,rfl,Nat.zero_le _,heap_alloc_new w.drew _,Nat.zero_le _,hcm,?_,by simp [vcells]⟩⟩
  rw [Array.size_append,zeroCells_size,zeroCells_size,show (Value.agg #[.int .i64 0,.bool false,.string ⟨#[]⟩]).cells.size=3 from rfl,← Nat.add_mul]
  rw [Nat.add_sub_of_le hge]
 have HB:Hid (Below w.heap.size w (w.drew.alloc (.cells (Builtin.zeroCells (Value.agg #[.int .i64 0,.bool false,.string ⟨#[]⟩]).cells n++Builtin.zeroCells (Value.agg #[.int .i64 0,.bool false,.string ⟨#[]⟩]).cells (grownCap w n 0 292 - n)) 292))):=(Below.refl w.heap.size w).drew.alloc (Nat.le_refl _) _
 have HAP:Hid (_):=AP
 generalize (w.drew.alloc (.cells (Builtin.zeroCells (Value.agg #[.int .i64 0,.bool false,.string ⟨#[]⟩]).cells n++Builtin.zeroCells (Value.agg #[.int .i64 0,.bool false,.string ⟨#[]⟩]).cells (grownCap w n 0 292 - n)) 292))=W at *
 clear AP hi hz0 hz1 hz2
 generalize grownCap w n 0 292=cap at *
 have hcap:(cap:Int)≤9223372036854775807:=by have:=hcm;unfold maxLen at this;omega
 go_enter Tryz.func366,Tryz.ntmps366
 go_wp2_with (at_builtin;refine Lib.wpList_append_run _ rfl _ _ _ _ rfl _ _ rfl rfl _ _ (HAP.out _) ?_)
 go_ret
 exact ⟨cap,rfl,HR.out,HB.out⟩
def RdV (w:World) (B:Nat) (ao:Option Addr) (l:List Ver):Prop:=∀ j u,(vcells l)[j]?=some u→∃ a,ao=some a∧a.block < B∧w.cell? (a.add j)=some u
theorem RdV.below {w w':World} {B:Nat} {ao:Option Addr} {l:List Ver} (h:RdV w B ao l) (k:Below B w w'):RdV w' B ao l:=fun j u hj=>by
 obtain ⟨a,e1,e2,e3⟩:=h j u hj
 exact ⟨a,e1,e2,(k.cell (p:=a.add j) (by rw [show (a.add j).block=a.block by unfold Addr.add;split <;> rfl];exact e2)).trans e3⟩
theorem vrun_append (w:World) (B:Nat) {L l:List Ver} {g cap:Nat} (h:vrow w (.slice (some ⟨g,0,none⟩) L.length cap) L) (hg:B≤g) (hB:B≤w.heap.size) {ao:Option Addr} {c:Nat} (hr:RdV w B ao l) (hl:L.length+l.length≤1000000000) :
  ∃ g' cap' w',(∀ ty,(Builtin.append_ #[290,290] ty #[.slice (some ⟨g,0,none⟩) L.length cap,.slice ao l.length c]).run Tryz.prog w=.ok (.slice (some ⟨g',0,none⟩) (L.length+l.length) cap') w')∧vrow w' (.slice (some ⟨g',0,none⟩) (L++l).length cap') (L++l)∧B≤g'∧Below B w w':=by
 obtain ⟨i0,hi,hz0,hz1,hz2⟩:=info_parts Tryz.infoVer
 cases l with
 | nil =>
  refine ⟨g,cap,w,fun ty=>?_,by simpa using h,hg,Below.refl _ _⟩
  have hcap:L.length≤cap:=by obtain ⟨a,c,e,hc⟩:=vrow.sl h;cases e;exact hc
  have S:Src Tryz.prog i0.size 290 (.slice ao 0 c) 0 [] w:=by
   cases ao with
   | none=>exact Src.ofNil w Tryz.underlying290 c
   | some a=>exact Src.ofSlice w Tryz.underlying290 a 0 c [] (by simp) (fun j u hj=>by simp at hj) (fun u hu=>by cases hu)
  have:=run_append_room_src (P:=Tryz.prog) w 290 290 ty 292 i0 Tryz.underlying290 hi g 0 L.length cap (.slice ao 0 c) 0 [] S (by omega) (fun j hj=>by simp at hj) (fun j hj=>by simp at hj)
  exact this
 | cons x t =>
  obtain ⟨a,rfl,hab,_⟩:=hr 0 (.int .i64 (x.num:Int)) rfl
  have hcells:∀ j u,(vcells (x :: t))[j]?=some u→w.cell? (a.add j)=some u:=fun j u hj=>by
   obtain ⟨a',e1,_,e3⟩:=hr j u hj;cases e1;exact e3
  have one:∀ u∈vcells (x :: t),u.oneCell'=true:=fun u hu=>by
   simp only [vcells,List.mem_flatMap,vcell] at hu
   obtain ⟨v,_,hv⟩:=hu
   simp at hv
   rcases hv with e|e|e <;> rw [e] <;> rfl
  have R:=fun ty=>run_append_two (P:=Tryz.prog) w 290 ty 0 292 i0 (.agg #[.int .i64 0,.bool false,.string ⟨#[]⟩]) 3 32 Tryz.underlying290 hi hz0 hz1 hz2 rfl _ L.length (vcells L) h a (x :: t).length c (vcells (x :: t)) (vcells_len _) hcells one (by simp) (by unfold maxLen;omega) (by omega) (Nat.zero_le _)
  obtain ⟨v',w',hrun,h2⟩:=R 0
  have hrun':∀ ty,(Builtin.append_ #[290,290] ty #[.slice (some ⟨g,0,none⟩) L.length cap,.slice (some a) (x :: t).length c]).run Tryz.prog w=.ok v' w':=fun ty=>by
   rw [← hrun];rfl
  obtain ⟨g',cap',rfl,_,_⟩:=h2.own.form (by rw [List.length_cons];omega)
  refine ⟨g',cap',w',hrun',?_,?_,?_⟩
  ·have:=h2.own
   rw [← show vcells (L++(x :: t))=vcells L++vcells (x :: t) by simp [vcells]] at this
   rw [List.length_append]
   exact ⟨by rw [vcells_len],by have:=this.2;simpa [List.length_append] using this⟩
  ·rcases h2.either with ⟨q,e1,e2,_⟩|⟨e,_⟩
   ·cases e1;cases e2;exact hg
   ·have:g'=w.heap.size:=by simpa [Value.ownBlock] using e
    omega
  ·rcases h2.either with ⟨q,e1,e2,k⟩|⟨_,k⟩
   ·cases e1;exact (Kept.of_grown1 k).below hB (fun j e=>by rw [e];exact hg)
   ·exact k.mono hB
def tot2 (a b:Nat):Nat→Nat
 | 0=>0
 | 1=>a
 | _=>a+b
def cat2 (a b:List Ver):Nat→List Ver
 | 0=>[]
 | 1=>a
 | _=>a++b
theorem vcat_any (q:Nat) (a1 a2:Option Addr) (k1 k2:Nat) (l1 l2:List Ver) (w:World) (hc1:w.cell? ⟨q,0,none⟩=some (.slice a1 l1.length k1)) (hc2:w.cell? ⟨q,1,none⟩=some (.slice a2 l2.length k2)) (r1:RdV w w.heap.size a1 l1) (r2:RdV w w.heap.size a2 l2)
  (h0:0 < l1.length+l2.length) (hl:l1.length+l2.length≤1000000) :
  Calls Tryz.prog 365 #[.slice (some ⟨q,0,none⟩) 2 2] w fun e w'=>∃ g cap,e=.returned (.slice (some ⟨g,0,none⟩) (l1++l2).length cap)∧vrow w' (.slice (some ⟨g,0,none⟩) (l1++l2).length cap) (l1++l2)∧w.heap.size≤g∧Below w.heap.size w w':=by
 have hq:=World.block_lt_of_cell? w ⟨q,0,none⟩ hc1
 have R1:Hid (RdV w w.heap.size a1 l1):=r1
 have R2:Hid (RdV w w.heap.size a2 l2):=r2
 have GW:Hid (Calls Tryz.prog 366 #[.slice none 0 0,.int .i64 ((l1.length:Int)+(l2.length:Int))] w fun e w'=>∃ cap,e=.returned (.slice (some ⟨w.heap.size,0,none⟩) 0 cap)∧vrow w' (.slice (some ⟨w.heap.size,0,none⟩) 0 cap) []∧Below w.heap.size w w'):=by
  have:=vgrow_any (l1.length+l2.length) h0 (by omega) w
  rw [Int.natCast_add] at this
  exact this
 clear r1 r2
 go_enter Tryz.func365,Tryz.ntmps365
 go_wp2
 go_loopw [3,11] (fun sz i wr=>∃ j:Nat,j≤2∧i=.int .i64 j∧sz=.int .i64 (tot2 l1.length l2.length j:Nat)∧w=wr) (fun _ i _=>2 - (intOf i).toNat)
 case atStart=>exact ⟨0,by omega,rfl,rfl,rfl⟩
 case round =>
  obtain ⟨j,hj,rfl,rfl,rfl⟩:=hrel
  rcases (show j=0∨j=1∨j=2 by omega) with rfl|rfl|rfl
  ·dsimp only [tot2]
   go_wp2
   go_roundw
   case rel=>exact ⟨1,by omega,rfl,by simp,by trivial⟩
   case measure=>simp [intOf]
  ·dsimp only [tot2]
   go_wp2
   go_roundw
   case rel=>exact ⟨2,by omega,rfl,by simp,by trivial⟩
   case measure=>simp [intOf]
  ·dsimp only [tot2]
   go_wp2_with fail
   refine Calls.mono GW.out ?_
   rintro e w1 ⟨cap,rfl,hr0,b0⟩
   have HR0:Hid (vrow w1 (.slice (some ⟨w.heap.size,0,none⟩) 0 cap) []):=hr0
   clear GW hr0
   go_wp2
   go_loopw [6,27] (fun acc i wr=>∃ j:Nat,j≤2∧i=.int .i64 j∧∃ g c,acc=.slice (some ⟨g,0,none⟩) (cat2 l1 l2 j).length c∧vrow wr (.slice (some ⟨g,0,none⟩) (cat2 l1 l2 j).length c) (cat2 l1 l2 j)∧w.heap.size≤g∧Below w.heap.size w wr) (fun _ i _=>2 - (intOf i).toNat)
   case atStart=>exact ⟨0,by omega,rfl,w.heap.size,cap,rfl,HR0.out,Nat.le_refl _,b0⟩
   case round =>
    obtain ⟨j,hj,rfl,g,c,rfl,hrow,hg,hb⟩:=hrel
    have HRW:Hid (vrow wr (.slice (some ⟨g,0,none⟩) (cat2 l1 l2 j).length c) (cat2 l1 l2 j)):=hrow
    have d1:wr.cell? ⟨q,0,none⟩=some (.slice a1 l1.length k1):=(hb.cell (p:=⟨q,0,none⟩) hq).trans hc1
    have d2:wr.cell? ⟨q,1,none⟩=some (.slice a2 l2.length k2):=(hb.cell (p:=⟨q,1,none⟩) hq).trans hc2
    clear hrow
    rcases (show j=0∨j=1∨j=2 by omega) with rfl|rfl|rfl
    ·obtain ⟨g',c',w',hrun,hrow',hg',hb'⟩:=vrun_append wr w.heap.size (L:=cat2 l1 l2 0) (l:=l1) (c:=k1) HRW.out hg hb.size (RdV.below R1.out hb) (by simp [cat2];omega)
     dsimp only [cat2] at hrun hrow'
     have HRUN:Hid (_):=hrun
     have HROW':Hid (_):=hrow'
     clear hrun hrow'
     dsimp only [cat2]
     go_wp2_with (at_builtin;refine Lib.wpList_append_run _ rfl _ _ _ _ rfl _ _ rfl rfl _ _ (HRUN.out _) ?_)
     go_roundw
     case rel=>exact ⟨1,by omega,rfl,g',c',by simp,HROW'.out,hg',hb.trans hb'⟩
     case measure=>simp [intOf]
    ·obtain ⟨g',c',w',hrun,hrow',hg',hb'⟩:=vrun_append wr w.heap.size (L:=cat2 l1 l2 1) (l:=l2) (c:=k2) HRW.out hg hb.size (RdV.below R2.out hb) (by simp [cat2];omega)
     dsimp only [cat2] at hrun hrow'
     have HRUN:Hid (_):=hrun
     have HROW':Hid (_):=hrow'
     clear hrun hrow'
     dsimp only [cat2]
     go_wp2_with (at_builtin;refine Lib.wpList_append_run _ rfl _ _ _ _ rfl _ _ rfl rfl _ _ (HRUN.out _) ?_)
     go_roundw
     case rel=>exact ⟨2,by omega,rfl,g',c',by simp,HROW'.out,hg',hb.trans hb'⟩
     case measure=>simp [intOf]
    ·dsimp only [cat2]
     go_wp2
     go_ret
     exact ⟨g,c,rfl,HRW.out,hg,hb⟩
open Go.ChangeMaps Go.MapKept
theorem drop_back (m a b c p:Nat) (x y:List UInt8) (sl:Sl) (W:World) (g:Value→Option Value) (h:MapIs isTwo W m g)
  (ha:W.cell? ⟨a,0,none⟩=some sl.v) (hb:W.cell? ⟨b,0,none⟩=some (.pointer (some ⟨p,0,none⟩))) (hp:W.cell? ⟨p,4,none⟩=some (.map (some m))) (hc:W.cell? ⟨c,0,none⟩=some (str x)) (hc1:W.cell? ⟨c,1,none⟩=some (str y)) :
  Calls Tryz.prog 364 #[.pointer (some ⟨a,0,none⟩),.pointer (some ⟨b,0,none⟩),.pointer (some ⟨c,0,none⟩)] W (backPost m (.agg #[str x,str y]) (some sl.v) isTwo g W):=by
 obtain ⟨w',g',hrun,h1,⟨h2,h3⟩,h4,h5⟩:=h.drew.put (P:=Tryz.prog) placeKeys Tryz.underlying123 (key:=.agg #[str x,str y]) ⟨_,_,rfl⟩ sl.v
 go_enter Tryz.func364,Tryz.ntmps364
 go_wp2_with fail
 go_region
 all_goals go_end0
 all_goals exact ⟨rfl,⟨g',h1,h2,h3⟩,(Kept.refl _ _).drew.trans h4 (fun _ _ e=>e)⟩
end Go.Proofs.YtbllcgibmgbnjaaGreatDoor.P
