import Derived.Test.YtbllcgibmgbnjaaGreatDoorM25
import Derived.Test.YtbllcgibmgbnjaaGreatDoorM19
import Derived.Test.YtbllcgibmgbnjaaGreatDoorM18
set_option maxHeartbeats 4000000
set_option maxRecDepth 20000
namespace Go.Proofs.YtbllcgibmgbnjaaGreatDoor.P
open Go.RowKit
open C (ret_bool ret_int ret_str)
structure GoodU (us:Us):Prop where
 lo:1≤us.length
 hi:us.length≤6
 u:∀ x∈us,userP x=true
 d:∀ k (h:k < us.length),(us.take k).any (fun x=>x.1 == us[k].1)=false
theorem userP_len {x:Tx×Tx} (h:userP x=true):x.1.length≤12∧x.2.length≤40∧x.2≠[]:=by
 unfold userP nameP at h
 simp only [Bool.and_eq_true,decide_eq_true_eq] at h
 exact ⟨h.1.1.2.2,h.2,fun e=>by have:=h.1.2;rw [e] at this;simp at this⟩
theorem UR.take {a:Option Addr} {us:Us} {w:World} (h:UR a us w) (k:Nat):UR a (us.take k) w :=
 ⟨fun i hi=>by
  have hi2:i < us.length:=by simp at hi;omega
  obtain ⟨b,o,e,hb,c0,c1⟩:=h.at_ i hi2
  rw [List.getElem_take]
  exact ⟨b,o,e,hb,c0,c1⟩⟩
theorem areUsers_good (a:Option Addr) (cap:Nat) (us:Us) (hcap:us.length≤cap) (g:GoodU us) (w:World) (h:UR a us w) :
  Calls Tryz.prog 63 #[.slice a us.length cap] w fun e w'=>e=.returned (.bool true)∧Below w.heap.size w w':=by
 have HU:Hid (UR a us w):=h
 have HG:Hid (GoodU us):=g
 have h1:=g.lo;have h6:=g.hi
 clear h g
 have t1:decide ((us.length:Int) < 1)=false:=by simp;omega
 have t2:decide (6 < (us.length:Int))=false:=by simp;omega
 go_enter Tryz.func63,Tryz.ntmps63
 go_wp2
 go_loopw [15] (fun i wr=>∃ k:Nat,k≤us.length∧i=.int .i64 k∧Below w.heap.size w wr) (fun i _=>us.length - (intOf i).toNat)
 case atStart=>exact ⟨0,Nat.zero_le _,rfl,Below.refl _ _⟩
 case round =>
  obtain ⟨k,hk,rfl,hb⟩:=hrel
  have hsz:=hb.size
  by_cases hlt:k < us.length
  ·have UW:=HU.out.below hb
   obtain ⟨b,o,rfl,hbb,c0,c1⟩:=UW.at_ k hlt
   have hu:=HG.out.u us[k] (List.getElem_mem hlt)
   have hd:=HG.out.d k hlt
   have ltk:(us.take k).length=k:=by simp;omega
   obtain ⟨x,y,hxy⟩:∃ x y,us[k]=(x,y):=⟨_,_,rfl⟩
   rw [hxy] at c0 c1 hu hd
   have hln:=userP_len hu
   have IU:Hid (∀ W,Calls Tryz.prog 90 #[.agg #[str x,str y]] W fun e w'=>e=.returned (.bool true)∧Below W.heap.size W w'):=fun W=>by
    have:=isUser2_any (x,y) (by omega) (by omega) W
    rwa [hu] at this
   have HN:Hid (∀ W,Below wr.heap.size wr W→Calls Tryz.prog 91 #[.slice (some ⟨b,o,none⟩) k cap,str x] W fun e w'=>e=.returned (.bool false)∧Below W.heap.size W w'):=fun W hW=>by
    have:=hasName_any (some ⟨b,o,none⟩) cap (us.take k) x (by omega) W ((UW.below hW).take k)
    rw [ltk] at this
    simp only at hd
    rwa [hd] at this
   clear UW ltk hxy hu hd
   have d0:(wr.alloc (.cells #[str x,str y] 29)).cell? ⟨wr.heap.size,0,none⟩=some (str x):=by simp [go_sem]
   have d1:(wr.alloc (.cells #[str x,str y] 29)).cell? ⟨wr.heap.size,1,none⟩=some (str y):=by simp [go_sem]
   have BB:Below wr.heap.size wr (wr.alloc (.cells #[str x,str y] 29)).drew:=((Below.refl _ _).alloc (Nat.le_refl _) _).drew
   have hz0:wr.heap.size < (wr.alloc (.cells #[str x,str y] 29)).drew.heap.size:=by simp
   have zk1:(0:Int)≤(k:Int):=by omega
   have zk2:(k:Int)≤(us.length:Int):=by omega
   have zk3:(k:Int)≤(cap:Int):=by omega
   go_wp2_with fail
   generalize (wr.alloc (.cells #[str x,str y] 29))=W0 at *
   replace d0:W0.drew.cell? ⟨wr.heap.size,0,none⟩=some (str x):=d0
   replace d1:W0.drew.cell? ⟨wr.heap.size,1,none⟩=some (str y):=d1
   go_region_held3 (fun w'=>w'.cell? ⟨wr.heap.size,0,none⟩=some (str x)∧w'.cell? ⟨wr.heap.size,1,none⟩=some (str y)) (first|exact ⟨d0,d1⟩)
    (first
     | (go_at_call 90;with_reducible refine Calls.mono (IU.out _) ?_;rintro e w1 ⟨rfl,b1⟩;replace d0:=(b1.cell (p:=⟨wr.heap.size,0,none⟩) hz0).trans d0;replace d1:=(b1.cell (p:=⟨wr.heap.size,1,none⟩) hz0).trans d1;replace BB:=below_trans BB b1;replace hz0:=Nat.lt_of_lt_of_le hz0 b1.size)
     | (go_at_call 91;with_reducible refine Calls.mono (HN.out _ BB) ?_;rintro e w2 ⟨rfl,b2⟩;replace d0:=(b2.cell (p:=⟨wr.heap.size,0,none⟩) hz0).trans d0;replace d1:=(b2.cell (p:=⟨wr.heap.size,1,none⟩) hz0).trans d1;replace BB:=below_trans BB b2;replace hz0:=Nat.lt_of_lt_of_le hz0 b2.size))
   all_goals go_wp2
   all_goals go_roundw
   case rel=>exact ⟨k+1,by omega,by go_num,below_trans hb BB⟩
   case measure=>simp [intOf];omega
  ·go_wp2
   go_ret
   exact ⟨rfl,hb⟩
theorem isConfig_good (a:Option Addr) (cap:Nat) (us:Us) (hcap:us.length≤cap) (g:GoodU us) (room clock:Nat) (h1:200≤room) (h2:room≤20000) (h3:clock≤1000000000000) (w:World) (h:UR a us w) :
  Calls Tryz.prog 41 #[.agg #[.slice a us.length cap,.int .i64 (room:Int),.int .i64 (clock:Int)]] w fun e w'=>e=.returned (.bool true)∧Below w.heap.size w w':=by
 have b0:Below w.heap.size w (w.alloc (.cells #[.slice a us.length cap,.int .i64 (room:Int),.int .i64 (clock:Int)] 32)):=(Below.refl _ _).alloc (Nat.le_refl _) _
 have A:Hid (_):=areUsers_good a cap us hcap g (w.alloc (.cells #[.slice a us.length cap,.int .i64 (room:Int),.int .i64 (clock:Int)] 32)) (h.below b0)
 have t1:decide ((200:Int)≤(room:Int))=true:=by simp;omega
 have t2:decide ((room:Int)≤20000)=true:=by simp;omega
 have t3:decide ((0:Int)≤(clock:Int))=true:=by simp
 have t4:decide ((clock:Int)≤1000000000000)=true:=by simp;omega
 clear h g
 go_enter Tryz.func41,Tryz.ntmps41
 go_wp2_with fail
 refine Calls.mono A.out ?_
 rintro e w1 ⟨rfl,b1⟩
 have hz:=b1.size
 have m0:w.heap.size < w1.heap.size:=by simp at hz;omega
 have c1:w1.cell? ⟨w.heap.size,1,none⟩=some (.int .i64 (room:Int)):=(b1.cell (p:=⟨w.heap.size,1,none⟩) (by simp)).trans (by simp [go_sem])
 have c2:w1.cell? ⟨w.heap.size,2,none⟩=some (.int .i64 (clock:Int)):=(b1.cell (p:=⟨w.heap.size,2,none⟩) (by simp)).trans (by simp [go_sem])
 go_wp2
 go_ret
 exact ⟨rfl,below_trans b0 b1⟩
def Sto.new (users:List Tx) (room:Nat):Sto:=⟨users,room,[],fun _=>none,fun _ _=>[],0⟩
theorem fine_new (users:List Tx) (room:Nat) (h:room≤100000):Fine (Sto.new users room) where
 log:=Nat.zero_le _
 room:=h
 last:=Nat.le_refl _
 bk:=fun n x e=>by cases e
 vs:=fun b k=>⟨Nat.le_refl _,fun v hv=>by cases hv⟩
theorem first_none:firstF []=none:=by
 unfold firstF textR takeR
 simp [numR,takeR]
theorem firstChange_none (w:World):Calls Tryz.prog 65 #[str []] w fun e w'=>e=.returned (.tuple #[.nilIface,.int .i64 0,.bool false])∧Below w.heap.size w w':=by
 have C:Hid (_):=ffirst_any [] (by simp) w
 rw [first_none] at C
 unfold ffEnd at C
 go_enter Tryz.func65,Tryz.ntmps65
 go_wp2_with fail
 refine Calls.mono C.out ?_
 rintro e w1 ⟨rfl,b1⟩
 go_wp2
 refine bodyPost_ret (v:=.tuple #[.nilIface,.int .i64 0,.bool false]) ?_ rfl ⟨rfl,b1⟩
 simp [results,Tryz.results65,go_sem]
def rNew (H:Nat) (uv:Value):Roles:=fun g=>if g=H then .bks else if g=H+1 then .vss else if g=H+1+1 then .self else if uv.ownBlock=some g then .ro else .none
theorem srow.up {w:World} {B B':Nat} {v:Value} {l:List Tx} (h:srow w B v l) (hB:B'≤B):srow w B' v l:=by
 obtain ⟨h1,h0|⟨g,cap,cur,e,hg,r⟩⟩:=h
 ·exact ⟨h1,.inl h0⟩
 ·exact ⟨h1,.inr ⟨g,cap,cur,e,Nat.le_trans hB hg,r⟩⟩
theorem srow.below' {w w':World} {B:Nat} {v:Value} {l:List Tx} (h:srow w B v l) (k:Below w.heap.size w w'):srow w' B v l :=
 (Kept.of_below k).row h (fun g e=>by have:=(World.ownsRow.lt h g e).2;omega)
theorem srow_lt {w:World} {B:Nat} {v:Value} {l:List Tx} (h:srow w B v l):∀ g,v.ownBlock=some g→B≤g∧g < w.heap.size:=fun g e=>World.ownsRow.lt h g e
theorem knew_ks (ua:Option Addr) (un uc:Nat) (users:List Tx) (room:Nat) (B:Nat) (w:World) (h:srow w B (.slice ua un uc) users):KS (w.heap.size+1+1) (Sto.new users room) (rNew w.heap.size (.slice ua un uc)) (((w.alloc (.map #[] 0)).alloc (.map #[] 0)).alloc (.cells #[.slice ua un uc,.int .i64 (room:Int),.slice none 0 0,.map (some w.heap.size),.map (some (w.heap.size+1)),.int .i64 0] 125)):=by
 have hlt:=fun g e=>(World.ownsRow.lt h g e).2
 have B3:Below w.heap.size w (((w.alloc (.map #[] 0)).alloc (.map #[] 0)).alloc (.cells #[.slice ua un uc,.int .i64 (room:Int),.slice none 0 0,.map (some w.heap.size),.map (some (w.heap.size+1)),.int .i64 0] 125)):=(((Below.refl _ _).alloc (Nat.le_refl _) _).alloc (by simp) _).alloc (by simp;omega) _
 have M1:MapIs isStr (((w.alloc (.map #[] 0)).alloc (.map #[] 0)).alloc (.cells #[.slice ua un uc,.int .i64 (room:Int),.slice none 0 0,.map (some w.heap.size),.map (some (w.heap.size+1)),.int .i64 0] 125)) w.heap.size (fun _=>none):=((mapIs_new isStr w).alloc _).alloc _
 have M2:MapIs isTwo (((w.alloc (.map #[] 0)).alloc (.map #[] 0)).alloc (.cells #[.slice ua un uc,.int .i64 (room:Int),.slice none 0 0,.map (some w.heap.size),.map (some (w.heap.size+1)),.int .i64 0] 125)) (w.heap.size+1) (fun _=>none):=by
  have:=(mapIs_new isTwo (w.alloc (.map #[] 0))).alloc (.cells #[.slice ua un uc,.int .i64 (room:Int),.slice none 0 0,.map (some w.heap.size),.map (some (w.heap.size+1)),.int .i64 0] 125)
  rwa [show (w.alloc (.map #[] 0)).heap.size=w.heap.size+1 by simp] at this
 refine ⟨.slice ua un uc,.slice none 0 0,w.heap.size,w.heap.size+1,?_⟩
 refine { c0:=by simp [go_sem],c1:=by simp [go_sem,Sto.new],c2:=by simp [go_sem],c3:=by simp [go_sem],c4:=by simp [go_sem],c5:=by simp [go_sem,Sto.new],fz:=fun j=>by simp [go_sem],rb:=?_,us:=(h.below' B3).up (Nat.zero_le _),ur:=?_,lg:=owns_nil _ _,lr:=(fun g e=>by cases e),bk:=⟨_,M1,fun n _=>rfl,(fun n x e=>by cases e)⟩,rk:=?_,vs:=⟨_,M2,fun b k _=>rfl,fun b k e=>absurd rfl e⟩,rv:=?_,dom:=?_ }
 ·unfold rNew;rw [if_neg (by omega),if_neg (by omega),if_pos rfl]
 ·intro g e
  have:=hlt g e
  unfold rNew;rw [if_neg (by omega),if_neg (by omega),if_neg (by omega),if_pos e]
 ·unfold rNew;rw [if_pos rfl]
 ·unfold rNew;rw [if_neg (by omega),if_pos rfl]
 ·intro g e
  have hz:(((w.alloc (.map #[] 0)).alloc (.map #[] 0)).alloc (.cells #[.slice ua un uc,.int .i64 (room:Int),.slice none 0 0,.map (some w.heap.size),.map (some (w.heap.size+1)),.int .i64 0] 125)).heap.size=w.heap.size+3:=by simp
  rw [hz]
  unfold rNew at e
  split at e
  ·omega
  ·split at e
   ·omega
   ·split at e
    ·omega
    ·split at e
     ·rename_i h4;have:=hlt g h4;omega
     ·exact absurd rfl e
theorem knew_r {H:Nat} {uv:Value} {g:Nat} (e:rNew H uv g≠.none):H≤g∨uv.ownBlock=some g:=by
 unfold rNew at e
 split at e
 ·left;omega
 ·split at e
  ·left;omega
  ·split at e
   ·left;omega
   ·split at e
    ·rename_i h4;exact .inr h4
    ·exact absurd rfl e
theorem kopen_new (ua:Option Addr) (un uc:Nat) (users:List Tx) (room:Nat) (B:Nat) (w:World) (h:srow w B (.slice ua un uc) users) :
  Calls Tryz.prog 43 #[.slice ua un uc,.int .i64 (room:Int),str []] w fun e w'=>∃ b r,e=.returned (.pointer (some ⟨b,0,none⟩))∧KS b (Sto.new users room) r w'∧Below w.heap.size w w'∧(∀ g,r g≠.none→w.heap.size≤g∨(Value.slice ua un uc).ownBlock=some g):=by
 have FC:Hid (_):=firstChange_none
 have hlt:=fun g e=>(World.ownsRow.lt h g e).2
 have K0:Hid (KS (w.heap.size+1+1) (Sto.new users room) (rNew w.heap.size (.slice ua un uc)) (((w.alloc (.map #[] 0)).alloc (.map #[] 0)).alloc (.cells #[.slice ua un uc,.int .i64 (room:Int),.slice none 0 0,.map (some w.heap.size),.map (some (w.heap.size+1)),.int .i64 0] 125))):=knew_ks ua un uc users room B w h
 have HR:Hid (∀ g,rNew w.heap.size (.slice ua un uc) g≠.none→w.heap.size≤g∨(Value.slice ua un uc).ownBlock=some g):=fun g e=>knew_r e
 have B3:Below w.heap.size w (((w.alloc (.map #[] 0)).alloc (.map #[] 0)).alloc (.cells #[.slice ua un uc,.int .i64 (room:Int),.slice none 0 0,.map (some w.heap.size),.map (some (w.heap.size+1)),.int .i64 0] 125)):=(((Below.refl _ _).alloc (Nat.le_refl _) _).alloc (by simp) _).alloc (by simp;omega) _
 clear hlt h
 have hmm:∀ (t:TypeId) (w:World),(Instr.makeMap t none).run Tryz.prog w=.ok (.map (some w.heap.size)) (w.alloc (.map #[] 0)):=fun _ _=>rfl
 go_enter Tryz.func43,Tryz.ntmps43
 go_wp2
 generalize (((w.alloc (.map #[] 0)).alloc (.map #[] 0)).alloc (.cells #[.slice ua un uc,.int .i64 (room:Int),.slice none 0 0,.map (some w.heap.size),.map (some (w.heap.size+1)),.int .i64 0] 125))=W3 at *
 go_loopw [2] (fun v wr=>v=str []∧wr=W3) (fun _ _=>0)
 case atStart=>exact ⟨rfl,rfl⟩
 case round =>
  obtain ⟨rfl,rfl⟩:=hrel
  go_wp2_with fail
  refine Calls.mono (FC.out _) ?_
  rintro e w1 ⟨rfl,b1⟩
  go_wp2
  go_ret
  exact ⟨_,_,rfl,K0.out.below b1,below_trans B3 b1,HR.out⟩
theorem llog_any (a b:Nat) (us:Us) (clock:Nat) (s:Sto) (r:Roles) (w:World) (L:LS a b us clock s r w) :
  Calls Tryz.prog 21 #[.pointer (some ⟨a,0,none⟩)] w fun e w'=>e=.returned (str s.log)∧w=w':=by
 have C:Hid (_):=klog_any b s r w L.K
 have l2:=L.l2
 clear L
 go_enter Tryz.func21,Tryz.ntmps21
 go_wp2_with fail
 refine Calls.mono C.out ?_
 rintro e w1 ⟨rfl,rfl⟩
 go_wp2
 go_ret
 exact ⟨rfl,rfl⟩
abbrev confC (a:Option Addr) (n cap room clock:Nat):Obj:=.cells #[.slice a n cap,.int .i64 (room:Int),.int .i64 (clock:Int)] 32
def Frsh (N A:Nat) (w:World):Prop:=N≤A∧∀ ua n uc p,w.cell? ⟨A,0,none⟩=some (.slice ua n uc)→ua=some p→N≤p.block
theorem Frsh.mono {N M A:Nat} {w:World} (h:Frsh N A w) (k:M≤N):Frsh M A w:=⟨Nat.le_trans k h.1,fun ua n uc p e1 e2=>Nat.le_trans k (h.2 ua n uc p e1 e2)⟩
theorem Frsh.same {N A:Nat} {w w':World} (h:Frsh N A w) (k:w'.cell? ⟨A,0,none⟩=w.cell? ⟨A,0,none⟩):Frsh N A w':=⟨h.1,fun ua n uc p e1 e2=>h.2 ua n uc p (by rw [← k];exact e1) e2⟩
theorem lopen_newF (a:Option Addr) (cap:Nat) (us:Us) (hcap:us.length≤cap) (g:GoodU us) (room clock:Nat) (h1:200≤room) (h2:room≤20000) (h3:clock≤1000000000000) (w:World) (G:GL w) (h:UR a us w) :
  Calls Tryz.prog 23 #[.agg #[.slice a us.length cap,.int .i64 (room:Int),.int .i64 (clock:Int)],str []] w fun e w'=>∃ A b r,e=.returned (.tuple #[.pointer (some ⟨A,0,none⟩),.int .i64 0,.int .i64 0])∧LS A b us clock (Sto.new (us.map (·.1)) room) r w'∧Below w.heap.size w w'∧(∀ g,r g≠.none→w.heap.size≤g)∧Frsh w.heap.size A w':=by
 have b0:Below w.heap.size w (w.alloc (confC a us.length cap room clock)):=(Below.refl _ _).alloc (Nat.le_refl _) _
 have IC:Hid (_):=isConfig_good a cap us hcap g room clock h1 h2 h3 (w.alloc (confC a us.length cap room clock)) (h.below b0)
 have hul:=g.hi
 have HB:Hid (∀ u∈us,u.1.length≤1000∧u.2.length≤1000):=fun u hu=>by have:=userP_len (g.u u hu);omega
 have CU:Hid (∀ W,UR a us W→_):=fun W hW=>copyUsers_any a cap us HB.out W hW (by omega)
 have HU:Hid (UR a us w):=h
 have HG:Hid (GL w):=G
 clear h g
 go_enter Tryz.func23,Tryz.ntmps23
 go_wp2_with fail
 refine Calls.mono IC.out ?_
 rintro e w1 ⟨rfl,b1⟩
 have B1:=below_trans b0 b1
 have hz1:=b1.size
 have m0:w.heap.size < w1.heap.size:=by simp at hz1;omega
 have c0:w1.cell? ⟨w.heap.size,0,none⟩=some (.slice a us.length cap):=(b1.cell (p:=⟨w.heap.size,0,none⟩) (by simp)).trans (by simp [go_sem])
 have c1:w1.cell? ⟨w.heap.size,1,none⟩=some (.int .i64 (room:Int)):=(b1.cell (p:=⟨w.heap.size,1,none⟩) (by simp)).trans (by simp [go_sem])
 have c2:w1.cell? ⟨w.heap.size,2,none⟩=some (.int .i64 (clock:Int)):=(b1.cell (p:=⟨w.heap.size,2,none⟩) (by simp)).trans (by simp [go_sem])
 have CU1:Hid (_):=CU.out w1 (HU.out.below B1)
 clear IC CU hz1
 go_wp2_with fail
 refine Calls.mono CU1.out ?_
 rintro e w2 ⟨v,rfl,hrow,b2⟩
 have B2:=below_trans B1 b2
 have e1:w2.cell? ⟨w.heap.size,1,none⟩=some (.int .i64 (room:Int)):=(b2.cell (p:=⟨w.heap.size,1,none⟩) m0).trans c1
 have e2:w2.cell? ⟨w.heap.size,2,none⟩=some (.int .i64 (clock:Int)):=(b2.cell (p:=⟨w.heap.size,2,none⟩) m0).trans c2
 have m2:w.heap.size < w2.heap.size:=Nat.lt_of_lt_of_le m0 b2.size
 obtain ⟨va,vc,rfl,hvc⟩:=hrow.sl
 have hur:=hrow.UR
 have hvl:∀ g,(Value.slice va us.length vc).ownBlock=some g→g < w2.heap.size:=fun g e=>(World.ownsRow.lt hrow g e).2
 have hvo:∀ g,(Value.slice va us.length vc).ownBlock=some g→w1.heap.size≤g:=fun g e=>(World.ownsRow.lt hrow g e).1
 have HR2:Hid (urow w2 w1.heap.size (.slice va us.length vc) us):=hrow
 have NO:Hid (∀ W,Below w2.heap.size w2 W→Calls Tryz.prog 44 #[.slice va us.length vc] W fun e w'=>∃ na nn nc,e=.returned (.slice na nn nc)∧srow w' W.heap.size (.slice na nn nc) (us.map (·.1))∧Below W.heap.size W w'):=fun W hW=>by
  refine Calls.mono (namesOf_any va vc us W (hur.below hW) (by omega)) ?_
  rintro e w' ⟨v,rfl,h5,h6⟩
  have h50:=h5
  obtain ⟨_,⟨rfl,_⟩|⟨g,cap,cur,rfl,_⟩⟩:=h5
  ·exact ⟨_,_,_,rfl,h50,h6⟩
  ·exact ⟨_,_,_,rfl,h50,h6⟩
 have KO:Hid (∀ (na:Option Addr) (nn nc:Nat) (B:Nat) (W:World),srow W B (.slice na nn nc) (us.map (·.1))→Calls Tryz.prog 43 #[.slice na nn nc,.int .i64 (room:Int),.string ⟨#[]⟩] W fun e w'=>∃ b r,e=.returned (.pointer (some ⟨b,0,none⟩))∧KS b (Sto.new (us.map (·.1)) room) r w'∧Below W.heap.size W w'∧(∀ g,r g≠.none→W.heap.size≤g∨(Value.slice na nn nc).ownBlock=some g)):=fun na nn nc B W hW=>kopen_new na nn nc _ room B W hW
 clear c0 c1 c2 CU1 hrow hur b1 b2 b0
 have BB:Below w2.heap.size w2 w2.drew:=below_drew w2
 have d1:w2.drew.cell? ⟨w.heap.size,1,none⟩=some (.int .i64 (room:Int)):=e1
 have d2:w2.drew.cell? ⟨w.heap.size,2,none⟩=some (.int .i64 (clock:Int)):=e2
 go_wp2_with fail
 go_region_held3 (fun w'=>w'.cell? ⟨w.heap.size,1,none⟩=some (.int .i64 (room:Int))∧w'.cell? ⟨w.heap.size,2,none⟩=some (.int .i64 (clock:Int))) (first|exact ⟨d1,d2⟩|exact ⟨cell_alloc d1 _,cell_alloc d2 _⟩)
  (first
   | (go_at_call 44;with_reducible refine Calls.mono (NO.out _ BB) ?_;rintro e w3 ⟨na,nn,nc,rfl,hsr,b3⟩;replace d1:=(b3.cell (p:=⟨w.heap.size,1,none⟩) (Nat.lt_of_lt_of_le m2 BB.size)).trans d1;replace d2:=(b3.cell (p:=⟨w.heap.size,2,none⟩) (Nat.lt_of_lt_of_le m2 BB.size)).trans d2;have hb3s:=BB.size;replace BB:=below_trans BB b3)
   | (go_at_call 43;with_reducible refine Calls.mono (KO.out na nn nc _ w3 hsr) ?_;rintro e w4 ⟨b,r,rfl,hks,b4,hr4⟩;have hlr:=srow_lt hsr;replace d1:=(b4.cell (p:=⟨w.heap.size,1,none⟩) (Nat.lt_of_lt_of_le m2 BB.size)).trans d1;replace d2:=(b4.cell (p:=⟨w.heap.size,2,none⟩) (Nat.lt_of_lt_of_le m2 BB.size)).trans d2;have hb4s:=BB.size;replace BB:=below_trans BB b4))
 rename_i hHeld
 clear hHeld
 have hall:∀ g,r g≠.none→w2.heap.size≤g:=fun g e=>by
  rcases hr4 g e with h|h
  ·omega
  ·exact (hlr g h).1
 have hnone:∀ g,g < w2.heap.size→r g=.none:=fun g hg=>by
  cases e:r g with
  | none=>rfl
  | _=>have:=hall g (by rw [e];simp);omega
 have B5:Below w4.heap.size w4 (w4.alloc (.cells #[.slice va us.length vc,.int .i64 (clock:Int),.pointer (some ⟨b,0,none⟩)] 89)):=(Below.refl _ _).alloc (Nat.le_refl _) _
 have BE:=below_trans BB B5
 have hs2:=B2.size
 have hng:=HG.out.sz
 have hs5:=BE.size
 have hr4n:r w4.heap.size=.none:=by
  cases e:r w4.heap.size with
  | none=>rfl
  | _=>have:=hks.dom w4.heap.size (by rw [e];simp);omega
 have LSF:LS w4.heap.size b us clock (Sto.new (us.map (·.1)) room) r (w4.alloc (.cells #[.slice va us.length vc,.int .i64 (clock:Int),.pointer (some ⟨b,0,none⟩)] 89)):={
  l0:=⟨va,vc,by simp [go_sem],(HR2.out.below BE).UR,fun p hp=>by
   have hq:=hvl p.block (by rw [hp];rfl)
   exact ⟨hnone _ hq,by omega⟩⟩
  l1:=by simp [go_sem]
  l2:=by simp [go_sem]
  ra:=hr4n
  al:=by simp
  K:=hks.below B5
  sz:=by omega
  rN:=fun g hg=>hnone g (by omega)
  F:=fine_new _ _ (by omega)
  hu:=by simp [Sto.new];omega
  ul:=by omega
  un:=fun u hu=>by have:=HB.out u hu;omega
  cl:=h3 }
 have hz14:=B1.size
 have FR:Frsh w.heap.size w4.heap.size (w4.alloc (.cells #[.slice va us.length vc,.int .i64 (clock:Int),.pointer (some ⟨b,0,none⟩)] 89)):=⟨by have:=BB.size;omega,fun ua n uc p hc hp=>by
  have e0:(w4.alloc (.cells #[.slice va us.length vc,.int .i64 (clock:Int),.pointer (some ⟨b,0,none⟩)] 89)).cell? ⟨w4.heap.size,0,none⟩=some (.slice va us.length vc):=by simp [go_sem]
  rw [e0] at hc
  cases hc
  have:=hvo p.block (by rw [hp];rfl)
  omega⟩
 have LG:Hid (_):=llog_any _ _ _ _ _ _ _ LSF
 have FIN:Hid (LS w4.heap.size b us clock (Sto.new (us.map (·.1)) room) r (w4.alloc (.cells #[.slice va us.length vc,.int .i64 (clock:Int),.pointer (some ⟨b,0,none⟩)] 89))∧Below w.heap.size w (w4.alloc (.cells #[.slice va us.length vc,.int .i64 (clock:Int),.pointer (some ⟨b,0,none⟩)] 89))∧(∀ g,r g≠.none→w.heap.size≤g)∧Frsh w.heap.size w4.heap.size (w4.alloc (.cells #[.slice va us.length vc,.int .i64 (clock:Int),.pointer (some ⟨b,0,none⟩)] 89))):=⟨LSF,below_trans B2 BE,fun g e=>Nat.le_trans hs2 (hall g e),FR⟩
 rw [show (Sto.new (us.map (·.1)) room).log=[] from rfl] at LG
 clear FR hvo hz14 LSF KO NO hks hr4 hlr hsr b3 b4 hall hnone BB B5 BE HR2 hvl
 go_wp2_with fail
 refine Calls.mono LG.out ?_
 rintro e w5 ⟨rfl,rfl⟩
 go_wp2
 refine bodyPost_ret (v:=.tuple #[.pointer (some ⟨w4.heap.size,0,none⟩),.int .i64 0,.int .i64 0]) ?_ rfl ⟨_,_,_,rfl,FIN.out.1,FIN.out.2.1,FIN.out.2.2⟩
 simp [results,Tryz.results23,go_sem]
theorem lnew_anyF (a:Option Addr) (cap:Nat) (us:Us) (hcap:us.length≤cap) (g:GoodU us) (room clock:Nat) (h1:200≤room) (h2:room≤20000) (h3:clock≤1000000000000) (w:World) (G:GL w) (h:UR a us w) :
  Calls Tryz.prog 11 #[.agg #[.slice a us.length cap,.int .i64 (room:Int),.int .i64 (clock:Int)]] w fun e w'=>∃ A b r,e=.returned (.tuple #[.pointer (some ⟨A,0,none⟩),.int .i64 0])∧LS A b us clock (Sto.new (us.map (·.1)) room) r w'∧Below w.heap.size w w'∧(∀ g,r g≠.none→w.heap.size≤g)∧Frsh w.heap.size A w':=by
 have b0:Below w.heap.size w (w.alloc (confC a us.length cap room clock)):=(Below.refl _ _).alloc (Nat.le_refl _) _
 have O:Hid (Calls Tryz.prog 23 #[.agg #[.slice a us.length cap,.int .i64 (room:Int),.int .i64 (clock:Int)],.string ⟨#[]⟩] (w.alloc (confC a us.length cap room clock)) fun e w'=>∃ A b r,e=.returned (.tuple #[.pointer (some ⟨A,0,none⟩),.int .i64 0,.int .i64 0])∧LS A b us clock (Sto.new (us.map (·.1)) room) r w'∧Below (w.alloc (confC a us.length cap room clock)).heap.size (w.alloc (confC a us.length cap room clock)) w'∧(∀ g,r g≠.none→(w.alloc (confC a us.length cap room clock)).heap.size≤g)∧Frsh (w.alloc (confC a us.length cap room clock)).heap.size A w'):=lopen_newF a cap us hcap g room clock h1 h2 h3 (w.alloc (confC a us.length cap room clock)) (G.call b0) (h.below b0)
 have hz:w.heap.size≤(w.alloc (confC a us.length cap room clock)).heap.size:=b0.size
 go_enter Tryz.func11,Tryz.ntmps11
 go_wp2_with fail
 refine Calls.mono O.out ?_
 rintro e w1 ⟨A,b,r,rfl,L,b1,hr,hf⟩
 go_wp2
 go_ret2
 exact ⟨A,b,r,rfl,L,below_trans b0 b1,fun g e=>Nat.le_trans hz (hr g e),hf.mono hz⟩
open C (enc dec dec_enc enc1 plainB enc_cons enc_nil enc_len hexD)
theorem row_mk:rowP tPUT false []=some ⟨tPUT,false,[],[],[],0,0,[],false⟩:=rfl
theorem row_put:rowP tPUT true []=some ⟨tPUT,true,[],[],[],0,5,sPut,true⟩:=rfl
theorem row_get:rowP tGET true []=some ⟨tGET,true,tVersion,[],[],0,6,sGet,false⟩:=rfl
theorem bkt_free {b:Tx} (hb:bktP b=true) {c:UInt8} (hc:bktB c=false):c ∉ b:=fun e=>by
 unfold bktP at hb
 rw [Bool.and_eq_true] at hb
 have:=List.all_eq_true.1 hb.2 c e
 rw [this] at hc;cases hc
theorem path_box {b:Tx} (hb:bktP b=true):pathP (47 :: b)=(b,[],false):=by
 unfold pathP
 rw [show Lib.trimPrefix (47 :: b) [47]=b by simp [Lib.trimPrefix,Lib.hasPrefix,List.isPrefixOf]]
 exact cutc_miss (bkt_free hb (by decide))
theorem path_key {b:Tx} (hb:bktP b=true) (k:Tx):pathP (47 :: (b++47 :: k))=(b,k,true):=by
 unfold pathP
 rw [show Lib.trimPrefix (47 :: (b++47 :: k)) [47]=b++47 :: k by simp [Lib.trimPrefix,Lib.hasPrefix,List.isPrefixOf]]
 exact cutc_hit k (bkt_free hb (by decide))
theorem ask_mk {b:Tx} {q:Hs} (hb:bktP b=true) (hq:xOut q=[]):askP tPUT (47 :: b) q []=some ⟨0,[],b,[],[],0,[],[],10⟩:=by
 unfold askP ask0
 rw [path_box hb,hq,row_mk]
 simp only
 rw [if_pos ⟨hb,.inl trivial,.inr trivial⟩]
 rfl
theorem ask_put {b k y:Tx} {q:Hs} (hb:bktP b=true) (hk:keyP k=true) (hq:xOut q=[]):askP tPUT (47 :: (b++47 :: k)) q y=some ⟨5,sPut,b,k,y,0,[],[],10⟩:=by
 unfold askP ask0
 rw [path_key hb,hq,row_put]
 simp only
 rw [if_pos ⟨hb,.inr hk,.inl trivial⟩]
 rfl
theorem ask_get {b k:Tx} {q:Hs} (hb:bktP b=true) (hk:keyP k=true) (hq:xOut q=[]):askP tGET (47 :: (b++47 :: k)) q []=some ⟨6,sGet,b,k,[],0,[],[],10⟩:=by
 unfold askP ask0
 rw [path_key hb,hq,row_get]
 simp only
 rw [if_pos ⟨hb,.inr hk,.inr trivial⟩]
 rfl
theorem do_ok {us:Us} {clock:Nat} {s:Sto} {t u:Tx} {q:AskP} (h:readP us clock t=.ok (u,q)) (k:mayP s u q=200):doP us clock s t=(respT (serveP s u q).1 (serveP s u q).2.1 (serveP s u q).2.2.1,(serveP s u q).2.2.2):=by
 unfold doP;rw [resp_yes h k]
theorem bkt_len {b:Tx} (h:bktP b=true):b.length≤20:=by
 unfold bktP at h;rw [Bool.and_eq_true] at h;exact (of_decide_eq_true h.1).2
theorem key_len {k:Tx} (h:keyP k=true):k.length≤40:=by
 unfold keyP at h;rw [Bool.and_eq_true] at h;exact (of_decide_eq_true h.1).2
theorem done_mk {s:Sto} {b o:Tx} (hb:bktP b=true) (hu:s.users.contains o=true) (hn:s.bk b=none) (hl:s.log.length+(frameT (Chg.mk b o).text).length≤s.room) :
  s.done (.mk b o)=(200,{ s.setBk b ⟨o,[],[]⟩ with log:=s.log++frameT (Chg.mk b o).text }):=by
 have e:s.begin (.mk b o)=.ok (s.setBk b ⟨o,[],[]⟩):=by
  simp only [Sto.begin];rw [if_pos ⟨hb,hu⟩,hn]
 unfold Sto.done;rw [e];simp only;rw [if_pos hl]
theorem says_none (u a k:Tx):saysP [] u a k=0:=by simp [saysP]
theorem may_owner {s:Sto} {u a b k p:Tx} (h:s.bk b=some ⟨u,p,[]⟩):s.may u a b k=200:=by
 unfold Sto.may;rw [h];simp only;rw [says_none,if_neg (by simp)]
theorem fineT:respT 200 [] []=[50,48,48,32,79,75,10,10]:=by
 unfold respT;rw [if_pos rfl,told200];rfl
theorem noList_of {us:Us} {clock:Nat} {s:Sto} {r u:Tx} {q:AskP} (h:readP us clock r=.ok (u,q)) (k:q.kind≠4):noList us clock s r:=fun p hp _=>by
 rw [h] at hp;cases hp;exact k
open C (ret_bool ret_int ret_str enc enc_len)
abbrev tAl:Tx:=[97,108]
abbrev tBo:Tx:=[98,111]
abbrev sAl:Tx:=[97,108,115,101,99,114,101,116]
abbrev sBo:Tx:=[98,111,115,101,99,114,101,116]
abbrev two:Us:=[(tAl,sAl),(tBo,sBo)]
theorem good_two:GoodU two where
 lo:=by simp
 hi:=by simp
 u:=by decide
 d:=fun k h=>by
  have:k=0∨k=1:=by simp at h;omega
  rcases this with rfl|rfl <;> rfl
theorem has_al:Has two tAl sAl:=⟨by decide,by decide,by decide,by decide,by decide,by decide,by decide⟩
structure HS (h a b:Nat) (s:Sto) (r:Roles) (w:World):Prop where
 c:w.cell? ⟨h,0,none⟩=some (.pointer (some ⟨a,0,none⟩))
 rh:r h=.none
 hl:h < w.heap.size
 L:LS a b two 5000 s r w
theorem HS.step {h a b:Nat} {s s':Sto} {r r':Roles} {w w':World} (H:HS h a b s r w) (st:Step r w r' w') (L:LS a b two 5000 s' r' w'):HS h a b s' r' w' :=
 ⟨st.kept.cell H.c (by simp [H.rh]),st.none H.hl H.rh,Nat.lt_of_lt_of_le H.hl st.kept.size,L⟩
theorem HS.below {h a b:Nat} {s:Sto} {r:Roles} {w w':World} (H:HS h a b s r w) (k:Below w.heap.size w w'):HS h a b s r w':=H.step (Step.of_below k) (H.L.below k)
def askT (user secret:Tx) (s:Sto) (m tg y:Tx):Tx×Sto:=doP two 5000 s (headT user secret 5000 m tg y)
theorem al_any (h a b:Nat) (s:Sto) (r:Roles) (m tg y:Tx) (h1:m.length≤1000) (h2:tg.length≤1000000000000000) (h4:y.length≤1000000) (w:World) (G:GL w) (H:HS h a b s r w) (hl:(headT tAl sAl 5000 m tg y).length≤9223372036854775807) (hnl:noList two 5000 s (headT tAl sAl 5000 m tg y)) :
  Calls Tryz.prog 25 #[.pointer (some ⟨h,0,none⟩),str m,str tg,str y] w fun e w'=>∃ r',e=.returned (str (askT tAl sAl s m tg y).1)∧HS h a b (askT tAl sAl s m tg y).2 r' w'∧Step r w r' w':=by
 have BH:Hid (Calls Tryz.prog 14 #[str tAl,str sAl,.int .i64 5000,str m,str tg,str y] w.drew fun e w'=>(e=.returned (str (headT tAl sAl 5000 m tg y))∧Below w.drew.heap.size w.drew w')∧w'.cell? ⟨h,0,none⟩=some (.pointer (some ⟨a,0,none⟩))):=Calls.mono (byHeader_any tAl sAl 5000 m tg y (by omega) (by simp) (by simp) h1 h2 h4 w.drew G.drew) fun e w' k=>⟨k,(k.2.cell (p:=⟨h,0,none⟩) H.hl).trans H.c⟩
 have DO:Hid (∀ W,GL W→LS a b two 5000 s r W→Calls Tryz.prog 16 #[.pointer (some ⟨a,0,none⟩),str (headT tAl sAl 5000 m tg y)] W fun e w'=>∃ r',e=.returned (str (askT tAl sAl s m tg y).1)∧LS a b two 5000 (askT tAl sAl s m tg y).2 r' w'∧Step r W r' w'):=fun W GW LW=>do_any a b two 5000 s r _ hl W GW LW hnl
 have hc:=H.c
 have xd:w.drew.cell? ⟨h,0,none⟩=some (.pointer (some ⟨a,0,none⟩)):=hc
 have HH:Hid (HS h a b s r w):=H
 have HG:Hid (GL w):=G
 have hrh:=H.rh
 clear H
 generalize askT tAl sAl s m tg y=x at *
 generalize headT tAl sAl 5000 m tg y=q at *
 go_enter Tryz.func25,Tryz.ntmps25
 go_wp2_with fail
 go_region_held3 (fun w'=>w'.cell? ⟨h,0,none⟩=some (.pointer (some ⟨a,0,none⟩))) (first|with_reducible exact xd|with_reducible exact x5|with_reducible exact x6)
  (first
   | (go_at_call 14;with_reducible refine Calls.mono BH.out ?_;rintro e w1 ⟨⟨rfl,b1⟩,x5⟩;have B1:=below_trans (below_drew w) b1)
   | (go_at_call 16;with_reducible refine Calls.mono (DO.out w1 (HG.out.call B1) (HH.out.L.below B1)) ?_;rintro e w2 ⟨r',rfl,L2,st2⟩;have x6:=st2.kept.cell x5 (by simp [hrh])))
 all_goals (
  go_wp2
  go_ret
  exact ⟨r',rfl,HH.out.step ((Step.of_below B1).trans st2) L2,(Step.of_below B1).trans st2⟩)
abbrev tBkt:Tx:=[97,108,115,98,111,120]
abbrev tABox:Tx:=[47,97,108,115,98,111,120]
theorem enc_abox:enc true (47 :: tBkt)=tABox:=by decide
theorem config_any (room:Nat) (w:World) :
  Calls Tryz.prog 24 #[.int .i64 (room:Int)] w fun e w'=>∃ b,e=.returned (.agg #[.slice (some ⟨b,0,none⟩) 2 2,.int .i64 (room:Int),.int .i64 5000])∧UR (some ⟨b,0,none⟩) two w'∧Below w.heap.size w w':=by
 have U:Hid (UR (some ⟨w.heap.size+1,0,none⟩) two (((w.alloc (.cells #[.slice (some ⟨w.heap.size+1,0,none⟩) 2 2,.int .i64 (room:Int),.int .i64 5000] 32))).alloc (.cells #[str tAl,str sAl,str tBo,str sBo] 29))):=⟨fun i hi=>by
  have:i=0∨i=1:=by simp at hi;omega
  rcases this with rfl|rfl
  ·exact ⟨w.heap.size+1,0,rfl,by simp,by simp [go_sem],by simp [go_sem]⟩
  ·exact ⟨w.heap.size+1,0,rfl,by simp,by simp [go_sem],by simp [go_sem]⟩⟩
 have B:Below w.heap.size w (((w.alloc (.cells #[.slice (some ⟨w.heap.size+1,0,none⟩) 2 2,.int .i64 (room:Int),.int .i64 5000] 32))).alloc (.cells #[str tAl,str sAl,str tBo,str sBo] 29)):=((Below.refl _ _).alloc (Nat.le_refl _) _).alloc (by simp) _
 go_enter Tryz.func24,Tryz.ntmps24
 go_wp2
 refine bodyPost_ret (v:=.agg #[.slice (some ⟨w.heap.size+1,0,none⟩) 2 2,.int .i64 (room:Int),.int .i64 5000]) ?_ rfl ⟨w.heap.size+1,rfl,U.out,B⟩
 simp [results,Tryz.results24,go_sem]
theorem readlen {us:Us} {clock:Nat} {t:Tx} (h:(∃ p,readP us clock t=.ok p)∨readP us clock t=.error 403):t.length≤2000:=by
 rcases Nat.lt_or_ge 2000 t.length with hl|hl
 ·exfalso
  have e:readP us clock t=.error 413:=by
   unfold readP R.parseOf;rw [if_pos hl];rfl
  rcases h with ⟨p,h⟩|h
  ·rw [e] at h;cases h
  ·rw [e] at h;cases h
 ·exact hl
theorem read_two {user secret m p y:Tx} (H:Has two user secret) (hm:R.isMethod m=true) (hml:m.length≤10) (hp:(enc true (47 :: p)).length≤1000) (hy:y.length≤300) :
  readP two 5000 (headT user secret 5000 m (enc true (47 :: p)) y)=askR user m (47 :: p) [] y:=by
 have:=read_head (clock:=5000) (t:=5000) (y:=y) H (line_plain (p:=p) hm) rfl hml hp hy (by omega)
 rw [this,if_neg (by omega)]
theorem begun_says (room:Nat) (h1:200≤room):(askT tAl sAl (Sto.new [tAl,tBo] room) tPUT tABox []).1=[50,48,48,32,79,75,10,10]∧readP two 5000 (headT tAl sAl 5000 tPUT tABox [])=.ok (tAl,⟨0,[],tBkt,[],[],0,[],[],10⟩):=by
 have hb:bktP tBkt=true:=by decide
 have hr:readP two 5000 (headT tAl sAl 5000 tPUT tABox [])=.ok (tAl,⟨0,[],tBkt,[],[],0,[],[],10⟩):=by
  have:=read_two (m:=tPUT) (p:=tBkt) (y:=[]) has_al (by decide) (by decide) (by rw [enc_abox];decide) (by simp)
  rw [enc_abox] at this
  rw [this]
  unfold askR
  rw [ask_mk hb rfl]
 refine ⟨?_,hr⟩
 have fl:(frameT (Chg.mk tBkt tAl).text).length≤100:=by simp [Chg.text,shortT,bigL_len,frameT,longT,numT]
 have d1:=done_mk (s:=Sto.new [tAl,tBo] room) (o:=tAl) hb (by rfl) rfl (by show 0+_≤room;omega)
 unfold askT
 rw [do_ok hr rfl]
 have sv1:serveP (Sto.new [tAl,tBo] room) tAl ⟨0,[],tBkt,[],[],0,[],[],10⟩=(200,[],[],{ (Sto.new [tAl,tBo] room).setBk tBkt ⟨tAl,[],[]⟩ with log:=(Sto.new [tAl,tBo] room).log++frameT (Chg.mk tBkt tAl).text }):=by
  unfold serveP;rw [if_pos rfl];simp only;rw [d1]
 rw [sv1]
 exact fineT
theorem begun_anyF (room:Nat) (h1:200≤room) (h2:room≤20000) (w:World) (G:GL w) :
  Calls Tryz.prog 19 #[.int .i64 (room:Int)] w fun e w'=>∃ h a b r,e=.returned (.tuple #[.pointer (some ⟨h,0,none⟩),.bool true])∧HS h a b (askT tAl sAl (Sto.new [tAl,tBo] room) tPUT tABox []).2 r w'∧Below w.heap.size w w'∧(∀ g,r g≠.none→w.heap.size≤g)∧w.heap.size≤h∧Frsh w.heap.size a w':=by
 obtain ⟨e1,hr⟩:=begun_says room h1
 have HQ:Hid (readP two 5000 (headT tAl sAl 5000 tPUT tABox [])=.ok (tAl,⟨0,[],tBkt,[],[],0,[],[],10⟩)):=hr
 have hql:(headT tAl sAl 5000 tPUT tABox []).length≤9223372036854775807:=by have:=readlen (.inl ⟨_,hr⟩);omega
 have CF:Hid (_):=config_any room w
 have NW:Hid (∀ (bb:Nat) (W:World),GL W→UR (some ⟨bb,0,none⟩) two W→Calls Tryz.prog 11 #[.agg #[.slice (some ⟨bb,0,none⟩) 2 2,.int .i64 (room:Int),.int .i64 5000]] W fun e w'=>∃ A b r,e=.returned (.tuple #[.pointer (some ⟨A,0,none⟩),.int .i64 0])∧LS A b two 5000 (Sto.new [tAl,tBo] room) r w'∧Below W.heap.size W w'∧(∀ g,r g≠.none→W.heap.size≤g)∧Frsh W.heap.size A w'):=fun bb W GW hU=>lnew_anyF (some ⟨bb,0,none⟩) 2 two (by simp) good_two room 5000 h1 h2 (by omega) W GW hU
 clear hr
 go_enter Tryz.func19,Tryz.ntmps19
 go_wp2_with fail
 refine Calls.mono CF.out ?_
 rintro e w1 ⟨bb,rfl,hU,b1⟩
 have G1:=G.call b1
 go_wp2_with fail
 refine Calls.mono (NW.out bb w1 G1 hU) ?_
 rintro e w2 ⟨a,b,r,rfl,L2,b2,hr2,hf2⟩
 have B2:=below_trans b1 b2
 have G2:=G1.call b2
 have hr0:∀ g,r g≠.none→w.heap.size≤g:=fun g e=>Nat.le_trans b1.size (hr2 g e)
 have b3:Below w2.heap.size w2 (w2.alloc (.cells #[.pointer (some ⟨a,0,none⟩)] 53)):=(Below.refl _ _).alloc (Nat.le_refl _) _
 have H3:HS w2.heap.size a b (Sto.new [tAl,tBo] room) r (w2.alloc (.cells #[.pointer (some ⟨a,0,none⟩)] 53)):=⟨by simp [go_sem],L2.new,by simp,L2.below b3⟩
 have hf3:Frsh w.heap.size a (w2.alloc (.cells #[.pointer (some ⟨a,0,none⟩)] 53)):=(hf2.mono b1.size).same (b3.cell (p:=⟨a,0,none⟩) L2.al)
 have ha3:∃ v,(w2.alloc (.cells #[.pointer (some ⟨a,0,none⟩)] 53)).cell? ⟨a,0,none⟩=some v:=by obtain ⟨ua,uc,e,_⟩:=H3.L.l0;exact ⟨_,e⟩
 have hra:=L2.ra
 have AL:Hid (Calls Tryz.prog 25 #[.pointer (some ⟨w2.heap.size,0,none⟩),str tPUT,str tABox,.string ⟨#[]⟩] (w2.alloc (.cells #[.pointer (some ⟨a,0,none⟩)] 53)) fun e w'=>∃ r',e=.returned (str (askT tAl sAl (Sto.new [tAl,tBo] room) tPUT tABox []).1)∧HS w2.heap.size a b (askT tAl sAl (Sto.new [tAl,tBo] room) tPUT tABox []).2 r' w'∧Step r (w2.alloc (.cells #[.pointer (some ⟨a,0,none⟩)] 53)) r' w'):=al_any w2.heap.size a b _ r tPUT tABox [] (by decide) (by decide) (by simp) _ (G2.call b3) H3 hql (noList_of HQ.out (by simp))
 rw [e1] at AL
 clear NW CF hU b1 b2 L2 H3 hql
 go_wp2_with fail
 refine Calls.mono AL.out ?_
 rintro e w4 ⟨r',rfl,H4,st⟩
 have B3:=below_trans B2 b3
 have hs2:=B2.size
 have FIN:Below w.heap.size w w4:=B3.trans (st.kept.below B3.size hr0)
 have hr4:∀ g,r' g≠.none→w.heap.size≤g:=fun g e=>by
  rcases Nat.lt_or_ge g (w2.alloc (.cells #[.pointer (some ⟨a,0,none⟩)] 53)).heap.size with hl|hl
  ·exact hr0 g (st.mine g hl e)
  ·have:=B3.size;omega
 have hf4:Frsh w.heap.size a w4:=hf3.same (by obtain ⟨v,e⟩:=ha3;rw [e];exact st.kept.cell e (by simp [hra]))
 have HF:Hid (w.heap.size≤w2.heap.size∧Frsh w.heap.size a w4):=⟨hs2,hf4⟩
 clear hf3 ha3 hf4 hf2
 clear AL
 go_wp2
 go_ret2
 exact ⟨_,a,b,r',rfl,H4,FIN,hr4,HF.out⟩
theorem begun_any (room:Nat) (h1:200≤room) (h2:room≤20000) (w:World) (G:GL w) :
  Calls Tryz.prog 19 #[.int .i64 (room:Int)] w fun e w'=>∃ h a b r,e=.returned (.tuple #[.pointer (some ⟨h,0,none⟩),.bool true])∧HS h a b (askT tAl sAl (Sto.new [tAl,tBo] room) tPUT tABox []).2 r w'∧Below w.heap.size w w'∧∀ g,r g≠.none→w.heap.size≤g :=
 Calls.mono (begun_anyF room h1 h2 w G) fun _ _ ⟨h,a,b,r,h1,h2,h3,h4,_⟩=>⟨h,a,b,r,h1,h2,h3,h4⟩
def allowT:Tx:=[123,34,114,117,108,101,115,34,58,91,123,34,101,102,102,101,99,116,34,58,34,97,108,108,111,119,34,44,34,119,104,111,34,58,91,34,98,111,34,93,44,34,100,111,34,58,91,34,103,101,116,34,93,44,34,111,110,34,58,91,34,42,34,93,125,93,125]
theorem row_list:rowP tGET false []=some ⟨tGET,false,tPrefix,tAfter,tMax,0,4,sList,false⟩:=rfl
theorem row_del:rowP tDEL true []=some ⟨tDEL,true,[],[],[],0,7,sDelete,false⟩:=rfl
theorem hbk:bktP tBkt=true:=by decide
theorem ask_list:askP tGET (47 :: tBkt) [] []=some ⟨4,sList,tBkt,[],[],0,[],[],10⟩:=by
 unfold askP ask0
 rw [path_box hbk,show xOut ([]:Hs)=[] from rfl,row_list]
 simp only
 rw [if_pos ⟨hbk,.inl trivial,.inr trivial⟩]
 rfl
theorem ask_del {k:Tx} (hk:keyP k=true):askP tDEL (47 :: (tBkt++47 :: k)) [] []=some ⟨7,sDelete,tBkt,k,[],0,[],[],10⟩:=by
 unfold askP ask0
 rw [path_key hbk,show xOut ([]:Hs)=[] from rfl,row_del]
 simp only
 rw [if_pos ⟨hbk,.inr hk,.inr trivial⟩]
 rfl
theorem key_path (k:Tx):enc true (47 :: (tBkt++47 :: k))=[47,97,108,115,98,111,120,47]++enc true k:=by
 rw [show (47 :: (tBkt++47 :: k):Tx)=[47,97,108,115,98,111,120,47]++k by simp,enc_app]
 congr 1
abbrev kT (k:Tx):Tx:=[47,97,108,115,98,111,120,47]++enc true k
theorem kT_len {u sec:Tx} (H:Has two u sec) {k:Tx} (hk:keyP k=true):(enc true (47 :: (tBkt++47 :: k))).length≤1000:=by
 rw [key_path];have:=(enc_len true k).2;have:=key_len hk;have:=H.n3;simp;omega
theorem rd_get {u sec:Tx} (H:Has two u sec) {k:Tx} (hk:keyP k=true):readP two 5000 (headT u sec 5000 tGET (kT k) [])=.ok (u,⟨6,sGet,tBkt,k,[],0,[],[],10⟩):=by
 have:=read_two (m:=tGET) (p:=tBkt++47 :: k) (y:=[]) H (by decide) (by decide) (kT_len H hk) (by simp)
 rw [key_path] at this
 rw [this];unfold askR;rw [ask_get hbk hk rfl]
theorem rd_put {u sec:Tx} (H:Has two u sec) {k y:Tx} (hk:keyP k=true) (hy:y.length≤300):readP two 5000 (headT u sec 5000 tPUT (kT k) y)=.ok (u,⟨5,sPut,tBkt,k,y,0,[],[],10⟩):=by
 have:=read_two (m:=tPUT) (p:=tBkt++47 :: k) (y:=y) H (by decide) (by decide) (kT_len H hk) hy
 rw [key_path] at this
 rw [this];unfold askR;rw [ask_put hbk hk rfl]
theorem rd_del {u sec:Tx} (H:Has two u sec) {k:Tx} (hk:keyP k=true):readP two 5000 (headT u sec 5000 tDEL (kT k) [])=.ok (u,⟨7,sDelete,tBkt,k,[],0,[],[],10⟩):=by
 have:=read_two (m:=tDEL) (p:=tBkt++47 :: k) (y:=[]) H (by decide) (by decide) (kT_len H hk) (by simp)
 rw [key_path] at this
 rw [this];unfold askR;rw [ask_del hk]
theorem rd_list {u sec:Tx} (H:Has two u sec):readP two 5000 (headT u sec 5000 tGET tABox [])=.ok (u,⟨4,sList,tBkt,[],[],0,[],[],10⟩):=by
 have:=read_two (m:=tGET) (p:=tBkt) (y:=[]) H (by decide) (by decide) (by rw [enc_abox];decide) (by simp)
 rw [enc_abox] at this
 rw [this];unfold askR;rw [ask_list]
def rPut (n:Nat):Tx:=respT 200 [(tVersion,Lib.itoa (n:Int))] []
def rGot (n:Nat) (y:Tx):Tx:=respT 200 [(tVersion,Lib.itoa (n:Int)),(tLength,lenT y)] y
theorem nb:tBo≠tAl:=by decide
theorem la:allowT.length≤300:=by decide
open C (enc)
structure Ent where
 key:Tx
 num:Nat
 size:Nat
def Listed (s:Sto) (b p a:Tx) (e:Ent):Prop:=∃ v,(s.vs b e.key).getLast?=some v∧v.mark=false∧p.isPrefixOf e.key=true∧a < e.key∧e.num=v.num∧e.size=v.body.length
def Lists (s:Sto) (b p a:Tx) (l:List Ent):Prop:=l.Pairwise (fun x y=>x.key < y.key)∧∀ e,e∈l↔Listed s b p a e
theorem tx_asymm {a b:Tx} (h:a < b):¬ b < a:=fun k=>List.lt_irrefl a (List.lt_trans h k)
theorem rising_uniq:∀ (l m:List Ent),l.Pairwise (fun x y=>x.key < y.key)→m.Pairwise (fun x y=>x.key < y.key)→(∀ e,e∈l↔e∈m)→l=m
 | [],[],_,_,_=>rfl
 | [],y :: m,_,_,h=>absurd ((h y).2 (.head _)) (by simp)
 | x :: l,[],_,_,h=>absurd ((h x).1 (.head _)) (by simp)
 | x :: l,y :: m,hl,hm,h=>by
  rw [List.pairwise_cons] at hl hm
  have e:x=y:=by
   rcases List.mem_cons.1 ((h x).1 (.head _)) with e|k1
   ·exact e
   ·rcases List.mem_cons.1 ((h y).2 (.head _)) with e|k2
    ·exact e.symm
    ·exact absurd (hm.1 x k1) (tx_asymm (hl.1 y k2))
  subst e
  rw [rising_uniq l m hl.2 hm.2 fun e=>?_]
  constructor
  ·intro k
   rcases List.mem_cons.1 ((h e).1 (.tail _ k)) with rfl|k'
   ·exact absurd (hl.1 e k) (List.lt_irrefl _)
   ·exact k'
  ·intro k
   rcases List.mem_cons.1 ((h e).2 (.tail _ k)) with rfl|k'
   ·exact absurd (hm.1 e k) (List.lt_irrefl _)
   ·exact k'
theorem lists_uniq {s:Sto} {b p a:Tx} {l m:List Ent} (h:Lists s b p a l) (k:Lists s b p a m):l=m:=rising_uniq l m h.1 k.1 fun e=>(h.2 e).trans (k.2 e).symm
def linT (e:Ent):Tx:=enc false e.key++[32]++Lib.itoa (e.num:Int)++[32]++Lib.itoa (e.size:Int)++[10]
def listT (l:List Ent):Tx:=l.flatMap linT
abbrev tMore:Tx:=[109,111,114,101]
def listR (l:List Ent) (n:Nat):Hs×Tx:=([(tLength,lenT (listT (l.take n))),(tMore,Lib.formatBool (decide (n < l.length)))],listT (l.take n))
structure Keys (s:Sto):Prop where
 ks:∃ l:List (Tx×Tx),l.length≤s.last∧∀ b k,s.vs b k≠[]→(b,k)∈l
 key:∀ b k,s.vs b k≠[]→keyP k=true
theorem key_le {k:Tx} (h:keyP k=true):k.length≤40:=by
 unfold keyP at h
 simp only [Bool.and_eq_true,decide_eq_true_eq] at h
 exact h.1.2
theorem Keys.of_eq {s t:Sto} (h:Keys s) (e1:t.vs=s.vs) (e2:t.last=s.last):Keys t:=⟨by rw [e1,e2];exact h.ks,by rw [e1];exact h.key⟩
theorem Keys.add {s:Sto} (h:Keys s) (b k:Tx) (m:Bool) (y:Tx) (hk:keyP k=true):Keys (s.add b k m y) where
 ks:=by
  obtain ⟨l,h1,h2⟩:=h.ks
  refine ⟨(b,k) :: l,by simp [Sto.add];omega,fun c j hn=>?_⟩
  by_cases e:c=b∧j=k
  ·rw [e.1,e.2];exact .head _
  ·exact .tail _ (h2 c j (by simpa [Sto.add,Sto.setVs,e] using hn))
 key:=fun c j hn=>by
  by_cases e:c=b∧j=k
  ·rw [e.2];exact hk
  ·exact h.key c j (by simpa [Sto.add,Sto.setVs,e] using hn)
theorem Keys.erase {s:Sto} (h:Keys s) (b k:Tx) (p:Ver→Bool):Keys (s.setVs b k ((s.vs b k).eraseP p)):=by
 have sub:∀ c j,(s.setVs b k ((s.vs b k).eraseP p)).vs c j≠[]→s.vs c j≠[]:=fun c j hn e0=>by
  by_cases e:c=b∧j=k
  ·obtain ⟨rfl,rfl⟩:=e
   simp [Sto.setVs,e0] at hn
  ·simp [Sto.setVs,e,e0] at hn
 obtain ⟨l,h1,h2⟩:=h.ks
 exact ⟨⟨l,h1,fun c j hn=>h2 c j (sub c j hn)⟩,fun c j hn=>h.key c j (sub c j hn)⟩
theorem Keys.begin {s t:Sto} {c:Chg} (h:Keys s) (e:s.begin c=.ok t):Keys t:=by
 cases c with
 | mk b o =>
  simp only [Sto.begin] at e
  split at e
  ·split at e
   ·cases e;exact h.of_eq rfl rfl
   ·cases e
  ·cases e
 | pol b p =>
  simp only [Sto.begin] at e
  split at e
  ·cases e
  ·split at e
   ·cases e;exact h.of_eq rfl rfl
   ·cases e
 | unpol b =>
  simp only [Sto.begin] at e
  split at e
  ·cases e
  ·split at e
   ·cases e
   ·cases e;exact h.of_eq rfl rfl
 | put b k y =>
  simp only [Sto.begin] at e
  split at e
  ·cases e
  ·split at e
   ·cases e
   ·split at e
    ·rename_i hk;cases e;exact h.add _ _ _ _ hk
    ·cases e
 | mark b k =>
  simp only [Sto.begin] at e
  split at e
  ·cases e
  ·split at e
   ·rename_i hk;cases e;exact h.add _ _ _ _ hk
   ·cases e
 | drop b k n =>
  simp only [Sto.begin] at e
  split at e
  ·cases e;exact h.erase _ _ _
  ·cases e
theorem Keys.done {s:Sto} (h:Keys s) (c:Chg):Keys (s.done c).2:=by
 unfold Sto.done
 split
 ·exact h
 ·rename_i t e
  split
  ·exact (h.begin e).of_eq rfl rfl
  ·exact h
theorem keys_new (users:List Tx) (room:Nat):Keys ⟨users,room,[],fun _=>none,fun _ _=>[],0⟩:=⟨⟨[],Nat.le_refl _,fun _ _ h=>absurd rfl h⟩,fun _ _ h=>absurd rfl h⟩
theorem nodup_le {α:Type} [DecidableEq α]:∀ (l m:List α),l.Nodup→l ⊆ m→l.length≤m.length
 | [],_,_,_=>Nat.zero_le _
 | x :: l,m,hn,hs=>by
  rw [List.nodup_cons] at hn
  have hx:x∈m:=hs (.head _)
  have h:=nodup_le l (m.erase x) hn.2 fun y hy=>(List.mem_erase_of_ne (fun e:y=x=>hn.1 (by rw [← e];exact hy))).2 (hs (.tail _ hy))
  have:=List.length_pos_of_mem hx
  rw [List.length_erase_of_mem hx] at h
  simp only [List.length_cons]
  omega
theorem Keys.count {s:Sto} (h:Keys s) {b p a:Tx} {l:List Ent} (hn:(l.map (·.key)).Nodup) (hl:∀ e∈l,Listed s b p a e):l.length≤s.last:=by
 obtain ⟨ks,h1,h2⟩:=h.ks
 have sub:(l.map fun e=>(b,e.key)) ⊆ ks:=fun x hx=>by
  obtain ⟨e,he,rfl⟩:=List.mem_map.1 hx
  obtain ⟨v,hv,_⟩:=hl e he
  exact h2 b e.key (fun e0=>by rw [e0] at hv;cases hv)
 have nd:(l.map fun e=>(b,e.key)).Nodup:=by
  rw [List.Nodup,List.pairwise_map] at hn ⊢
  exact hn.imp fun hne e=>hne (congrArg Prod.snd e)
 have:=nodup_le _ _ nd sub
 simp only [List.length_map] at this
 omega
theorem listed_uniq {s:Sto} {b p a:Tx} {e f:Ent} (h:Listed s b p a e) (k:Listed s b p a f) (hk:e.key=f.key):e=f:=by
 obtain ⟨v,v1,_,_,_,v2,v3⟩:=h
 obtain ⟨u,u1,_,_,_,u2,u3⟩:=k
 rw [hk] at v1
 have:=Option.some.inj (v1.symm.trans u1)
 subst this
 obtain ⟨ek,en,es⟩:=e
 obtain ⟨fk,fn,fs⟩:=f
 simp_all
theorem lists_of (s:Sto) (b p a:Tx):∀ K:List Tx,∃ l:List Ent,l.Pairwise (fun x y=>x.key < y.key)∧∀ e,e∈l↔e.key∈K∧Listed s b p a e
 | []=>⟨[],.nil,fun e=>by simp⟩
 | k :: K=>by
  obtain ⟨l,h1,h2⟩:=lists_of s b p a K
  by_cases hk:∃ e:Ent,e.key=k∧Listed s b p a e
  ·obtain ⟨e,rfl,he⟩:=hk
   refine ⟨l.filter (fun x=>decide (x.key < e.key))++e :: l.filter (fun x=>decide (e.key < x.key)),?_,fun x=>?_⟩
   ·rw [List.pairwise_append,List.pairwise_cons]
    refine ⟨h1.filter _,⟨fun y hy=>by simpa using (List.mem_filter.1 hy).2,h1.filter _⟩,fun x hx y hy=>?_⟩
    have hx2:x.key < e.key:=by simpa using (List.mem_filter.1 hx).2
    rcases List.mem_cons.1 hy with rfl|hy
    ·exact hx2
    ·exact List.lt_trans hx2 (by simpa using (List.mem_filter.1 hy).2)
   ·simp only [List.mem_append,List.mem_cons,List.mem_filter,decide_eq_true_eq,h2]
    constructor
    ·rintro (⟨⟨h3,h4⟩,_⟩|rfl|⟨⟨h3,h4⟩,_⟩)
     ·exact ⟨.inr h3,h4⟩
     ·exact ⟨.inl rfl,he⟩
     ·exact ⟨.inr h3,h4⟩
    ·rintro ⟨h3,h4⟩
     by_cases ek:x.key=e.key
     ·exact .inr (.inl (listed_uniq h4 he ek))
     ·have hK:x.key∈K:=h3.resolve_left ek
      by_cases hlt:x.key < e.key
      ·exact .inl ⟨⟨hK,h4⟩,hlt⟩
      ·refine .inr (.inr ⟨⟨hK,h4⟩,?_⟩)
       rcases List.le_iff_lt_or_eq.1 (List.not_lt.1 hlt) with k|k
       ·exact k
       ·exact absurd k.symm ek
  ·refine ⟨l,h1,fun x=>?_⟩
   rw [h2 x]
   constructor
   ·rintro ⟨h3,h4⟩;exact ⟨.tail _ h3,h4⟩
   ·rintro ⟨h3,h4⟩
    rcases List.mem_cons.1 h3 with e|h3
    ·exact absurd ⟨x,e,h4⟩ hk
    ·exact ⟨h3,h4⟩
theorem Keys.lists {s:Sto} (h:Keys s) (b p a:Tx):∃ l,Lists s b p a l:=by
 obtain ⟨ks,_,h2⟩:=h.ks
 obtain ⟨l,h3,h4⟩:=lists_of s b p a (ks.map Prod.snd)
 refine ⟨l,h3,fun e=>(h4 e).trans ⟨And.right,fun k=>⟨?_,k⟩⟩⟩
 obtain ⟨v,hv,_⟩:=k
 exact List.mem_map.2 ⟨(b,e.key),h2 b e.key (fun e0=>by rw [e0] at hv;cases hv),rfl⟩
theorem lists_len {s:Sto} (h:Keys s) {b p a:Tx} {l:List Ent} (hl:Lists s b p a l):l.length≤s.last:=by
 refine h.count ?_ (fun e he=>(hl.2 e).1 he)
 rw [List.Nodup,List.pairwise_map]
 refine hl.1.imp ?_
 intro x y hlt e
 rw [e] at hlt
 exact List.lt_irrefl _ hlt
end Go.Proofs.YtbllcgibmgbnjaaGreatDoor.P
