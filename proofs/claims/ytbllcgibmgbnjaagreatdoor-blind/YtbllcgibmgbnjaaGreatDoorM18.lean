import Derived.Test.YtbllcgibmgbnjaaGreatDoorM17
import Derived.Deep.CutRange
import Derived.Lib.AtoiTie
set_option maxHeartbeats 8000000
set_option maxRecDepth 20000
namespace Go.Proofs.YtbllcgibmgbnjaaGreatDoor.P
open Go.RowKit
open C (ret_bool ret_int ret_str)
def pathP (p:Tx):Tx×Tx×Bool:=Lib.cut (Lib.trimPrefix p [47]) [47]
def ask0 (r:RowP) (p y:Tx):AskP:=⟨r.kind,r.action,(pathP p).1,(pathP p).2.1,y,0,[],[],10⟩
def askP (m p:Tx) (q:Hs) (y:Tx):Option AskP:=match rowP m (pathP p).2.2 (xOut q) with
 | none=>none
 | some r=>if bktP (pathP p).1=true∧((pathP p).2.2=false∨keyP (pathP p).2.1=true)∧(r.hasBody=true∨y=[]) then
   (if (pairsA (ask0 r p y) (xOut q)).2=true then some (pairsA (ask0 r p y) (xOut q)).1 else none) else none
def zeroAskP:AskP:=⟨0,[],[],[],[],0,[],[],0⟩
def asPost (o:Option AskP) (w:World) (e:Ending) (w':World):Prop:=Below w.heap.size w w'∧match o with
 | some a=>e=.returned (.tuple #[a.v,.nilIface])
 | none=>∃ c:Value,c.oneCell'=true∧e=.returned (.tuple #[zeroAskP.v,.iface 148 (.agg #[.int .i64 400,c])])
theorem asPost_no {o:Option AskP} {w w':World} (h:o=none) (hb:Below w.heap.size w w'):asPost o w (.returned (.tuple #[zeroAskP.v,.iface 148 (.agg #[.int .i64 400,.nilIface])])) w':=by
 subst h;exact ⟨hb,.nilIface,rfl,rfl⟩
theorem asPost_ok {o:Option AskP} {a:AskP} {w w':World} (h:o=some a) (hb:Below w.heap.size w w'):asPost o w (.returned (.tuple #[a.v,.nilIface])) w':=by
 subst h;exact ⟨hb,rfl⟩
theorem trimPrefix_len (p s:Tx):(Lib.trimPrefix p s).length≤p.length:=by
 unfold Lib.trimPrefix;split <;> simp
theorem frFound {o:Option RowP} {w w':World} {e:Ending} (h:frPost o w e w'):∃ (r:RowP) (f:Bool),e=.returned (.tuple #[r.v,.bool f])∧(o=if f=true then some r else none)∧Below w.heap.size w w':=by
 obtain ⟨h1,h2⟩:=h
 cases o with
 | none=>obtain ⟨r,rfl⟩:=h1;exact ⟨r,false,rfl,rfl,h2⟩
 | some r=>exact ⟨r,true,h1,rfl,h2⟩
theorem phold_up {w:World} {B B':Nat} {v:Value} {l:Hs} (h:R.phold w B v l) (k:B≤B'):R.phold w B' v l:=by
 rcases h with h|⟨g,cap,e,hg,hc⟩
 ·exact .inl h
 ·exact .inr ⟨g,cap,e,Nat.lt_of_lt_of_le hg k,hc⟩
theorem xOut_len (q:Hs):(xOut q).length≤q.length:=List.length_filter_le _ _
theorem xOut_mem {q:Hs} (h:∀ p∈q,p.1.length≤1000000∧p.2.length≤1000000):∀ p∈xOut q,p.1.length≤1000000∧p.2.length≤1000000:=fun p hp=>h p (List.mem_filter.1 hp).1
abbrev zeroAsk:Obj:=.cells #[.int .i64 0,.string ⟨#[]⟩,.string ⟨#[]⟩,.string ⟨#[]⟩,.string ⟨#[]⟩,.int .i64 0,.string ⟨#[]⟩,.string ⟨#[]⟩,.int .i64 0] 112
theorem askAt_zero (w:World):AskAt w.heap.size zeroAskP (w.alloc zeroAsk):=by constructor <;> simp [go_sem,zeroAskP]
def askZ (b:Nat) (w:World):Prop:=w.cell? ⟨b,0,none⟩=some (.int .i64 0)∧w.cell? ⟨b,1,none⟩=some (.string ⟨#[]⟩)∧w.cell? ⟨b,2,none⟩=some (.string ⟨#[]⟩)∧w.cell? ⟨b,3,none⟩=some (.string ⟨#[]⟩)∧w.cell? ⟨b,4,none⟩=some (.string ⟨#[]⟩)∧w.cell? ⟨b,5,none⟩=some (.int .i64 0)∧w.cell? ⟨b,6,none⟩=some (.string ⟨#[]⟩)∧w.cell? ⟨b,7,none⟩=some (.string ⟨#[]⟩)∧w.cell? ⟨b,8,none⟩=some (.int .i64 0)∧∀ j:Nat,w.frozen? ⟨b,j,none⟩=false
theorem askZ_of {b:Nat} {w:World} (h:AskAt b zeroAskP w):askZ b w:=⟨h.c0,h.c1,h.c2,h.c3,h.c4,h.c5,h.c6,h.c7,h.c8,h.fz⟩
abbrev set9 (w:World) (b:Nat) (a:AskP):World:=((((((((w.setCell ⟨b,0,none⟩ (.int .i64 (a.kind:Int))).setCell ⟨b,1,none⟩ (str a.action)).setCell ⟨b,2,none⟩ (str a.bucket)).setCell ⟨b,3,none⟩ (str a.key)).setCell ⟨b,4,none⟩ (str a.body)).setCell ⟨b,5,none⟩ (.int .i64 (a.version:Int))).setCell ⟨b,6,none⟩ (str a.pre)).setCell ⟨b,7,none⟩ (str a.after)).setCell ⟨b,8,none⟩ (.int .i64 (a.max:Int))
theorem AskAt.set9 {b:Nat} {a0 a:AskP} {w:World} (h:AskAt b a0 w):AskAt b a (set9 w b a):=by
 have c0:=h.c0;have c1:=h.c1;have c2:=h.c2;have c3:=h.c3;have c4:=h.c4;have c5:=h.c5;have c6:=h.c6;have c7:=h.c7;have c8:=h.c8;have fz:=h.fz
 constructor <;> simp [go_sem, *]
theorem below_set9 {B:Nat} {w0 w:World} {b:Nat} (h:Below B w0 w) (hb:B≤b) (a:AskP):Below B w0 (set9 w b a) :=
 ((((((((h.setCell (p:=⟨b,0,none⟩) hb _).setCell (p:=⟨b,1,none⟩) hb _).setCell (p:=⟨b,2,none⟩) hb _).setCell (p:=⟨b,3,none⟩) hb _).setCell (p:=⟨b,4,none⟩) hb _).setCell (p:=⟨b,5,none⟩) hb _).setCell (p:=⟨b,6,none⟩) hb _).setCell (p:=⟨b,7,none⟩) hb _).setCell (p:=⟨b,8,none⟩) hb _
theorem _root_.Go.RowKit.Below.trans' {B:Nat} {a b c:World} (k:Below B b c) (h:Below B a b):Below B a c:=h.trans k
theorem askAt_new (w:World) (a:AskP):AskAt w.heap.size a (w.alloc (.cells #[.int .i64 (a.kind:Int),str a.action,str a.bucket,str a.key,str a.body,.int .i64 (a.version:Int),str a.pre,str a.after,.int .i64 (a.max:Int)] 112)):=by constructor <;> simp [go_sem]
theorem askRead_any (m p:Tx) (q hs:Hs) (qv hv:Value) (y:Tx) (w:World) (G:GL w) (hq:R.phold w w.heap.size qv q) (_b1:m.length≤1000000) (b2:p.length≤1000000) (b3:q.length≤1000000) (b4:∀ p∈q,p.1.length≤1000000∧p.2.length≤1000000) (b6:y.length≤1000000) (hh:R.phold w w.heap.size hv hs) :
  Calls Tryz.prog 82 #[.agg #[str m,str p,qv,hv,str y]] w (asPost (askP m p q y) w):=by
 obtain ⟨qa,qc,rfl⟩:=R.phold.len hq
 obtain ⟨ha,hc,rfl⟩:=R.phold.len hh
 have b0:Below w.heap.size w ((w.alloc (.cells #[str m,str p,.slice qa q.length qc,.slice ha hs.length hc,str y] 97)).alloc zeroAsk):=((Below.refl _ _).alloc (Nat.le_refl _) _).alloc (by simp) _
 have AZ:AskAt (w.heap.size+1) zeroAskP ((w.alloc (.cells #[str m,str p,.slice qa q.length qc,.slice ha hs.length hc,str y] 97)).alloc zeroAsk):=by
  have:=askAt_zero (w.alloc (.cells #[str m,str p,.slice qa q.length qc,.slice ha hs.length hc,str y] 97))
  simpa using this
 have HQ:=R.phold.call hq b0
 have G0:=G.call b0
 have r0:((w.alloc (.cells #[str m,str p,.slice qa q.length qc,.slice ha hs.length hc,str y] 97)).alloc zeroAsk).cell? ⟨w.heap.size,0,none⟩=some (str m):=by simp [go_sem]
 have r1:((w.alloc (.cells #[str m,str p,.slice qa q.length qc,.slice ha hs.length hc,str y] 97)).alloc zeroAsk).cell? ⟨w.heap.size,1,none⟩=some (str p):=by simp [go_sem]
 have r2:((w.alloc (.cells #[str m,str p,.slice qa q.length qc,.slice ha hs.length hc,str y] 97)).alloc zeroAsk).cell? ⟨w.heap.size,2,none⟩=some (.slice qa q.length qc):=by simp [go_sem]
 have r4:((w.alloc (.cells #[str m,str p,.slice qa q.length qc,.slice ha hs.length hc,str y] 97)).alloc zeroAsk).cell? ⟨w.heap.size,4,none⟩=some (str y):=by simp [go_sem]
 have hz:w.heap.size+1 < ((w.alloc (.cells #[str m,str p,.slice qa q.length qc,.slice ha hs.length hc,str y] 97)).alloc zeroAsk).heap.size:=by simp
 have HA:Hid (askP m p q y=match rowP m (pathP p).2.2 (xOut q) with|none=>none|some r=>if bktP (pathP p).1=true∧((pathP p).2.2=false∨keyP (pathP p).2.1=true)∧(r.hasBody=true∨y=[]) then (if (pairsA (ask0 r p y) (xOut q)).2=true then some (pairsA (ask0 r p y) (xOut q)).1 else none) else none):=rfl
 have T1:Hid (_):=Tryz.strings_TrimPrefix ⟨p.toArray⟩ ⟨#[47]⟩
 have ltp:=trimPrefix_len p [47]
 have C1:Hid (_):=fun w E=>R.cut_r (Lib.trimPrefix p [47]) [47] w E (by omega)
 have lcut:=R.cut_le (Lib.trimPrefix p [47]) [47]
 have HPP:Hid (pathP p=Lib.cut (Lib.trimPrefix p [47]) [47]):=rfl
 have PA:Hid (_):=fun w h=>pairsAsk_any (.slice qa q.length qc) q w h b3
 have FR:Hid (_):=fun (path:Bool) (pa:Option Addr) (pc:Nat) w G h=>findRow_any m path pa pc (xOut q) w G h (Nat.le_trans (xOut_len q) b3)
 have lps:=Nat.le_trans (xOut_len q) b3
 have HMP:Hid (_):=xOut_mem b4
 clear hq hh
 go_enter Tryz.func82,Tryz.ntmps82
 go_wp2_with fail
 refine Calls.mono (T1.out _) ?_
 rintro e w' ⟨rfl,rfl⟩
 generalize ((w.alloc (.cells #[str m,str p,.slice qa q.length qc,.slice ha hs.length hc,str y] 97)).alloc zeroAsk)=W at *
 go_wp2_with fail
 refine Calls.mono (C1.out _ G0.env) ?_
 rintro e w1 ⟨rfl,n1,rfl⟩
 rw [← HPP.out] at lcut
 rw [← HPP.out]
 have B1:Below W.heap.size W (W.drewN n1):=R.below_of_drewN n1
 clear T1 C1 HPP
 unfold ask0 at HA
 generalize pathP p=t at *
 obtain ⟨bk,ky,pt⟩:=t
 dsimp only at *
 go_wp2_with fail
 refine Calls.mono (PA.out _ (R.phold.call HQ B1)) ?_
 rintro e w2 ⟨pv,rfl,hp,c2⟩
 have B2:=below_trans B1 c2
 have HP:=R.prow.hold hp
 obtain ⟨pa,pc,rfl⟩:=R.phold.len HP
 have G2:=G0.call B2
 have r0':w2.cell? ⟨w.heap.size,0,none⟩=some (str m):=(B2.cell (p:=⟨w.heap.size,0,none⟩) (by simp;omega)).trans r0
 clear PA HQ hp
 go_wp2_with fail
 refine Calls.mono (FR.out pt pa pc w2 G2 HP) ?_
 intro e w3 hfr
 obtain ⟨r,fo,rfl,hfo,c3⟩:=frFound hfr
 have B3:=below_trans B2 c3
 have HP3:=R.phold.call HP c3
 have G3:=G2.call c3
 have hs3:=B3.size
 replace r4:w3.cell? ⟨w.heap.size,4,none⟩=some (str y):=(B3.cell (p:=⟨w.heap.size,4,none⟩) (by simp;omega)).trans r4
 have AZ3:=AZ.below B3
 clear FR HP G2 r0 r1 r2 r0' hfr c2 c3 AZ G0
 rw [hfo] at HA
 obtain ⟨m2,pt2,p0,p1,p2,ls,kd,ac,hbd⟩:=r
 unfold RowP.v
 dsimp only
 have bR:Below w3.heap.size w3 (w3.alloc (.cells #[str m2,.bool pt2,str p0,str p1,str p2,.int .i64 (ls:Int),.int .i64 (kd:Int),str ac,.bool hbd] 225)):=(Below.refl _ _).alloc (Nat.le_refl _) _
 have x4:(w3.alloc (.cells #[str m2,.bool pt2,str p0,str p1,str p2,.int .i64 (ls:Int),.int .i64 (kd:Int),str ac,.bool hbd] 225)).cell? ⟨w3.heap.size,6,none⟩=some (.int .i64 (kd:Int)):=by simp [go_sem]
 have x5:(w3.alloc (.cells #[str m2,.bool pt2,str p0,str p1,str p2,.int .i64 (ls:Int),.int .i64 (kd:Int),str ac,.bool hbd] 225)).cell? ⟨w3.heap.size,7,none⟩=some (str ac):=by simp [go_sem]
 have x8:(w3.alloc (.cells #[str m2,.bool pt2,str p0,str p1,str p2,.int .i64 (ls:Int),.int .i64 (kd:Int),str ac,.bool hbd] 225)).cell? ⟨w3.heap.size,8,none⟩=some (.bool hbd):=by simp [go_sem]
 have y4:(w3.alloc (.cells #[str m2,.bool pt2,str p0,str p1,str p2,.int .i64 (ls:Int),.int .i64 (kd:Int),str ac,.bool hbd] 225)).cell? ⟨w.heap.size,4,none⟩=some (str y):=cell_alloc r4 _
 have HP4:=R.phold.call HP3 bR
 have G4:=G3.call bR
 have AZ4:=AZ3.below bR
 have B4:=below_trans B3 bR
 have hs4:w3.heap.size < (w3.alloc (.cells #[str m2,.bool pt2,str p0,str p1,str p2,.int .i64 (ls:Int),.int .i64 (kd:Int),str ac,.bool hbd] 225)).heap.size:=by simp
 have CLN:Hid (∀ w,Calls Tryz.prog 64 #[str y] w fun e w'=>e=.returned (str y)∧Below w.heap.size w w'):=fun w=>R.clone_r y w b6
 go_wp2_with fail
 clear hfo r4 HP3 G3 AZ3 bR
 generalize hW4:(w3.alloc (.cells #[str m2,.bool pt2,str p0,str p1,str p2,.int .i64 (ls:Int),.int .i64 (kd:Int),str ac,.bool hbd] 225))=W4 at *
 have HW4:Hid (w3.alloc (.cells #[str m2,.bool pt2,str p0,str p1,str p2,.int .i64 (ls:Int),.int .i64 (kd:Int),str ac,.bool hbd] 225)=W4):=hW4
 clear hW4
 have AZN:Hid (askZ W4.heap.size (W4.alloc zeroAsk).drew):=by
  have:=askAt_zero W4
  exact askZ_of ⟨this.c0,this.c1,this.c2,this.c3,this.c4,this.c5,this.c6,this.c7,this.c8,this.fz⟩
 have AAN:Hid (AskAt W4.heap.size zeroAskP (W4.alloc zeroAsk).drew):=by
  have:=askAt_zero W4
  exact ⟨this.c0,this.c1,this.c2,this.c3,this.c4,this.c5,this.c6,this.c7,this.c8,this.fz⟩
 have bZ:Below W4.heap.size W4 (W4.alloc zeroAsk).drew:=((Below.refl _ _).alloc (Nat.le_refl _) _).drew
 go_cut [10] from 31 to 40 (fun v wx=>∃ b,v=.pointer (some ⟨b,0,none⟩)∧W4.heap.size≤b∧AskAt b ⟨kd,ac,bk,ky,y,0,[],[],10⟩ wx∧Below W4.heap.size W4 wx)
 case first =>
  have lz:w.heap.size < W4.heap.size:=by omega
  have hs4':w3.heap.size < (W4.alloc zeroAsk).heap.size:=by simp;omega
  have lz':w.heap.size < (W4.alloc zeroAsk).heap.size:=by simp;omega
  have xd:W4.drew.cell? ⟨w3.heap.size,6,none⟩=some (.int .i64 (kd:Int))∧W4.drew.cell? ⟨w3.heap.size,7,none⟩=some (str ac)∧W4.drew.cell? ⟨w.heap.size,4,none⟩=some (str y):=⟨x4,x5,y4⟩
  have xa:∀ o,(W4.alloc o).drew.cell? ⟨w3.heap.size,6,none⟩=some (.int .i64 (kd:Int))∧(W4.alloc o).drew.cell? ⟨w3.heap.size,7,none⟩=some (str ac)∧(W4.alloc o).drew.cell? ⟨w.heap.size,4,none⟩=some (str y):=fun o=>⟨cell_alloc x4 o,cell_alloc x5 o,cell_alloc y4 o⟩
  have n1:¬ w3.heap.size=W4.heap.size:=by omega
  have n2:¬ w.heap.size=W4.heap.size:=by omega
  have CL1:Hid (Calls Tryz.prog 64 #[str y] W4.drew fun e w5=>e=.returned (str y)∧Below W4.heap.size W4 w5∧w5.cell? ⟨w3.heap.size,6,none⟩=some (.int .i64 (kd:Int))∧w5.cell? ⟨w3.heap.size,7,none⟩=some (str ac)∧w5.cell? ⟨w.heap.size,4,none⟩=some (str y)) :=
   (CLN.out W4.drew).mono fun e w5 ⟨h1,c5⟩=>⟨h1,below_trans (below_drew W4) c5,(c5.cell (p:=⟨w3.heap.size,6,none⟩) hs4).trans x4,(c5.cell (p:=⟨w3.heap.size,7,none⟩) hs4).trans x5,(c5.cell (p:=⟨w.heap.size,4,none⟩) lz).trans y4⟩
  have CL2:Hid (Calls Tryz.prog 64 #[str y] (W4.alloc zeroAsk).drew fun e w5=>e=.returned (str y)∧Below W4.heap.size W4 w5∧w5.cell? ⟨w3.heap.size,6,none⟩=some (.int .i64 (kd:Int))∧w5.cell? ⟨w3.heap.size,7,none⟩=some (str ac)∧w5.cell? ⟨w.heap.size,4,none⟩=some (str y)∧AskAt W4.heap.size zeroAskP w5) :=
   (CLN.out (W4.alloc zeroAsk).drew).mono fun e w5 ⟨h1,c5⟩=>⟨h1,below_trans bZ c5,(c5.cell (p:=⟨w3.heap.size,6,none⟩) hs4').trans (cell_alloc x4 _),(c5.cell (p:=⟨w3.heap.size,7,none⟩) hs4').trans (cell_alloc x5 _),(c5.cell (p:=⟨w.heap.size,4,none⟩) lz').trans (cell_alloc y4 _),AAN.out.below c5⟩
  go_region_held3 (fun w'=>w'.cell? ⟨w3.heap.size,6,none⟩=some (.int .i64 (kd:Int))∧w'.cell? ⟨w3.heap.size,7,none⟩=some (str ac)∧w'.cell? ⟨w.heap.size,4,none⟩=some (str y)) (first|with_reducible exact xd|with_reducible exact xa _|with_reducible exact ⟨x4,x5,y4⟩|with_reducible exact ⟨cell_alloc x4 _,cell_alloc x5 _,cell_alloc y4 _⟩|(simp [go_sem,x4,x5,y4];done)) (first|(go_at_call 64;with_reducible refine Calls.mono CL1.out ?_;rintro e w5 ⟨rfl,B5,x4,x5,y4⟩)|(go_at_call 64;with_reducible refine Calls.mono CL2.out ?_;rintro e w5 ⟨rfl,B5,x4,x5,y4,A5⟩;have hz9:=askZ_of A5;unfold askZ at hz9;have z0:=hz9.1;have z1:=hz9.2.1;have z2:=hz9.2.2.1;have z3:=hz9.2.2.2.1;have z4:=hz9.2.2.2.2.1;have z5:=hz9.2.2.2.2.2.1;have z6:=hz9.2.2.2.2.2.2.1;have z7:=hz9.2.2.2.2.2.2.2.1;have z8:=hz9.2.2.2.2.2.2.2.2.1;have zf:=hz9.2.2.2.2.2.2.2.2.2;clear hz9))
  all_goals go_wp2_with fail
  all_goals go_meet
  case rel=>exact ⟨w5.heap.size,rfl,B5.size,askAt_new w5 ⟨kd,ac,bk,ky,y,0,[],[],10⟩,B5.alloc B5.size _⟩
  case rel=>exact ⟨W4.heap.size,rfl,Nat.le_refl _,A5.set9 (a:=⟨kd,ac,bk,ky,y,0,[],[],10⟩),below_set9 B5 (Nat.le_refl _) ⟨kd,ac,bk,ky,y,0,[],[],10⟩⟩
 case rest =>
  obtain ⟨b,rfl,hb,AB,B5⟩:=hcut
  have AZ5:=AZ4.below B5
  have hs5:=B5.size
  have x8c:wc.cell? ⟨w3.heap.size,8,none⟩=some (.bool hbd):=(B5.cell (p:=⟨w3.heap.size,8,none⟩) hs4).trans x8
  have y4c:wc.cell? ⟨w.heap.size,4,none⟩=some (str y):=(B5.cell (p:=⟨w.heap.size,4,none⟩) (show w.heap.size < W4.heap.size by omega)).trans y4
  have G5:=G4.call B5
  have HP5:R.phold wc b (.slice pa (xOut q).length pc) (xOut q):=phold_up (R.phold.below HP4 B5) hb
  have BB:Below w.heap.size w wc:=below_trans b0 (below_trans B4 B5)
  have hb13:13≤b:=by have:=G.sz;omega
  have RP:Hid (_):=readPairs2_any b ⟨kd,ac,bk,ky,y,0,[],[],10⟩ pa pc (xOut q) wc G5 AB hb13 HP5 lps HMP.out
  have IB:Hid (_):=fun w=>isBucket_any bk w (by omega)
  have IK:Hid (_):=fun w=>isKey_any ky w (by omega)
  have RF:Hid (∀ w,Calls Tryz.prog 80 #[.int .i64 400,.nilIface] w fun e w'=>e=.returned (.iface 148 (.agg #[.int .i64 400,.nilIface]))∧w=w'):=fun w=>refuse_any 400 .nilIface (.inl rfl) w
  have hz9:=askZ_of AZ5;unfold askZ at hz9;have z0:=hz9.1;have z1:=hz9.2.1;have z2:=hz9.2.2.1;have z3:=hz9.2.2.2.1;have z4:=hz9.2.2.2.2.1;have z5:=hz9.2.2.2.2.2.1;have z6:=hz9.2.2.2.2.2.2.1;have z7:=hz9.2.2.2.2.2.2.2.1;have z8:=hz9.2.2.2.2.2.2.2.2.1;have zf:=hz9.2.2.2.2.2.2.2.2.2;clear hz9
  clear AZ4 HP4 G4 x4 x5 x8 y4 CLN AZN AAN bZ B4 b0 HP5 HMP
  cases fo with
  | false =>
   have HX:Hid (askP m p q y=none):=HA.out
   clear HA
   go_wp2_with (first|(go_at_call 122;refine (IB.out _).mono ?_;rintro e w' ⟨rfl,rfl⟩)|(go_at_call 123;refine (IK.out _).mono ?_;rintro e w' ⟨rfl,rfl⟩)|(go_at_call 80;refine (RF.out _).mono ?_;rintro e w' ⟨rfl,rfl⟩))
   refine bodyPost_ret (v:=.tuple #[.agg #[.int .i64 0,str [],str [],str [],str [],.int .i64 0,str [],str [],.int .i64 0],.iface 148 (.agg #[.int .i64 400,.nilIface])]) ?_ rfl ?_
   ·simp [results,Tryz.results82,go_sem,z0,z1,z2,z3,z4,z5,z6,z7,z8]
   ·exact asPost_no HX.out (below_set9 BB (Nat.le_succ _) zeroAskP)
  | true =>
   replace HA:Hid (askP m p q y=if bktP bk=true∧(pt=false∨keyP ky=true)∧(hbd=true∨y=[]) then (if (pairsA ⟨kd,ac,bk,ky,y,0,[],[],10⟩ (xOut q)).2=true then some (pairsA ⟨kd,ac,bk,ky,y,0,[],[],10⟩ (xOut q)).1 else none) else none):=HA.out
   cases hbk:bktP bk with
   | false =>
    rw [hbk] at IB
    have HX:Hid (askP m p q y=none):=by
     show _=_;rw [HA.out];exact if_neg (fun h=>by rw [hbk] at h;cases h.1)
    clear HA
    go_wp2_with (first|(go_at_call 122;refine (IB.out _).mono ?_;rintro e w' ⟨rfl,rfl⟩)|(go_at_call 123;refine (IK.out _).mono ?_;rintro e w' ⟨rfl,rfl⟩)|(go_at_call 80;refine (RF.out _).mono ?_;rintro e w' ⟨rfl,rfl⟩))
    refine bodyPost_ret (v:=.tuple #[.agg #[.int .i64 0,str [],str [],str [],str [],.int .i64 0,str [],str [],.int .i64 0],.iface 148 (.agg #[.int .i64 400,.nilIface])]) ?_ rfl ?_
    ·simp [results,Tryz.results82,go_sem,z0,z1,z2,z3,z4,z5,z6,z7,z8]
    ·exact asPost_no HX.out (below_set9 BB (Nat.le_succ _) zeroAskP)
   | true =>
    rw [hbk] at IB
    cases pt with
    | false =>
     cases hbd with
     | true =>
      have HX:Hid (askP m p q y=if (pairsA ⟨kd,ac,bk,ky,y,0,[],[],10⟩ (xOut q)).2=true then some (pairsA ⟨kd,ac,bk,ky,y,0,[],[],10⟩ (xOut q)).1 else none):=by
       show _=_;rw [HA.out];exact if_pos ⟨hbk,.inl rfl,.inl rfl⟩
      generalize pairsA ⟨kd,ac,bk,ky,y,0,[],[],10⟩ (xOut q)=X at *
      obtain ⟨a',o⟩:=X
      clear HA
      go_wp2_with (first|(go_at_call 122;refine (IB.out _).mono ?_;rintro e w' ⟨rfl,rfl⟩)|(go_at_call 123;refine (IK.out _).mono ?_;rintro e w' ⟨rfl,rfl⟩)|(go_at_call 80;refine (RF.out _).mono ?_;rintro e w' ⟨rfl,rfl⟩))
      refine Calls.mono RP.out ?_
      rintro e w6 ⟨rfl,A6,K6⟩
      dsimp only at A6
      have AZ6:=AZ5.kept K6 (by omega)
      have hz9:=askZ_of AZ6;unfold askZ at hz9
      replace z0:=hz9.1;replace z1:=hz9.2.1;replace z2:=hz9.2.2.1;replace z3:=hz9.2.2.2.1;replace z4:=hz9.2.2.2.2.1;replace z5:=hz9.2.2.2.2.2.1;replace z6:=hz9.2.2.2.2.2.2.1;replace z7:=hz9.2.2.2.2.2.2.2.1;replace z8:=hz9.2.2.2.2.2.2.2.2.1;replace zf:=hz9.2.2.2.2.2.2.2.2.2
      have B6:Below w.heap.size w w6:=(Kept.below (K6) (B:=w.heap.size) (by have:=BB.size;omega) (fun k e=>by omega)).trans' BB
      clear hz9 RP AZ6
      cases o with
      | false =>
       replace HX:Hid (askP m p q y=none):=by show _=_;rw [HX.out];rfl
       go_wp2_with (first|(go_at_call 122;refine (IB.out _).mono ?_;rintro e w' ⟨rfl,rfl⟩)|(go_at_call 123;refine (IK.out _).mono ?_;rintro e w' ⟨rfl,rfl⟩)|(go_at_call 80;refine (RF.out _).mono ?_;rintro e w' ⟨rfl,rfl⟩))
       refine bodyPost_ret (v:=.tuple #[.agg #[.int .i64 0,str [],str [],str [],str [],.int .i64 0,str [],str [],.int .i64 0],.iface 148 (.agg #[.int .i64 400,.nilIface])]) ?_ rfl ?_
       ·simp [results,Tryz.results82,go_sem,z0,z1,z2,z3,z4,z5,z6,z7,z8]
       ·exact asPost_no HX.out (below_set9 B6 (Nat.le_succ _) zeroAskP)
      | true =>
       replace HX:Hid (askP m p q y=some a'):=by show _=_;rw [HX.out];rfl
       have q0:=A6.c0;have q1:=A6.c1;have q2:=A6.c2;have q3:=A6.c3;have q4:=A6.c4;have q5:=A6.c5;have q6:=A6.c6;have q7:=A6.c7;have q8:=A6.c8
       go_wp2
       refine bodyPost_ret (v:=.tuple #[.agg #[.int .i64 (a'.kind:Int),str a'.action,str a'.bucket,str a'.key,str a'.body,.int .i64 (a'.version:Int),str a'.pre,str a'.after,.int .i64 (a'.max:Int)],.nilIface]) ?_ rfl ?_
       ·simp [results,Tryz.results82,go_sem,z0,z1,z2,z3,z4,z5,z6,z7,z8]
       ·exact asPost_ok HX.out (below_set9 B6 (Nat.le_succ _) a')
     | false =>
      by_cases hy0:y=[]
      ·have ty:(y == [])=true:=by simpa using hy0
       have HX:Hid (askP m p q y=if (pairsA ⟨kd,ac,bk,ky,y,0,[],[],10⟩ (xOut q)).2=true then some (pairsA ⟨kd,ac,bk,ky,y,0,[],[],10⟩ (xOut q)).1 else none):=by
        show _=_;rw [HA.out];exact if_pos ⟨hbk,.inl rfl,.inr hy0⟩
       generalize pairsA ⟨kd,ac,bk,ky,y,0,[],[],10⟩ (xOut q)=X at *
       obtain ⟨a',o⟩:=X
       clear HA
       go_wp2_with (first|(go_at_call 122;refine (IB.out _).mono ?_;rintro e w' ⟨rfl,rfl⟩)|(go_at_call 123;refine (IK.out _).mono ?_;rintro e w' ⟨rfl,rfl⟩)|(go_at_call 80;refine (RF.out _).mono ?_;rintro e w' ⟨rfl,rfl⟩))
       refine Calls.mono RP.out ?_
       rintro e w6 ⟨rfl,A6,K6⟩
       dsimp only at A6
       have AZ6:=AZ5.kept K6 (by omega)
       have hz9:=askZ_of AZ6;unfold askZ at hz9
       replace z0:=hz9.1;replace z1:=hz9.2.1;replace z2:=hz9.2.2.1;replace z3:=hz9.2.2.2.1;replace z4:=hz9.2.2.2.2.1;replace z5:=hz9.2.2.2.2.2.1;replace z6:=hz9.2.2.2.2.2.2.1;replace z7:=hz9.2.2.2.2.2.2.2.1;replace z8:=hz9.2.2.2.2.2.2.2.2.1;replace zf:=hz9.2.2.2.2.2.2.2.2.2
       have B6:Below w.heap.size w w6:=(Kept.below (K6) (B:=w.heap.size) (by have:=BB.size;omega) (fun k e=>by omega)).trans' BB
       clear hz9 RP AZ6
       cases o with
       | false =>
        replace HX:Hid (askP m p q y=none):=by show _=_;rw [HX.out];rfl
        go_wp2_with (first|(go_at_call 122;refine (IB.out _).mono ?_;rintro e w' ⟨rfl,rfl⟩)|(go_at_call 123;refine (IK.out _).mono ?_;rintro e w' ⟨rfl,rfl⟩)|(go_at_call 80;refine (RF.out _).mono ?_;rintro e w' ⟨rfl,rfl⟩))
        refine bodyPost_ret (v:=.tuple #[.agg #[.int .i64 0,str [],str [],str [],str [],.int .i64 0,str [],str [],.int .i64 0],.iface 148 (.agg #[.int .i64 400,.nilIface])]) ?_ rfl ?_
        ·simp [results,Tryz.results82,go_sem,z0,z1,z2,z3,z4,z5,z6,z7,z8]
        ·exact asPost_no HX.out (below_set9 B6 (Nat.le_succ _) zeroAskP)
       | true =>
        replace HX:Hid (askP m p q y=some a'):=by show _=_;rw [HX.out];rfl
        have q0:=A6.c0;have q1:=A6.c1;have q2:=A6.c2;have q3:=A6.c3;have q4:=A6.c4;have q5:=A6.c5;have q6:=A6.c6;have q7:=A6.c7;have q8:=A6.c8
        go_wp2
        refine bodyPost_ret (v:=.tuple #[.agg #[.int .i64 (a'.kind:Int),str a'.action,str a'.bucket,str a'.key,str a'.body,.int .i64 (a'.version:Int),str a'.pre,str a'.after,.int .i64 (a'.max:Int)],.nilIface]) ?_ rfl ?_
        ·simp [results,Tryz.results82,go_sem,z0,z1,z2,z3,z4,z5,z6,z7,z8]
        ·exact asPost_ok HX.out (below_set9 B6 (Nat.le_succ _) a')
      ·have ty:(y == [])=false:=by simpa using hy0
       have HX:Hid (askP m p q y=none):=by
        show _=_;rw [HA.out];exact if_neg (fun h=>by rcases h.2.2 with h|h;cases h;exact hy0 h)
       clear HA
       go_wp2_with (first|(go_at_call 122;refine (IB.out _).mono ?_;rintro e w' ⟨rfl,rfl⟩)|(go_at_call 123;refine (IK.out _).mono ?_;rintro e w' ⟨rfl,rfl⟩)|(go_at_call 80;refine (RF.out _).mono ?_;rintro e w' ⟨rfl,rfl⟩))
       refine bodyPost_ret (v:=.tuple #[.agg #[.int .i64 0,str [],str [],str [],str [],.int .i64 0,str [],str [],.int .i64 0],.iface 148 (.agg #[.int .i64 400,.nilIface])]) ?_ rfl ?_
       ·simp [results,Tryz.results82,go_sem,z0,z1,z2,z3,z4,z5,z6,z7,z8]
       ·exact asPost_no HX.out (below_set9 BB (Nat.le_succ _) zeroAskP)
    | true =>
     cases hky:keyP ky with
     | false =>
      rw [hky] at IK
      have HX:Hid (askP m p q y=none):=by
       show _=_;rw [HA.out];exact if_neg (fun h=>by rw [hky] at h;rcases h.2.1 with h|h <;> cases h)
      clear HA
      go_wp2_with (first|(go_at_call 122;refine (IB.out _).mono ?_;rintro e w' ⟨rfl,rfl⟩)|(go_at_call 123;refine (IK.out _).mono ?_;rintro e w' ⟨rfl,rfl⟩)|(go_at_call 80;refine (RF.out _).mono ?_;rintro e w' ⟨rfl,rfl⟩))
      refine bodyPost_ret (v:=.tuple #[.agg #[.int .i64 0,str [],str [],str [],str [],.int .i64 0,str [],str [],.int .i64 0],.iface 148 (.agg #[.int .i64 400,.nilIface])]) ?_ rfl ?_
      ·simp [results,Tryz.results82,go_sem,z0,z1,z2,z3,z4,z5,z6,z7,z8]
      ·exact asPost_no HX.out (below_set9 BB (Nat.le_succ _) zeroAskP)
     | true =>
      rw [hky] at IK
      cases hbd with
      | true =>
       have HX:Hid (askP m p q y=if (pairsA ⟨kd,ac,bk,ky,y,0,[],[],10⟩ (xOut q)).2=true then some (pairsA ⟨kd,ac,bk,ky,y,0,[],[],10⟩ (xOut q)).1 else none):=by
        show _=_;rw [HA.out];exact if_pos ⟨hbk,.inr hky,.inl rfl⟩
       generalize pairsA ⟨kd,ac,bk,ky,y,0,[],[],10⟩ (xOut q)=X at *
       obtain ⟨a',o⟩:=X
       clear HA
       go_wp2_with (first|(go_at_call 122;refine (IB.out _).mono ?_;rintro e w' ⟨rfl,rfl⟩)|(go_at_call 123;refine (IK.out _).mono ?_;rintro e w' ⟨rfl,rfl⟩)|(go_at_call 80;refine (RF.out _).mono ?_;rintro e w' ⟨rfl,rfl⟩))
       refine Calls.mono RP.out ?_
       rintro e w6 ⟨rfl,A6,K6⟩
       dsimp only at A6
       have AZ6:=AZ5.kept K6 (by omega)
       have hz9:=askZ_of AZ6;unfold askZ at hz9
       replace z0:=hz9.1;replace z1:=hz9.2.1;replace z2:=hz9.2.2.1;replace z3:=hz9.2.2.2.1;replace z4:=hz9.2.2.2.2.1;replace z5:=hz9.2.2.2.2.2.1;replace z6:=hz9.2.2.2.2.2.2.1;replace z7:=hz9.2.2.2.2.2.2.2.1;replace z8:=hz9.2.2.2.2.2.2.2.2.1;replace zf:=hz9.2.2.2.2.2.2.2.2.2
       have B6:Below w.heap.size w w6:=(Kept.below (K6) (B:=w.heap.size) (by have:=BB.size;omega) (fun k e=>by omega)).trans' BB
       clear hz9 RP AZ6
       cases o with
       | false =>
        replace HX:Hid (askP m p q y=none):=by show _=_;rw [HX.out];rfl
        go_wp2_with (first|(go_at_call 122;refine (IB.out _).mono ?_;rintro e w' ⟨rfl,rfl⟩)|(go_at_call 123;refine (IK.out _).mono ?_;rintro e w' ⟨rfl,rfl⟩)|(go_at_call 80;refine (RF.out _).mono ?_;rintro e w' ⟨rfl,rfl⟩))
        refine bodyPost_ret (v:=.tuple #[.agg #[.int .i64 0,str [],str [],str [],str [],.int .i64 0,str [],str [],.int .i64 0],.iface 148 (.agg #[.int .i64 400,.nilIface])]) ?_ rfl ?_
        ·simp [results,Tryz.results82,go_sem,z0,z1,z2,z3,z4,z5,z6,z7,z8]
        ·exact asPost_no HX.out (below_set9 B6 (Nat.le_succ _) zeroAskP)
       | true =>
        replace HX:Hid (askP m p q y=some a'):=by show _=_;rw [HX.out];rfl
        have q0:=A6.c0;have q1:=A6.c1;have q2:=A6.c2;have q3:=A6.c3;have q4:=A6.c4;have q5:=A6.c5;have q6:=A6.c6;have q7:=A6.c7;have q8:=A6.c8
        go_wp2
        refine bodyPost_ret (v:=.tuple #[.agg #[.int .i64 (a'.kind:Int),str a'.action,str a'.bucket,str a'.key,str a'.body,.int .i64 (a'.version:Int),str a'.pre,str a'.after,.int .i64 (a'.max:Int)],.nilIface]) ?_ rfl ?_
        ·simp [results,Tryz.results82,go_sem,z0,z1,z2,z3,z4,z5,z6,z7,z8]
        ·exact asPost_ok HX.out (below_set9 B6 (Nat.le_succ _) a')
      | false =>
       by_cases hy0:y=[]
       ·have ty:(y == [])=true:=by simpa using hy0
        have HX:Hid (askP m p q y=if (pairsA ⟨kd,ac,bk,ky,y,0,[],[],10⟩ (xOut q)).2=true then some (pairsA ⟨kd,ac,bk,ky,y,0,[],[],10⟩ (xOut q)).1 else none):=by
         show _=_;rw [HA.out];exact if_pos ⟨hbk,.inr hky,.inr hy0⟩
        generalize pairsA ⟨kd,ac,bk,ky,y,0,[],[],10⟩ (xOut q)=X at *
        obtain ⟨a',o⟩:=X
        clear HA
        go_wp2_with (first|(go_at_call 122;refine (IB.out _).mono ?_;rintro e w' ⟨rfl,rfl⟩)|(go_at_call 123;refine (IK.out _).mono ?_;rintro e w' ⟨rfl,rfl⟩)|(go_at_call 80;refine (RF.out _).mono ?_;rintro e w' ⟨rfl,rfl⟩))
        refine Calls.mono RP.out ?_
        rintro e w6 ⟨rfl,A6,K6⟩
        dsimp only at A6
        have AZ6:=AZ5.kept K6 (by omega)
        have hz9:=askZ_of AZ6;unfold askZ at hz9
        replace z0:=hz9.1;replace z1:=hz9.2.1;replace z2:=hz9.2.2.1;replace z3:=hz9.2.2.2.1;replace z4:=hz9.2.2.2.2.1;replace z5:=hz9.2.2.2.2.2.1;replace z6:=hz9.2.2.2.2.2.2.1;replace z7:=hz9.2.2.2.2.2.2.2.1;replace z8:=hz9.2.2.2.2.2.2.2.2.1;replace zf:=hz9.2.2.2.2.2.2.2.2.2
        have B6:Below w.heap.size w w6:=(Kept.below (K6) (B:=w.heap.size) (by have:=BB.size;omega) (fun k e=>by omega)).trans' BB
        clear hz9 RP AZ6
        cases o with
        | false =>
         replace HX:Hid (askP m p q y=none):=by show _=_;rw [HX.out];rfl
         go_wp2_with (first|(go_at_call 122;refine (IB.out _).mono ?_;rintro e w' ⟨rfl,rfl⟩)|(go_at_call 123;refine (IK.out _).mono ?_;rintro e w' ⟨rfl,rfl⟩)|(go_at_call 80;refine (RF.out _).mono ?_;rintro e w' ⟨rfl,rfl⟩))
         refine bodyPost_ret (v:=.tuple #[.agg #[.int .i64 0,str [],str [],str [],str [],.int .i64 0,str [],str [],.int .i64 0],.iface 148 (.agg #[.int .i64 400,.nilIface])]) ?_ rfl ?_
         ·simp [results,Tryz.results82,go_sem,z0,z1,z2,z3,z4,z5,z6,z7,z8]
         ·exact asPost_no HX.out (below_set9 B6 (Nat.le_succ _) zeroAskP)
        | true =>
         replace HX:Hid (askP m p q y=some a'):=by show _=_;rw [HX.out];rfl
         have q0:=A6.c0;have q1:=A6.c1;have q2:=A6.c2;have q3:=A6.c3;have q4:=A6.c4;have q5:=A6.c5;have q6:=A6.c6;have q7:=A6.c7;have q8:=A6.c8
         go_wp2
         refine bodyPost_ret (v:=.tuple #[.agg #[.int .i64 (a'.kind:Int),str a'.action,str a'.bucket,str a'.key,str a'.body,.int .i64 (a'.version:Int),str a'.pre,str a'.after,.int .i64 (a'.max:Int)],.nilIface]) ?_ rfl ?_
         ·simp [results,Tryz.results82,go_sem,z0,z1,z2,z3,z4,z5,z6,z7,z8]
         ·exact asPost_ok HX.out (below_set9 B6 (Nat.le_succ _) a')
       ·have ty:(y == [])=false:=by simpa using hy0
        have HX:Hid (askP m p q y=none):=by
         show _=_;rw [HA.out];exact if_neg (fun h=>by rcases h.2.2 with h|h;cases h;exact hy0 h)
        clear HA
        go_wp2_with (first|(go_at_call 122;refine (IB.out _).mono ?_;rintro e w' ⟨rfl,rfl⟩)|(go_at_call 123;refine (IK.out _).mono ?_;rintro e w' ⟨rfl,rfl⟩)|(go_at_call 80;refine (RF.out _).mono ?_;rintro e w' ⟨rfl,rfl⟩))
        refine bodyPost_ret (v:=.tuple #[.agg #[.int .i64 0,str [],str [],str [],str [],.int .i64 0,str [],str [],.int .i64 0],.iface 148 (.agg #[.int .i64 400,.nilIface])]) ?_ rfl ?_
        ·simp [results,Tryz.results82,go_sem,z0,z1,z2,z3,z4,z5,z6,z7,z8]
        ·exact asPost_no HX.out (below_set9 BB (Nat.le_succ _) zeroAskP)
open C (enc dec dec_enc enc1 plainB enc_cons enc_nil enc_len hexD)
theorem pre1 {c x:UInt8} {r:Tx} (h:x≠c):([c]:Tx).isPrefixOf (x :: r)=false:=by
 simp [List.isPrefixOf];exact fun e=>h e.symm
theorem cutc_hit {c:UInt8} (b:Tx):∀ {a:Tx},c ∉ a→Lib.cut (a++c :: b) [c]=(a,b,true)
 | [],_=>by rw [List.nil_append,R.cut_pre (by simp [List.isPrefixOf]) (.inl (by simp))];rfl
 | x :: a,h=>by
  have hx:x≠c:=fun e=>h (by simp [e])
  rw [List.cons_append,R.cut_cons (pre1 hx),cutc_hit b (fun e=>h (List.mem_cons_of_mem _ e))]
theorem cutc_miss {c:UInt8}:∀ {a:Tx},c ∉ a→Lib.cut a [c]=(a,[],false)
 | [],_=>R.cut_nil (by simp)
 | x :: a,h=>by
  have hx:x≠c:=fun e=>h (by simp [e])
  rw [R.cut_cons (pre1 hx),cutc_miss (fun e=>h (List.mem_cons_of_mem _ e))]
theorem splitc_hit {c:UInt8} {a:Tx} (b:Tx) (h:c ∉ a):Lib.split (a++c :: b) [c]=a :: Lib.split b [c]:=by
 rw [R.split_rec _ _ (by simp),cutc_hit b h];rfl
theorem splitc_miss {c:UInt8} {a:Tx} (h:c ∉ a):Lib.split a [c]=[a]:=by
 rw [R.split_rec _ _ (by simp),cutc_miss h];rfl
theorem cut2_hit (b:Tx):∀ {a:Tx},(58:UInt8) ∉ a→Lib.cut (a++58 :: 32 :: b) [58,32]=(a,b,true)
 | [],_=>by rw [List.nil_append,R.cut_pre (by simp [List.isPrefixOf]) (.inl (by simp))];rfl
 | x :: a,h=>by
  have hx:¬ 58=x:=fun e=>h (by simp [e])
  rw [List.cons_append,R.cut_cons (by simp [List.isPrefixOf,hx]),cut2_hit b (fun e=>h (List.mem_cons_of_mem _ e))]
theorem decFrom_app (a b:Tx) (acc:Nat):Lib.decFrom acc (a++b)=(Lib.decFrom acc a).bind (fun m=>Lib.decFrom m b):=by
 induction a generalizing acc with
 | nil=>rfl
 | cons c a ih =>
  simp only [List.cons_append,Lib.decFrom]
  cases Lib.digitVal c with
  | none=>rfl
  | some d=>exact ih _
theorem digit_nat {n:Nat} (h:n < 10):(UInt8.ofNat (48+n)).toNat=48+n:=by simp;omega
theorem decFrom_dec (u:Nat):Lib.decFrom 0 (Lib.decDigits u)=some u:=by
 induction u using Nat.strongRecOn with
 | _ u ih =>
  rw [Lib.decDigits]
  by_cases h:u < 10
  ·rw [dif_pos h];simp only [Lib.decFrom,Lib.digitVal,digit_nat h];rw [if_pos (by omega)];simp
  ·rw [dif_neg h,decFrom_app,ih (u / 10) (by omega)]
   simp only [Option.bind,Lib.decFrom,Lib.digitVal,digit_nat (show u % 10 < 10 by omega)];rw [if_pos (by omega)]
   simp;omega
theorem dd_digit (u:Nat):∀ c∈Lib.decDigits u,48≤c.toNat∧c.toNat≤57:=by
 induction u using Nat.strongRecOn with
 | _ u ih =>
  rw [Lib.decDigits]
  by_cases h:u < 10
  ·rw [dif_pos h];intro c hc;rw [List.mem_singleton] at hc;subst hc;rw [digit_nat h];omega
  ·rw [dif_neg h];intro c hc
   rcases List.mem_append.1 hc with hc|hc
   ·exact ih _ (by omega) c hc
   ·rw [List.mem_singleton] at hc;subst hc;rw [digit_nat (by omega)];omega
theorem dd_ne (u:Nat):Lib.decDigits u≠[]:=by
 rw [Lib.decDigits];split <;> simp
theorem nDigits_le {u k:Nat} (h:u < 10 ^ (k+1)):Lib.nDigits u≤k+1:=by
 rcases Nat.lt_or_ge (k+1) (Lib.nDigits u) with hk|hk
 ·exfalso
  have:∀ (k u:Nat),u < 10 ^ (k+1)→Lib.nDigits u≤k+1:=by
   intro k
   induction k with
   | zero=>intro u hu;rw [Lib.nDigits_small (by simpa using hu)];omega
   | succ k ih =>
    intro u hu
    by_cases h10:u < 10
    ·rw [Lib.nDigits_small h10];omega
    ·rw [Lib.nDigits_big h10];have:=ih (u / 10) (by rw [Nat.pow_succ] at hu;omega);omega
  have:=this k u h;omega
 ·exact hk
theorem itoa_nat (u:Nat):Lib.itoa (u:Int)=Lib.decDigits u:=by unfold Lib.itoa;rw [if_neg (by omega)];simp
theorem itoa_short {u:Nat} (h:u≤1000000000000):(Lib.itoa (u:Int)).length≤13:=by
 rw [itoa_nat,Lib.decDigits_length];exact nDigits_le (k:=12) (by omega)
theorem itoa_digit {u:Nat}:∀ c∈Lib.itoa (u:Int),48≤c.toNat∧c.toNat≤57:=by rw [itoa_nat];exact dd_digit u
theorem atoi_itoa {u:Nat} (h:u≤1000000000000):Lib.atoiAll (Lib.itoa (u:Int))=.ok (u:Int):=by
 rw [Lib.atoiAll_short _ (by have:=itoa_short h;omega),itoa_nat]
 have hd:=dd_digit u
 have hf:=decFrom_dec u
 cases hl:Lib.decDigits u with
 | nil=>exact absurd hl (dd_ne u)
 | cons c r =>
  rw [hl] at hd hf
  have hc:=hd c (List.mem_cons_self ..)
  have h1:¬ c=45:=fun e=>by subst e;simp at hc
  have h2:¬ c=43:=fun e=>by subst e;simp at hc
  have e:Lib.decNat (c :: r)=some u:=by simp [Lib.decNat,hf]
  simp [Lib.atoi,h1,h2,e,Lib.NumEnd.ofOption]
theorem num_itoa {u lo hi:Nat} (h:u≤1000000000000) (h1:lo≤u) (h2:u≤hi):numP (Lib.itoa (u:Int)) lo hi=some u:=by
 unfold numP;rw [atoi_itoa h]
 simp only
 rw [if_neg (by rintro (e | e | e); · omega
                · omega
                · exact e rfl)]
 simp
theorem plain_hex {n:Nat} (h:n < 16) (p:Bool):plainB ((hexD n).toNat:Int) p=true:=by
 have:∀ n:Fin 16,∀ p:Bool,plainB ((hexD n.1).toNat:Int) p=true:=by decide
 exact this ⟨n,h⟩ p
theorem enc_byte {p:Bool} {l:Tx} {c:UInt8} (h:c∈enc p l):plainB (c.toNat:Int) p=true∨c=37:=by
 induction l with
 | nil=>simp [enc_nil] at h
 | cons x l ih =>
  rw [enc_cons] at h
  rcases List.mem_append.1 h with h|h
  ·unfold enc1 at h
   have hb:=x.toNat_lt
   split at h
   ·rename_i hp;rw [List.mem_singleton] at h;subst h;exact .inl hp
   ·simp only [List.mem_cons,List.not_mem_nil,or_false] at h
    rcases h with rfl|rfl|rfl
    ·exact .inr rfl
    ·exact .inl (plain_hex (by omega) p)
    ·exact .inl (plain_hex (by omega) p)
  ·exact ih h
theorem enc_free {p:Bool} (l:Tx) {c:UInt8} (h:plainB (c.toNat:Int) true=false) (h37:c≠37):c ∉ enc p l:=fun hc=>by
 rcases enc_byte hc with e|e
 ·cases p
  ·have:plainB (c.toNat:Int) true=true:=by
    unfold plainB at e ⊢;rw [Bool.or_eq_true] at *;rcases e with e|e
    ·exact .inl e
    ·simp at e
   rw [this] at h;cases h
  ·rw [e] at h;cases h
 ·exact h37 e
theorem enc_self {p:Bool} {l:Tx} (h:∀ c∈l,plainB (c.toNat:Int) p=true):enc p l=l:=by
 induction l with
 | nil=>rfl
 | cons c l ih=>rw [enc_cons,ih (fun x hx=>h x (List.mem_cons_of_mem _ hx))];unfold enc1;rw [if_pos (h c (List.mem_cons_self ..))];rfl
theorem enc_app (p:Bool) (a b:Tx):enc p (a++b)=enc p a++enc p b:=by simp [enc]
theorem dec_self {p:Bool} {l:Tx} (h:∀ c∈l,plainB (c.toNat:Int) p=true):dec p l=some l:=by
 have:=dec_enc p l;rwa [enc_self h] at this
theorem plain_digit {c:UInt8} (p:Bool) (h:48≤c.toNat∧c.toNat≤57):plainB (c.toNat:Int) p=true:=by
 unfold plainB
 have:decide (48≤(c.toNat:Int)∧(c.toNat:Int)≤57)=true:=by simp;omega
 rw [this];simp
theorem lowF_ok {n:Nat} (h:n < 16):R.showB (lowF n)=true∧lowF n≠32∧plainB ((lowF n).toNat:Int) false=true:=by
 have:∀ n:Fin 16,R.showB (lowF n.1)=true∧lowF n.1≠32∧plainB ((lowF n.1).toNat:Int) false=true:=by decide
 exact this ⟨n,h⟩
theorem hexL_ok {l:Tx} {c:UInt8} (h:c∈hexL lowF l):R.showB c=true∧c≠32∧plainB (c.toNat:Int) false=true:=by
 induction l with
 | nil=>simp [hexL] at h
 | cons x l ih =>
  have hb:=x.toNat_lt
  simp only [hexL,List.flatMap_cons,List.mem_append,List.mem_cons,List.not_mem_nil,or_false] at h
  rcases h with (rfl|rfl)|h
  ·exact lowF_ok (by omega)
  ·exact lowF_ok (by omega)
  ·exact ih h
abbrev tHost:Tx:=[104,111,115,116]
abbrev tHere:Tx:=[104,101,114,101]
abbrev tLength:Tx:=[108,101,110,103,116,104]
abbrev tNames:Tx:=[104,111,115,116,59,108,101,110,103,116,104]
def lenT (y:Tx):Tx:=Lib.itoa (y.length:Int)
def saidT (m t more y:Tx):Tx:=m++[32]++t++[10,104,111,115,116,58,32,104,101,114,101,10,108,101,110,103,116,104,58,32]++lenT y++[10]++more++[10]++y
def baseH (y:Tx):Hs:=[(tHost,tHere),(tLength,lenT y)]
theorem name_free {n:Tx} (h:R.hname n=true) {c:UInt8} (hc:R.nameB c=false):c ∉ n:=fun e=>by
 unfold R.hname at h
 rw [Bool.and_eq_true] at h
 have:=List.all_eq_true.1 h.1 c e
 rw [this] at hc;cases hc
theorem show_free {v:Tx} (h:v.all R.showB=true):(10:UInt8) ∉ v:=fun e=>by
 have:=List.all_eq_true.1 h 10 e
 exact absurd this (by decide)
theorem head_step {k:Nat} {l:Hs} {n v:Tx} (rest:Tx) (hn:R.hname n=true) (hv:v.all R.showB=true) (hl:R.findP l n=none) :
  R.headersFrom (k+1) l (n++58 :: 32 :: v++10 :: rest)=R.headersFrom k (l++[(n,v)]) rest:=by
 have h10:(10:UInt8) ∉ n++58 :: 32 :: v:=by
  intro e
  rcases List.mem_append.1 e with e|e
  ·exact name_free hn (by decide) e
  ·simp only [List.mem_cons] at e
   rcases e with e|e|e
   ·exact absurd e (by decide)
   ·exact absurd e (by decide)
   ·exact show_free hv e
 have hne:¬ n++58 :: 32 :: v=[]:=by simp
 have hh:R.headerOf (n++58 :: 32 :: v)=some (n,v):=by
  unfold R.headerOf
  rw [cut2_hit v (name_free hn (by decide))]
  simp only
  rw [if_pos ⟨trivial,hn,hv⟩]
 have ha:R.addP l (n,v)=some (l++[(n,v)]):=by unfold R.addP;rw [if_pos hl]
 rw [R.headersFrom,cutc_hit rest h10]
 simp only [Bool.true_eq_false,if_false,hne,hh,ha]
theorem head_end {k:Nat} {l:Hs} (y:Tx):R.headersFrom k l (10 :: y)=some (l,y):=by
 have:=cutc_hit (c:=10) y (a:=[]) (by simp)
 rw [List.nil_append] at this
 cases k <;> (rw [R.headersFrom,this];simp)
theorem len_show (y:Tx):(lenT y).all R.showB=true:=by
 rw [List.all_eq_true];intro c hc
 have:=itoa_digit c hc
 unfold R.showB;simp;omega
theorem find_base (y:Tx) (hs:Hs):R.findP (baseH y++hs) tLength=some (lenT y):=by simp [baseH,R.findP]
theorem said_top (m t more y:Tx):saidT m t more y=(m++32 :: t)++10 :: (tHost++58 :: 32 :: tHere++10 :: (tLength++58 :: 32 :: lenT y++10 :: (more++10 :: y))):=by
 simp [saidT]
theorem req_said {m t y:Tx} {f:R.First} (hf:R.firstOf (m++32 :: t)=some f) (h10:(10:UInt8) ∉ m++32 :: t) :
  R.reqOf (saidT m t [] y)=some { toFirst:=f,headers:=baseH y,body:=y }:=by
 unfold R.reqOf
 rw [said_top,cutc_hit _ h10]
 simp only [if_true,hf,List.nil_append]
 rw [head_step _ (by decide) (by decide) rfl,head_step _ (by decide) (len_show y) (by simp [R.findP]),head_end]
 simp only [List.nil_append]
 rw [if_pos]
 ·rfl
 ·unfold R.lenOk;have:=find_base y [];rw [List.append_nil] at this;rw [show ([(tHost,tHere)]++[(tLength,lenT y)]:Hs)=baseH y from rfl,this];simp [lenT]
theorem req_auth {m t y v:Tx} {f:R.First} (hf:R.firstOf (m++32 :: t)=some f) (h10:(10:UInt8) ∉ m++32 :: t) (hv:v.all R.showB=true) :
  R.reqOf (saidT m t ([97,117,116,104,58,32]++v++[10]) y)=some { toFirst:=f,headers:=baseH y++[(tAuth,v)],body:=y }:=by
 unfold R.reqOf
 rw [said_top,cutc_hit _ h10]
 simp only [if_true,hf]
 rw [head_step _ (by decide) (by decide) rfl,head_step _ (by decide) (len_show y) (by simp [R.findP])]
 rw [show (([97,117,116,104,58,32]:Tx)++v++[10]++10 :: y)=tAuth++58 :: 32 :: v++10 :: (10 :: y) by simp [tAuth]]
 rw [head_step _ (by decide) hv (by simp [R.findP]),head_end]
 simp only [List.nil_append]
 rw [if_pos]
 ·simp [baseH]
 ·unfold R.lenOk;rw [show ([(tHost,tHere)]++[(tLength,lenT y)]++[(tAuth,v)]:Hs)=baseH y++[(tAuth,v)] from rfl,find_base];simp [lenT]
theorem parse_ok {s:Tx} {r:R.Req} (h:R.reqOf s=some r) (hl:s.length≤2000) (hb:r.body.length≤300):R.parseOf s=(0,r):=by
 unfold R.parseOf;rw [if_neg (by omega),h];simp only;rw [if_neg (by omega)]
theorem said_len (m t more y:Tx) (hy:y.length≤300):(saidT m t more y).length≤m.length+t.length+more.length+y.length+50:=by
 have:(lenT y).length≤13:=itoa_short (by omega)
 simp [saidT];omega
theorem method_free {m:Tx} (h:R.isMethod m=true):(32:UInt8) ∉ m∧(10:UInt8) ∉ m:=by
 unfold R.isMethod at h
 simp only [Bool.or_eq_true,beq_iff_eq] at h
 rcases h with (rfl|rfl)|rfl <;> decide
theorem first_plain {m p:Tx} (hm:R.isMethod m=true):R.firstOf (m++32 :: enc true (47 :: p))=some { method:=m,path:=47 :: p }:=by
 unfold R.firstOf
 rw [cutc_hit _ (method_free hm).1]
 simp only
 rw [cutc_miss (enc_free _ (by decide) (by decide)),dec_enc]
 simp only
 rw [if_pos ⟨trivial,hm,by rw [enc_cons];simp [enc1,plainB,List.isPrefixOf]⟩]
 simp
theorem first_query {m p qt:Tx} {q:Hs} (hm:R.isMethod m=true) (hq:R.queryOf qt=some q):R.firstOf (m++32 :: (enc true (47 :: p)++63 :: qt))=some { method:=m,path:=47 :: p,query:=q }:=by
 unfold R.firstOf
 rw [cutc_hit _ (method_free hm).1]
 simp only
 rw [cutc_hit _ (enc_free _ (by decide) (by decide)),dec_enc]
 simp only
 rw [if_pos ⟨trivial,hm,by rw [enc_cons];simp [enc1,plainB,List.isPrefixOf]⟩,hq]
 simp
theorem first_free {m p:Tx} (hm:R.isMethod m=true):(10:UInt8) ∉ m++32 :: enc true p:=by
 intro e
 rcases List.mem_append.1 e with e|e
 ·exact (method_free hm).2 e
 ·rcases List.mem_cons.1 e with e|e
  ·exact absurd e (by decide)
  ·exact enc_free p (by decide) (by decide) e
theorem names_eq:R.namesOf tNames=[tHost,tLength]:=by decide
theorem pick_base (y:Tx) (hs:Hs):R.pickFrom (baseH y++hs) [] [tHost,tLength]=some (baseH y):=by
 simp only [R.pickFrom,baseH,R.findP,List.cons_append,List.nil_append]
 simp only [if_true,show (tHost=tLength)=False by decide,if_false]
 rw [if_neg (by decide),if_neg (by decide)]
 rfl
theorem misses_base (y:Tx):R.misses (baseH y) (baseH y)=false:=by
 simp [R.misses,baseH,R.findP]
theorem misses_auth (y v:Tx):R.misses (baseH y++[(tAuth,v)]) (baseH y)=false:=by
 unfold R.misses
 rw [List.any_append]
 have:=misses_base y
 unfold R.misses at this
 rw [this]
 simp [R.must,List.isPrefixOf]
def formT (m p:Tx) (q:Hs) (y:Tx):Tx:=R.canonText m p (R.canonQ q) (baseH y) tNames (R.hashT y)
theorem canon_base (m p:Tx) (q:Hs) (y:Tx):R.canonOf m p q (baseH y) y tNames=some (formT m p q y):=by
 unfold R.canonOf
 have:=pick_base y []
 rw [List.append_nil] at this
 rw [names_eq,this]
 simp only
 rw [misses_base]
 rfl
theorem canon_auth (m p:Tx) (q:Hs) (y v:Tx):R.canonOf m p q (baseH y++[(tAuth,v)]) y tNames=some (formT m p q y):=by
 unfold R.canonOf
 rw [names_eq,pick_base]
 simp only
 rw [misses_auth]
 rfl
def authT (user:Tx) (t:Nat) (mark:Tx):Tx:=[76,49,32]++user++[32]++Lib.itoa (t:Int)++[32]++tNames++[32]++mark
theorem itoa_free {t:Nat}:(32:UInt8) ∉ Lib.itoa (t:Int):=fun e=>by have:=itoa_digit _ e;simp at this
theorem head_auth {user mark:Tx} {t:Nat} (hu:(32:UInt8) ∉ user) (hm:(32:UInt8) ∉ mark) (ht:t≤1000000000000):headP (authT user t mark)=some ⟨user,tNames,mark,t,t+900⟩:=by
 unfold headP
 rw [show authT user t mark=[76,49]++32 :: (user++32 :: (Lib.itoa (t:Int)++32 :: (tNames++32 :: mark))) by simp [authT]]
 rw [splitc_hit _ (by decide),splitc_hit _ hu,splitc_hit _ itoa_free,splitc_hit _ (by decide),splitc_miss hm]
 simp only [if_true]
 rw [num_itoa ht (Nat.zero_le _) ht]
 rfl
theorem auth_show {user mark:Tx} {t:Nat} (hu:user.all R.showB=true) (hm:mark.all R.showB=true):(authT user t mark).all R.showB=true:=by
 simp only [authT,List.all_append,hu,hm,Bool.and_true]
 have:(Lib.itoa (t:Int)).all R.showB=true:=by
  rw [List.all_eq_true];intro c hc;have:=itoa_digit c hc;unfold R.showB;simp;omega
 rw [this];decide
theorem find_auth (y v:Tx):R.findP (baseH y++[(tAuth,v)]) tAuth=some v:=by simp [baseH,R.findP]
def markT (secret:Tx) (t:Nat) (form:Tx):Tx:=R.sigT secret t form
theorem mark_ok {secret:Tx} {t:Nat} {form:Tx}:(markT secret t form).all R.showB=true∧(32:UInt8) ∉ markT secret t form∧(∀ c∈markT secret t form,plainB (c.toNat:Int) false=true)∧(markT secret t form).length=64:=by
 refine ⟨?_,?_,?_,?_⟩
 ·rw [List.all_eq_true];intro c hc;exact (hexL_ok hc).1
 ·intro e;exact (hexL_ok e).2.1 rfl
 ·intro c hc;exact (hexL_ok hc).2.2
 ·unfold markT R.sigT;rw [hexL_len,tagL_len]
theorem sign_ok {secret:Tx} {t:Nat} {form:Tx} (h1:secret≠[]) (h2:secret.length≤40) (ht:t≤1000000000000):R.signOf secret (t:Int) form=(markT secret t form,0):=by
 unfold R.signOf
 rw [if_neg (by omega), if_neg (by rintro (e | e)
                                   · exact h1 e
                                   · omega)]
 simp [markT]
theorem signer_head {m p y user secret:Tx} {q:Hs} {us:Us} {clock t:Nat} (hq:xIn q=[]) (hu:(32:UInt8) ∉ user) (h1:secret≠[]) (h2:secret.length≤40) (ht:t≤1000000000000)
  (hus:us.find? (fun u=>u.1 == user)=some (user,secret)) (hone:∀ u∈us,u.1=user→u.2=secret) :
  signerP m p q (baseH y++[(tAuth,authT user t (markT secret t (formT m p q y)))]) y us clock=if clock+900 < t∨t+900 < clock then none else some user:=by
 unfold signerP claimP
 rw [find_auth]
 simp only
 rw [hq,if_pos List.length_nil,head_auth hu mark_ok.2.1 ht]
 simp only
 by_cases hc:clock+900 < t∨t+900 < clock
 ·rw [if_pos hc,if_pos hc]
 ·rw [if_neg hc,if_neg hc,canon_auth]
  simp only
  have hs:sigOk ⟨user,tNames,markT secret t (formT m p q y),t,t+900⟩ secret (formT m p q y)=true:=by
   unfold sigOk;rw [sign_ok h1 h2 ht];simp
  have:∀ us:Us,us.find? (fun u=>u.1 == user)=some (user,secret)→(∀ u∈us,u.1=user→u.2=secret)→us.find? (fun u=>u.1 == user && sigOk ⟨user,tNames,markT secret t (formT m p q y),t,t+900⟩ u.2 (formT m p q y))=some (user,secret):=by
   intro us
   induction us with
   | nil=>intro h;cases h
   | cons u us ih =>
    intro h1 h2
    by_cases e:u.1=user
    ·have e2:=h2 u (List.mem_cons_self ..) e
     have eu:u=(user,secret):=by rw [← e,← e2]
     rw [List.find?_cons_of_pos (by rw [e2,hs];simp [e]),eu]
    ·rw [List.find?_cons_of_neg (by simp [e])] at h1
     rw [List.find?_cons_of_neg (by simp [e])]
     exact ih h1 (fun u hu=>h2 u (List.mem_cons_of_mem _ hu))
  rw [this us hus hone]
  rfl
end Go.Proofs.YtbllcgibmgbnjaaGreatDoor.P
