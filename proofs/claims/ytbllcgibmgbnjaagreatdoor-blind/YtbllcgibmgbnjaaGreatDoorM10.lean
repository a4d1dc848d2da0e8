import Derived.Test.YtbllcgibmgbnjaaGreatDoorM09
import Derived.BigRegion
import Derived.Test.YtbllcgibmgbnjaaGreatDoorM02
import Derived.Test.YtbllcgibmgbnjaaGreatDoorM04
import Derived.BigQuiet
import Derived.Test.YtbllcgibmgbnjaaGreatDoorM08
set_option maxHeartbeats 4000000
set_option maxRecDepth 20000
namespace Go.Proofs.YtbllcgibmgbnjaaGreatDoor.P
open Go.RowKit
theorem rcatch_panicking (a b : Nat) (v : Value) (x : Int) (u : TypeId) (pv : Value) (older : List PanicEntry) (w : World) (hc : w.cell? ⟨a, 0, none⟩ = some v) (hz : w.frozen? ⟨a, 0, none⟩ = false)
   (hc2 : w.cell? ⟨b, 0, none⟩ = some (.int .i64 x)) (hz2 : w.frozen? ⟨b, 0, none⟩ = false) (_hab : ¬ b = a) :
    CallsD Tryz.prog 310 #[.pointer (some ⟨a,0,none⟩),.pointer (some ⟨b,0,none⟩)] (.panicking ({ v:=.iface u pv,recovered:=false } :: older)) w fun e u' w' =>
      e=.returned (.tuple #[])∧u'=.panicking ({ v:=.iface u pv,recovered:=true } :: older)∧w'=(w.setCell ⟨a,0,none⟩ (.slice none 0 0)).setCell ⟨b,0,none⟩ (.int .i64 3):=by
  refine callsD_of_wpS Tryz.func310 rfl fun c₀ cs hu=>?_
  apply wpS_seq
  apply wpS_region
  simp [wpOpsS,go_sem,recoverD,hu,Tryz.ntmps310,Exit.thenS]
  refine wpS_cond (t:=true) (by simp [Act.eval,Array.replicate]) ?_
  simp only [if_true]
  apply wpS_region
  have hc3:(w.setCell ⟨a,0,none⟩ (.slice none 0 0)).cell? ⟨b,0,none⟩=some (.int .i64 x):=by rw [World.cell?_setCell_other _ _ _ _ (by simp)];exact hc2
  simp [wpOpsS,go_sem,hc,hz,hz2,hc3,bodyPostS,results,Tryz.results310]
theorem rcatch_idle (a b:Nat) (w:World) :
  CallsD Tryz.prog 310 #[.pointer (some ⟨a,0,none⟩),.pointer (some ⟨b,0,none⟩)] .returning w fun e u' w'=>e=.returned (.tuple #[])∧u'=.returning∧w'=w:=by
 refine callsD_of_wpS Tryz.func310 rfl fun c₀ cs hu=>?_
 apply wpS_seq
 apply wpS_region
 simp [wpOpsS,go_sem,recoverD,hu,Tryz.ntmps310,Exit.thenS]
 refine wpS_cond (t:=false) (by simp [Act.eval,Array.replicate]) ?_
 simp only [Bool.false_eq_true,if_false]
 refine wpS_of_wp (wp_skip ?_)
 cases c₀
 simp_all [bodyPostS,results,Tryz.results310]
theorem policyIn_nil (w:World) (P:Nat→Prop):policyIn w P (.slice none 0 0) []:=⟨[],World.ownsRow_nil _ _ _ _,fun g e=>(by cases e),trivial⟩
def rdPost2 (w:World) (o:Int×List RuleP) (e:Ending) (w':World):Prop :=
 Below w.heap.size w w'∧∃ sl,e=.returned (.tuple #[.agg #[sl],.int .i64 o.1])∧policyIn w' (fun g=>w.heap.size≤g∧g < w'.heap.size) sl o.2
abbrev rstarted (w:World):World :=
 (w.alloc (.cells #[.slice none 0 0] 160)).alloc (.cells #[.int .i64 0] 25)
theorem rstart_cells (w:World):(rstarted w).cell? ⟨w.heap.size,0,none⟩=some (.slice none 0 0)∧(rstarted w).cell? ⟨w.heap.size+1,0,none⟩=some (.int .i64 0) ∧
  (rstarted w).frozen? ⟨w.heap.size,0,none⟩=false∧(rstarted w).frozen? ⟨w.heap.size+1,0,none⟩=false∧(rstarted w).heap.size=w.heap.size+1+1:=by
 refine ⟨?_,?_,?_,?_,?_⟩ <;> simp [go_sem]
theorem rstarted_below (w:World):Below w.heap.size w (rstarted w) :=
 ((Below.refl _ _).alloc (Nat.le_refl _) _).alloc (by simp) _
theorem rread_new (s:List UInt8) (w:World) (hs:s.length≤9223372036854775807) :
  Calls Tryz.prog 309 #[str s] w (rdPost2 w (rulesOf s)):=by
 have hmf:∀ (fn:Fn) (first cap:Array Value) (w:World),(Instr.makeFunc fn first cap).run Tryz.prog w=.ok (.func fn first cap) w:=fun _ _ _ _=>rfl
 obtain ⟨c1,c2,f1,f2,z⟩:=rstart_cells w
 have SB:=rstarted_below w
 by_cases hlong:300 < s.length
 ·have HO:Hid (rulesOf s=(1,[])):=by show _=_;unfold rulesOf;rw [if_pos hlong]
  have t1:decide (300 < (s.length:Int))=true:=by simp;omega
  clear hlong
  go_enter_defers Tryz.func309,Tryz.ntmps309
  go_wp2
  refine leaves_cons (f:=310) (args:=#[.pointer (some ⟨w.heap.size,0,none⟩),.pointer (some ⟨w.heap.size+1,0,none⟩)]) (by simp) (by simp [go_sem]) ?_
  refine (rcatch_idle w.heap.size (w.heap.size+1) _).mono ?_
  rintro e u' w'' ⟨rfl,rfl,rfl⟩
  rw [HO.out]
  simp [Leaves,settle,results,Tryz.results309,go_sem]
  exact ⟨((Below.refl _ _).alloc (Nat.le_refl _) _).alloc (by simp) _,_,rfl,policyIn_nil _ _⟩
 ·have t1:decide (300 < (s.length:Int))=false:=by simp;omega
  have R:Hid (_):=read_any s
  have hs3:s.length≤4000:=by omega
  cases hj:readJ s with
  | none =>
   have HO:Hid (rulesOf s=(2,[])):=by show _=_;unfold rulesOf;rw [if_neg hlong,hj]
   clear hlong
   go_enter_defers Tryz.func309,Tryz.ntmps309
   go_wp2_with fail
   refine (R.out _ hs3).mono ?_
   rw [hj]
   rintro e w1 ⟨b1,rfl⟩
   have d1:=(b1.cell (p:=⟨w.heap.size,0,none⟩) (show w.heap.size < _ by rw [z];omega)).trans c1
   have d2:=(b1.cell (p:=⟨w.heap.size+1,0,none⟩) (show w.heap.size+1 < _ by rw [z];omega)).trans c2
   have g1:=(b1.frozen (p:=⟨w.heap.size,0,none⟩) (show w.heap.size < _ by rw [z];omega)).trans f1
   have g2:=(b1.frozen (p:=⟨w.heap.size+1,0,none⟩) (show w.heap.size+1 < _ by rw [z];omega)).trans f2
   have K1:Below w.heap.size w w1:=below_trans SB b1
   clear c1 c2 f1 f2 z SB b1 R
   go_wp2_with fail
   go_region
   all_goals go_wp2
   refine leaves_cons (f:=310) (args:=#[.pointer (some ⟨w.heap.size,0,none⟩),.pointer (some ⟨w.heap.size+1,0,none⟩)]) (by simp) (by simp [go_sem]) ?_
   refine (rcatch_idle w.heap.size (w.heap.size+1) _).mono ?_
   rintro e u' w'' ⟨rfl,rfl,rfl⟩
   rw [HO.out]
   simp [Leaves,settle,results,Tryz.results309,go_sem,d1,d2]
   exact ⟨(((K1.setCell (p:=⟨w.heap.size+1,0,none⟩) (Nat.le_succ _) _).setCell (p:=⟨w.heap.size,0,none⟩) (Nat.le_refl _) _).setCell (p:=⟨w.heap.size+1,0,none⟩) (Nat.le_succ _) _).drew,_,rfl,policyIn_nil _ _⟩
  | some j =>
   have PY:Hid (_):=readPolicy_any 7
   have HO:Hid (rulesOf s=match policyJ j with|none=>(3,[])|some l=>(0,l)):=by show _=_;unfold rulesOf;rw [if_neg hlong,hj];rfl
   clear hlong
   go_enter_defers Tryz.func309,Tryz.ntmps309
   go_wp2_with fail
   refine (R.out _ hs3).mono ?_
   rw [hj]
   rintro e w1 ⟨b1,v,rfl,rj⟩
   obtain ⟨vt,vx,rfl⟩:=repJ.iface 7 rj
   have z1:=b1.size
   have rj1:repJ 7 (w1.setCell ⟨w.heap.size+1,0,none⟩ (.int .i64 0)) (inW (w1.setCell ⟨w.heap.size+1,0,none⟩ (.int .i64 0))) (.iface vt vx) j:=by
    refine repJ.mono 7 (repJ.kept 7 (repJ.inb 7 rj) (Kept.of_grown1 (grown_set _ _ _ _)) (fun g hg e=>?_)) (fun g hg=>?_)
    ·rw [z] at hg;omega
    ·show g < _
     simp;exact hg.2
   have d1:=(b1.cell (p:=⟨w.heap.size,0,none⟩) (show w.heap.size < _ by rw [z];omega)).trans c1
   have d2:=(b1.cell (p:=⟨w.heap.size+1,0,none⟩) (show w.heap.size+1 < _ by rw [z];omega)).trans c2
   have g1:=(b1.frozen (p:=⟨w.heap.size,0,none⟩) (show w.heap.size < _ by rw [z];omega)).trans f1
   have g2:=(b1.frozen (p:=⟨w.heap.size+1,0,none⟩) (show w.heap.size+1 < _ by rw [z];omega)).trans f2
   have K1:Below w.heap.size w w1:=below_trans SB b1
   rw [z] at z1
   have K2:=K1.setCell (p:=⟨w.heap.size+1,0,none⟩) (Nat.le_succ _) (.int .i64 0)
   have x1:(w1.setCell ⟨w.heap.size+1,0,none⟩ (.int .i64 0)).cell? ⟨w.heap.size,0,none⟩=some (.slice none 0 0):=by simp [go_sem,d1]
   have x2:(w1.setCell ⟨w.heap.size+1,0,none⟩ (.int .i64 0)).cell? ⟨w.heap.size+1,0,none⟩=some (.int .i64 0):=by simp [go_sem,d2]
   have y1:(w1.setCell ⟨w.heap.size+1,0,none⟩ (.int .i64 0)).frozen? ⟨w.heap.size,0,none⟩=false:=by simp [go_sem,g1]
   have y2:(w1.setCell ⟨w.heap.size+1,0,none⟩ (.int .i64 0)).frozen? ⟨w.heap.size+1,0,none⟩=false:=by simp [go_sem,g2]
   have z2:w.heap.size+1+1≤(w1.setCell ⟨w.heap.size+1,0,none⟩ (.int .i64 0)).heap.size:=by simpa using z1
   clear c1 c2 f1 f2 z SB b1 R rj K1
   go_wp2_with fail
   clear d1 d2 g1 g2 z1
   generalize (w1.setCell ⟨w.heap.size+1,0,none⟩ (.int .i64 0))=W at *
   refine (PY.out (.iface vt vx) j W rj1).mono ?_
   clear PY rj1
   cases hp:policyJ j with
   | none =>
    rintro e w2 ⟨b2,rfl⟩
    rw [hp] at HO
    have d1:=(b2.cell (p:=⟨w.heap.size,0,none⟩) (show w.heap.size < _ by omega)).trans x1
    have d2:=(b2.cell (p:=⟨w.heap.size+1,0,none⟩) (show w.heap.size+1 < _ by omega)).trans x2
    have g1:=(b2.frozen (p:=⟨w.heap.size,0,none⟩) (show w.heap.size < _ by omega)).trans y1
    have g2:=(b2.frozen (p:=⟨w.heap.size+1,0,none⟩) (show w.heap.size+1 < _ by omega)).trans y2
    have K3:=below_trans K2 b2
    clear x1 x2 y1 y2 z2 b2 K2
    go_wp2
    refine leaves_cons (f:=310) (args:=#[.pointer (some ⟨w.heap.size,0,none⟩),.pointer (some ⟨w.heap.size+1,0,none⟩)]) (by simp) (by simp [go_sem]) ?_
    refine (rcatch_panicking w.heap.size (w.heap.size+1) (.slice none 0 0) 0 406 _ [] _ d1 g1 d2 g2 (by omega)).mono ?_
    rintro e u' w'' ⟨rfl,rfl,rfl⟩
    rw [HO.out]
    simp [Leaves,settle,results,Tryz.results309,go_sem,d1,d2]
    exact ⟨(K3.setCell (p:=⟨w.heap.size,0,none⟩) (Nat.le_refl _) _).setCell (p:=⟨w.heap.size+1,0,none⟩) (Nat.le_succ _) _,_,rfl,policyIn_nil _ _⟩
   | some rs =>
    rintro e w2 ⟨b2,sl,rfl,hpol⟩
    rw [hp] at HO
    have z3:=b2.size
    have d1:=(b2.cell (p:=⟨w.heap.size,0,none⟩) (show w.heap.size < _ by omega)).trans x1
    have d2:=(b2.cell (p:=⟨w.heap.size+1,0,none⟩) (show w.heap.size+1 < _ by omega)).trans x2
    have g1:=(b2.frozen (p:=⟨w.heap.size,0,none⟩) (show w.heap.size < _ by omega)).trans y1
    have g2:=(b2.frozen (p:=⟨w.heap.size+1,0,none⟩) (show w.heap.size+1 < _ by omega)).trans y2
    have K3:=below_trans K2 b2
    have hpol2:policyIn ((w2.setCell ⟨w.heap.size,0,none⟩ sl).setCell ⟨w.heap.size+1,0,none⟩ (.int .i64 0)) (fun g=>w.heap.size≤g∧g < ((w2.setCell ⟨w.heap.size,0,none⟩ sl).setCell ⟨w.heap.size+1,0,none⟩ (.int .i64 0)).heap.size) sl rs:=by
     refine ((hpol.inb.kept (Kept.of_grown1 (grown_set _ _ _ _)) (fun g hg e=>by omega)).kept (Kept.of_grown1 (grown_set _ _ _ _)) (fun g hg e=>by omega)).mono (fun g hg=>?_)
     refine ⟨by omega,?_⟩
     simp;exact hg.2
    obtain ⟨av,nv,rfl⟩:∃ a c,sl=.slice a rs.length c:=by
     obtain ⟨us,h1,_⟩:=hpol
     obtain ⟨a,c,e,_⟩:=row_view h1
     exact ⟨a,c,e⟩
    clear x1 x2 y1 y2 z2 b2 K2 hpol
    go_wp2
    refine leaves_cons (f:=310) (args:=#[.pointer (some ⟨w.heap.size,0,none⟩),.pointer (some ⟨w.heap.size+1,0,none⟩)]) (by simp) (by simp [go_sem]) ?_
    refine (rcatch_idle w.heap.size (w.heap.size+1) _).mono ?_
    rintro e u' w'' ⟨rfl,rfl,rfl⟩
    rw [HO.out]
    simp [Leaves,settle,results,Tryz.results309,go_sem,d1,d2]
    exact ⟨(K3.setCell (p:=⟨w.heap.size,0,none⟩) (Nat.le_refl _) _).setCell (p:=⟨w.heap.size+1,0,none⟩) (Nat.le_succ _) _,_,rfl,by simpa using hpol2⟩
open C (ret_bool ret_int ret_str)
theorem stars_false {l:List UInt8} {k:Nat} (h:k < l.length) (hf:¬ l[k].toNat=42):l.all (· == 42)=false:=by
 rw [List.all_eq_false]
 refine ⟨l[k],List.getElem_mem h,?_⟩
 intro e
 rw [beq_iff_eq] at e
 rw [e] at hf;exact hf rfl
theorem stars_succ {l:List UInt8} {k:Nat} (h:k < l.length) (hf:l[k].toNat=42) (h1:(l.take k).all (· == 42)=true):(l.take (k+1)).all (· == 42)=true:=by
 have e:l.take (k+1)=l.take k++[l[k]]:=by rw [List.take_add_one,List.getElem?_eq_getElem h];rfl
 have e2:l[k]=42:=UInt8.toNat_inj.1 hf
 rw [e,List.all_append,h1,e2];rfl
theorem stars_any (l:List UInt8) (w:World) (hl:l.length≤140737488355328) :
  Calls Tryz.prog 217 #[str l] w fun e w'=>e=.returned (.bool (l.all (· == 42)))∧w=w':=by
 go_enter Tryz.func217,Tryz.ntmps217
 go_wp2
 go_loop [6] (fun i=>∃ k:Nat,k≤l.length∧i=.int .i64 k∧(l.take k).all (· == 42)=true) (fun i=>l.length - (intOf i).toNat)
 case atStart=>exact ⟨0,Nat.zero_le _,rfl,by simp⟩
 case round =>
  obtain ⟨k,hk,rfl,hno⟩:=hrel
  have HN:Hid ((l.take k).all (· == 42)=true):=hno
  clear hno
  by_cases hlt:k < l.length
  ·have hs:k < (⟨l.toArray⟩:ByteArray).size:=hlt
   have hy:(⟨l.toArray⟩:ByteArray)[k]'hs=l[k]:=rfl
   have hxl:=l[k].toNat_lt
   by_cases h42:l[k].toNat=42
   ·have HY:Hid ((l.take (k+1)).all (· == 42)=true):=stars_succ hlt h42 HN.out
    have p1:((((⟨l.toArray⟩:ByteArray)[k]'hs).toNat:Int) == 42)=true:=by rw [hy];simp;omega
    clear HN h42 hy
    go_wp2
    go_round
    case rel=>exact ⟨k+1,by omega,by go_num,HY.out⟩
    case measure=>simp [intOf];omega
   ·have HY:Hid (l.all (· == 42)=false):=stars_false hlt h42
    have p1:((((⟨l.toArray⟩:ByteArray)[k]'hs).toNat:Int) == 42)=false:=by rw [hy];simp;omega
    clear HN h42 hy
    go_wp2
    go_ret
    exact ⟨ret_bool HY.out.symm,rfl⟩
  ·have HT:Hid (l.all (· == 42)=true):=by
    show _=_
    have:=HN.out
    rwa [List.take_of_length_le (by omega)] at this
   clear HN
   go_wp2
   go_ret
   exact ⟨ret_bool HT.out.symm,rfl⟩
theorem below_drewN {B:Nat} {a w:World} (h:Below B a w) (q:Nat):Below B a (w.drewN q):=⟨h.os,h.tape,h.output,h.size,h.block⟩
def bsV:Option Nat→Int
 | none=>-1
 | some x=>x
theorem fits_any (p k:List UInt8) (w:World) (hp:p.length≤4000) (hk:k.length≤140737488355328) :
  Calls Tryz.prog 179 #[str p,str k] w fun e w'=>e=.returned (.bool (like p k))∧Below w.heap.size w w':=by
 go_enter Tryz.func179,Tryz.ntmps179
 go_wp2
 go_loopw [5,6,7,8] (fun vi vn vb vt wr=>∃ (i n t:Nat) (b:Option Nat),vi=.int .i64 i∧vn=.int .i64 n∧vb=.int .i64 (bsV b)∧vt=.int .i64 t∧Srch p k i n b t∧Below w.heap.size w wr)
  (fun vi _ _ vt _=>(k.length+1 - (intOf vt).toNat)*(p.length+2)+(p.length - (intOf vi).toNat))
 case atStart=>exact ⟨0,0,0,none,rfl,rfl,rfl,rfl,Srch.start p k,Below.refl _ _⟩
 case round =>
  obtain ⟨i,n,t,b,rfl,rfl,rfl,rfl,S,hb⟩:=hrel
  obtain ⟨b1,b2,b3,b4⟩:=S.bd
  by_cases hn:n < k.length
  ·have hns:n < (⟨k.toArray⟩:ByteArray).size:=hn
   have hky:(⟨k.toArray⟩:ByteArray)[n]'hns=k[n]:=rfl
   have hyl:=k[n].toNat_lt
   by_cases hi:i < p.length
   ·have his:i < (⟨p.toArray⟩:ByteArray).size:=hi
    have hpx:(⟨p.toArray⟩:ByteArray)[i]'his=p[i]:=rfl
    have hxl:=p[i].toNat_lt
    by_cases h42:p[i].toNat=42
    ·have S2:Hid (Srch p k (i+1) n (some (i+1)) n):=S.star hi (UInt8.toNat_inj.1 h42)
     have p1:((((⟨p.toArray⟩:ByteArray)[i]'his).toNat:Int) == 42)=true:=by rw [hpx];simp;omega
     clear S h42 hpx hky
     go_wp2
     go_roundw
     case rel=>exact ⟨i+1,n,n,some (i+1),by go_num,rfl,by simp [bsV],rfl,S2.out,hb⟩
     case measure =>
      simp [intOf]
      have:(k.length+1 - n)*(p.length+2)≤(k.length+1 - t)*(p.length+2):=Nat.mul_le_mul_right _ (by omega)
      omega
    ·have n42:p[i]≠42:=fun e=>h42 (by rw [e];rfl)
     have p1:((((⟨p.toArray⟩:ByteArray)[i]'his).toNat:Int) == 42)=false:=by rw [hpx];simp;omega
     by_cases h63:p[i].toNat=63
     ·have HM:(p[i] == 63 || p[i] == k[n])=true:=by rw [show p[i]=63 from UInt8.toNat_inj.1 h63];rfl
      have S2:Hid (Srch p k (i+1) (n+1) b t):=S.step hi hn n42 HM
      have p2:((((⟨p.toArray⟩:ByteArray)[i]'his).toNat:Int) == 63)=true:=by rw [hpx];simp;omega
      clear S h42 hpx hky HM n42
      go_wp2_with fail
      go_quiet (fail)
      go_wp2
      go_roundw
      case rel=>exact ⟨i+1,n+1,t,b,by go_num,by go_num,rfl,rfl,S2.out,below_drewN hb _⟩
      case measure=>simp [intOf];omega
     ·have p2:((((⟨p.toArray⟩:ByteArray)[i]'his).toNat:Int) == 63)=false:=by rw [hpx];simp;omega
      by_cases hxy:p[i].toNat=k[n].toNat
      ·have HM:(p[i] == 63 || p[i] == k[n])=true:=by rw [show p[i]=k[n] from UInt8.toNat_inj.1 hxy];simp
       have S2:Hid (Srch p k (i+1) (n+1) b t):=S.step hi hn n42 HM
       have p3:((((⟨p.toArray⟩:ByteArray)[i]'his).toNat:Int) == (((⟨k.toArray⟩:ByteArray)[n]'hns).toNat:Int))=true:=by rw [hpx,hky,hxy];simp
       clear S h42 hpx hky HM n42
       go_wp2_with fail
       go_quiet (fail)
       go_wp2
       go_roundw
       case rel=>exact ⟨i+1,n+1,t,b,by go_num,by go_num,rfl,rfl,S2.out,below_drewN hb _⟩
       case measure=>simp [intOf];omega
      ·have HM:i < p.length→∃ h:i < p.length,p[i]≠42∧(p[i] == 63 || p[i] == k[n])=false:=fun _=>⟨hi,n42,by
        rw [Bool.or_eq_false_iff];constructor
        ·simp only [beq_eq_false_iff_ne];intro e;exact h63 (by rw [e];rfl)
        ·simp only [beq_eq_false_iff_ne];intro e;exact hxy (by rw [e])⟩
       have p3:((((⟨p.toArray⟩:ByteArray)[i]'his).toNat:Int) == (((⟨k.toArray⟩:ByteArray)[n]'hns).toNat:Int))=false:=by rw [hpx,hky];simp;omega
       clear h42 hpx hky n42 h63 hxy
       rcases b with _|x
       ·have HF:Hid (like p k=false):=S.fails hn HM
        have p5:decide (0≤bsV none)=false:=rfl
        clear S HM
        go_wp2_with fail
        go_quiet (fail)
        go_wp2
        go_ret
        exact ⟨ret_bool HF.out.symm,below_drewN hb _⟩
       ·have S2:Hid (Srch p k x (t+1) (some x) (t+1)):=S.back hn HM
        have p5:decide (0≤bsV (some x))=true:=by simp [bsV]
        have hx:=b4 x rfl
        clear S HM
        go_wp2_with fail
        go_quiet (fail)
        go_wp2
        go_roundw
        case rel=>exact ⟨x,t+1,t+1,some x,by simp [bsV],by go_num,rfl,by go_num,S2.out,below_drewN hb _⟩
        case measure =>
         simp [intOf,bsV]
         have e:(k.length+1 - t)*(p.length+2)=(k.length+1 - (t+1))*(p.length+2)+(p.length+2):=by
          rw [show k.length+1 - t=(k.length+1 - (t+1))+1 by omega,Nat.add_mul,Nat.one_mul]
         have e2:k.length+1 - (t+1)=k.length - t:=by omega
         rw [e2] at e
         omega
   ·have HM:i < p.length→∃ h:i < p.length,p[i]≠42∧(p[i] == 63 || p[i] == k[n])=false:=fun e=>absurd e hi
    have p0:decide ((i:Int) < (p.length:Int))=false:=by simp;omega
    clear hky
    rcases b with _|x
    ·have HF:Hid (like p k=false):=S.fails hn HM
     have p5:decide (0≤bsV none)=false:=rfl
     clear S HM
     go_wp2_with fail
     go_quiet (fail)
     go_wp2
     go_ret
     exact ⟨ret_bool HF.out.symm,below_drewN hb _⟩
    ·have S2:Hid (Srch p k x (t+1) (some x) (t+1)):=S.back hn HM
     have p5:decide (0≤bsV (some x))=true:=by simp [bsV]
     have hx:=b4 x rfl
     clear S HM
     go_wp2_with fail
     go_quiet (fail)
     go_wp2
     go_roundw
     case rel=>exact ⟨x,t+1,t+1,some x,by simp [bsV],by go_num,rfl,by go_num,S2.out,below_drewN hb _⟩
     case measure =>
      simp [intOf,bsV]
      have e:(k.length+1 - t)*(p.length+2)=(k.length+1 - (t+1))*(p.length+2)+(p.length+2):=by
       rw [show k.length+1 - t=(k.length+1 - (t+1))+1 by omega,Nat.add_mul,Nat.one_mul]
      have e2:k.length+1 - (t+1)=k.length - t:=by omega
      rw [e2] at e
      omega
  ·obtain rfl:n=k.length:=by omega
   have HT:Hid (like p k=(p.drop i).all (· == 42)):=S.ends
   have HE:Hid ((⟨p.toArray⟩:ByteArray).extract i p.length=⟨(p.drop i).toArray⟩):=ext_drop p i
   have C:Hid (_):=stars_any (p.drop i)
   clear S
   go_wp2_with fail
   rw [HE.out]
   refine (C.out wr (by simp;omega)).mono ?_
   rintro e w' ⟨rfl,rfl⟩
   go_wp2
   go_ret
   exact ⟨ret_bool HT.out.symm,hb⟩
theorem any_take_succ {α:Type} (f:α→Bool) (l:List α) (k:Nat) (h:k < l.length) (h0:(l.take k).any f=false) (h1:f l[k]=false):(l.take (k+1)).any f=false:=by
 rw [take_snoc' h,List.any_append,h0];simp [h1]
theorem any_hit {α:Type} (f:α→Bool) (l:List α) (k:Nat) (h:k < l.length) (h1:f l[k]=true):l.any f=true:=by
 rw [List.any_eq_true];exact ⟨l[k],List.getElem_mem h,h1⟩
def idxPost (b:Bool) (w:World) (e:Ending) (w':World):Prop:=(∃ r:Int,e=.returned (.int .i64 r)∧decide (0≤r)=b)∧Below w.heap.size w w'
theorem idxPost_hit {b:Bool} {w w':World} {r:Nat} (h:b=true) (hb:Below w.heap.size w w'):idxPost b w (.returned (.int .i64 (r:Int))) w':=by subst h;exact ⟨⟨_,rfl,by simp⟩,hb⟩
theorem idxPost_miss {b:Bool} {w w':World} (h:b=false) (hb:Below w.heap.size w w'):idxPost b w (.returned (.int .i64 (-1))) w':=by subst h;exact ⟨⟨_,rfl,by simp⟩,hb⟩
theorem index_any (v:Value) (l:List (List UInt8)) (s:List UInt8) (w:World) (h:srow w 0 v l) (hl:l.length≤1000000) :
  Calls Tryz.prog 241 #[v,str s] w (idxPost (l.any (fun y=>s == y)) w):=by
 obtain ⟨a,cap,rfl,hcap,hcells⟩:=row_view h
 have HC:Hid (∀ j u,(l.map str)[j]?=some u→∃ g,a=some ⟨g,0,none⟩∧w.cell? ⟨g,j,none⟩=some u∧g < w.heap.size):=hcells
 clear hcells h
 go_enter Tryz.func241,Tryz.ntmps241
 go_wp2
 go_loop [8] (fun i=>∃ k:Nat,k≤l.length∧i=.int .i64 k∧(l.take k).any (fun y=>s == y)=false) (fun i=>l.length - (intOf i).toNat)
 case atStart=>exact ⟨0,Nat.zero_le _,rfl,by simp⟩
 case round =>
  obtain ⟨k,hk,rfl,hno⟩:=hrel
  have HN:Hid ((l.take k).any (fun y=>s == y)=false):=hno
  clear hno
  by_cases hlt:k < l.length
  ·obtain ⟨g,rfl,c1,hg⟩:=HC.out k (str l[k]) (by rw [List.getElem?_map,List.getElem?_eq_getElem hlt];rfl)
   cases he:(s == l[k]) with
   | true =>
    have HY:Hid (l.any (fun y=>s == y)=true):=any_hit _ l k hlt he
    clear HN
    go_wp2
    go_ret
    exact idxPost_hit HY.out (Below.refl _ _)
   | false =>
    have HY:Hid ((l.take (k+1)).any (fun y=>s == y)=false):=any_take_succ _ l k hlt HN.out he
    clear HN
    go_wp2
    go_round
    case rel=>exact ⟨k+1,by omega,by go_num,HY.out⟩
    case measure=>simp [intOf];omega
  ·have HT:Hid (l.any (fun y=>s == y)=false):=by
    show _=_
    have:=HN.out
    rwa [List.take_of_length_le (by omega)] at this
   clear HN
   go_wp2
   go_ret
   exact idxPost_miss HT.out (Below.refl _ _)
theorem contains_any' (l:List (List UInt8)) (s:List UInt8):l.contains s=l.any (fun y=>s == y):=by
 induction l with
 | nil=>rfl
 | cons x l ih=>simp only [List.contains_cons,List.any_cons,ih]
theorem contains_any (v:Value) (l:List (List UInt8)) (s:List UInt8) (w:World) (h:srow w 0 v l) (hl:l.length≤1000000) :
  Calls Tryz.prog 215 #[v,str s] w fun e w'=>e=.returned (.bool (l.contains s))∧Below w.heap.size w w':=by
 have HE:Hid (l.contains s=l.any (fun y=>s == y)):=contains_any' l s
 go_enter Tryz.func215,Tryz.ntmps215
 go_wp2_with fail
 refine (index_any v l s w h hl).mono ?_
 rintro e w1 ⟨⟨r,rfl,hr⟩,hb⟩
 go_wp2
 go_ret
 exact ⟨ret_bool (by rw [HE.out,← hr]),hb⟩
theorem has_any (v:Value) (l:List (List UInt8)) (s:List UInt8) (w:World) (h:srow w 0 v l) (hl:l.length≤1000000) :
  Calls Tryz.prog 176 #[v,str s] w fun e w'=>e=.returned (.bool (inL l s))∧Below w.heap.size w w':=by
 have C1:Hid (_):=contains_any v l s
 have C2:Hid (_):=contains_any v l [42]
 cases hc:l.contains s with
 | true =>
  have HY:Hid (inL l s=true):=by show _=_;unfold inL;rw [hc];rfl
  rw [hc] at C1
  go_enter Tryz.func176,Tryz.ntmps176
  go_wp2_with (go_at_call 215;refine (C1.out w h hl).mono ?_;rintro e w1 ⟨rfl,hb⟩)
  go_ret
  exact ⟨ret_bool HY.out.symm,hb⟩
 | false =>
  have HY:Hid (inL l s=l.contains [42]):=by show _=_;unfold inL;rw [hc];rfl
  rw [hc] at C1
  go_enter Tryz.func176,Tryz.ntmps176
  go_wp2_with fail
  refine (C1.out w h hl).mono ?_
  rintro e w1 ⟨rfl,hb⟩
  have h1:=h.below hb
  go_wp2_with fail
  refine (C2.out w1 h1 hl).mono ?_
  rintro e w2 ⟨rfl,hb2⟩
  go_wp2
  go_ret
  exact ⟨ret_bool (by rw [HY.out];simp),below_trans hb hb2⟩
theorem indexFunc_any (g:Nat) (caps:Array Value) (eg:∀ args w,(callFunc g args).run Tryz.prog w=.ok (.enter g args) w) (p:List UInt8→Bool)
  (v:Value) (l:List (List UInt8)) (w:World) (h:srow w 0 v l) (hl:l.length≤1000000)
  (F:∀ y w1,y∈l→Below w.heap.size w w1→Calls Tryz.prog g (#[str y]++caps) w1 fun e w'=>e=.returned (.bool (p y))∧Below w1.heap.size w1 w') :
  Calls Tryz.prog 216 #[v,.func (.func g) #[] caps] w (idxPost (l.any p) w):=by
 obtain ⟨a,cap,rfl,hcap,hcells⟩:=row_view h
 have HC:Hid (∀ j u,(l.map str)[j]?=some u→∃ g,a=some ⟨g,0,none⟩∧w.cell? ⟨g,j,none⟩=some u∧g < w.heap.size):=hcells
 have HF:Hid (_):=F
 clear hcells h F
 go_enter Tryz.func216,Tryz.ntmps216
 go_wp2
 go_loopw [8] (fun i wr=>∃ k:Nat,k≤l.length∧i=.int .i64 k∧(l.take k).any p=false∧Below w.heap.size w wr) (fun i _=>l.length - (intOf i).toNat)
 case atStart=>exact ⟨0,Nat.zero_le _,rfl,by simp,Below.refl _ _⟩
 case round =>
  obtain ⟨k,hk,rfl,hno,hb⟩:=hrel
  have HN:Hid ((l.take k).any p=false):=hno
  clear hno
  by_cases hlt:k < l.length
  ·obtain ⟨g',rfl,c1,hg⟩:=HC.out k (str l[k]) (by rw [List.getElem?_map,List.getElem?_eq_getElem hlt];rfl)
   replace c1:=(hb.cell (p:=⟨g',k,none⟩) hg).trans c1
   go_wp2_with fail
   refine Calls.mono (HF.out l[k] wr (List.getElem_mem hlt) hb) ?_
   rintro e w1 ⟨rfl,hb1⟩
   cases he:p l[k] with
   | true =>
    have HY:Hid (l.any p=true):=any_hit _ l k hlt he
    clear HN
    go_wp2
    go_ret
    exact idxPost_hit HY.out (below_trans hb hb1)
   | false =>
    have HY:Hid ((l.take (k+1)).any p=false):=any_take_succ _ l k hlt HN.out he
    clear HN
    go_wp2
    go_roundw
    case rel=>exact ⟨k+1,by omega,by go_num,HY.out,below_trans hb hb1⟩
    case measure=>simp [intOf];omega
  ·have HT:Hid (l.any p=false):=by
    show _=_
    have:=HN.out
    rwa [List.take_of_length_le (by omega)] at this
   clear HN
   go_wp2
   go_ret
   exact idxPost_miss HT.out hb
theorem fitOne (K:Nat) (y key:List UInt8) (w:World) (hc:w.cell? ⟨K,0,none⟩=some (str key)) (hy:y.length≤4000) (hk:key.length≤140737488355328) :
  Calls Tryz.prog 178 #[str y,.pointer (some ⟨K,0,none⟩)] w fun e w'=>e=.returned (.bool (like y key))∧Below w.heap.size w w':=by
 go_enter Tryz.func178,Tryz.ntmps178
 go_wp2_with (go_at_call 179;refine (fits_any y key _ hy hk).mono ?_;rintro e w1 ⟨rfl,hb⟩)
 go_ret
 exact ⟨rfl,hb⟩
theorem containsFunc_any (K:Nat) (key:List UInt8) (v:Value) (l:List (List UInt8)) (w:World) (h:srow w 0 v l) (hl:l.length≤1000000) (hc:w.cell? ⟨K,0,none⟩=some (str key)) (hy:∀ y∈l,y.length≤4000) (hk:key.length≤140737488355328) :
  Calls Tryz.prog 177 #[v,.func (.func 178) #[] #[.pointer (some ⟨K,0,none⟩)]] w fun e w'=>e=.returned (.bool (l.any (like · key)))∧Below w.heap.size w w':=by
 have hK:K < w.heap.size:=World.block_lt_of_cell? w ⟨K,0,none⟩ hc
 have C:Hid (_):=indexFunc_any 178 #[.pointer (some ⟨K,0,none⟩)] (enters_of Tryz.func178 (by kernel_rfl) rfl) (like · key) v l
 have F:Hid (∀ y w1,y∈l→Below w.heap.size w w1→Calls Tryz.prog 178 (#[str y]++#[.pointer (some ⟨K,0,none⟩)]) w1 fun e w'=>e=.returned (.bool (like y key))∧Below w1.heap.size w1 w') :=
  fun y w1 hm hb=>fitOne K y key w1 ((hb.cell (p:=⟨K,0,none⟩) hK).trans hc) (hy y hm) hk
 go_enter Tryz.func177,Tryz.ntmps177
 go_wp2_with fail
 refine (C.out w h hl F.out).mono ?_
 rintro e w1 ⟨⟨r,rfl,hr⟩,hb⟩
 clear C F
 go_wp2
 go_ret
 exact ⟨rfl,hb⟩
theorem speaks_no1 {r:RuleP} {u a k:List UInt8} (h:inL r.who u=false):speaksP r u a k=false:=by unfold speaksP;rw [h];rfl
theorem speaks_no2 {r:RuleP} {u a k:List UInt8} (h:inL r.act a=false):speaksP r u a k=false:=by unfold speaksP;rw [h,Bool.and_false];rfl
theorem speaks_yes {r:RuleP} {u a k:List UInt8} (h:inL r.who u=true) (h2:inL r.act a=true):speaksP r u a k=r.on.any (like · k):=by unfold speaksP;rw [h,h2];rfl
theorem speaks_any (x:Int) (a1:Option Addr) (n1 e1:Nat) (a2:Option Addr) (n2 e2:Nat) (a3:Option Addr) (n3 e3:Nat) (r:RuleP) (u a key:List UInt8) (w:World) (h:relR w (inW w) (x,.slice a1 n1 e1,.slice a2 n2 e2,.slice a3 n3 e3) r) (hk:key.length≤140737488355328) :
  Calls Tryz.prog 125 #[.agg #[.int .i64 x,.slice a1 n1 e1,.slice a2 n2 e2,.slice a3 n3 e3],str u,str a,str key] w fun e w'=>e=.returned (.bool (speaksP r u a key))∧Below w.heap.size w w':=by
 have hmf:∀ (fn:Fn) (first cap:Array Value) (w:World),(Instr.makeFunc fn first cap).run Tryz.prog w=.ok (.func fn first cap) w:=fun _ _ _ _=>rfl
 obtain ⟨s1,s2,s3,s4⟩:=h.sz
 have b0:Below w.heap.size w ((w.alloc (.cells #[.int .i64 x,.slice a1 n1 e1,.slice a2 n2 e2,.slice a3 n3 e3] 230)).alloc (.cells #[str key] 9)) :=
  ((Below.refl _ _).alloc (Nat.le_refl _) _).alloc (by simp) _
 have rw0:=srow.below h.who b0
 have ra0:=srow.below h.act b0
 have ro0:=srow.below h.on b0
 have c1:((w.alloc (.cells #[.int .i64 x,.slice a1 n1 e1,.slice a2 n2 e2,.slice a3 n3 e3] 230)).alloc (.cells #[str key] 9)).cell? ⟨w.heap.size,1,none⟩=some (.slice a1 n1 e1):=by simp [go_sem]
 have c2:((w.alloc (.cells #[.int .i64 x,.slice a1 n1 e1,.slice a2 n2 e2,.slice a3 n3 e3] 230)).alloc (.cells #[str key] 9)).cell? ⟨w.heap.size,2,none⟩=some (.slice a2 n2 e2):=by simp [go_sem]
 have c3:((w.alloc (.cells #[.int .i64 x,.slice a1 n1 e1,.slice a2 n2 e2,.slice a3 n3 e3] 230)).alloc (.cells #[str key] 9)).cell? ⟨w.heap.size,3,none⟩=some (.slice a3 n3 e3):=by simp [go_sem]
 have cK:((w.alloc (.cells #[.int .i64 x,.slice a1 n1 e1,.slice a2 n2 e2,.slice a3 n3 e3] 230)).alloc (.cells #[str key] 9)).cell? ⟨w.heap.size+1,0,none⟩=some (str key):=by simp [go_sem]
 have H1:Hid (_):=has_any (.slice a1 n1 e1) r.who u
 have H2:Hid (_):=has_any (.slice a2 n2 e2) r.act a
 have H3:Hid (_):=containsFunc_any (w.heap.size+1) key (.slice a3 n3 e3) r.on
 clear h
 go_enter Tryz.func125,Tryz.ntmps125
 go_wp2_with fail
 generalize ((w.alloc (.cells #[.int .i64 x,.slice a1 n1 e1,.slice a2 n2 e2,.slice a3 n3 e3] 230)).alloc (.cells #[str key] 9))=W at *
 refine (H1.out W rw0 (by omega)).mono ?_
 cases hA:inL r.who u with
 | false =>
  have HY:Hid (speaksP r u a key=false):=speaks_no1 hA
  rintro e w1 ⟨rfl,b1⟩
  go_wp2
  go_ret
  exact ⟨ret_bool HY.out.symm,below_trans b0 b1⟩
 | true =>
  rintro e w1 ⟨rfl,b1⟩
  have hl2:w.heap.size+1 < W.heap.size:=World.block_lt_of_cell? W ⟨w.heap.size+1,0,none⟩ cK
  replace ra0:=ra0.below b1
  replace ro0:=ro0.below b1
  replace c2:=(b1.cell (p:=⟨w.heap.size,2,none⟩) (show w.heap.size < W.heap.size by omega)).trans c2
  replace c3:=(b1.cell (p:=⟨w.heap.size,3,none⟩) (show w.heap.size < W.heap.size by omega)).trans c3
  replace cK:=(b1.cell (p:=⟨w.heap.size+1,0,none⟩) hl2).trans cK
  have z1:=b1.size
  replace b0:=below_trans b0 b1
  clear b1 c1
  go_wp2_with fail
  refine (H2.out w1 ra0 (by omega)).mono ?_
  cases hB:inL r.act a with
  | false =>
   have HY:Hid (speaksP r u a key=false):=speaks_no2 hB
   rintro e w2 ⟨rfl,b2⟩
   go_wp2
   go_ret
   exact ⟨ret_bool HY.out.symm,below_trans b0 b2⟩
  | true =>
   have HY:Hid (speaksP r u a key=r.on.any (like · key)):=speaks_yes hA hB
   rintro e w2 ⟨rfl,b2⟩
   replace ro0:=ro0.below b2
   replace c3:=(b2.cell (p:=⟨w.heap.size,3,none⟩) (show w.heap.size < w1.heap.size by omega)).trans c3
   replace cK:=(b2.cell (p:=⟨w.heap.size+1,0,none⟩) (show w.heap.size+1 < w1.heap.size by omega)).trans cK
   replace b0:=below_trans b0 b2
   clear b2 c2
   go_wp2_with fail
   refine (H3.out w2 ro0 (by omega) cK s4 hk).mono ?_
   rintro e w3 ⟨rfl,b3⟩
   go_wp2
   go_ret
   exact ⟨ret_bool (by rw [HY.out]),below_trans b0 b3⟩
theorem rcells_at:∀ (l:List Quad) (k:Nat) (h:k < l.length),(rcells l)[k*4]?=some (.int .i64 l[k].1)∧(rcells l)[k*4+1]?=some l[k].2.1∧(rcells l)[k*4+2]?=some l[k].2.2.1∧(rcells l)[k*4+3]?=some l[k].2.2.2
 | p :: l,0,_=>⟨rfl,rfl,rfl,rfl⟩
 | p :: l,k+1,h=>by
  have:=rcells_at l k (by simpa using h)
  rw [show (k+1)*4=k*4+1+1+1+1 by omega]
  exact this
theorem says_no {l:List RuleP} {i:Nat} (u a k:List UInt8) (hi:i < l.length) (h:speaksP l[i] u a k=false):saysP (l.take (i+1)) u a k=saysP (l.take i) u a k:=by
 rw [take_snoc' hi];unfold saysP;simp only [List.any_append,List.any_cons,List.any_nil,h,Bool.and_false,Bool.or_false]
theorem says_yes {l:List RuleP} {i:Nat} (u a k:List UInt8) (hi:i < l.length) (h:speaksP l[i] u a k=true):saysP (l.take (i+1)) u a k=max (saysP (l.take i) u a k) (if l[i].deny then 2 else 1):=by
 rw [take_snoc' hi];unfold saysP;simp only [List.any_append,List.any_cons,List.any_nil,h,Bool.and_true,Bool.or_false,Bool.or_true,if_true]
 cases (l.take i).any (fun r=>r.deny && speaksP r u a k) <;> cases l[i].deny <;> simp only [Bool.or_false,Bool.or_true,Bool.false_eq_true,if_true,if_false] <;> first|rfl|(split <;> rfl)
theorem says_bd (l:List RuleP) (u a k:List UInt8):0≤saysP l u a k∧saysP l u a k≤2:=by unfold saysP;split <;> (try split) <;> omega
theorem policyIn.below {w w':World} {sl:Value} {rs:List RuleP} (h:policyAt w sl rs) (b:Below w.heap.size w w'):policyAt w' sl rs :=
 (policyIn.kept h (Kept.of_below b) (fun g hg e=>by unfold inW at hg;omega)).mono (fun g hg=>by have:=b.size;unfold inW at *;omega)
theorem says_any (sl:Value) (rs:List RuleP) (u a key:List UInt8) (w:World) (h:policyAt w sl rs) (hr4:rs.length≤1000000) (hk:key.length≤140737488355328) :
  Calls Tryz.prog 83 #[.agg #[sl],str u,str a,str key] w fun e w'=>e=.returned (.int .i64 (saysP rs u a key))∧Below w.heap.size w w':=by
 have b0:Below w.heap.size w (w.alloc (.cells #[sl] 160)):=(Below.refl _ _).alloc (Nat.le_refl _) _
 have h1:=policyIn.below h b0
 obtain ⟨us,hrow,_,hall⟩:=h1
 have hlen:=all2_len hall
 obtain ⟨av,cap,rfl,hcap,hcells⟩:=row_view hrow
 clear h
 go_enter Tryz.func83,Tryz.ntmps83
 go_wp2
 generalize hW:(w.alloc (.cells #[.slice av rs.length cap] 160))=W at *
 have HC:Hid (∀ j u,(rcells us)[j]?=some u→∃ g,av=some ⟨g,0,none⟩∧W.cell? ⟨g,j,none⟩=some u∧g < W.heap.size):=hcells
 have HA:Hid (all2 (relR W (inW W)) us rs):=hall
 clear hcells hall hrow hW
 go_loopw [9,15] (fun sv i wr=>∃ n:Nat,n≤rs.length∧i=.int .i64 n∧sv=.int .i64 (saysP (rs.take n) u a key)∧Below W.heap.size W wr) (fun _ i _=>rs.length - (intOf i).toNat)
 case atStart=>exact ⟨0,Nat.zero_le _,rfl,rfl,Below.refl _ _⟩
 case round =>
  obtain ⟨n,hn,rfl,rfl,hb⟩:=hrel
  have hsz:=hb.size
  have bd:=says_bd (rs.take n) u a key
  by_cases hlt:n < rs.length
  ·have hu:n < us.length:=by omega
   obtain ⟨m0,m1,m2,m3⟩:=rcells_at us n hu
   have hr0:=all2_get HA.out n hu hlt
   have hr:relR wr (inW wr) us[n] rs[n]:=(hr0.kept (Kept.of_below hb) (fun g hg e=>by unfold inW at hg;omega)).mono (fun g hg=>by unfold inW at *;omega)
   obtain ⟨x,a1,n1,e1,a2,n2,e2,a3,n3,e3,hq⟩:=relR.slices hr
   have hx:Hid (x=if rs[n].deny then 2 else 1):=by have:=hr.says;rw [hq] at this;exact this
   rw [hq] at m0 m1 m2 m3 hr
   obtain ⟨g,rfl,d0,hg⟩:=HC.out _ _ m0
   obtain ⟨g1,e1',d1,_⟩:=HC.out _ _ m1
   obtain rfl:g=g1:=by simpa using e1'
   obtain ⟨g2,e2',d2,_⟩:=HC.out _ _ m2
   obtain rfl:g=g2:=by simpa using e2'
   obtain ⟨g3,e3',d3,_⟩:=HC.out _ _ m3
   obtain rfl:g=g3:=by simpa using e3'
   replace d0:=(hb.cell (p:=⟨g,n*4,none⟩) hg).trans d0
   replace d1:=(hb.cell (p:=⟨g,n*4+1,none⟩) hg).trans d1
   replace d2:=(hb.cell (p:=⟨g,n*4+2,none⟩) hg).trans d2
   replace d3:=(hb.cell (p:=⟨g,n*4+3,none⟩) hg).trans d3
   clear m0 m1 m2 m3 e1' e2' e3' hq hr0
   have SP:Hid (_):=speaks_any x a1 n1 e1 a2 n2 e2 a3 n3 e3 rs[n] u a key
   have bA:Below wr.heap.size wr (wr.alloc (.cells #[.int .i64 x,.slice a1 n1 e1,.slice a2 n2 e2,.slice a3 n3 e3] 230)):=(Below.refl _ _).alloc (Nat.le_refl _) _
   have hrA:relR (wr.alloc (.cells #[.int .i64 x,.slice a1 n1 e1,.slice a2 n2 e2,.slice a3 n3 e3] 230)) (inW (wr.alloc (.cells #[.int .i64 x,.slice a1 n1 e1,.slice a2 n2 e2,.slice a3 n3 e3] 230))) (x,.slice a1 n1 e1,.slice a2 n2 e2,.slice a3 n3 e3) rs[n] :=
    (hr.kept (Kept.of_below bA) (fun g hg e=>by unfold inW at hg;omega)).mono (fun g hg=>by have:=bA.size;unfold inW at *;omega)
   have cx:(wr.alloc (.cells #[.int .i64 x,.slice a1 n1 e1,.slice a2 n2 e2,.slice a3 n3 e3] 230)).cell? ⟨wr.heap.size,0,none⟩=some (.int .i64 x):=by simp [go_sem]
   have hzA:wr.heap.size < (wr.alloc (.cells #[.int .i64 x,.slice a1 n1 e1,.slice a2 n2 e2,.slice a3 n3 e3] 230)).heap.size:=by simp
   go_wp2_with fail
   refine (SP.out _ hrA hk).mono ?_
   rintro e w1 ⟨rfl,b1⟩
   replace cx:=(b1.cell (p:=⟨wr.heap.size,0,none⟩) hzA).trans cx
   have KB:Below W.heap.size W w1:=hb.trans ((below_trans bA b1).mono hsz)
   clear SP bA hrA hzA b1 d0 d1 d2 d3 hr
   cases hs:speaksP rs[n] u a key with
   | false =>
    have HY:Hid (saysP (rs.take (n+1)) u a key=saysP (rs.take n) u a key):=says_no u a key hlt hs
    go_wp2
    go_roundw
    case rel=>exact ⟨n+1,by omega,by go_num,by rw [HY.out],KB⟩
    case measure=>simp [intOf];omega
   | true =>
    have HY:Hid (saysP (rs.take (n+1)) u a key=max (saysP (rs.take n) u a key) x):=by show _=_;rw [says_yes u a key hlt hs,← hx.out]
    have hx2:1≤x∧x≤2:=by rw [hx.out];split <;> omega
    clear hx
    go_wp2
    go_roundw
    case rel=>exact ⟨n+1,by omega,by go_num,by rw [HY.out],KB⟩
    case measure=>simp [intOf];omega
  ·obtain rfl:n=rs.length:=by omega
   have HT:Hid (saysP (rs.take rs.length) u a key=saysP rs u a key):=by show _=_;rw [List.take_length]
   go_wp2
   go_ret
   exact ⟨ret_int HT.out,below_trans b0 hb⟩
abbrev Tx:=List UInt8
structure Ver where
 num:Nat
 mark:Bool
 body:Tx
structure Bkt where
 owner:Tx
 policy:Tx
 rules:List RuleP
structure Sto where
 users:List Tx
 room:Nat
 log:Tx
 bk:Tx→Option Bkt
 vs:Tx→Tx→List Ver
 last:Nat
inductive Chg where
 | mk (b o:Tx)
 | pol (b p:Tx)
 | unpol (b:Tx)
 | put (b k y:Tx)
 | mark (b k:Tx)
 | drop (b k:Tx) (n:Nat)
def Chg.text:Chg→Tx
 | .mk b o=>66 :: (shortT b++shortT o)
 | .pol b p=>80 :: (shortT b++longT p)
 | .unpol b=>85 :: shortT b
 | .put b k y=>79 :: (shortT b++shortT k++longT y)
 | .mark b k=>77 :: (shortT b++shortT k)
 | .drop b k n=>88 :: (shortT b++shortT k++numT n)
def Sto.setBk (s:Sto) (n:Tx) (x:Bkt):Sto:={ s with bk:=fun m=>if m=n then some x else s.bk m }
def Sto.setVs (s:Sto) (b k:Tx) (l:List Ver):Sto:={ s with vs:=fun c j=>if c=b∧j=k then l else s.vs c j }
def Sto.add (s:Sto) (b k:Tx) (mark:Bool) (y:Tx):Sto:={ s.setVs b k (s.vs b k++[⟨s.last+1,mark,y⟩]) with last:=s.last+1 }
def Sto.begin (s:Sto):Chg→Except Nat Sto
 | .mk b o=>if bktP b=true∧s.users.contains o=true then (match s.bk b with
   | none=>.ok (s.setBk b ⟨o,[],[]⟩)
   | some _=>.error 409) else .error 400
 | .pol b p=>match s.bk b with
   | none=>.error 404
   | some x=>if (rulesOf p).1=0 then .ok (s.setBk b ⟨x.owner,p,(rulesOf p).2⟩) else .error 400
 | .unpol b=>match s.bk b with
   | none=>.error 404
   | some x=>if x.policy=[] then .error 404 else .ok (s.setBk b ⟨x.owner,[],[]⟩)
 | .put b k y=>if 300 < y.length then .error 413 else match s.bk b with
   | none=>.error 404
   | some _=>if keyP k=true then .ok (s.add b k false y) else .error 400
 | .mark b k=>match s.bk b with
   | none=>.error 404
   | some _=>if keyP k=true then .ok (s.add b k true []) else .error 400
 | .drop b k n=>if (s.vs b k).any (fun v=>v.num == n)=true then .ok (s.setVs b k ((s.vs b k).eraseP (fun v=>v.num == n))) else .error 404
def Sto.done (s:Sto) (c:Chg):Nat×Sto:=match s.begin c with
 | .error n=>(n,s)
 | .ok t=>if s.log.length+(frameT c.text).length≤s.room then (200,{ t with log:=s.log++frameT c.text }) else (507,s)
def Sto.may (s:Sto) (user action name key:Tx):Nat:=match s.bk name with
 | none=>404
 | some x=>if saysP x.rules user action key=2∨(saysP x.rules user action key=0∧user≠x.owner) then 403 else 200
def Sto.version (s:Sto) (b k:Tx) (n:Nat):Option Ver:=match (if n=0 then (s.vs b k).getLast? else (s.vs b k).find? (fun v=>v.num == n)) with
 | none=>none
 | some v=>if v.mark=true then none else some v
inductive Role where
 | none
 | self
 | bks
 | vss
 | log
 | ro
 | ver (b k:Tx)
abbrev Roles:=Nat→Role
def vcell (v:Ver):List Value:=[.int .i64 (v.num:Int),.bool v.mark,str v.body]
def vcells (l:List Ver):List Value:=l.flatMap vcell
abbrev keyV (b k:Tx):Value:=.agg #[str b,str k]
def bktV (x:Bkt) (sl:Value):Value:=.agg #[str x.owner,str x.policy,sl]
def BMap (w:World) (m:Nat) (r:Roles) (bk:Tx→Option Bkt):Prop:=∃ f,MapIs isStr w m f ∧
 (∀ n,bk n=none→f (str n)=none)∧(∀ n x,bk n=some x→∃ sl,f (str n)=some (bktV x sl)∧policyIn w (fun g=>r g=.ro) sl x.rules)
def VMap (w:World) (m:Nat) (r:Roles) (vs:Tx→Tx→List Ver):Prop:=∃ f,MapIs isTwo w m f ∧
 (∀ b k,vs b k=[]→f (keyV b k)=none)∧(∀ b k,vs b k≠[]→∃ sl,f (keyV b k)=some sl∧w.ownsRow 0 292 3 sl (vs b k).length (vcells (vs b k))∧∀ g,sl.ownBlock=some g→r g=.ver b k)
structure KSv (b:Nat) (s:Sto) (r:Roles) (uv lv:Value) (mb mv:Nat) (w:World):Prop where
 c0:w.cell? ⟨b,0,none⟩=some uv
 c1:w.cell? ⟨b,1,none⟩=some (.int .i64 (s.room:Int))
 c2:w.cell? ⟨b,2,none⟩=some lv
 c3:w.cell? ⟨b,3,none⟩=some (.map (some mb))
 c4:w.cell? ⟨b,4,none⟩=some (.map (some mv))
 c5:w.cell? ⟨b,5,none⟩=some (.int .i64 (s.last:Int))
 fz:∀ j:Nat,w.frozen? ⟨b,j,none⟩=false
 rb:r b=.self
 us:srow w 0 uv s.users
 ur:∀ g,uv.ownBlock=some g→r g=.ro
 lg:owns w 0 lv s.log
 lr:∀ g,lv.ownBlock=some g→r g=.log
 bk:BMap w mb r s.bk
 rk:r mb=.bks
 vs:VMap w mv r s.vs
 rv:r mv=.vss
 dom:∀ g,r g≠.none→g < w.heap.size
def KS (b:Nat) (s:Sto) (r:Roles) (w:World):Prop:=∃ uv lv mb mv,KSv b s r uv lv mb mv w
structure Step (r:Roles) (w:World) (r':Roles) (w':World):Prop where
 kept:Kept (fun g=>r g≠.none) w w'
 mine:∀ g,g < w.heap.size→r' g≠.none→r g≠.none
theorem Step.refl (r:Roles) (w:World):Step r w r w:=⟨Kept.refl _ _,fun _ _ h=>h⟩
theorem Step.trans {r r1 r2:Roles} {w w1 w2:World} (h:Step r w r1 w1) (k:Step r1 w1 r2 w2):Step r w r2 w2 :=
 ⟨h.kept.trans k.kept (fun g hg e=>h.mine g hg e),fun g hg e=>h.mine g hg (k.mine g (Nat.lt_of_lt_of_le hg h.kept.size) e)⟩
theorem Step.of_below {r:Roles} {w w':World} (h:Below w.heap.size w w'):Step r w r w' :=
 ⟨(Kept.of_below h).mono (fun g hg e=>by omega),fun _ _ e=>e⟩
theorem Step.of_kept {r:Roles} {S:Nat→Prop} {w w':World} (h:Kept S w w') (hs:∀ g,S g→r g≠.none):Step r w r w' :=
 ⟨h.mono (fun g _ e=>hs g e),fun _ _ e=>e⟩
theorem BMap.kept {S:Nat→Prop} {w w':World} {m:Nat} {r:Roles} {bk:Tx→Option Bkt} (h:BMap w m r bk) (k:Kept S w w') (hm:¬ S m) (hr:∀ g,r g=.ro→¬ S g):BMap w' m r bk:=by
 obtain ⟨f,h1,h2,h3⟩:=h
 exact ⟨f,h1.kept k hm,h2,fun n x e=>by obtain ⟨sl,e1,e2⟩:=h3 n x e;exact ⟨sl,e1,e2.kept k hr⟩⟩
theorem VMap.kept {S:Nat→Prop} {w w':World} {m:Nat} {r:Roles} {vs:Tx→Tx→List Ver} (h:VMap w m r vs) (k:Kept S w w') (hm:¬ S m) (hr:∀ g b j,r g=.ver b j→¬ S g):VMap w' m r vs:=by
 obtain ⟨f,h1,h2,h3⟩:=h
 exact ⟨f,h1.kept k hm,h2,fun b j e=>by obtain ⟨sl,e1,e2,e3⟩:=h3 b j e;exact ⟨sl,e1,k.row e2 (fun g hg=>hr g b j (e3 g hg)),e3⟩⟩
theorem KSv.kept {S:Nat→Prop} {b:Nat} {s:Sto} {r:Roles} {uv lv:Value} {mb mv:Nat} {w w':World} (h:KSv b s r uv lv mb mv w) (k:Kept S w w') (hr:∀ g,r g≠.none→¬ S g):KSv b s r uv lv mb mv w':=by
 have hb:¬ S b:=hr b (by rw [h.rb];simp)
 have hl:b < w.heap.size:=h.dom b (by rw [h.rb];simp)
 exact { c0 := k.cell h.c0 hb, c1 := k.cell h.c1 hb, c2 := k.cell h.c2 hb, c3 := k.cell h.c3 hb, c4 := k.cell h.c4 hb, c5 := k.cell h.c5 hb,
         fz:=fun j=>k.frozen (a:=⟨b,j,none⟩) hl (h.fz j) hb,rb:=h.rb,us:=k.row h.us (fun g e=>hr g (by rw [h.ur g e];simp)),ur:=h.ur,
         lg:=k.row h.lg (fun g e=>hr g (by rw [h.lr g e];simp)),lr:=h.lr,bk:=h.bk.kept k (hr mb (by rw [h.rk];simp)) (fun g e=>hr g (by rw [e];simp)),rk:=h.rk,
         vs:=h.vs.kept k (hr mv (by rw [h.rv];simp)) (fun g _ _ e=>hr g (by rw [e];simp)),rv:=h.rv,dom:=fun g e=>Nat.lt_of_lt_of_le (h.dom g e) k.size }
theorem KSv.below {b:Nat} {s:Sto} {r:Roles} {uv lv:Value} {mb mv:Nat} {w w':World} (h:KSv b s r uv lv mb mv w) (k:Below w.heap.size w w'):KSv b s r uv lv mb mv w' :=
 h.kept (Kept.of_below k) (fun g e hg=>by have:=h.dom g e;omega)
theorem KS.below {b:Nat} {s:Sto} {r:Roles} {w w':World} (h:KS b s r w) (k:Below w.heap.size w w'):KS b s r w':=by
 obtain ⟨uv,lv,mb,mv,h⟩:=h
 exact ⟨uv,lv,mb,mv,h.below k⟩
theorem KS.kept {S:Nat→Prop} {b:Nat} {s:Sto} {r:Roles} {w w':World} (h:KS b s r w) (k:Kept S w w') (hr:∀ g,r g≠.none→¬ S g):KS b s r w':=by
 obtain ⟨uv,lv,mb,mv,h⟩:=h
 exact ⟨uv,lv,mb,mv,h.kept k hr⟩
theorem KS.dom {b:Nat} {s:Sto} {r:Roles} {w:World} (h:KS b s r w):∀ g,r g≠.none→g < w.heap.size:=by
 obtain ⟨uv,lv,mb,mv,h⟩:=h
 exact h.dom
end Go.Proofs.YtbllcgibmgbnjaaGreatDoor.P
