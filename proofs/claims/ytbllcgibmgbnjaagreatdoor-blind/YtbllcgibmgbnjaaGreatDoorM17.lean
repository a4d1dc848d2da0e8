import Derived.Test.YtbllcgibmgbnjaaGreatDoorM16
import Derived.Deep.RegionWith
set_option maxHeartbeats 8000000
set_option maxRecDepth 20000
namespace Go.Proofs.YtbllcgibmgbnjaaGreatDoor.P
open Go.RowKit
open C (ret_bool ret_int ret_str)
def sigOk (c:Claim) (secret t:Tx):Bool:=(R.signOf secret (c.second:Int) t).2 == 0 && (R.signOf secret (c.second:Int) t).1 == c.sig
def signerP (m p:Tx) (q hs:Hs) (y:Tx) (us:Us) (clock:Nat):Option Tx:=match claimP q hs with
 | none=>none
 | some c=>if clock+900 < c.second∨c.last < clock then none else match R.canonOf m p q hs y c.list with
  | none=>none
  | some t=>(us.find? (fun u=>u.1 == c.user && sigOk c u.2 t)).map (·.1)
theorem signed_any (c:Claim) (secret t:Tx) (w:World) (G:GL w) (h3:t.length≤400000000000000) (h4:secret.length≤400000000000000) :
  Calls Tryz.prog 118 #[claimV c,str secret,str t] w fun e w'=>e=.returned (.bool (sigOk c secret t))∧Below w.heap.size w w':=by
 have b0:Below w.heap.size w (w.alloc (.cells #[str c.user,str c.list,str c.sig,.int .i64 (c.second:Int),.int .i64 (c.last:Int)] 219)):=(Below.refl _ _).alloc (Nat.le_refl _) _
 have S:Hid (_):=R.sign_any secret (c.second:Int) t (w.alloc (.cells #[str c.user,str c.list,str c.sig,.int .i64 (c.second:Int),.int .i64 (c.last:Int)] 219)) (G.call b0).env (G.call b0).laid h3 h4
 have HO:Hid (sigOk c secret t=((R.signOf secret (c.second:Int) t).2 == 0 && (R.signOf secret (c.second:Int) t).1 == c.sig)):=rfl
 unfold claimV
 generalize R.signOf secret (c.second:Int) t=x at *
 obtain ⟨x,n⟩:=x
 simp only at HO
 go_enter Tryz.func118,Tryz.ntmps118
 go_wp2_with fail
 refine Calls.mono S.out ?_
 rintro e w1 ⟨rfl,b1⟩
 dsimp only [R.sgEnd]
 have c2:w1.cell? ⟨w.heap.size,2,none⟩=some (str c.sig):=(b1.cell (p:=⟨w.heap.size,2,none⟩) (by simp)).trans (by simp [go_sem])
 clear S
 cases hn:(n == 0) with
 | true =>
  rw [hn] at HO
  cases hx:(x == c.sig) with
  | true =>
   go_wp2
   go_ret
   exact ⟨ret_bool (by rw [HO.out,hx];rfl),below_trans b0 b1⟩
  | false =>
   go_wp2
   go_ret
   exact ⟨ret_bool (by rw [HO.out,hx];rfl),below_trans b0 b1⟩
 | false =>
  rw [hn] at HO
  go_wp2
  go_ret
  exact ⟨ret_bool (by rw [HO.out];rfl),below_trans b0 b1⟩
theorem canonOf_len {m p:Tx} {q hs:Hs} {y list t:Tx} (b1:m.length≤1000000) (b2:p.length≤1000000) (b3:q.length≤1000000) (b4:∀ p∈q,p.1.length≤1000000∧p.2.length≤1000000) (b7:list.length≤2000000) (b8:∀ p∈hs,p.1.length≤1000000∧p.2.length≤1000000)
  (h:R.canonOf m p q hs y list=some t):t.length≤140737488355328:=by
 unfold R.canonOf at h
 split at h
 ·cases h
 ·rename_i s hs'
  split at h
  ·cases h
  ·cases h
   exact R.canonText_len b1 b2 (R.canonQ_len b3 b4) (R.pick_len b7 hs') (fun x hx=>b8 x (R.pick_mem _ _ _ hs' x hx)) b7
theorem headP_len {v:Tx} {c:Claim} (h:headP v=some c):c.list.length≤v.length:=by
 unfold headP at h
 split at h
 ·rename_i x1 x2 x3 x4 x5 hs
  split at h
  ·rw [Option.map_eq_some_iff] at h
   obtain ⟨n,_,rfl⟩:=h
   exact R.split_mem (sep:=[32]) (by decide) (by rw [hs];simp)
  ·cases h
 ·cases h
theorem headP_num {v:Tx} {c:Claim} (h:headP v=some c):c.second≤1000000000000∧c.last=c.second+900:=by
 unfold headP at h
 split at h
 ·split at h
  ·rw [Option.map_eq_some_iff] at h
   obtain ⟨n,hn,rfl⟩:=h
   exact ⟨(numP_le hn).1,rfl⟩
  ·cases h
 ·cases h
theorem claim_len {q hs:Hs} {c:Claim} (b4:∀ p∈q,p.1.length≤1000000∧p.2.length≤1000000) (b8:∀ p∈hs,p.1.length≤1000000∧p.2.length≤1000000) (h:claimP q hs=some c):c.list.length≤1000000∧c.second≤1000000000000∧c.last≤1000001000000:=by
 unfold claimP at h
 split at h
 ·rename_i v hv
  split at h
  ·have h2:=headP_num h
   exact ⟨Nat.le_trans (headP_len h) (b8 _ (R.find_in hv)).2,h2.1,by omega⟩
  ·cases h
 ·unfold pairsP at h
  split at h
  ·rename_i u t f l s h1 h2 h3 h4 h5
   split at h
   ·cases h
    have k2:=(numP_le h2).1
    have k3:=(numP_le h3).1
    exact ⟨(xIn_mem b4 _ (R.find_in h4)).2,k2,by show t+f - 1≤_;omega⟩
   ·cases h
  ·cases h
def whoPost (o:Option Tx) (w:World) (e:Ending) (w':World):Prop:=Below w.heap.size w w'∧match o with
 | some u=>e=.returned (.tuple #[str u,.nilIface])
 | none=>∃ c:Value,c.oneCell'=true∧e=.returned (.tuple #[str [],.iface 148 (.agg #[.int .i64 403,c])])
theorem whoPost_no {o:Option Tx} {w w':World} {c:Value} (h:o=none) (hb:Below w.heap.size w w') (hc:c.oneCell'=true):whoPost o w (.returned (.tuple #[str [],.iface 148 (.agg #[.int .i64 403,c])])) w':=by
 subst h;exact ⟨hb,c,hc,rfl⟩
theorem find_take {us:Us} {f:Tx×Tx→Bool} {k:Nat} (h:k < us.length) (h0:∀ u∈us.take k,f u=false) (h1:f us[k]=true):us.find? f=some us[k]:=by
 rw [List.find?_eq_some_iff_append]
 refine ⟨h1,us.take k,us.drop (k+1),?_,fun u hu=>by rw [h0 u hu];rfl⟩
 rw [← List.drop_eq_getElem_cons h,List.take_append_drop]
theorem take_one {us:Us} {f:Tx×Tx→Bool} {k:Nat} (h:k < us.length) (h0:∀ u∈us.take k,f u=false) (h1:f us[k]=false):∀ u∈us.take (k+1),f u=false:=by
 intro u hu
 rw [List.take_succ_eq_append_getElem h,List.mem_append] at hu
 rcases hu with hu|hu
 ·exact h0 u hu
 ·rw [List.mem_singleton.1 hu];exact h1
theorem who_any (m p:Tx) (q hs:Hs) (qv hv:Value) (y:Tx) (ua:Option Addr) (uc:Nat) (us:Us) (clock:Nat) (_hcl:clock≤1000000000000) (w:World) (G:GL w) (hq:R.phold w w.heap.size qv q) (hh:R.phold w w.heap.size hv hs) (U:UR ua us w) (hul:us.length≤1000) (hus:∀ u∈us,u.2.length≤1000000)
  (b1:m.length≤1000000) (b2:p.length≤1000000) (b3:q.length≤1000000) (b4:∀ p∈q,p.1.length≤1000000∧p.2.length≤1000000) (b5:hs.length≤1000000) (b6:y.length≤1000000) (b8:∀ p∈hs,p.1.length≤1000000∧p.2.length≤1000000) :
  Calls Tryz.prog 81 #[.agg #[str m,str p,qv,hv,str y],.slice ua us.length uc,.int .i64 (clock:Int)] w (whoPost (signerP m p q hs y us clock) w):=by
 obtain ⟨qa,qc,rfl⟩:=R.phold.len hq
 obtain ⟨ha,hc,rfl⟩:=R.phold.len hh
 have b0:Below w.heap.size w (w.alloc (.cells #[str m,str p,.slice qa q.length qc,.slice ha hs.length hc,str y] 97)):=(Below.refl _ _).alloc (Nat.le_refl _) _
 have HQ:=R.phold.call hq b0
 have HH:=R.phold.call hh b0
 have G0:=G.call b0
 have RC:Hid (_):=fun w G h h'=>readClaim_any m p q hs (.slice qa q.length qc) (.slice ha hs.length hc) y w G h h' b3 b4 b5 b8
 have HW:Hid (signerP m p q hs y us clock=match claimP q hs with|none=>none|some c=>if clock+900 < c.second∨c.last < clock then none else match R.canonOf m p q hs y c.list with|none=>none|some t=>(us.find? (fun u=>u.1 == c.user && sigOk c u.2 t)).map (·.1)):=rfl
 have RF:Hid (∀ (c:Value) (hc:c=.nilIface∨∃ d u,c=.iface d u) (w:World),Calls Tryz.prog 80 #[.int .i64 403,c] w fun e w'=>e=.returned (.iface 148 (.agg #[.int .i64 403,c]))∧w=w'):=fun c hc w=>refuse_any 403 c hc w
 have HCL:=@claim_len q hs
 go_enter Tryz.func81,Tryz.ntmps81
 go_wp2_with fail
 refine Calls.mono (RC.out _ G0 HQ HH) ?_
 clear RC
 cases hcl':claimP q hs with
 | none =>
  rintro e w1 ⟨c1,u,l,s,n,m',rfl⟩
  rw [hcl'] at HW
  have B1:=below_trans b0 c1
  have hs1:=B1.size
  go_wp2_with (go_at_call 80;refine (RF.out .nilIface (.inl rfl) _).mono ?_;rintro e w' ⟨rfl,rfl⟩)
  go_ret2
  exact whoPost_no HW.out (B1.alloc hs1 _) rfl
 | some c =>
  have hlist:=HCL b4 b8 hcl'
  obtain ⟨cu,cl,cs,cn,cm⟩:=c
  rintro e w1 ⟨c1,rfl⟩
  rw [hcl'] at HW
  simp only at HW hlist
  obtain ⟨hlist,hcn,hcm⟩:=hlist
  have B1:=below_trans b0 c1
  have hs1:=B1.size
  have G1:=G0.call c1
  have HQ1:=R.phold.call HQ c1
  have HH1:=R.phold.call HH c1
  have U1:=U.below B1
  have hz:w.heap.size < (w.alloc (.cells #[str m,str p,.slice qa q.length qc,.slice ha hs.length hc,str y] 97)).heap.size:=by simp
  have lw:w.heap.size < w1.heap.size:=Nat.lt_of_lt_of_le hz c1.size
  have d0:∀ o,(w1.alloc o).cell? ⟨w.heap.size,0,none⟩=some (str m):=fun o=>cell_alloc ((c1.cell (p:=⟨w.heap.size,0,none⟩) hz).trans (by simp [go_sem])) o
  have d1:∀ o,(w1.alloc o).cell? ⟨w.heap.size,1,none⟩=some (str p):=fun o=>cell_alloc ((c1.cell (p:=⟨w.heap.size,1,none⟩) hz).trans (by simp [go_sem])) o
  have d2:∀ o,(w1.alloc o).cell? ⟨w.heap.size,2,none⟩=some (.slice qa q.length qc):=fun o=>cell_alloc ((c1.cell (p:=⟨w.heap.size,2,none⟩) hz).trans (by simp [go_sem])) o
  have d3:∀ o,(w1.alloc o).cell? ⟨w.heap.size,3,none⟩=some (.slice ha hs.length hc):=fun o=>cell_alloc ((c1.cell (p:=⟨w.heap.size,3,none⟩) hz).trans (by simp [go_sem])) o
  have d4:∀ o,(w1.alloc o).cell? ⟨w.heap.size,4,none⟩=some (str y):=fun o=>cell_alloc ((c1.cell (p:=⟨w.heap.size,4,none⟩) hz).trans (by simp [go_sem])) o
  have bC:Below w1.heap.size w1 (w1.alloc (.cells #[str cu,str cl,str cs,.int .i64 (cn:Int),.int .i64 (cm:Int)] 219)):=(Below.refl _ _).alloc (Nat.le_refl _) _
  clear HQ HH G0 c1 hz HCL b0 hq hh
  dsimp only [claimV]
  by_cases ht1:clock+900 < cn
  ·have p1:decide ((clock:Int) < (cn:Int) - 900)=true:=by simp;omega
   have HX:Hid (signerP m p q hs y us clock=none):=by show _=_;rw [HW.out,if_pos (.inl ht1)]
   clear HW
   go_wp2_with (go_at_call 80;refine (RF.out .nilIface (.inl rfl) _).mono ?_;rintro e w' ⟨rfl,rfl⟩)
   go_ret2
   exact whoPost_no HX.out (B1.alloc hs1 _) rfl
  ·have p1:decide ((clock:Int) < (cn:Int) - 900)=false:=by simp;omega
   by_cases ht2:cm < clock
   ·have p2:decide (cm < clock)=true:=by simp;omega
    have HX:Hid (signerP m p q hs y us clock=none):=by show _=_;rw [HW.out,if_pos (.inr ht2)]
    clear HW
    go_wp2_with (go_at_call 80;refine (RF.out .nilIface (.inl rfl) _).mono ?_;rintro e w' ⟨rfl,rfl⟩)
    go_ret2
    exact whoPost_no HX.out (B1.alloc hs1 _) rfl
   ·have p2:decide (cm < clock)=false:=by simp;omega
    have HX:Hid (signerP m p q hs y us clock=match R.canonOf m p q hs y cl with|none=>none|some t=>(us.find? (fun u=>u.1 == cu && sigOk ⟨cu,cl,cs,cn,cm⟩ u.2 t)).map (·.1)):=by show _=_;rw [HW.out,if_neg (by omega)]
    have CN:Hid (_):=fun w h1 h2 E L=>R.canon_any m p q hs (.slice qa q.length qc) (.slice ha hs.length hc) y cl w h1 h2 E L b1 b2 b3 b4 b5 b6 (by omega) b8
    have CLN:=@canonOf_len m p q hs y cl
    have HQ2:=R.phold.call HQ1 bC
    have HH2:=R.phold.call HH1 bC
    have G2:=G1.call bC
    have U2:=U1.below bC
    have B2:=below_trans B1 bC
    clear HW HQ1 HH1 G1 U1 ht1 ht2
    go_wp2_with fail
    refine Calls.mono (CN.out _ HQ2 HH2 G2.env G2.laid) ?_
    rintro e w2 ⟨rfl,c2⟩
    cases hco:R.canonOf m p q hs y cl with
    | none =>
     rw [hco] at HX
     dsimp only [R.cEnd]
     go_wp2_with (go_at_call 80;refine (RF.out (.iface _ _) (.inr ⟨_,_,rfl⟩) _).mono ?_;rintro e w' ⟨rfl,rfl⟩)
     go_ret2
     exact whoPost_no HX.out (below_trans B2 c2) rfl
    | some t =>
     rw [hco] at HX
     have htl:=CLN b1 b2 b3 b4 (by omega) b8 hco
     have G3:=G2.call c2
     have HU:Hid (UR ua us w2):=U2.below c2
     have B3:=below_trans B2 c2
     have hz2:w1.heap.size < (w1.alloc (.cells #[str cu,str cl,str cs,.int .i64 (cn:Int),.int .i64 (cm:Int)] 219)).heap.size:=by simp
     have lw2:w1.heap.size < w2.heap.size:=Nat.lt_of_lt_of_le hz2 c2.size
     have f0:w2.cell? ⟨w1.heap.size,0,none⟩=some (str cu):=(c2.cell (p:=⟨w1.heap.size,0,none⟩) hz2).trans (by simp [go_sem])
     have f1:w2.cell? ⟨w1.heap.size,1,none⟩=some (str cl):=(c2.cell (p:=⟨w1.heap.size,1,none⟩) hz2).trans (by simp [go_sem])
     have f2:w2.cell? ⟨w1.heap.size,2,none⟩=some (str cs):=(c2.cell (p:=⟨w1.heap.size,2,none⟩) hz2).trans (by simp [go_sem])
     have f3:w2.cell? ⟨w1.heap.size,3,none⟩=some (.int .i64 (cn:Int)):=(c2.cell (p:=⟨w1.heap.size,3,none⟩) hz2).trans (by simp [go_sem])
     have f4:w2.cell? ⟨w1.heap.size,4,none⟩=some (.int .i64 (cm:Int)):=(c2.cell (p:=⟨w1.heap.size,4,none⟩) hz2).trans (by simp [go_sem])
     have SG:Hid (∀ (x:Tx) (w:World),GL w→x.length≤1000000→Calls Tryz.prog 118 #[.agg #[str cu,str cl,str cs,.int .i64 (cn:Int),.int .i64 (cm:Int)],str x,str t] w fun e w'=>e=.returned (.bool (sigOk ⟨cu,cl,cs,cn,cm⟩ x t))∧Below w.heap.size w w'):=fun x w G hx=>signed_any ⟨cu,cl,cs,cn,cm⟩ x t w G (by omega) (by omega)
     have HLS:Hid (∀ u∈us,u.2.length≤1000000):=hus
     dsimp only [R.cEnd]
     clear CN HQ2 HH2 U2 d0 d1 d2 d3 d4 c2 hz2 CLN
     go_wp2
     go_loopw [49] (fun i wr=>∃ k:Nat,k≤us.length∧i=.int .i64 k∧(∀ u∈us.take k,(u.1 == cu && sigOk ⟨cu,cl,cs,cn,cm⟩ u.2 t)=false)∧Below w2.heap.size w2 wr) (fun i _=>us.length - (intOf i).toNat)
     case atStart=>exact ⟨0,Nat.zero_le _,rfl,by simp,Below.refl _ _⟩
     case round =>
      obtain ⟨k,hk,rfl,hno,hb⟩:=hrel
      have HN:Hid (∀ u∈us.take k,(u.1 == cu && sigOk ⟨cu,cl,cs,cn,cm⟩ u.2 t)=false):=hno
      clear hno
      have hsr:=hb.size
      by_cases hlt:k < us.length
      ·obtain ⟨ub,uo,rfl,hub,u0,u1⟩:=(HU.out.below hb).at_ k hlt
       have HT:=@find_take us (fun u=>u.1 == cu && sigOk ⟨cu,cl,cs,cn,cm⟩ u.2 t) k hlt HN.out
       have HF:=@take_one us (fun u=>u.1 == cu && sigOk ⟨cu,cl,cs,cn,cm⟩ u.2 t) k hlt HN.out
       have hxl:=HLS.out us[k] (List.getElem_mem hlt)
       obtain ⟨x,z,hxz⟩:∃ x z,us[k]=(x,z):=⟨_,_,rfl⟩
       rw [hxz] at u0 u1 hxl HT HF
       simp only at hxl HT HF u0 u1
       have bU:Below wr.heap.size wr (wr.alloc (.cells #[str x,str z] 29)):=(Below.refl _ _).alloc (Nat.le_refl _) _
       have Gr:=(G3.call hb).call bU
       have r0:∀ o,(wr.alloc o).cell? ⟨w1.heap.size,0,none⟩=some (str cu):=fun o=>cell_alloc ((hb.cell (p:=⟨w1.heap.size,0,none⟩) lw2).trans f0) o
       have r1:∀ o,(wr.alloc o).cell? ⟨w1.heap.size,1,none⟩=some (str cl):=fun o=>cell_alloc ((hb.cell (p:=⟨w1.heap.size,1,none⟩) lw2).trans f1) o
       have r2:∀ o,(wr.alloc o).cell? ⟨w1.heap.size,2,none⟩=some (str cs):=fun o=>cell_alloc ((hb.cell (p:=⟨w1.heap.size,2,none⟩) lw2).trans f2) o
       have r3:∀ o,(wr.alloc o).cell? ⟨w1.heap.size,3,none⟩=some (.int .i64 (cn:Int)):=fun o=>cell_alloc ((hb.cell (p:=⟨w1.heap.size,3,none⟩) lw2).trans f3) o
       have r4:∀ o,(wr.alloc o).cell? ⟨w1.heap.size,4,none⟩=some (.int .i64 (cm:Int)):=fun o=>cell_alloc ((hb.cell (p:=⟨w1.heap.size,4,none⟩) lw2).trans f4) o
       have HHT:Hid (_):=HT
       have HHF:Hid (_):=HF
       clear HT HF hxz HN
       cases hx:(x == cu) with
       | false =>
        have HY:Hid (∀ u∈us.take (k+1),(u.1 == cu && sigOk ⟨cu,cl,cs,cn,cm⟩ u.2 t)=false):=HHF.out (by rw [hx];rfl)
        clear HHT HHF
        go_wp2
        go_roundw
        case rel=>exact ⟨k+1,by omega,by go_num,HY.out,below_trans hb bU⟩
        case measure=>simp [intOf];omega
       | true =>
        have S1:Hid (_):=fun w G=>SG.out z w G hxl
        cases hsg:sigOk ⟨cu,cl,cs,cn,cm⟩ z t with
        | false =>
         rw [hsg] at S1
         have HY:Hid (∀ u∈us.take (k+1),(u.1 == cu && sigOk ⟨cu,cl,cs,cn,cm⟩ u.2 t)=false):=HHF.out (by rw [hx,hsg];rfl)
         clear HHT HHF
         go_wp2_with (go_at_call 118;refine (S1.out _ Gr).mono ?_;rintro e w3 ⟨rfl,c3⟩)
         go_roundw
         case rel=>exact ⟨k+1,by omega,by go_num,HY.out,below_trans (below_trans hb bU) c3⟩
         case measure=>simp [intOf];omega
        | true =>
         rw [hsg] at S1
         have HY:Hid (signerP m p q hs y us clock=some x):=by show _=_;rw [HX.out];rw [HHT.out (by rw [hx,hsg];rfl)];rfl
         clear HHT HHF
         go_wp2_with (go_at_call 118;refine (S1.out _ Gr).mono ?_;rintro e w3 ⟨rfl,c3⟩;have x0:w3.cell? ⟨wr.heap.size,0,none⟩=some (str x):=(c3.cell (p:=⟨wr.heap.size,0,none⟩) (by simp)).trans (by simp [go_sem]))
         go_ret2
         rw [HY.out]
         exact ⟨below_trans B3 (below_trans (below_trans hb bU) c3),rfl⟩
      ·have HY:Hid (signerP m p q hs y us clock=none):=by
        show _=_;rw [HX.out]
        have h0:us.find? (fun u=>u.1 == cu && sigOk ⟨cu,cl,cs,cn,cm⟩ u.2 t)=none:=by
         rw [List.find?_eq_none]
         intro u hu
         have:=HN.out u (by rw [List.take_of_length_le (by omega)];exact hu)
         simp [this]
        rw [h0];rfl
       clear HN
       go_wp2_with (go_at_call 80;refine (RF.out .nilIface (.inl rfl) _).mono ?_;rintro e w' ⟨rfl,rfl⟩)
       go_ret2
       exact whoPost_no HY.out (below_trans B3 hb) rfl
structure TR (a:Option Addr) (l:List Tx) (w:World):Prop where
 at_:∀ k (h:k < l.length),∃ b o,a=some ⟨b,o,none⟩∧b < w.heap.size∧w.cell? ⟨b,o+k,none⟩=some (str l[k])
theorem TR.below {a:Option Addr} {l:List Tx} {w w':World} (h:TR a l w) (k:Below w.heap.size w w'):TR a l w' :=
 ⟨fun i hi=>by
  obtain ⟨b,o,e,hb,c0⟩:=h.at_ i hi
  have:=k.size
  exact ⟨b,o,e,by omega,(k.cell (p:=⟨b,o+i,none⟩) hb).trans c0⟩⟩
theorem index_v (a:Option Addr) (cap:Nat) (l:List Tx) (s:Tx) (w:World) (h:TR a l w) (hl:l.length≤1000000) :
  Calls Tryz.prog 241 #[.slice a l.length cap,str s] w (idxPost (l.contains s) w):=by
 have HC:Hid (TR a l w):=h
 have HQ:Hid (l.contains s=l.any (fun y=>s == y)):=contains_any' l s
 rw [HQ.out]
 clear h
 go_enter Tryz.func241,Tryz.ntmps241
 go_wp2
 go_loopw [8] (fun i wr=>∃ k:Nat,k≤l.length∧i=.int .i64 k∧(l.take k).any (fun y=>s == y)=false∧Below w.heap.size w wr) (fun i _=>l.length - (intOf i).toNat)
 case atStart=>exact ⟨0,Nat.zero_le _,rfl,by simp,Below.refl _ _⟩
 case round =>
  obtain ⟨k,hk,rfl,hno,hb⟩:=hrel
  have HN:Hid ((l.take k).any (fun y=>s == y)=false):=hno
  clear hno
  by_cases hlt:k < l.length
  ·obtain ⟨g,o,rfl,hg,c1⟩:=(HC.out.below hb).at_ k hlt
   cases he:(s == l[k]) with
   | true =>
    have HY:Hid (l.any (fun y=>s == y)=true):=any_hit _ l k hlt he
    clear HN
    go_wp2
    go_ret
    exact idxPost_hit HY.out hb
   | false =>
    have HY:Hid ((l.take (k+1)).any (fun y=>s == y)=false):=any_take_succ _ l k hlt HN.out he
    clear HN
    go_wp2
    go_roundw
    case rel=>exact ⟨k+1,by omega,by go_num,HY.out,hb⟩
    case measure=>simp [intOf];omega
  ·have HT:Hid (l.any (fun y=>s == y)=false):=by
    show _=_
    have:=HN.out
    rwa [List.take_of_length_le (by omega)] at this
   clear HN
   go_wp2
   go_ret
   exact idxPost_miss HT.out hb
theorem contains_v (a:Option Addr) (cap:Nat) (l:List Tx) (s:Tx) (w:World) (h:TR a l w) (hl:l.length≤1000000) :
  Calls Tryz.prog 215 #[.slice a l.length cap,str s] w fun e w'=>e=.returned (.bool (l.contains s))∧Below w.heap.size w w':=by
 have C:Hid (_):=index_v a cap l s w h hl
 clear h
 go_enter Tryz.func215,Tryz.ntmps215
 go_wp2_with fail
 refine Calls.mono C.out ?_
 rintro e w1 ⟨⟨r,rfl,hr⟩,hb⟩
 go_wp2
 go_ret
 exact ⟨ret_bool (by simp),hb⟩
structure RowP where
 method:Tx
 path:Bool
 p0:Tx
 p1:Tx
 p2:Tx
 least:Nat
 kind:Nat
 action:Tx
 hasBody:Bool
def RowP.v (r:RowP):Value:=.agg #[str r.method,.bool r.path,str r.p0,str r.p1,str r.p2,.int .i64 (r.least:Int),.int .i64 (r.kind:Int),str r.action,.bool r.hasBody]
def rowsP:List RowP:=[
 ⟨tPUT,false,[],[],[],0,0,[],false⟩,
 ⟨tPUT,false,sPolicy,[],[],1,1,sPolicy,true⟩,
 ⟨tGET,false,sPolicy,[],[],1,2,sPolicy,false⟩,
 ⟨tDEL,false,sPolicy,[],[],1,3,sPolicy,false⟩,
 ⟨tGET,false,tPrefix,tAfter,tMax,0,4,sList,false⟩,
 ⟨tPUT,true,[],[],[],0,5,sPut,true⟩,
 ⟨tGET,true,tVersion,[],[],0,6,sGet,false⟩,
 ⟨tDEL,true,[],[],[],0,7,sDelete,false⟩,
 ⟨tDEL,true,tVersion,[],[],1,8,sDelete,false⟩]
def RowP.takes (r:RowP) (ps:Hs):Bool:=ps.all (fun p=>[r.p0,r.p1,r.p2].contains p.1) && decide (r.least≤ps.length)
theorem all_take {ps:Hs} {f:Tx×Tx→Bool} {k:Nat} (h:k < ps.length) (h0:(ps.take k).all f=true):(ps.take (k+1)).all f=f ps[k]:=by
 rw [List.take_succ_eq_append_getElem h,List.all_append,h0];simp
theorem all_hit {ps:Hs} {f:Tx×Tx→Bool} {k:Nat} (h:k < ps.length) (h0:f ps[k]=false):ps.all f=false:=by
 rw [List.all_eq_false];exact ⟨ps[k],List.getElem_mem h,by simp [h0]⟩
theorem takes_any (r:RowP) (pa:Option Addr) (pc:Nat) (ps:Hs) (w:World) (h:R.phold w w.heap.size (.slice pa ps.length pc) ps) (hl:ps.length≤1000000) (hr:r.least≤1000) :
  Calls Tryz.prog 169 #[r.v,.slice pa ps.length pc] w fun e w'=>e=.returned (.bool (r.takes ps))∧Below w.heap.size w w':=by
 obtain ⟨m,pt,p0,p1,p2,ls,kd,ac,hb⟩:=r
 simp only at hr
 have HX:Hid (RowP.takes ⟨m,pt,p0,p1,p2,ls,kd,ac,hb⟩ ps=(ps.all (fun p=>[p0,p1,p2].contains p.1) && decide (ls≤ps.length))):=rfl
 unfold RowP.v
 dsimp only
 have HH:Hid (R.phold w w.heap.size (.slice pa ps.length pc) ps):=h
 have b0:Below w.heap.size w (w.alloc (.cells #[str m,.bool pt,str p0,str p1,str p2,.int .i64 (ls:Int),.int .i64 (kd:Int),str ac,.bool hb] 225)):=(Below.refl _ _).alloc (Nat.le_refl _) _
 have hz:w.heap.size < (w.alloc (.cells #[str m,.bool pt,str p0,str p1,str p2,.int .i64 (ls:Int),.int .i64 (kd:Int),str ac,.bool hb] 225)).heap.size:=by simp
 have TT:TR (some ⟨w.heap.size,2,none⟩) [p0,p1,p2] (w.alloc (.cells #[str m,.bool pt,str p0,str p1,str p2,.int .i64 (ls:Int),.int .i64 (kd:Int),str ac,.bool hb] 225)):=⟨fun k hk=>by
  match k,hk with
  | 0,_=>exact ⟨_,_,rfl,hz,by simp [go_sem]⟩
  | 1,_=>exact ⟨_,_,rfl,hz,by simp [go_sem]⟩
  | 2,_=>exact ⟨_,_,rfl,hz,by simp [go_sem]⟩⟩
 have c5:(w.alloc (.cells #[str m,.bool pt,str p0,str p1,str p2,.int .i64 (ls:Int),.int .i64 (kd:Int),str ac,.bool hb] 225)).cell? ⟨w.heap.size,5,none⟩=some (.int .i64 (ls:Int)):=by simp [go_sem]
 clear h
 go_enter Tryz.func169,Tryz.ntmps169
 go_wp2
 generalize (w.alloc (.cells #[str m,.bool pt,str p0,str p1,str p2,.int .i64 (ls:Int),.int .i64 (kd:Int),str ac,.bool hb] 225))=W at *
 go_loopw [9] (fun i wr=>∃ k:Nat,k≤ps.length∧i=.int .i64 k∧(ps.take k).all (fun p=>[p0,p1,p2].contains p.1)=true∧Below W.heap.size W wr) (fun i _=>ps.length - (intOf i).toNat)
 case atStart=>exact ⟨0,Nat.zero_le _,rfl,rfl,Below.refl _ _⟩
 case round =>
  obtain ⟨k,hk,rfl,hno,hbw⟩:=hrel
  have HN:Hid ((ps.take k).all (fun p=>[p0,p1,p2].contains p.1)=true):=hno
  clear hno
  have hsr:=hbw.size
  have B1:=below_trans b0 hbw
  by_cases hlt:k < ps.length
  ·obtain ⟨g,rfl,hg,q0,q1⟩:=R.phold.at (R.phold.call HH.out B1) hlt
   have HT:Hid ((ps.take (k+1)).all (fun p=>[p0,p1,p2].contains p.1)=[p0,p1,p2].contains ps[k].1):=all_take hlt HN.out
   have HF:=@all_hit ps (fun p=>[p0,p1,p2].contains p.1) k hlt
   obtain ⟨x,z,hxz⟩:∃ x z,ps[k]=(x,z):=⟨_,_,rfl⟩
   rw [hxz] at q0 q1 HT HF
   simp only at HF
   have HHF:Hid (_):=HF
   have bP:Below wr.heap.size wr (wr.alloc (.cells #[str x,str z] 109)).drew:=((Below.refl _ _).alloc (Nat.le_refl _) _).drew
   have T2:=(TT.below hbw).below bP
   have CC:Hid (_):=contains_v (some ⟨w.heap.size,2,none⟩) 3 [p0,p1,p2] x (wr.alloc (.cells #[str x,str z] 109)).drew T2 (by simp)
   have s5:∀ o,(wr.alloc o).cell? ⟨w.heap.size,5,none⟩=some (.int .i64 (ls:Int)):=fun o=>cell_alloc ((hbw.cell (p:=⟨w.heap.size,5,none⟩) hz).trans c5) o
   clear HN hxz HF T2
   cases hcx:[p0,p1,p2].contains x with
   | false =>
    rw [hcx] at CC
    have HY:Hid (RowP.takes ⟨m,pt,p0,p1,p2,ls,kd,ac,hb⟩ ps=false):=by show _=_;rw [HX.out,HHF.out hcx];rfl
    clear HT HHF HX
    go_wp2_with fail
    go_region_with (go_at_call 215;refine Calls.mono CC.out ?_;rintro e w3 ⟨rfl,c3⟩)
    all_goals go_wp2
    all_goals go_ret
    all_goals exact ⟨ret_bool HY.out.symm,below_trans (below_trans B1 bP) c3⟩
   | true =>
    rw [hcx] at CC HT
    clear HHF
    go_wp2_with fail
    go_region_with (go_at_call 215;refine Calls.mono CC.out ?_;rintro e w3 ⟨rfl,c3⟩)
    all_goals go_wp2
    all_goals go_roundw
    case rel=>exact ⟨k+1,by omega,by go_num,HT.out,below_trans (below_trans hbw bP) c3⟩
    case measure=>simp [intOf];omega
  ·have HY:Hid (RowP.takes ⟨m,pt,p0,p1,p2,ls,kd,ac,hb⟩ ps=decide (ls≤ps.length)):=by
    show _=_;rw [HX.out]
    have:=HN.out
    rw [List.take_of_length_le (by omega)] at this
    rw [this];rfl
   have s5:wr.cell? ⟨w.heap.size,5,none⟩=some (.int .i64 (ls:Int)):=(hbw.cell (p:=⟨w.heap.size,5,none⟩) hz).trans c5
   clear HN HX
   go_wp2
   go_ret
   exact ⟨ret_bool (by rw [HY.out,decide_eq_decide]),B1⟩
def rowFits (m:Tx) (path:Bool) (ps:Hs) (r:RowP):Bool:=r.method == m && r.path == path && r.takes ps
def rowP (m:Tx) (path:Bool) (ps:Hs):Option RowP:=rowsP.find? (rowFits m path ps)
def rowsA:Array Value:=rowsC.flatten.toArray
theorem rows_index0 (w:World):(Instr.index 279 (.agg rowsA) (.int .i64 0)).run Tryz.prog w=.ok (rowsP[0]'(by decide)).v w:=by kernel_rfl
theorem rows_index1 (w:World):(Instr.index 279 (.agg rowsA) (.int .i64 1)).run Tryz.prog w=.ok (rowsP[1]'(by decide)).v w:=by kernel_rfl
theorem rows_index2 (w:World):(Instr.index 279 (.agg rowsA) (.int .i64 2)).run Tryz.prog w=.ok (rowsP[2]'(by decide)).v w:=by kernel_rfl
theorem rows_index3 (w:World):(Instr.index 279 (.agg rowsA) (.int .i64 3)).run Tryz.prog w=.ok (rowsP[3]'(by decide)).v w:=by kernel_rfl
theorem rows_index4 (w:World):(Instr.index 279 (.agg rowsA) (.int .i64 4)).run Tryz.prog w=.ok (rowsP[4]'(by decide)).v w:=by kernel_rfl
theorem rows_index5 (w:World):(Instr.index 279 (.agg rowsA) (.int .i64 5)).run Tryz.prog w=.ok (rowsP[5]'(by decide)).v w:=by kernel_rfl
theorem rows_index6 (w:World):(Instr.index 279 (.agg rowsA) (.int .i64 6)).run Tryz.prog w=.ok (rowsP[6]'(by decide)).v w:=by kernel_rfl
theorem rows_index7 (w:World):(Instr.index 279 (.agg rowsA) (.int .i64 7)).run Tryz.prog w=.ok (rowsP[7]'(by decide)).v w:=by kernel_rfl
theorem rows_index8 (w:World):(Instr.index 279 (.agg rowsA) (.int .i64 8)).run Tryz.prog w=.ok (rowsP[8]'(by decide)).v w:=by kernel_rfl
theorem rows_index (k:Nat) (h:k < rowsP.length) (w:World):(Instr.index 279 (.agg rowsA) (.int .i64 (k:Int))).run Tryz.prog w=.ok rowsP[k].v w:=by
 match k,h with
 | 0,_=>exact rows_index0 w
 | 1,_=>exact rows_index1 w
 | 2,_=>exact rows_index2 w
 | 3,_=>exact rows_index3 w
 | 4,_=>exact rows_index4 w
 | 5,_=>exact rows_index5 w
 | 6,_=>exact rows_index6 w
 | 7,_=>exact rows_index7 w
 | 8,_=>exact rows_index8 w
theorem rows_load (w:World) (G:GL w):(Instr.loadAt 279 (.pointer (some ⟨3,0,none⟩))).run Tryz.prog w=.ok (.agg rowsA) w:=by
 have h:=run_loadCells_list (P:=Tryz.prog) w ⟨3,0,none⟩ rowsC.flatten (fun j v hv=>by have:=G.rows j v hv;simpa [Addr.add_lit] using this)
 have hs:(sizeOf 279).run Tryz.prog w=.ok 81 w:=by kernel_rfl
 have ha:(isAgg 279).run Tryz.prog w=.ok true w:=by kernel_rfl
 have hl:rowsC.flatten.length=81:=by decide
 rw [hl] at h
 simp [Instr.loadAt,Instr.sureAddr,loadVar,ha,hs,h,Result.andThen,rowsA]
theorem wpList_load_eq {P:Program} (w:World) {ops:Array Oper} {rest:List Oper} {o:Oper} {a:Act} {Q:Exit→Act→World→Prop} (hg:o.guard=none) (x:Operand) (t:TypeId) (hop:o.op=Op.load t x) (v:Value)
  (hrun:(Instr.loadAt t (a.eval x)).run P w=.ok v w) (hK:wpList P ops Q rest (a.put o.dst v) w):wpList P ops Q (o :: rest) a w:=by
 refine wpList_plain hg fun K' hK'=>?_
 unfold Oper.wp
 simp [execOp,hop,hrun,Result.andThen]
 exact hK' _ _ hK
theorem rowk_take {l:List RowP} {f:RowP→Bool} {k:Nat} (h:k < l.length) (h0:∀ r∈l.take k,f r=false) (h1:f l[k]=true):l.find? f=some l[k]:=by
 rw [List.find?_eq_some_iff_append]
 refine ⟨h1,l.take k,l.drop (k+1),?_,fun u hu=>by rw [h0 u hu];rfl⟩
 rw [← List.drop_eq_getElem_cons h,List.take_append_drop]
theorem rowk_one {l:List RowP} {f:RowP→Bool} {k:Nat} (h:k < l.length) (h0:∀ r∈l.take k,f r=false) (h1:f l[k]=false):∀ r∈l.take (k+1),f r=false:=by
 intro u hu
 rw [List.take_succ_eq_append_getElem h,List.mem_append] at hu
 rcases hu with hu|hu
 ·exact h0 u hu
 ·rw [List.mem_singleton.1 hu];exact h1
theorem rows_least:∀ r∈rowsP,r.least≤1000:=by decide
abbrev zeroRw:Obj:=.cells #[str [],.bool false,str [],str [],str [],.int .i64 0,.int .i64 0,str [],.bool false] 225
def frPost (o : Option RowP) (w : World) (e : Ending) (w' : World) : Prop := (match o with
      | some r=>e=.returned (.tuple #[r.v,.bool true])
      | none=>∃ r:RowP,e=.returned (.tuple #[r.v,.bool false]))∧Below w.heap.size w w'
theorem frPost_ok {o:Option RowP} {r:RowP} {w w':World} (h:o=some r) (hb:Below w.heap.size w w'):frPost o w (.returned (.tuple #[r.v,.bool true])) w':=by subst h;exact ⟨rfl,hb⟩
theorem frPost_no {o:Option RowP} {w w':World} (h:o=none) (r:RowP) (hb:Below w.heap.size w w'):frPost o w (.returned (.tuple #[r.v,.bool false])) w':=by subst h;exact ⟨⟨r,rfl⟩,hb⟩
theorem findRow_any (m:Tx) (path:Bool) (pa:Option Addr) (pc:Nat) (ps:Hs) (w:World) (G:GL w) (h:R.phold w w.heap.size (.slice pa ps.length pc) ps) (hl:ps.length≤1000000) :
  Calls Tryz.prog 121 #[str m,.bool path,.slice pa ps.length pc] w (frPost (rowP m path ps) w):=by
 have b0:Below w.heap.size w (w.alloc zeroRw):=(Below.refl _ _).alloc (Nat.le_refl _) _
 have hz:w.heap.size < (w.alloc zeroRw).heap.size:=by simp
 have HH:Hid (R.phold (w.alloc zeroRw) (w.alloc zeroRw).heap.size (.slice pa ps.length pc) ps):=R.phold.call h b0
 have d0:(w.alloc zeroRw).cell? ⟨w.heap.size,0,none⟩=some (str []):=by simp [go_sem]
 have d1:(w.alloc zeroRw).cell? ⟨w.heap.size,1,none⟩=some (.bool false):=by simp [go_sem]
 have d2:(w.alloc zeroRw).cell? ⟨w.heap.size,2,none⟩=some (str []):=by simp [go_sem]
 have d3:(w.alloc zeroRw).cell? ⟨w.heap.size,3,none⟩=some (str []):=by simp [go_sem]
 have d4:(w.alloc zeroRw).cell? ⟨w.heap.size,4,none⟩=some (str []):=by simp [go_sem]
 have d5:(w.alloc zeroRw).cell? ⟨w.heap.size,5,none⟩=some (.int .i64 0):=by simp [go_sem]
 have d6:(w.alloc zeroRw).cell? ⟨w.heap.size,6,none⟩=some (.int .i64 0):=by simp [go_sem]
 have d7:(w.alloc zeroRw).cell? ⟨w.heap.size,7,none⟩=some (str []):=by simp [go_sem]
 have d8:(w.alloc zeroRw).cell? ⟨w.heap.size,8,none⟩=some (.bool false):=by simp [go_sem]
 have g0:∀ j:Nat,(w.alloc zeroRw).frozen? ⟨w.heap.size,j,none⟩=false:=by intro j;simp [go_sem]
 have HP:Hid (rowP m path ps=rowsP.find? (rowFits m path ps)):=rfl
 clear h
 go_enter Tryz.func121,Tryz.ntmps121
 go_wp2_with (refine wpList_load_eq _ rfl _ 279 rfl _ (rows_load _ (G.alloc _)) ?_)
 generalize w.alloc zeroRw=W at *
 go_loopw [11] (fun i wr=>∃ k:Nat,k≤9∧i=.int .i64 k∧(∀ r∈rowsP.take k,rowFits m path ps r=false)∧Below W.heap.size W wr) (fun i _=>9 - (intOf i).toNat)
 case atStart=>exact ⟨0,Nat.zero_le _,rfl,by simp,Below.refl _ _⟩
 case round =>
  obtain ⟨k,hk,rfl,hno,hbw⟩:=hrel
  have HN:Hid (∀ r∈rowsP.take k,rowFits m path ps r=false):=hno
  clear hno
  have hsr:=hbw.size
  have lw:w.heap.size < wr.heap.size:=by omega
  have B1:=below_trans b0 hbw
  replace d0:=(hbw.cell (p:=⟨w.heap.size,0,none⟩) hz).trans d0
  replace d1:=(hbw.cell (p:=⟨w.heap.size,1,none⟩) hz).trans d1
  replace d2:=(hbw.cell (p:=⟨w.heap.size,2,none⟩) hz).trans d2
  replace d3:=(hbw.cell (p:=⟨w.heap.size,3,none⟩) hz).trans d3
  replace d4:=(hbw.cell (p:=⟨w.heap.size,4,none⟩) hz).trans d4
  replace d5:=(hbw.cell (p:=⟨w.heap.size,5,none⟩) hz).trans d5
  replace d6:=(hbw.cell (p:=⟨w.heap.size,6,none⟩) hz).trans d6
  replace d7:=(hbw.cell (p:=⟨w.heap.size,7,none⟩) hz).trans d7
  replace d8:=(hbw.cell (p:=⟨w.heap.size,8,none⟩) hz).trans d8
  replace g0:∀ j:Nat,wr.frozen? ⟨w.heap.size,j,none⟩=false:=fun j=>(hbw.frozen (p:=⟨w.heap.size,j,none⟩) hz).trans (g0 j)
  by_cases hlt:k < 9
  ·have RI:=rows_index k hlt
   have hls:=rows_least rowsP[k] (List.getElem_mem hlt)
   have HT:=@rowk_take rowsP (rowFits m path ps) k hlt HN.out
   have HF:=@rowk_one rowsP (rowFits m path ps) k hlt HN.out
   have TA:=takes_any rowsP[k] pa pc ps
   obtain ⟨r,hr⟩:∃ r,rowsP[k]=r:=⟨_,rfl⟩
   rw [hr] at RI hls HT HF TA
   obtain ⟨m2,pt,p0,p1,p2,ls,kd,ac,hb⟩:=r
   have HHT:Hid (_):=HT
   have HHF:Hid (_):=HF
   have HTA:Hid (_):=TA
   have HD:Hid (rowFits m path ps ⟨m2,pt,p0,p1,p2,ls,kd,ac,hb⟩=(m2 == m && pt == path && RowP.takes ⟨m2,pt,p0,p1,p2,ls,kd,ac,hb⟩ ps)):=rfl
   simp only at hls
   unfold RowP.v at RI
   dsimp only at RI
   clear HT HF TA hr HN
   have bR:Below wr.heap.size wr (wr.alloc (.cells #[str m2,.bool pt,str p0,str p1,str p2,.int .i64 (ls:Int),.int .i64 (kd:Int),str ac,.bool hb] 225)):=(Below.refl _ _).alloc (Nat.le_refl _) _
   have da0:=fun o=>cell_alloc d0 o
   have da1:=fun o=>cell_alloc d1 o
   have da2:=fun o=>cell_alloc d2 o
   have da3:=fun o=>cell_alloc d3 o
   have da4:=fun o=>cell_alloc d4 o
   have da5:=fun o=>cell_alloc d5 o
   have da6:=fun o=>cell_alloc d6 o
   have da7:=fun o=>cell_alloc d7 o
   have da8:=fun o=>cell_alloc d8 o
   have ga:=fun o j=>R.frozen_alloc lw g0 o j
   cases hm:(m2 == m) with
   | false =>
    have HY:Hid (∀ r∈rowsP.take (k+1),rowFits m path ps r=false):=HHF.out (by rw [HD.out,hm];rfl)
    clear HHT HHF HTA HD
    go_wp2
    go_roundw
    case rel=>exact ⟨k+1,by omega,by go_num,HY.out,below_trans hbw bR⟩
    case measure=>simp [intOf];omega
   | true =>
    cases hp:(pt == path) with
    | false =>
     have HY:Hid (∀ r∈rowsP.take (k+1),rowFits m path ps r=false):=HHF.out (by rw [HD.out,hm,hp];rfl)
     clear HHT HHF HTA HD
     go_wp2
     go_roundw
     case rel=>exact ⟨k+1,by omega,by go_num,HY.out,below_trans hbw bR⟩
     case measure=>simp [intOf];omega
    | true =>
     have TK:Hid (_):=HTA.out (wr.alloc (.cells #[str m2,.bool pt,str p0,str p1,str p2,.int .i64 (ls:Int),.int .i64 (kd:Int),str ac,.bool hb] 225)) (R.phold.call (R.phold.call HH.out hbw) bR) hl hls
     unfold RowP.v at TK
     dsimp only at TK
     cases ht:RowP.takes ⟨m2,pt,p0,p1,p2,ls,kd,ac,hb⟩ ps with
     | false =>
      rw [ht] at TK
      have HY:Hid (∀ r∈rowsP.take (k+1),rowFits m path ps r=false):=HHF.out (by rw [HD.out,hm,hp,ht];rfl)
      clear HHT HHF HTA HD
      go_wp2_with (go_at_call 169;refine Calls.mono TK.out ?_;rintro e w3 ⟨rfl,c3⟩)
      go_roundw
      case rel=>exact ⟨k+1,by omega,by go_num,HY.out,below_trans (below_trans hbw bR) c3⟩
      case measure=>simp [intOf];omega
     | true =>
      rw [ht] at TK
      have HY:Hid (rowP m path ps=some ⟨m2,pt,p0,p1,p2,ls,kd,ac,hb⟩):=by show _=_;rw [HP.out];exact HHT.out (by rw [HD.out,hm,hp,ht];rfl)
      clear HHT HHF HTA HD
      go_wp2_with fail
      refine Calls.mono TK.out ?_
      rintro e w3 ⟨rfl,c3⟩
      have hz2:w.heap.size < (wr.alloc (.cells #[str m2,.bool pt,str p0,str p1,str p2,.int .i64 (ls:Int),.int .i64 (kd:Int),str ac,.bool hb] 225)).heap.size:=by simp;omega
      have hz3:wr.heap.size < (wr.alloc (.cells #[str m2,.bool pt,str p0,str p1,str p2,.int .i64 (ls:Int),.int .i64 (kd:Int),str ac,.bool hb] 225)).heap.size:=by simp
      replace d0:=(c3.cell (p:=⟨w.heap.size,0,none⟩) hz2).trans (da0 _)
      replace d1:=(c3.cell (p:=⟨w.heap.size,1,none⟩) hz2).trans (da1 _)
      replace d2:=(c3.cell (p:=⟨w.heap.size,2,none⟩) hz2).trans (da2 _)
      replace d3:=(c3.cell (p:=⟨w.heap.size,3,none⟩) hz2).trans (da3 _)
      replace d4:=(c3.cell (p:=⟨w.heap.size,4,none⟩) hz2).trans (da4 _)
      replace d5:=(c3.cell (p:=⟨w.heap.size,5,none⟩) hz2).trans (da5 _)
      replace d6:=(c3.cell (p:=⟨w.heap.size,6,none⟩) hz2).trans (da6 _)
      replace d7:=(c3.cell (p:=⟨w.heap.size,7,none⟩) hz2).trans (da7 _)
      replace d8:=(c3.cell (p:=⟨w.heap.size,8,none⟩) hz2).trans (da8 _)
      have x0:w3.cell? ⟨wr.heap.size,0,none⟩=some (str m2):=(c3.cell (p:=⟨wr.heap.size,0,none⟩) hz3).trans (by simp [go_sem])
      have x1:w3.cell? ⟨wr.heap.size,1,none⟩=some (.bool pt):=(c3.cell (p:=⟨wr.heap.size,1,none⟩) hz3).trans (by simp [go_sem])
      have x2:w3.cell? ⟨wr.heap.size,2,none⟩=some (str p0):=(c3.cell (p:=⟨wr.heap.size,2,none⟩) hz3).trans (by simp [go_sem])
      have x3:w3.cell? ⟨wr.heap.size,3,none⟩=some (str p1):=(c3.cell (p:=⟨wr.heap.size,3,none⟩) hz3).trans (by simp [go_sem])
      have x4:w3.cell? ⟨wr.heap.size,4,none⟩=some (str p2):=(c3.cell (p:=⟨wr.heap.size,4,none⟩) hz3).trans (by simp [go_sem])
      have x5:w3.cell? ⟨wr.heap.size,5,none⟩=some (.int .i64 (ls:Int)):=(c3.cell (p:=⟨wr.heap.size,5,none⟩) hz3).trans (by simp [go_sem])
      have x6:w3.cell? ⟨wr.heap.size,6,none⟩=some (.int .i64 (kd:Int)):=(c3.cell (p:=⟨wr.heap.size,6,none⟩) hz3).trans (by simp [go_sem])
      have x7:w3.cell? ⟨wr.heap.size,7,none⟩=some (str ac):=(c3.cell (p:=⟨wr.heap.size,7,none⟩) hz3).trans (by simp [go_sem])
      have x8:w3.cell? ⟨wr.heap.size,8,none⟩=some (.bool hb):=(c3.cell (p:=⟨wr.heap.size,8,none⟩) hz3).trans (by simp [go_sem])
      replace g0:∀ j:Nat,w3.frozen? ⟨w.heap.size,j,none⟩=false:=fun j=>(c3.frozen (p:=⟨w.heap.size,j,none⟩) hz2).trans (ga _ j)
      clear da0 da1 da2 da3 da4 da5 da6 da7 da8 ga TK RI
      go_wp2
      refine bodyPost_ret (v:=.tuple #[.agg #[str m2,.bool pt,str p0,str p1,str p2,.int .i64 (ls:Int),.int .i64 (kd:Int),str ac,.bool hb],.bool true]) ?_ rfl ?_
      ·simp [results,Tryz.results121,go_sem,d0,d1,d2,d3,d4,d5,d6,d7,d8]
      ·exact frPost_ok HY.out (((((((((((below_trans (below_trans B1 bR) c3).setCell (p:=⟨w.heap.size,0,none⟩) (Nat.le_refl _) _).setCell (p:=⟨w.heap.size,1,none⟩) (Nat.le_refl _) _).setCell (p:=⟨w.heap.size,2,none⟩) (Nat.le_refl _) _).setCell (p:=⟨w.heap.size,3,none⟩) (Nat.le_refl _) _).setCell (p:=⟨w.heap.size,4,none⟩) (Nat.le_refl _) _).setCell (p:=⟨w.heap.size,5,none⟩) (Nat.le_refl _) _).setCell (p:=⟨w.heap.size,6,none⟩) (Nat.le_refl _) _).setCell (p:=⟨w.heap.size,7,none⟩) (Nat.le_refl _) _).setCell (p:=⟨w.heap.size,8,none⟩) (Nat.le_refl _) _))
  ·have HY:Hid (rowP m path ps=none):=by
    show _=_;rw [HP.out,List.find?_eq_none]
    intro r hr
    have:=HN.out r (by rw [List.take_of_length_le (by show 9≤k;omega)];exact hr)
    simp [this]
   clear HN
   go_wp2
   refine bodyPost_ret (v:=.tuple #[.agg #[str [],.bool false,str [],str [],str [],.int .i64 0,.int .i64 0,str [],.bool false],.bool false]) ?_ rfl ?_
   ·simp [results,Tryz.results121,go_sem,d0,d1,d2,d3,d4,d5,d6,d7,d8]
   ·exact frPost_no HY.out ⟨[],false,[],[],[],0,0,[],false⟩ ((((((((((B1.setCell (p:=⟨w.heap.size,0,none⟩) (Nat.le_refl _) _).setCell (p:=⟨w.heap.size,1,none⟩) (Nat.le_refl _) _).setCell (p:=⟨w.heap.size,2,none⟩) (Nat.le_refl _) _).setCell (p:=⟨w.heap.size,3,none⟩) (Nat.le_refl _) _).setCell (p:=⟨w.heap.size,4,none⟩) (Nat.le_refl _) _).setCell (p:=⟨w.heap.size,5,none⟩) (Nat.le_refl _) _).setCell (p:=⟨w.heap.size,6,none⟩) (Nat.le_refl _) _).setCell (p:=⟨w.heap.size,7,none⟩) (Nat.le_refl _) _).setCell (p:=⟨w.heap.size,8,none⟩) (Nat.le_refl _) _))
structure AskP where
 kind:Nat
 action:Tx
 bucket:Tx
 key:Tx
 body:Tx
 version:Nat
 pre:Tx
 after:Tx
 max:Nat
def AskP.v (a:AskP):Value:=.agg #[.int .i64 (a.kind:Int),str a.action,str a.bucket,str a.key,str a.body,.int .i64 (a.version:Int),str a.pre,str a.after,.int .i64 (a.max:Int)]
structure AskAt (b:Nat) (a:AskP) (w:World):Prop where
 c0:w.cell? ⟨b,0,none⟩=some (.int .i64 (a.kind:Int))
 c1:w.cell? ⟨b,1,none⟩=some (str a.action)
 c2:w.cell? ⟨b,2,none⟩=some (str a.bucket)
 c3:w.cell? ⟨b,3,none⟩=some (str a.key)
 c4:w.cell? ⟨b,4,none⟩=some (str a.body)
 c5:w.cell? ⟨b,5,none⟩=some (.int .i64 (a.version:Int))
 c6:w.cell? ⟨b,6,none⟩=some (str a.pre)
 c7:w.cell? ⟨b,7,none⟩=some (str a.after)
 c8:w.cell? ⟨b,8,none⟩=some (.int .i64 (a.max:Int))
 fz:∀ j:Nat,w.frozen? ⟨b,j,none⟩=false
theorem AskAt.lt {b:Nat} {a:AskP} {w:World} (h:AskAt b a w):b < w.heap.size:=World.block_lt_of_cell? w ⟨b,0,none⟩ h.c0
theorem AskAt.kept {S:Nat→Prop} {b:Nat} {a:AskP} {w w':World} (h:AskAt b a w) (k:Kept S w w') (hn:¬ S b):AskAt b a w' :=
 ⟨k.cell h.c0 hn,k.cell h.c1 hn,k.cell h.c2 hn,k.cell h.c3 hn,k.cell h.c4 hn,k.cell h.c5 hn,k.cell h.c6 hn,k.cell h.c7 hn,k.cell h.c8 hn,fun j=>k.frozen (a:=⟨b,j,none⟩) h.lt (h.fz j) hn⟩
theorem AskAt.below {b:Nat} {a:AskP} {w w':World} (h:AskAt b a w) (k:Below w.heap.size w w'):AskAt b a w' :=
 h.kept (Kept.of_below k) (fun e=>by have:=h.lt;omega)
theorem AskAt.pre {b:Nat} {a:AskP} {w:World} (h:AskAt b a w) (v:Tx):AskAt b { a with pre:=v } (w.setCell ⟨b,6,none⟩ (str v)):=by
 have c0:=h.c0;have c1:=h.c1;have c2:=h.c2;have c3:=h.c3;have c4:=h.c4;have c5:=h.c5;have c6:=h.c6;have c7:=h.c7;have c8:=h.c8;have fz:=h.fz
 constructor <;> simp [go_sem, *]
theorem AskAt.after {b:Nat} {a:AskP} {w:World} (h:AskAt b a w) (v:Tx):AskAt b { a with after:=v } (w.setCell ⟨b,7,none⟩ (str v)):=by
 have c0:=h.c0;have c1:=h.c1;have c2:=h.c2;have c3:=h.c3;have c4:=h.c4;have c5:=h.c5;have c6:=h.c6;have c7:=h.c7;have c8:=h.c8;have fz:=h.fz
 constructor <;> simp [go_sem, *]
theorem AskAt.max {b:Nat} {a:AskP} {w:World} (h:AskAt b a w) (v:Nat):AskAt b { a with max:=v } (w.setCell ⟨b,8,none⟩ (.int .i64 (v:Int))):=by
 have c0:=h.c0;have c1:=h.c1;have c2:=h.c2;have c3:=h.c3;have c4:=h.c4;have c5:=h.c5;have c6:=h.c6;have c7:=h.c7;have c8:=h.c8;have fz:=h.fz
 constructor <;> simp [go_sem, *]
theorem AskAt.version {b:Nat} {a:AskP} {w:World} (h:AskAt b a w) (v:Nat):AskAt b { a with version:=v } (w.setCell ⟨b,5,none⟩ (.int .i64 (v:Int))):=by
 have c0:=h.c0;have c1:=h.c1;have c2:=h.c2;have c3:=h.c3;have c4:=h.c4;have c5:=h.c5;have c6:=h.c6;have c7:=h.c7;have c8:=h.c8;have fz:=h.fz
 constructor <;> simp [go_sem, *]
def pairA (a:AskP) (n v:Tx):AskP×Bool :=
 if n=sPolicy then (a,v == [])
 else if n=tPrefix then ({ a with pre:=v },true)
 else if n=tAfter then ({ a with after:=v },true)
 else if n=tMax then ({ a with max:=optN (numP v 1 50) },(numP v 1 50).isSome)
 else if n=tVersion then ({ a with version:=optN (numP v 1 999999999) },(numP v 1 999999999).isSome)
 else (a,true)
def pairsA (a:AskP):Hs→AskP×Bool
 | []=>(a,true)
 | p :: ps=>if (pairA a p.1 p.2).2=true then pairsA (pairA a p.1 p.2).1 ps else ((pairA a p.1 p.2).1,false)
def paPost (b:Nat) (x:AskP×Bool) (w:World) (e:Ending) (w':World):Prop:=e=.returned (.bool x.2)∧AskAt b x.1 w'∧Kept (·=b) w w'
theorem paPost_of {b:Nat} {x:AskP×Bool} {a:AskP} {o:Bool} {w w':World} (h:x=(a,o)) (ha:AskAt b a w') (k:Kept (·=b) w w'):paPost b x w (.returned (.bool o)) w':=by subst h;exact ⟨rfl,ha,k⟩
theorem readPair_any (b:Nat) (a:AskP) (n v:Tx) (w:World) (G:GL w) (A:AskAt b a w) (hv:v.length≤1000000) :
  Calls Tryz.prog 175 #[.pointer (some ⟨b,0,none⟩),.agg #[str n,str v]] w (paPost b (pairA a n v) w):=by
 have hb:=A.lt
 have bP:Below w.heap.size w (w.alloc (.cells #[str n,str v] 109)):=(Below.refl _ _).alloc (Nat.le_refl _) _
 have A1:=A.below bP
 have KP:Kept (·=b) w (w.alloc (.cells #[str n,str v] 109)):=(Kept.of_below bP).mono (fun g hg e=>by omega)
 have G1:=G.call bP
 have HD:Hid (pairA a n v=if n=sPolicy then (a,v == []) else if n=tPrefix then ({ a with pre:=v },true) else if n=tAfter then ({ a with after:=v },true) else if n=tMax then ({ a with max:=optN (numP v 1 50) },(numP v 1 50).isSome) else if n=tVersion then ({ a with version:=optN (numP v 1 999999999) },(numP v 1 999999999).isSome) else (a,true)):=rfl
 have N1:Hid (_):=num_all v 1 50 (by omega) (w.alloc (.cells #[str n,str v] 109)) G1 (by omega)
 have N2:Hid (_):=num_all v 1 999999999 (by omega) (w.alloc (.cells #[str n,str v] 109)) G1 (by omega)
 generalize numP v 1 50=o1 at *
 generalize numP v 1 999999999=o2 at *
 unfold sPolicy tPrefix tAfter tMax tVersion at HD
 clear G1 bP
 by_cases h1:n=[112,111,108,105,99,121]
 ·have HX:Hid (pairA a n v=(a,v == [])):=by show _=_;rw [HD.out,if_pos h1]
  subst h1
  clear HD N1 N2
  go_enter Tryz.func175,Tryz.ntmps175
  go_wp2
  go_ret
  exact paPost_of (by rw [HX.out];cases v <;> rfl) A1 KP
 ·have t1:(n == [112,111,108,105,99,121])=false:=by simpa using h1
  rw [if_neg h1] at HD
  by_cases h2:n=[112,114,101,102,105,120]
  ·have HX:Hid (pairA a n v=({ a with pre:=v },true)):=by show _=_;rw [HD.out,if_pos h2]
   subst h2
   have A2:=(A.pre v).below ((Below.refl _ _).alloc (Nat.le_refl _) (.cells #[str [112,114,101,102,105,120],str v] 109))
   have K2:=((Kept.refl (·=b) w).setCell b 6 (str v) (fun _=>rfl)).alloc (.cells #[str [112,114,101,102,105,120],str v] 109)
   have c6:=A1.c6;have f6:=A1.fz 6
   clear HD N1 N2
   go_enter Tryz.func175,Tryz.ntmps175
   go_wp2
   go_ret
   exact paPost_of HX.out A2 K2
  ·have t2:(n == [112,114,101,102,105,120])=false:=by simpa using h2
   rw [if_neg h2] at HD
   by_cases h3:n=[97,102,116,101,114]
   ·have HX:Hid (pairA a n v=({ a with after:=v },true)):=by show _=_;rw [HD.out,if_pos h3]
    subst h3
    have A2:=(A.after v).below ((Below.refl _ _).alloc (Nat.le_refl _) (.cells #[str [97,102,116,101,114],str v] 109))
    have K2:=((Kept.refl (·=b) w).setCell b 7 (str v) (fun _=>rfl)).alloc (.cells #[str [97,102,116,101,114],str v] 109)
    have c6:=A1.c7;have f6:=A1.fz 7
    clear HD N1 N2
    go_enter Tryz.func175,Tryz.ntmps175
    go_wp2
    go_ret
    exact paPost_of HX.out A2 K2
   ·have t3:(n == [97,102,116,101,114])=false:=by simpa using h3
    rw [if_neg h3] at HD
    by_cases h4:n=[109,97,120]
    ·have HX:Hid (pairA a n v=({ a with max:=optN o1 },o1.isSome)):=by show _=_;rw [HD.out,if_pos h4]
     subst h4
     clear HD
     go_enter Tryz.func175,Tryz.ntmps175
     go_wp2_with fail
     refine Calls.mono N1.out ?_
     rintro e w1 ⟨rfl,b1⟩
     have A2:=A1.below b1
     have A3:=A2.max (optN o1)
     have hs1:=b1.size
     have K3:=(KP.trans (Kept.of_below b1) (fun g hg e=>by simp at e hs1;omega)).setCell b 8 (.int .i64 (optN o1:Int)) (fun _=>rfl)
     have c6:=A2.c8;have f6:=A2.fz 8
     clear N1 N2 A1 A2 KP
     generalize optN o1=q at *
     generalize o1.isSome=z at *
     go_wp2
     go_ret
     exact paPost_of HX.out A3 K3
    ·have t4:(n == [109,97,120])=false:=by simpa using h4
     rw [if_neg h4] at HD
     by_cases h5:n=[118,101,114,115,105,111,110]
     ·have HX:Hid (pairA a n v=({ a with version:=optN o2 },o2.isSome)):=by show _=_;rw [HD.out,if_pos h5]
      subst h5
      clear HD
      go_enter Tryz.func175,Tryz.ntmps175
      go_wp2_with fail
      refine Calls.mono N2.out ?_
      rintro e w1 ⟨rfl,b1⟩
      have A2:=A1.below b1
      have A3:=A2.version (optN o2)
      have hs1:=b1.size
      have K3:=(KP.trans (Kept.of_below b1) (fun g hg e=>by simp at e hs1;omega)).setCell b 5 (.int .i64 (optN o2:Int)) (fun _=>rfl)
      have c6:=A2.c5;have f6:=A2.fz 5
      clear N1 N2 A1 A2 KP
      generalize optN o2=q at *
      generalize o2.isSome=z at *
      go_wp2
      go_ret
      exact paPost_of HX.out A3 K3
     ·have t5:(n == [118,101,114,115,105,111,110])=false:=by simpa using h5
      rw [if_neg h5] at HD
      clear N1 N2
      go_enter Tryz.func175,Tryz.ntmps175
      go_wp2
      go_ret
      exact paPost_of HD.out A1 KP
theorem pairsA_step {a:AskP} {ps:Hs} {k:Nat} (h:k < ps.length):pairsA a (ps.drop k)=if (pairA a ps[k].1 ps[k].2).2=true then pairsA (pairA a ps[k].1 ps[k].2).1 (ps.drop (k+1)) else ((pairA a ps[k].1 ps[k].2).1,false):=by
 rw [List.drop_eq_getElem_cons h,pairsA]
theorem readPairs2_any (b:Nat) (a:AskP) (pa:Option Addr) (pc:Nat) (ps:Hs) (w:World) (G:GL w) (A:AskAt b a w) (hb13:13≤b) (h:R.phold w b (.slice pa ps.length pc) ps) (hl:ps.length≤1000000) (hps:∀ p∈ps,p.1.length≤1000000∧p.2.length≤1000000) :
  Calls Tryz.prog 124 #[.pointer (some ⟨b,0,none⟩),.slice pa ps.length pc] w (paPost b (pairsA a ps) w):=by
 have hb:=A.lt
 have HH:Hid (R.phold w b (.slice pa ps.length pc) ps):=h
 have HL:Hid (∀ p∈ps,p.1.length≤1000000∧p.2.length≤1000000):=hps
 have HA:Hid (AskAt b a w):=A
 clear h hps A
 go_enter Tryz.func124,Tryz.ntmps124
 go_wp2
 go_loopw [9] (fun i wr=>∃ (k:Nat) (a':AskP),k≤ps.length∧i=.int .i64 k∧pairsA a ps=pairsA a' (ps.drop k)∧AskAt b a' wr∧Kept (·=b) w wr) (fun i _=>ps.length - (intOf i).toNat)
 case atStart=>exact ⟨0,a,Nat.zero_le _,rfl,rfl,HA.out,Kept.refl _ _⟩
 case round =>
  obtain ⟨k,a',hk,rfl,hpa,A',K'⟩:=hrel
  have HN:Hid (pairsA a ps=pairsA a' (ps.drop k)):=hpa
  clear hpa
  have hsr:=K'.size
  by_cases hlt:k < ps.length
  ·obtain ⟨g,rfl,hg,q0,q1⟩:=R.phold.at HH.out hlt
   have HS:Hid (pairsA a ps=if (pairA a' ps[k].1 ps[k].2).2=true then pairsA (pairA a' ps[k].1 ps[k].2).1 (ps.drop (k+1)) else ((pairA a' ps[k].1 ps[k].2).1,false)):=HN.out.trans (pairsA_step hlt)
   have hxl:=(HL.out ps[k] (List.getElem_mem hlt)).2
   obtain ⟨x,z,hxz⟩:∃ x z,ps[k]=(x,z):=⟨_,_,rfl⟩
   rw [hxz] at q0 q1 HS hxl
   simp only at hxl
   replace q0:=K'.cell q0 (fun e=>by simp at e;omega)
   replace q1:=K'.cell q1 (fun e=>by simp at e;omega)
   have bP:Below wr.heap.size wr (wr.alloc (.cells #[str x,str z] 109)):=(Below.refl _ _).alloc (Nat.le_refl _) _
   have A1:=A'.below bP
   have K1:=K'.alloc (.cells #[str x,str z] 109)
   have G1:=G.kept K1 (fun g e=>by subst e;exact hb13)
   have RP:Hid (_):=readPair_any b a' x z (wr.alloc (.cells #[str x,str z] 109)) G1 A1 hxl
   generalize pairA a' x z=y at *
   obtain ⟨a2,o⟩:=y
   clear HN hxz A' K' G1
   go_wp2_with fail
   refine Calls.mono RP.out ?_
   rintro e w1 ⟨rfl,A2,K2⟩
   dsimp only at A2
   have K3:Kept (·=b) w w1:=K1.trans K2 (fun _ _ e=>e)
   clear RP A1 K1 K2
   cases o with
   | true =>
    have HY:Hid (pairsA a ps=pairsA a2 (ps.drop (k+1))):=by show _=_;rw [HS.out];rfl
    clear HS
    go_wp2
    go_roundw
    case rel=>exact ⟨k+1,a2,by omega,by go_num,HY.out,A2,K3⟩
    case measure=>simp [intOf];omega
   | false =>
    have HY:Hid (pairsA a ps=(a2,false)):=by show _=_;rw [HS.out];rfl
    clear HS
    go_wp2
    go_ret
    exact paPost_of HY.out A2 K3
  ·have HY:Hid (pairsA a ps=(a',true)):=by show _=_;rw [HN.out,List.drop_eq_nil_of_le (by omega)];rfl
   clear HN
   go_wp2
   go_ret
   exact paPost_of HY.out A' K'
end Go.Proofs.YtbllcgibmgbnjaaGreatDoor.P
