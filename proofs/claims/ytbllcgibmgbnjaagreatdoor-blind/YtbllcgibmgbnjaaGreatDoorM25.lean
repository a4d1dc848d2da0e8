import Derived.Test.YtbllcgibmgbnjaaGreatDoorM24
import Derived.Test.YtbllcgibmgbnjaaGreatDoorM14
set_option maxHeartbeats 8000000
set_option maxRecDepth 20000
namespace Go.Proofs.YtbllcgibmgbnjaaGreatDoor.P
open Go.RowKit
open C (ret_bool ret_int ret_str)
def rqPost (x:Except Nat (Tx×AskP)) (w:World) (e:Ending) (w':World):Prop:=Below w.heap.size w w'∧match x with
 | .ok p=>e=.returned (.tuple #[str p.1,p.2.v,.nilIface])
 | .error n=>∃ (u:Tx) (q:AskP) (c:Value),c.oneCell'=true∧e=.returned (.tuple #[str u,q.v,.iface 148 (.agg #[.int .i64 (n:Int),c])])
theorem rqPost_no {x:Except Nat (Tx×AskP)} {w w':World} {n:Nat} (h:x=.error n) (hb:Below w.heap.size w w') (u:Tx) (q:AskP) (c:Value) (hc:c.oneCell'=true):rqPost x w (.returned (.tuple #[str u,q.v,.iface 148 (.agg #[.int .i64 (n:Int),c])])) w':=by
 subst h;exact ⟨hb,u,q,c,hc,rfl⟩
theorem rqPost_ok {x:Except Nat (Tx×AskP)} {w w':World} {u:Tx} {q:AskP} (h:x=.ok (u,q)) (hb:Below w.heap.size w w'):rqPost x w (.returned (.tuple #[str u,q.v,.nilIface])) w':=by
 subst h;exact ⟨hb,rfl⟩
theorem parse_num (t:Tx):(R.parseOf t).1=0∨(R.parseOf t).1=1∨(R.parseOf t).1=2:=by
 unfold R.parseOf
 split
 ·exact .inr (.inl rfl)
 ·split
  ·exact .inr (.inr rfl)
  ·split
   ·exact .inr (.inl rfl)
   ·exact .inl rfl
theorem rq_any (a b:Nat) (us:Us) (clock:Nat) (s:Sto) (r:Roles) (t:Tx) (hl:t.length≤9223372036854775807) (w:World) (G:GL w) (L:LS a b us clock s r w) :
  Calls Tryz.prog 55 #[.pointer (some ⟨a,0,none⟩),str t] w (rqPost (readP us clock t) w):=by
 have F:=R.parse_fits t
 have NN:=parse_num t
 have HX:Hid (readP us clock t=if (R.parseOf t).1=1 then .error 413 else if (R.parseOf t).1≠0 then .error 400 else
  match signerP (R.parseOf t).2.method (R.parseOf t).2.path (R.parseOf t).2.query (R.parseOf t).2.headers (R.parseOf t).2.body us clock with
  | none=>.error 403
  | some u=>match askP (R.parseOf t).2.method (R.parseOf t).2.path (R.parseOf t).2.query (R.parseOf t).2.body with
   | none=>.error 400
   | some q=>.ok (u,q)):=rfl
 have b0:Below w.heap.size w (w.alloc zeroAsk):=(Below.refl _ _).alloc (Nat.le_refl _) _
 have C:Hid (_):=R.parse_any t (w.alloc zeroAsk) (G.call b0).env hl
 have AZ:AskAt w.heap.size zeroAskP (w.alloc zeroAsk):=askAt_zero w
 obtain ⟨ua,uc,hc0,hU,hur⟩:=L.l0
 have HU:Hid (UR ua us w):=hU
 have HL:Hid (LS a b us clock s r w):=L
 have RF:Hid (∀ (n:Nat) (v:Value) w,Calls Tryz.prog 80 #[.int .i64 (n:Int),.iface 153 v] w fun e w'=>e=.returned (.iface 148 (.agg #[.int .i64 (n:Int),.iface 153 v]))∧w=w'):=fun n v w=>refuse_any n _ (.inr ⟨_,_,rfl⟩) w
 generalize readP us clock t=X at *
 generalize R.parseOf t=x at *
 obtain ⟨n,rq⟩:=x
 simp only at F NN HX
 clear hU hur L
 go_enter Tryz.func55,Tryz.ntmps55
 go_wp2_with fail
 refine Calls.mono C.out ?_
 rintro e w1 ⟨hb1,vq,vh,M,rfl,hq,hM,hh,_⟩
 simp only at hq hh
 obtain ⟨qa,qn,qc,rfl,_⟩:=hq.any
 obtain ⟨ha,hm,hc,rfl,_⟩:=hh.any
 have HQ:=hq.hold
 have HH:=hh.hold
 clear hq hh hM C
 have hW:Below w1.heap.size w1 (w1.alloc (.cells #[str rq.method,str rq.path,.slice qa qn qc,.slice ha hm hc,str rq.body] 97)):=(Below.refl _ _).alloc (Nat.le_refl _) _
 have B1:=below_trans b0 hb1
 have B2:=below_trans B1 hW
 have HQ2:Hid (_):=R.phold.call HQ hW
 have HH2:Hid (_):=R.phold.call HH hW
 have z1:=hb1.size
 have m0:w.heap.size < w1.heap.size:=by simp at z1;omega
 have AZ2:=(AZ.below hb1).below hW
 have k0:=HL.out.below B2
 have k1:=k0.l1
 have k00:(w1.alloc (.cells #[str rq.method,str rq.path,.slice qa qn qc,.slice ha hm hc,str rq.body] 97)).cell? ⟨a,0,none⟩=some (.slice ua us.length uc):=(B2.cell (p:=⟨a,0,none⟩) HL.out.al).trans hc0
 clear HQ HH k0 AZ hc0 z1
 have hz9:=askZ_of AZ2;unfold askZ at hz9;have z0:=hz9.1;have z1:=hz9.2.1;have z2:=hz9.2.2.1;have z3:=hz9.2.2.2.1;have z4:=hz9.2.2.2.2.1;have z5:=hz9.2.2.2.2.2.1;have z6:=hz9.2.2.2.2.2.2.1;have z7:=hz9.2.2.2.2.2.2.2.1;have z8:=hz9.2.2.2.2.2.2.2.2.1;have zf:=hz9.2.2.2.2.2.2.2.2.2;clear hz9
 rcases NN with rfl|rfl|rfl
 ·rw [if_neg (by decide),if_neg (by decide)] at HX
  have y0:(w1.alloc (.cells #[str rq.method,str rq.path,.slice qa qn qc,.slice ha hm hc,str rq.body] 97)).cell? ⟨w1.heap.size,0,none⟩=some (str rq.method):=by simp [go_sem]
  have y1:(w1.alloc (.cells #[str rq.method,str rq.path,.slice qa qn qc,.slice ha hm hc,str rq.body] 97)).cell? ⟨w1.heap.size,1,none⟩=some (str rq.path):=by simp [go_sem]
  have y2:(w1.alloc (.cells #[str rq.method,str rq.path,.slice qa qn qc,.slice ha hm hc,str rq.body] 97)).cell? ⟨w1.heap.size,2,none⟩=some (.slice qa qn qc):=by simp [go_sem]
  have y3:(w1.alloc (.cells #[str rq.method,str rq.path,.slice qa qn qc,.slice ha hm hc,str rq.body] 97)).cell? ⟨w1.heap.size,3,none⟩=some (.slice ha hm hc):=by simp [go_sem]
  have y4:(w1.alloc (.cells #[str rq.method,str rq.path,.slice qa qn qc,.slice ha hm hc,str rq.body] 97)).cell? ⟨w1.heap.size,4,none⟩=some (str rq.body):=by simp [go_sem]
  have m2:w1.heap.size < (w1.alloc (.cells #[str rq.method,str rq.path,.slice qa qn qc,.slice ha hm hc,str rq.body] 97)).heap.size:=by simp
  clear hW
  go_wp2_with fail
  generalize hW2:w1.alloc (.cells #[str rq.method,str rq.path,.slice qa qn qc,.slice ha hm hc,str rq.body] 97)=W2 at *
  clear hW2
  have BD:=below_trans B2 (below_drew W2)
  have HQ3:Hid (_):=R.phold.call HQ2.out (below_drew W2)
  have HH3:Hid (_):=R.phold.call HH2.out (below_drew W2)
  have GD:Hid (_):=G.call BD
  have WH:Hid (_):=who_any rq.method rq.path rq.query rq.headers (.slice qa qn qc) (.slice ha hm hc) rq.body ua uc us clock HL.out.cl W2.drew GD.out HQ3.out HH3.out (HU.out.below BD) HL.out.ul (fun u hu=>(HL.out.un u hu).2) F.m F.p F.q F.qs F.h F.y F.hs
  have RD:Hid (∀ W,GL W→R.phold W W.heap.size (.slice qa qn qc) rq.query→R.phold W W.heap.size (.slice ha hm hc) rq.headers→_):=fun W GW h1 h2=>askRead_any rq.method rq.path rq.query rq.headers (.slice qa qn qc) (.slice ha hm hc) rq.body W GW h1 F.m F.p F.q F.qs F.y h2
  have AZD:=AZ2.below (below_drew W2)
  have HF:Hid (R.Fits rq):=F
  clear HQ2 HH2 B2 F z0 z1 z2 z3 z4 z5 z6 z7 z8 zf AZ2
  generalize signerP rq.method rq.path rq.query rq.headers rq.body us clock=so at *
  generalize askP rq.method rq.path rq.query rq.body=ao at *
  have xd:W2.drew.cell? ⟨a,0,none⟩=some (.slice ua us.length uc)∧W2.drew.cell? ⟨a,1,none⟩=some (.int .i64 (clock:Int))∧W2.drew.cell? ⟨w1.heap.size,0,none⟩=some (str rq.method)∧W2.drew.cell? ⟨w1.heap.size,1,none⟩=some (str rq.path)∧W2.drew.cell? ⟨w1.heap.size,2,none⟩=some (.slice qa qn qc)∧W2.drew.cell? ⟨w1.heap.size,3,none⟩=some (.slice ha hm hc)∧W2.drew.cell? ⟨w1.heap.size,4,none⟩=some (str rq.body):=⟨k00,k1,y0,y1,y2,y3,y4⟩
  have xw:W2.cell? ⟨a,0,none⟩=some (.slice ua us.length uc)∧W2.cell? ⟨a,1,none⟩=some (.int .i64 (clock:Int))∧W2.cell? ⟨w1.heap.size,0,none⟩=some (str rq.method)∧W2.cell? ⟨w1.heap.size,1,none⟩=some (str rq.path)∧W2.cell? ⟨w1.heap.size,2,none⟩=some (.slice qa qn qc)∧W2.cell? ⟨w1.heap.size,3,none⟩=some (.slice ha hm hc)∧W2.cell? ⟨w1.heap.size,4,none⟩=some (str rq.body):=⟨k00,k1,y0,y1,y2,y3,y4⟩
  have hal:a < W2.drew.heap.size:=Nat.lt_of_lt_of_le HL.out.al BD.size
  have D3:Hid (Calls Tryz.prog 81 #[.agg #[str rq.method,str rq.path,.slice qa qn qc,.slice ha hm hc,str rq.body],.slice ua us.length uc,.int .i64 (clock:Int)] W2.drew fun e w'=>whoPost so W2.drew e w'∧(w'.cell? ⟨a,0,none⟩=some (.slice ua us.length uc)∧w'.cell? ⟨a,1,none⟩=some (.int .i64 (clock:Int))∧w'.cell? ⟨w1.heap.size,0,none⟩=some (str rq.method)∧w'.cell? ⟨w1.heap.size,1,none⟩=some (str rq.path)∧w'.cell? ⟨w1.heap.size,2,none⟩=some (.slice qa qn qc)∧w'.cell? ⟨w1.heap.size,3,none⟩=some (.slice ha hm hc)∧w'.cell? ⟨w1.heap.size,4,none⟩=some (str rq.body))):=Calls.mono WH.out fun e w' h=>⟨h,by
   have k:=h.1
   exact ⟨(k.cell (p:=⟨a,0,none⟩) hal).trans k00,(k.cell (p:=⟨a,1,none⟩) hal).trans k1,(k.cell (p:=⟨w1.heap.size,0,none⟩) m2).trans y0,(k.cell (p:=⟨w1.heap.size,1,none⟩) m2).trans y1,(k.cell (p:=⟨w1.heap.size,2,none⟩) m2).trans y2,(k.cell (p:=⟨w1.heap.size,3,none⟩) m2).trans y3,(k.cell (p:=⟨w1.heap.size,4,none⟩) m2).trans y4⟩⟩
  clear WH
  cases so with
  | none =>
   have D4:Hid (Calls Tryz.prog 81 #[.agg #[str rq.method,str rq.path,.slice qa qn qc,.slice ha hm hc,str rq.body],.slice ua us.length uc,.int .i64 (clock:Int)] W2.drew fun e w'=>(Below W2.drew.heap.size W2.drew w'∧∃ c:Value,c.oneCell'=true∧e=.returned (.tuple #[str [],.iface 148 (.agg #[.int .i64 403,c])]))∧(w'.cell? ⟨a,0,none⟩=some (.slice ua us.length uc)∧w'.cell? ⟨a,1,none⟩=some (.int .i64 (clock:Int))∧w'.cell? ⟨w1.heap.size,0,none⟩=some (str rq.method)∧w'.cell? ⟨w1.heap.size,1,none⟩=some (str rq.path)∧w'.cell? ⟨w1.heap.size,2,none⟩=some (.slice qa qn qc)∧w'.cell? ⟨w1.heap.size,3,none⟩=some (.slice ha hm hc)∧w'.cell? ⟨w1.heap.size,4,none⟩=some (str rq.body))):=D3.out
   clear D3
   go_region_held3 (fun w'=>w'.cell? ⟨a,0,none⟩=some (.slice ua us.length uc)∧w'.cell? ⟨a,1,none⟩=some (.int .i64 (clock:Int))∧w'.cell? ⟨w1.heap.size,0,none⟩=some (str rq.method)∧w'.cell? ⟨w1.heap.size,1,none⟩=some (str rq.path)∧w'.cell? ⟨w1.heap.size,2,none⟩=some (.slice qa qn qc)∧w'.cell? ⟨w1.heap.size,3,none⟩=some (.slice ha hm hc)∧w'.cell? ⟨w1.heap.size,4,none⟩=some (str rq.body)) (first|with_reducible exact xd|with_reducible exact x5) ((go_at_call 81;with_reducible refine Calls.mono D4.out ?_;rintro e w3 ⟨⟨b3,c,hcc,rfl⟩,x5⟩))
   all_goals (
    have B3:=below_trans BD b3
    have AZ3:=AZD.below b3
    have hz9:=askZ_of AZ3;unfold askZ at hz9;have z0:=hz9.1;have z1:=hz9.2.1;have z2:=hz9.2.2.1;have z3:=hz9.2.2.2.1;have z4:=hz9.2.2.2.2.1;have z5:=hz9.2.2.2.2.2.1;have z6:=hz9.2.2.2.2.2.2.1;have z7:=hz9.2.2.2.2.2.2.2.1;have z8:=hz9.2.2.2.2.2.2.2.2.1;have zf:=hz9.2.2.2.2.2.2.2.2.2;clear hz9
    have u0:w3.cell? ⟨w1.heap.size,0,none⟩=some (str rq.method):=(b3.cell (p:=⟨w1.heap.size,0,none⟩) m2).trans y0
    have u1:w3.cell? ⟨w1.heap.size,1,none⟩=some (str rq.path):=(b3.cell (p:=⟨w1.heap.size,1,none⟩) m2).trans y1
    have u2:w3.cell? ⟨w1.heap.size,2,none⟩=some (.slice qa qn qc):=(b3.cell (p:=⟨w1.heap.size,2,none⟩) m2).trans y2
    have u3:w3.cell? ⟨w1.heap.size,3,none⟩=some (.slice ha hm hc):=(b3.cell (p:=⟨w1.heap.size,3,none⟩) m2).trans y3
    have u4:w3.cell? ⟨w1.heap.size,4,none⟩=some (str rq.body):=(b3.cell (p:=⟨w1.heap.size,4,none⟩) m2).trans y4
    clear y0 y1 y2 y3 y4 k1 k00 D4 x5 xd xw
    have HB:Hid (_):=below_set9 B3 (Nat.le_refl _) zeroAskP
    clear B3 b3 BD AZD AZ3 RD
    go_wp2
    refine bodyPost_ret (v:=.tuple #[str [],zeroAskP.v,.iface 148 (.agg #[.int .i64 403,c])]) ?_ rfl ?_
    ·simp [results,Tryz.results55,go_sem,z0,z1,z2,z3,z4,z5,z6,z7,z8,zeroAskP,AskP.v]
    ·exact rqPost_no HX.out HB.out [] zeroAskP c hcc)
  | some u =>
   have D4:Hid (Calls Tryz.prog 81 #[.agg #[str rq.method,str rq.path,.slice qa qn qc,.slice ha hm hc,str rq.body],.slice ua us.length uc,.int .i64 (clock:Int)] W2.drew fun e w'=>(Below W2.drew.heap.size W2.drew w'∧e=.returned (.tuple #[str u,.nilIface]))∧(w'.cell? ⟨a,0,none⟩=some (.slice ua us.length uc)∧w'.cell? ⟨a,1,none⟩=some (.int .i64 (clock:Int))∧w'.cell? ⟨w1.heap.size,0,none⟩=some (str rq.method)∧w'.cell? ⟨w1.heap.size,1,none⟩=some (str rq.path)∧w'.cell? ⟨w1.heap.size,2,none⟩=some (.slice qa qn qc)∧w'.cell? ⟨w1.heap.size,3,none⟩=some (.slice ha hm hc)∧w'.cell? ⟨w1.heap.size,4,none⟩=some (str rq.body))):=D3.out
   clear D3
   go_region_held3 (fun w'=>w'.cell? ⟨a,0,none⟩=some (.slice ua us.length uc)∧w'.cell? ⟨a,1,none⟩=some (.int .i64 (clock:Int))∧w'.cell? ⟨w1.heap.size,0,none⟩=some (str rq.method)∧w'.cell? ⟨w1.heap.size,1,none⟩=some (str rq.path)∧w'.cell? ⟨w1.heap.size,2,none⟩=some (.slice qa qn qc)∧w'.cell? ⟨w1.heap.size,3,none⟩=some (.slice ha hm hc)∧w'.cell? ⟨w1.heap.size,4,none⟩=some (str rq.body)) (first|with_reducible exact xd|with_reducible exact x5) ((go_at_call 81;with_reducible refine Calls.mono D4.out ?_;rintro e w3 ⟨⟨b3,rfl⟩,x5⟩))
   all_goals (
    have B3:=below_trans BD b3
    have AZ3:=AZD.below b3
    have hz9:=askZ_of AZ3;unfold askZ at hz9;have z0:=hz9.1;have z1:=hz9.2.1;have z2:=hz9.2.2.1;have z3:=hz9.2.2.2.1;have z4:=hz9.2.2.2.2.1;have z5:=hz9.2.2.2.2.2.1;have z6:=hz9.2.2.2.2.2.2.1;have z7:=hz9.2.2.2.2.2.2.2.1;have z8:=hz9.2.2.2.2.2.2.2.2.1;have zf:=hz9.2.2.2.2.2.2.2.2.2;clear hz9
    have u0:w3.cell? ⟨w1.heap.size,0,none⟩=some (str rq.method):=(b3.cell (p:=⟨w1.heap.size,0,none⟩) m2).trans y0
    have u1:w3.cell? ⟨w1.heap.size,1,none⟩=some (str rq.path):=(b3.cell (p:=⟨w1.heap.size,1,none⟩) m2).trans y1
    have u2:w3.cell? ⟨w1.heap.size,2,none⟩=some (.slice qa qn qc):=(b3.cell (p:=⟨w1.heap.size,2,none⟩) m2).trans y2
    have u3:w3.cell? ⟨w1.heap.size,3,none⟩=some (.slice ha hm hc):=(b3.cell (p:=⟨w1.heap.size,3,none⟩) m2).trans y3
    have u4:w3.cell? ⟨w1.heap.size,4,none⟩=some (str rq.body):=(b3.cell (p:=⟨w1.heap.size,4,none⟩) m2).trans y4
    clear y0 y1 y2 y3 y4 k1 k00 D4 x5 xd xw
    have RD3:Hid (_):=RD.out w3 (GD.out.call b3) (R.phold.call HQ3.out b3) (R.phold.call HH3.out b3)
    clear RD HQ3 HH3 GD
    go_wp2_with fail
    refine Calls.mono RD3.out ?_
    rintro e w4 ⟨b4,hr⟩
    have B4:=below_trans B3 b4
    have AZ4:=AZ3.below b4
    have AQ:∀ q:AskP,AskAt w.heap.size zeroAskP (w4.alloc (askC q)):=fun q=>AZ4.below ((Below.refl _ _).alloc (Nat.le_refl _) _)
    clear z0 z1 z2 z3 z4 z5 z6 z7 z8 zf u0 u1 u2 u3 u4
    have hs4:w.heap.size < w4.heap.size:=AZ4.lt
    cases ao with
    | none =>
     obtain ⟨c,hcc,rfl⟩:=hr
     have HB:Hid (Below w.heap.size w (w4.alloc (askC zeroAskP))):=B4.alloc B4.size (askC zeroAskP)
     have hz9:=askZ_of (AQ zeroAskP);unfold askZ at hz9;have z0:=hz9.1;have z1:=hz9.2.1;have z2:=hz9.2.2.1;have z3:=hz9.2.2.2.1;have z4:=hz9.2.2.2.2.1;have z5:=hz9.2.2.2.2.2.1;have z6:=hz9.2.2.2.2.2.2.1;have z7:=hz9.2.2.2.2.2.2.2.1;have z8:=hz9.2.2.2.2.2.2.2.2.1;have zf:=hz9.2.2.2.2.2.2.2.2.2;clear hz9
     have HX2:Hid (X=.error 400):=HX.out
     clear B4 b4 B3 b3 BD AZD AZ3 AZ4 AQ RD3 HX
     simp only [zeroAskP,AskP.v] at *
     go_wp2
     have AN:=askAt_new w4 ⟨0,[],[],[],[],0,[],[],0⟩
     have BW:Below w.heap.size w (w4.alloc (askC ⟨0,[],[],[],[],0,[],[],0⟩)):=HB.out
     generalize hW4:w4.alloc (askC ⟨0,[],[],[],[],0,[],[],0⟩)=W4 at *
     clear hW4
     have q0:=AN.c0;have q1:=AN.c1;have q2:=AN.c2;have q3:=AN.c3;have q4:=AN.c4;have q5:=AN.c5;have q6:=AN.c6;have q7:=AN.c7;have q8:=AN.c8;clear AN
     go_region
     all_goals go_wp2
     refine bodyPost_ret (v:=.tuple #[str u,zeroAskP.v,.iface 148 (.agg #[.int .i64 400,c])]) ?_ rfl ?_
     ·simp [results,Tryz.results55,go_sem,z0,z1,z2,z3,z4,z5,z6,z7,z8,zeroAskP,AskP.v]
     ·refine rqPost_no HX2.out ?_ u zeroAskP c hcc
      exact (below_set9 BW (Nat.le_refl _) ⟨0,[],[],[],[],0,[],[],0⟩).drew
    | some q =>
     obtain rfl:=hr
     have HB:Hid (Below w.heap.size w (w4.alloc (askC q))):=B4.alloc B4.size (askC q)
     have hz9:=askZ_of (AQ q);unfold askZ at hz9;have z0:=hz9.1;have z1:=hz9.2.1;have z2:=hz9.2.2.1;have z3:=hz9.2.2.2.1;have z4:=hz9.2.2.2.2.1;have z5:=hz9.2.2.2.2.2.1;have z6:=hz9.2.2.2.2.2.2.1;have z7:=hz9.2.2.2.2.2.2.2.1;have z8:=hz9.2.2.2.2.2.2.2.2.1;have zf:=hz9.2.2.2.2.2.2.2.2.2;clear hz9
     have HX2:Hid (X=.ok (u,q)):=HX.out
     clear B4 b4 B3 b3 BD AZD AZ3 AZ4 AQ RD3 HX
     obtain ⟨kd,ac,bk,ky,y,vn,pf,af,mx⟩:=q
     simp only [AskP.v] at *
     go_wp2
     have AN:=askAt_new w4 ⟨kd,ac,bk,ky,y,vn,pf,af,mx⟩
     have BW:Below w.heap.size w (w4.alloc (askC ⟨kd,ac,bk,ky,y,vn,pf,af,mx⟩)):=HB.out
     generalize hW4:w4.alloc (askC ⟨kd,ac,bk,ky,y,vn,pf,af,mx⟩)=W4 at *
     clear hW4
     have q0:=AN.c0;have q1:=AN.c1;have q2:=AN.c2;have q3:=AN.c3;have q4:=AN.c4;have q5:=AN.c5;have q6:=AN.c6;have q7:=AN.c7;have q8:=AN.c8;clear AN
     go_region
     all_goals go_wp2
     refine bodyPost_ret (v:=.tuple #[str u,.agg #[.int .i64 (kd:Int),str ac,str bk,str ky,str y,.int .i64 (vn:Int),str pf,str af,.int .i64 (mx:Int)],.nilIface]) ?_ rfl ?_
     ·simp [results,Tryz.results55,go_sem,z0,z1,z2,z3,z4,z5,z6,z7,z8]
     ·refine rqPost_ok HX2.out ?_
      with_reducible exact (below_set9 BW (Nat.le_refl _) ⟨kd,ac,bk,ky,y,vn,pf,af,mx⟩).drew)
 ·rw [if_pos rfl] at HX
  have HB:Hid (_):=below_set9 B2 (Nat.le_refl _) zeroAskP
  clear B2 B1 hW hb1 b0 AZ2 HQ2 HH2
  go_wp2_with fail
  generalize hW2:w1.alloc (.cells #[str rq.method,str rq.path,.slice qa qn qc,.slice ha hm hc,str rq.body] 97)=W2 at *
  clear hW2
  refine Calls.mono (RF.out 413 _ _) ?_
  rintro e w' ⟨rfl,rfl⟩
  go_wp2
  refine bodyPost_ret (v:=.tuple #[str [],zeroAskP.v,.iface 148 (.agg #[.int .i64 413,.iface 153 (.int .i64 1)])]) ?_ rfl ?_
  ·simp [results,Tryz.results55,go_sem,z0,z1,z2,z3,z4,z5,z6,z7,z8,zeroAskP,AskP.v]
  ·exact rqPost_no HX.out HB.out [] zeroAskP _ rfl
 ·rw [if_neg (by decide),if_pos (by decide)] at HX
  have HB:Hid (_):=below_set9 B2 (Nat.le_refl _) zeroAskP
  clear B2 B1 hW hb1 b0 AZ2 HQ2 HH2
  go_wp2_with fail
  generalize hW2:w1.alloc (.cells #[str rq.method,str rq.path,.slice qa qn qc,.slice ha hm hc,str rq.body] 97)=W2 at *
  clear hW2
  refine Calls.mono (RF.out 400 _ _) ?_
  rintro e w' ⟨rfl,rfl⟩
  go_wp2
  refine bodyPost_ret (v:=.tuple #[str [],zeroAskP.v,.iface 148 (.agg #[.int .i64 400,.iface 153 (.int .i64 2)])]) ?_ rfl ?_
  ·simp [results,Tryz.results55,go_sem,z0,z1,z2,z3,z4,z5,z6,z7,z8,zeroAskP,AskP.v]
  ·exact rqPost_no HX.out HB.out [] zeroAskP _ rfl
def mayP (s:Sto) (u:Tx) (q:AskP):Nat:=if q.kind=0 then 200 else s.may u q.action q.bucket q.key
def respP (us:Us) (clock:Nat) (s:Sto) (t:Tx):Nat×Hs×Tx×Sto:=match readP us clock t with
 | .error n=>(n,[],[],s)
 | .ok p=>if mayP s p.1 p.2=200 then serveP s p.1 p.2 else (mayP s p.1 p.2,[],[],s)
def noList (us:Us) (clock:Nat) (s:Sto) (t:Tx):Prop:=∀ p,readP us clock t=.ok p→mayP s p.1 p.2=200→p.2.kind≠4
theorem resp_err {us:Us} {clock:Nat} {s:Sto} {t:Tx} {n:Nat} (h:readP us clock t=.error n):respP us clock s t=(n,[],[],s):=by unfold respP;rw [h]
theorem resp_not {us:Us} {clock:Nat} {s:Sto} {t u:Tx} {q:AskP} (h:readP us clock t=.ok (u,q)) (k:mayP s u q≠200):respP us clock s t=(mayP s u q,[],[],s):=by unfold respP;rw [h];exact if_neg k
theorem resp_yes {us:Us} {clock:Nat} {s:Sto} {t u:Tx} {q:AskP} (h:readP us clock t=.ok (u,q)) (k:mayP s u q=200):respP us clock s t=serveP s u q:=by unfold respP;rw [h];exact if_pos k
theorem serve_users (s:Sto) (u:Tx) (q:AskP):(serveP s u q).2.2.2.users=s.users:=by
 unfold serveP
 repeat' split
 all_goals first|exact done_users s _|rfl|(unfold getP;split <;> rfl)
structure One (w:World) (W:World):Prop where
 r0:W.cell? ⟨w.heap.size,0,none⟩=some (.slice none 0 0)
 r1:W.cell? ⟨w.heap.size,1,none⟩=some (str [])
 rf:∀ j:Nat,W.frozen? ⟨w.heap.size,j,none⟩=false
 sz:w.heap.size+1≤W.heap.size
theorem one_new (w:World):One w (w.alloc zResp):=by
 refine ⟨?_,?_,?_,?_⟩
 all_goals first|(simp [go_sem];done)|(intro j;simp [go_sem];done)
theorem One.kept {S:Nat→Prop} {w W W':World} (h:One w W) (k:Kept S W W') (h0:¬ S w.heap.size):One w W':=by
 have hz:=h.sz
 exact ⟨k.cell h.r0 h0,k.cell h.r1 h0,fun j=>k.frozen (a:=⟨w.heap.size,j,none⟩) (show w.heap.size < _ by omega) (h.rf j) h0,Nat.le_trans h.sz k.size⟩
theorem One.below {w W W':World} (h:One w W) (k:Below W.heap.size W W'):One w W':=by
 have hz:=h.sz
 exact h.kept (Kept.of_below k) (by omega)
theorem One.step {w W W':World} {r r':Roles} (h:One w W) (k:Step r W r' W') (hr:∀ g,r g≠.none→g < w.heap.size):One w W' :=
 h.kept k.kept (fun e=>by have:=hr _ e;omega)
abbrev done1 (W:World) (h:Nat) (x y:Value):World:=(W.setCell ⟨h,0,none⟩ x).setCell ⟨h,1,none⟩ y
theorem kept_one (W:World) (h:Nat) (x y:Value):Kept (·=h) W (done1 W h x y):=((Kept.refl _ _).setOwn 0 _).setOwn 1 _
theorem srv_pass1 {a b:Nat} {us:Us} {clock:Nat} {s:Sto} {r r':Roles} {w W0 W:World} {v:Value} {x:Nat×Hs×Tx×Sto} {ha:Option Addr} {hm hc:Nat} {y:Tx} (L:LS a b us clock s r w) (b0:Below w.heap.size w W0) (hz:w.heap.size+1≤W0.heap.size)
  (he:errIs v x.1) (hp:x.1=200→R.phold W W.heap.size (.slice ha hm hc) x.2.1∧y=x.2.2.1) (hb:∀ g,(Value.slice ha hm hc).ownBlock=some g→W0.heap.size≤g) (L1:LS a b us clock x.2.2.2 r' W) (st:Step r W0 r' W) (hu:x.2.2.2.users=s.users) :
  srvPost a b us clock r w x (.returned (.tuple #[.agg #[.slice ha hm hc,str y],v])) (done1 W w.heap.size (.slice ha hm hc) (str y)):=by
 have hn1:=L.new
 have hn2:r' w.heap.size=.none:=st.none (by omega) hn1
 obtain ⟨h2,h3⟩:=L.fin ((Step.of_below b0).trans st) L1.K L1.F hu (kept_one W w.heap.size (.slice ha hm hc) (str y)) (fun g e=>by rw [e];exact ⟨Nat.le_refl _,hn2⟩)
 refine ⟨v,r',ha,hm,hc,y,rfl,he,fun e=>⟨?_,(hp e).2⟩,(fun g e=>by have:=hb g e;omega),h2,h3⟩
 exact phold.kept (hp e).1 (kept_one _ _ _ _) (fun g e=>by have:=hb g e;omega) (by simp)
theorem srv_no {a b:Nat} {us:Us} {clock:Nat} {s:Sto} {r:Roles} {w W:World} {v:Value} {n:Nat} (L:LS a b us clock s r w) (b0:Below w.heap.size w W) (hz:w.heap.size+1≤W.heap.size) (he:errIs v n) :
  srvPost a b us clock r w (n,[],[],s) (.returned (.tuple #[.agg #[.slice none 0 0,str []],v])) (done1 W w.heap.size (.slice none 0 0) (str [])) :=
 srv_pass1 (x:=(n,[],[],s)) L b0 hz he (fun _=>⟨.inl ⟨rfl,rfl⟩,rfl⟩) (fun g e=>by cases e) (L.below b0) (Step.refl _ _) rfl
theorem errIs_ok {v:Value} {n:Nat} (h:errIs v n) (e:n=200):v=.nilIface:=by
 cases h with
 | ok=>rfl
 | no n c hc h2=>exact absurd e h2
theorem errIs_no {v:Value} {n:Nat} (h:errIs v n) (e:n≠200):∃ c:Value,c.oneCell'=true∧v=.iface 148 (.agg #[.int .i64 (n:Int),c]):=by
 cases h with
 | ok=>exact absurd rfl e
 | no n c hc h2=>exact ⟨c,hc,rfl⟩
theorem may_num (s:Sto) (u:Tx) (q:AskP):mayP s u q=200∨mayP s u q=403∨mayP s u q=404:=by
 unfold mayP
 split
 ·exact .inl rfl
 ·unfold Sto.may
  split
  ·exact .inr (.inr rfl)
  ·split
   ·exact .inr (.inl rfl)
   ·exact .inl rfl
theorem respond_any (a b:Nat) (us:Us) (clock:Nat) (s:Sto) (r:Roles) (t:Tx) (hl:t.length≤9223372036854775807) (w:World) (G:GL w) (L:LS a b us clock s r w) (hnl:noList us clock s t) :
  Calls Tryz.prog 36 #[.pointer (some ⟨a,0,none⟩),str t] w (srvPost a b us clock r w (respP us clock s t)):=by
 have b0:Below w.heap.size w (w.alloc zResp):=(Below.refl _ _).alloc (Nat.le_refl _) _
 have O0:=one_new w
 have RD:Hid (_):=rq_any a b us clock s r t hl (w.alloc zResp) (G.call b0) (L.below b0)
 have E1:=@resp_err us clock s t
 have E2:=@resp_not us clock s t
 have E3:=@resp_yes us clock s t
 have FT:=fun u q=>@read_fit us clock t u q L.un
 have NE:=fun n=>@read_num us clock t n
 have NL:Hid (∀ p,readP us clock t=.ok p→mayP s p.1 p.2=200→p.2.kind≠4):=hnl
 clear hnl
 generalize respP us clock s t=X at *
 generalize readP us clock t=x at *
 go_enter Tryz.func36,Tryz.ntmps36
 go_wp2_with fail
 refine Calls.mono RD.out ?_
 rintro e w1 ⟨b1,hx⟩
 have O1:=O0.below b1
 have B1:=below_trans b0 b1
 clear RD O0 b0 b1
 cases x with
 | error n =>
  obtain ⟨u,q,c,hcc,rfl⟩:=hx
  have HE:Hid (X=(n,[],[],s)):=E1 rfl
  have h200:n≠200:=NE n rfl
  have hb2:Below w1.heap.size w1 (w1.alloc (askC q)):=(Below.refl _ _).alloc (Nat.le_refl _) _
  have O2:=O1.below hb2
  have r0:=O2.r0;have r1:=O2.r1;have rf:=O2.rf
  have FIN:Hid (_):=srv_no L (below_trans B1 hb2) O2.sz (errIs.no n c hcc h200)
  clear E1 E2 E3 FT NE NL O1 O2 B1 hb2 h200
  obtain ⟨kd,ac,bk,ky,y,vn,pf,af,mx⟩:=q
  simp only [AskP.v] at *
  go_wp2
  refine bodyPost_ret (v:=.tuple #[.agg #[.slice none 0 0,str []],.iface 148 (.agg #[.int .i64 (n:Int),c])]) ?_ rfl ?_
  ·simp [results,Tryz.results36,go_sem,r0,r1]
  ·rw [HE.out];exact FIN.out
 | ok p =>
  obtain ⟨u,q⟩:=p
  obtain rfl:=hx
  have ft:=FT u q rfl
  have HN:Hid (mayP s u q=200→q.kind≠4):=NL.out (u,q) rfl
  have E2':=@E2 u q rfl
  have E3':=@E3 u q rfl
  have HE2:Hid (_):=E2'
  have HE3:Hid (_):=E3'
  clear E1 E2 E3 FT NE NL E2' E3'
  have hb2:Below w1.heap.size w1 (w1.alloc (askC q)):=(Below.refl _ _).alloc (Nat.le_refl _) _
  have O2:=O1.below hb2
  have B2:=below_trans B1 hb2
  have HL2:Hid (LS a b us clock s r (w1.alloc (askC q))):=L.below B2
  have l2:=HL2.out.l2
  have HF:Hid (AskFit u q∧q.kind≤8):=ft
  have MY:Hid (∀ W,Below (w1.alloc (askC q)).heap.size (w1.alloc (askC q)) W→_):=fun W hW=>may_any b s r u q.action q.bucket q.key W (HL2.out.K.below hW) HL2.out.F (by have:=HF.out.1.k;omega)
  have SV:Hid (mayP s u q=200→∀ W,Below (w1.alloc (askC q)).heap.size (w1.alloc (askC q)) W→Calls Tryz.prog 57 #[.pointer (some ⟨a,0,none⟩),str u,q.v] W (srvPost a b us clock r W (serveP s u q))):=fun hm W hW=>serve_any u q HF.out.2 (HN.out hm) HF.out.1 a b us clock s r W (G.call (below_trans B2 hW)) (HL2.out.below hW)
  have HM:Hid (mayP s u q=if q.kind=0 then 200 else s.may u q.action q.bucket q.key):=rfl
  have HSU:Hid ((serveP s u q).2.2.2.users=s.users):=serve_users s u q
  clear ft hb2 O1 B1
  have PASS:Hid (∀ W W3 v r' ha hm hc z,Below (w1.alloc (askC q)).heap.size (w1.alloc (askC q)) W→errIs v (serveP s u q).1→((serveP s u q).1=200→R.phold W3 W3.heap.size (.slice ha hm hc) (serveP s u q).2.1∧z=(serveP s u q).2.2.1)→(∀ g,(Value.slice ha hm hc).ownBlock=some g→W.heap.size≤g)→LS a b us clock (serveP s u q).2.2.2 r' W3→Step r W r' W3→srvPost a b us clock r w (serveP s u q) (.returned (.tuple #[.agg #[.slice ha hm hc,str z],v])) (done1 W3 w.heap.size (.slice ha hm hc) (str z))):=fun W W3 v r' ha hm hc z hW he hp hb L1 st =>
   srv_pass1 L (below_trans B2 hW) (by have:=O2.sz;have:=hW.size;omega) he hp hb L1 st HSU.out
  by_cases hk:q.kind=0
  ·have HM2:mayP s u q=200:=by rw [HM.out,if_pos hk]
   have HE:Hid (X=serveP s u q):=HE3.out HM2
   have SV2:Hid (_):=SV.out HM2 (w1.alloc (askC q)) (Below.refl _ _)
   have PS:Hid (_):=fun W3 v r' ha hm hc z=>PASS.out (w1.alloc (askC q)) W3 v r' ha hm hc z (Below.refl _ _)
   clear SV PASS HE2 HE3 MY HM HM2 HSU HN
   generalize serveP s u q=y at *
   obtain ⟨kd,ac,bk,ky,yy,vn,pf,af,mx⟩:=q
   simp only [AskP.v] at *
   subst hk
   go_wp2_with fail
   refine Calls.mono SV2.out ?_
   rintro e w3 ⟨v,r',ha,hm,hc,z,rfl,he,hp,hb,L1,st⟩
   have O3:=O2.step st L.K.dom
   have r0:=O3.r0;have r1:=O3.r1;have rf:=O3.rf
   have FIN:Hid (_):=PS.out w3 v r' ha hm hc z he hp hb L1 st
   clear O2 O3 SV2 PS he hp hb L1 st HL2 l2
   go_wp2
   refine bodyPost_ret (v:=.tuple #[.agg #[.slice ha hm hc,str z],v]) ?_ rfl ?_
   ·simp [results,Tryz.results36,go_sem,r0,r1]
   ·rw [HE.out];exact FIN.out
  ·have HM2:mayP s u q=s.may u q.action q.bucket q.key:=by rw [HM.out,if_neg hk]
   have SV2:Hid (_):=SV.out
   have HNO:Hid (∀ n c W,n≠200→c.oneCell'=true→Below (w1.alloc (askC q)).heap.size (w1.alloc (askC q)) W→srvPost a b us clock r w (n,[],[],s) (.returned (.tuple #[.agg #[.slice none 0 0,str []],.iface 148 (.agg #[.int .i64 (n:Int),c])])) (done1 W w.heap.size (.slice none 0 0) (str []))):=fun n c W h200 hcc hW =>
    srv_no L (below_trans B2 hW) (by have:=O2.sz;have:=hW.size;omega) (errIs.no n c hcc h200)
   rw [HM2] at HE2 HE3 SV2
   have a0:(w1.alloc (askC q)).cell? ⟨w1.heap.size,0,none⟩=some (.int .i64 (q.kind:Int)):=by simp [go_sem]
   have a1:(w1.alloc (askC q)).cell? ⟨w1.heap.size,1,none⟩=some (str q.action):=by simp [go_sem]
   have a2:(w1.alloc (askC q)).cell? ⟨w1.heap.size,2,none⟩=some (str q.bucket):=by simp [go_sem]
   have a3:(w1.alloc (askC q)).cell? ⟨w1.heap.size,3,none⟩=some (str q.key):=by simp [go_sem]
   have a4:(w1.alloc (askC q)).cell? ⟨w1.heap.size,4,none⟩=some (str q.body):=by simp [go_sem]
   have a5:(w1.alloc (askC q)).cell? ⟨w1.heap.size,5,none⟩=some (.int .i64 (q.version:Int)):=by simp [go_sem]
   have a6:(w1.alloc (askC q)).cell? ⟨w1.heap.size,6,none⟩=some (str q.pre):=by simp [go_sem]
   have a7:(w1.alloc (askC q)).cell? ⟨w1.heap.size,7,none⟩=some (str q.after):=by simp [go_sem]
   have a8:(w1.alloc (askC q)).cell? ⟨w1.heap.size,8,none⟩=some (.int .i64 (q.max:Int)):=by simp [go_sem]
   have m2:w1.heap.size < (w1.alloc (askC q)).heap.size:=by simp
   have kz:((q.kind:Int) != 0)=true:=by simp;omega
   clear SV HM HM2 HN
   generalize serveP s u q=y at *
   generalize s.may u q.action q.bucket q.key=mn at *
   obtain ⟨kd,ac,bk,ky,yy,vn,pf,af,mx⟩:=q
   simp only [AskP.v] at *
   go_wp2_with fail
   generalize hW2:w1.alloc (askC ⟨kd,ac,bk,ky,yy,vn,pf,af,mx⟩)=W2 at *
   clear hW2
   have hal:a < W2.drew.heap.size:=HL2.out.al
   have hm2:w1.heap.size < W2.drew.heap.size:=m2
   have xd:W2.drew.cell? ⟨a,2,none⟩=some (.pointer (some ⟨b,0,none⟩))∧W2.drew.cell? ⟨w1.heap.size,1,none⟩=some (str ac)∧W2.drew.cell? ⟨w1.heap.size,2,none⟩=some (str bk)∧W2.drew.cell? ⟨w1.heap.size,3,none⟩=some (str ky):=⟨l2,a1,a2,a3⟩
   have xw:W2.cell? ⟨a,2,none⟩=some (.pointer (some ⟨b,0,none⟩))∧W2.cell? ⟨w1.heap.size,1,none⟩=some (str ac)∧W2.cell? ⟨w1.heap.size,2,none⟩=some (str bk)∧W2.cell? ⟨w1.heap.size,3,none⟩=some (str ky):=⟨l2,a1,a2,a3⟩
   have D3:Hid (Calls Tryz.prog 56 #[.pointer (some ⟨b,0,none⟩),str u,str ac,str bk,str ky] W2.drew fun e w'=>((∃ v,e=.returned v∧errIs v mn)∧Below W2.drew.heap.size W2.drew w')∧(w'.cell? ⟨a,2,none⟩=some (.pointer (some ⟨b,0,none⟩))∧w'.cell? ⟨w1.heap.size,1,none⟩=some (str ac)∧w'.cell? ⟨w1.heap.size,2,none⟩=some (str bk)∧w'.cell? ⟨w1.heap.size,3,none⟩=some (str ky))):=Calls.mono (MY.out W2.drew (below_drew W2)) fun e w' h=>⟨h,by
    have k:=h.2
    exact ⟨(k.cell (p:=⟨a,2,none⟩) hal).trans xd.1,(k.cell (p:=⟨w1.heap.size,1,none⟩) hm2).trans xd.2.1,(k.cell (p:=⟨w1.heap.size,2,none⟩) hm2).trans xd.2.2.1,(k.cell (p:=⟨w1.heap.size,3,none⟩) hm2).trans xd.2.2.2⟩⟩
   clear MY
   by_cases hmn:mn=200
   ·have D4:Hid (Calls Tryz.prog 56 #[.pointer (some ⟨b,0,none⟩),str u,str ac,str bk,str ky] W2.drew fun e w'=>(e=.returned .nilIface∧Below W2.drew.heap.size W2.drew w')∧(w'.cell? ⟨a,2,none⟩=some (.pointer (some ⟨b,0,none⟩))∧w'.cell? ⟨w1.heap.size,1,none⟩=some (str ac)∧w'.cell? ⟨w1.heap.size,2,none⟩=some (str bk)∧w'.cell? ⟨w1.heap.size,3,none⟩=some (str ky))):=Calls.mono D3.out fun e w' h=>⟨⟨by
     obtain ⟨⟨⟨v,rfl,hv⟩,_⟩,_⟩:=h
     rw [errIs_ok hv hmn],h.1.2⟩,h.2⟩
    clear D3
    go_region_held3 (fun w'=>w'.cell? ⟨a,2,none⟩=some (.pointer (some ⟨b,0,none⟩))∧w'.cell? ⟨w1.heap.size,1,none⟩=some (str ac)∧w'.cell? ⟨w1.heap.size,2,none⟩=some (str bk)∧w'.cell? ⟨w1.heap.size,3,none⟩=some (str ky)) (first|with_reducible exact xd|with_reducible exact x5) ((go_at_call 56;with_reducible refine Calls.mono D4.out ?_;rintro e w3 ⟨⟨rfl,b3⟩,x5⟩))
    all_goals (
     have b23:Below W2.heap.size W2 w3:=below_trans (below_drew W2) b3
     have O3:=O2.below b23
     have HE:Hid (X=y):=HE3.out hmn
     have SV3:Hid (_):=SV2.out hmn w3 b23
     have PS:Hid (_):=fun W3 v r' ha hm hc z=>PASS.out w3 W3 v r' ha hm hc z b23
     have e0:=(b23.cell (p:=⟨w1.heap.size,0,none⟩) m2).trans a0
     have e1:=(b23.cell (p:=⟨w1.heap.size,1,none⟩) m2).trans a1
     have e2:=(b23.cell (p:=⟨w1.heap.size,2,none⟩) m2).trans a2
     have e3:=(b23.cell (p:=⟨w1.heap.size,3,none⟩) m2).trans a3
     have e4:=(b23.cell (p:=⟨w1.heap.size,4,none⟩) m2).trans a4
     have e5:=(b23.cell (p:=⟨w1.heap.size,5,none⟩) m2).trans a5
     have e6:=(b23.cell (p:=⟨w1.heap.size,6,none⟩) m2).trans a6
     have e7:=(b23.cell (p:=⟨w1.heap.size,7,none⟩) m2).trans a7
     have e8:=(b23.cell (p:=⟨w1.heap.size,8,none⟩) m2).trans a8
     clear SV2 PASS HE2 HE3 HSU HNO a0 a1 a2 a3 a4 a5 a6 a7 a8 HL2 l2 xd xw x5 D4
     go_wp2_with fail
     refine Calls.mono SV3.out ?_
     rintro e w4 ⟨v,r',ha,hm,hc,z,rfl,he,hp,hb,L1,st⟩
     have O4:=O3.step st L.K.dom
     have r0:=O4.r0;have r1:=O4.r1;have rf:=O4.rf
     have FIN:Hid (_):=PS.out w4 v r' ha hm hc z he hp hb L1 st
     clear O2 O3 O4 SV3 PS he hp hb L1 st
     go_wp2
     refine bodyPost_ret (v:=.tuple #[.agg #[.slice ha hm hc,str z],v]) ?_ rfl ?_
     ·simp [results,Tryz.results36,go_sem,r0,r1]
     ·rw [HE.out];exact FIN.out)
   ·have D4:Hid (Calls Tryz.prog 56 #[.pointer (some ⟨b,0,none⟩),str u,str ac,str bk,str ky] W2.drew fun e w'=>((∃ c:Value,c.oneCell'=true∧e=.returned (.iface 148 (.agg #[.int .i64 (mn:Int),c])))∧Below W2.drew.heap.size W2.drew w')∧(w'.cell? ⟨a,2,none⟩=some (.pointer (some ⟨b,0,none⟩))∧w'.cell? ⟨w1.heap.size,1,none⟩=some (str ac)∧w'.cell? ⟨w1.heap.size,2,none⟩=some (str bk)∧w'.cell? ⟨w1.heap.size,3,none⟩=some (str ky))):=Calls.mono D3.out fun e w' h=>⟨⟨by
     obtain ⟨⟨⟨v,rfl,hv⟩,_⟩,_⟩:=h
     obtain ⟨c,hcc,rfl⟩:=errIs_no hv hmn
     exact ⟨c,hcc,rfl⟩,h.1.2⟩,h.2⟩
    clear D3
    go_region_held3 (fun w'=>w'.cell? ⟨a,2,none⟩=some (.pointer (some ⟨b,0,none⟩))∧w'.cell? ⟨w1.heap.size,1,none⟩=some (str ac)∧w'.cell? ⟨w1.heap.size,2,none⟩=some (str bk)∧w'.cell? ⟨w1.heap.size,3,none⟩=some (str ky)) (first|with_reducible exact xd|with_reducible exact x5) ((go_at_call 56;with_reducible refine Calls.mono D4.out ?_;rintro e w3 ⟨⟨⟨c,hcc,rfl⟩,b3⟩,x5⟩))
    all_goals (
     have b23:Below W2.heap.size W2 w3:=below_trans (below_drew W2) b3
     have O3:=O2.below b23
     have r0:=O3.r0;have r1:=O3.r1;have rf:=O3.rf
     have HE:Hid (X=(mn,[],[],s)):=HE2.out hmn
     have FIN:Hid (_):=HNO.out mn c w3 hmn hcc b23
     clear SV2 PASS HE2 HE3 HSU HNO a0 a1 a2 a3 a4 a5 a6 a7 a8 HL2 l2 O2 O3 xd xw x5 D4
     go_wp2
     refine bodyPost_ret (v:=.tuple #[.agg #[.slice none 0 0,str []],.iface 148 (.agg #[.int .i64 (mn:Int),c])]) ?_ rfl ?_
     ·simp [results,Tryz.results36,go_sem,r0,r1]
     ·rw [HE.out];exact FIN.out)
def doP (us:Us) (clock:Nat) (s:Sto) (t:Tx):Tx×Sto:=(respT (respP us clock s t).1 (respP us clock s t).2.1 (respP us clock s t).2.2.1,(respP us clock s t).2.2.2)
structure Good (x:Nat×Hs×Tx×Sto):Prop where
 n:isNum x.1
 l:x.2.1.length≤100
 h:∀ p∈x.2.1,p.1.length≤1000∧p.2.length≤1000
 y:x.2.2.1.length≤100000000
theorem begin_num {s:Sto} {c:Chg} {n:Nat} (h:s.begin c=.error n):isNum n:=by
 unfold isNum
 cases c <;> simp only [Sto.begin] at h <;> (repeat' split at h) <;> cases h <;> simp
theorem done_num (s:Sto) (c:Chg):isNum (s.done c).1:=by
 unfold Sto.done
 cases hb:s.begin c with
 | error n=>exact begin_num hb
 | ok t=>simp only;split <;> simp [isNum]
theorem good_no (n:Nat) (s:Sto) (h:isNum n):Good (n,[],[],s):=⟨h,by simp,(fun p hp=>by cases hp),by simp⟩
theorem good_one (n:Nat) (s:Sto) (m v y:Tx) (h:isNum n) (hm:m.length≤1000) (hv:v.length≤1000) (hy:y.length≤100000000):Good (n,[(m,v)],y,s) :=
 ⟨h,by simp,(fun p hp=>by rw [List.mem_singleton] at hp;subst hp;exact ⟨hm,hv⟩),hy⟩
theorem itoa_k {n:Nat} (h:n≤1000000000000):(Lib.itoa (n:Int)).length≤1000:=by have:=itoa_short h;omega
theorem serve_good {s:Sto} {u:Tx} {q:AskP} (F:Fine s) (f:AskFit u q):Good (serveP s u q):=by
 have hv:=f.v
 unfold serveP
 split
 ·exact good_no _ _ (done_num _ _)
 ·split
  ·exact good_no _ _ (done_num _ _)
  ·split
   ·have:=policy_bd F q.bucket
    exact good_one _ _ _ _ _ (by split <;> simp [isNum]) (by simp) (itoa_k (by omega)) (by omega)
   ·split
    ·exact good_no _ _ (done_num _ _)
    ·split
     ·have F2:=done_fine (c:=.put q.bucket q.key q.body) F ⟨f.b,f.k,f.y⟩
      have h1:=F2.last;have h2:=F2.log
      exact good_one _ _ _ _ _ (done_num _ _) (by simp [tVersion]) (itoa_k (by omega)) (by simp)
     ·split
      ·unfold getP
       split
       ·exact good_no _ _ (by simp [isNum])
       ·rename_i v hv
        have:=version_bd F hv
        refine ⟨by simp [isNum],by simp,fun p hp=>?_,by simp only;omega⟩
        simp only [List.mem_cons,List.not_mem_nil,or_false] at hp
        rcases hp with rfl|rfl
        ·exact ⟨by simp [tVersion],itoa_k (by omega)⟩
        ·exact ⟨by simp,itoa_k (by omega)⟩
      ·split
       ·have F2:=done_fine (c:=.mark q.bucket q.key) F ⟨f.b,f.k⟩
        have h1:=F2.last;have h2:=F2.log
        exact good_one _ _ _ _ _ (done_num _ _) (by simp [tVersion]) (itoa_k (by omega)) (by simp)
       ·exact good_one _ _ _ _ _ (done_num _ _) (by simp [tVersion]) (itoa_k (by omega)) (by simp)
theorem resp_good {us:Us} {clock:Nat} {s:Sto} {t:Tx} (F:Fine s) (hu:∀ x∈us,x.1.length≤1000∧x.2.length≤1000000):Good (respP us clock s t):=by
 unfold respP
 split
 ·rename_i n h
  exact good_no _ _ (by unfold isNum;rcases read_nums h with e|e|e <;> simp [e])
 ·rename_i p h
  split
  ·exact serve_good F (read_fit hu (u:=p.1) (q:=p.2) h).1
  ·exact good_no _ _ (by unfold isNum;rcases may_num s p.1 p.2 with e|e|e <;> simp [e])
theorem do_any (a b:Nat) (us:Us) (clock:Nat) (s:Sto) (r:Roles) (t:Tx) (hl:t.length≤9223372036854775807) (w:World) (G:GL w) (L:LS a b us clock s r w) (hnl:noList us clock s t) :
  Calls Tryz.prog 16 #[.pointer (some ⟨a,0,none⟩),str t] w fun e w'=>∃ r',e=.returned (str (doP us clock s t).1)∧LS a b us clock (doP us clock s t).2 r' w'∧Step r w r' w':=by
 have R:Hid (_):=respond_any a b us clock s r t hl w G L hnl
 have GG:=resp_good (us:=us) (clock:=clock) (t:=t) L.F L.un
 have HD:Hid (doP us clock s t=(respT (respP us clock s t).1 (respP us clock s t).2.1 (respP us clock s t).2.2.1,(respP us clock s t).2.2.2)):=rfl
 rw [HD.out]
 generalize respP us clock s t=x at *
 clear HD
 go_enter Tryz.func16,Tryz.ntmps16
 go_wp2_with fail
 refine Calls.mono R.out ?_
 rintro e w1 ⟨v,r',ha,hm,hc,y,rfl,he,hp,hb,L1,st⟩
 have G1:=L.glob G st
 have W:Hid (_):=write_any x.1 GG.n v he ha hm hc x.2.1 y w1 G1 (fun e=>⟨(hp e).1,GG.l,GG.h,by rw [(hp e).2];exact GG.y⟩) x.2.2.1 (fun e=>(hp e).2.symm)
 go_wp2_with fail
 refine Calls.mono W.out ?_
 rintro e w2 ⟨rfl,b2⟩
 go_wp2
 go_ret
 exact ⟨r',rfl,L1.below b2,st.trans (Step.of_below b2)⟩
theorem infoU:(Tryz.prog.info? 29).map (fun i=>(i.zero,i.size,i.bytes))=some (some (.agg #[.string ⟨#[]⟩,.string ⟨#[]⟩]),2,32):=by kernel_rfl
def urow (w:World) (B:Nat) (v:Value) (us:Us):Prop:=w.ownsRow B 29 2 v us.length (R.pcells us)
theorem urow_nil (w:World) (B:Nat):urow w B (.slice none 0 0) []:=World.ownsRow_nil w B 29 2
theorem urow.alloc {w:World} {B:Nat} {v:Value} {l:Us} (h:urow w B v l) (o:Obj):urow (w.alloc o) B v l:=World.ownsRow.alloc h o
theorem urow.below {w w':World} {B:Nat} {v:Value} {l:Us} (h:urow w B v l) (k:Below w.heap.size w w'):urow w' B v l :=
 (Kept.of_below k).row h (fun g e=>by have:=(World.ownsRow.lt h g e).2;omega)
theorem urow.sl {w:World} {B:Nat} {v:Value} {l:Us} (h:urow w B v l):∃ a c,v=.slice a l.length c∧l.length≤c:=by
 obtain ⟨_,⟨rfl,hn⟩|⟨g,cap,cur,rfl,_,_,hc,_⟩⟩:=h
 ·exact ⟨none,0,by rw [hn],by omega⟩
 ·exact ⟨_,cap,rfl,hc⟩
theorem add_off (g j:Nat):(⟨g,0,none⟩:Addr).add j=⟨g,j,none⟩:=by
 unfold Addr.add
 split
 ·rename_i h;rw [h]
 ·simp
theorem urow.UR {w:World} {B:Nat} {a:Option Addr} {n c:Nat} {l:Us} (h:urow w B (.slice a n c) l):UR a l w:=by
 refine ⟨fun k hk=>?_⟩
 have h0:=h
 obtain ⟨h1,⟨e,hn⟩|⟨g,cap,cur,e,hg,hb,hc,hm,hs,ht⟩⟩:=h
 ·omega
 ·have ea:a=some ⟨g,0,none⟩:=by injection e
  subst ea
  have hcell:=World.ownsRow.cells (g:=g) h0 rfl
  have p:=R.pcells_at l k hk
  have c0:=hcell (2*k) _ p.1
  have c1:=hcell (2*k+1) _ p.2
  rw [add_off] at c0 c1
  exact ⟨g,0,rfl,(Array.getElem?_eq_some_iff.1 hb).1,by rw [Nat.zero_add,Nat.mul_comm];exact c0,by rw [Nat.zero_add,Nat.mul_comm];exact c1⟩
theorem uapp_step {w:World} {ops:Array Oper} {o:Oper} {a:Act} {K:Act→World→Prop} {Q:Exit→Act→World→Prop} {E:Prop} (hgd:o.guard=none) (s x:Operand)
  (ho:o.op=.call { callee:=.builtin .append,args:=#[s,x],argTypes:=#[30,30] })
  (B:Nat) (l:Us) (p:Tx×Tx) (v:Value) (hs:a.eval s=v) (hown:urow w B v l) (H:Nat) (hx:a.eval x=.slice (some ⟨H,0,none⟩) 1 1)
  (fr:Nat×Nat) (hblk:w.heap[H]?=some (.cells #[str p.1,str p.2] 29 fr)) (hlen:l.length≤1000000000) (hB:B≤w.heap.size)
  (h:∀ v' w',urow w' B v' (l++[p])→w.grownBy w' v.ownBlock→Below B w w'→K (a.put o.dst v') w') :
  if Region.wanted o (yielded ops a.tmps)=true then Oper.wp Tryz.prog o a w K Q else E:=by
 obtain ⟨i0,hi,hz0,hz1,hz2⟩:=info_parts infoU
 refine step_append_lies _ hgd s x 30 ho B 29 i0 (.agg #[.string ⟨#[]⟩,.string ⟨#[]⟩]) 2 32 Tryz.underlying30 hi hz0 hz1 hz2 rfl (by omega) v l.length (R.pcells l) hs hown ⟨H,0,none⟩ 1 1 [str p.1,str p.2] hx (by simp)
  (fun j u hu=>World.news_of_block hblk j u (by simpa using hu)) (by intro u hu;simp at hu;rcases hu with rfl|rfl <;> rfl) (by omega) (by unfold maxLen;omega) (by omega) hB w.heap.size rfl ?_
 intro g cap w' h1 h2 _ _
 refine h _ w' ?_ h2 ((Below.refl B w).grown h2 hB (fun k hk=>(World.ownsRow.lt hown k hk).1))
 unfold urow
 rw [R.pcells_snoc,List.length_append]
 exact h1
theorem sapp_new {W:World} {ops:Array Oper} {rest:List Oper} {o:Oper} {a:Act} {Q:Exit→Act→World→Prop} (hgd:o.guard=none) (s x:Operand)
  (ho:o.op=.call { callee:=.builtin .append,args:=#[s,x],argTypes:=#[61,61] })
  (B:Nat) (l:List Tx) (p:Tx) (v:Value) (hs:a.eval s=v) (hown:srow W B v l) (H:Nat) (hx:a.eval x=.slice (some ⟨H,0,none⟩) 1 1) (hH:W.heap.size=H) (hlen:l.length≤1000000000) (hB:B≤W.heap.size)
  (h:∀ v' w',srow w' B v' (l++[p])→Below B (W.alloc (.cells #[str p] 9)) w'→wpList Tryz.prog ops Q rest (a.put o.dst v') w'):wpList Tryz.prog ops Q (o :: rest) a (W.alloc (.cells #[str p] 9)):=by
 subst hH
 exact sapp_law hgd s x ho B l p v hs (srow.alloc hown _) _ hx (0,0) (heap_alloc_new _ _) hlen (by simp;omega) (fun g cap w' h1 _ _ h4=>h _ w' h1 h4)
theorem us_take {us:Us} {k:Nat} (h:k < us.length):us.take (k+1)=us.take k++[us[k]]:=List.take_succ_eq_append_getElem h
theorem copyUsers_any (a:Option Addr) (cap:Nat) (us:Us) (hn:∀ u∈us,u.1.length≤1000∧u.2.length≤1000) (w:World) (h:UR a us w) (hl:us.length≤1000) :
  Calls Tryz.prog 42 #[.slice a us.length cap] w fun e w'=>∃ v,e=.returned v∧urow w' w.heap.size v us∧Below w.heap.size w w':=by
 have HU:Hid (UR a us w):=h
 have HNL:Hid (∀ u∈us,u.1.length≤1000∧u.2.length≤1000):=hn
 clear h hn
 go_enter Tryz.func42,Tryz.ntmps42
 go_wp2
 go_loopw [3,8] (fun v i wr=>∃ k:Nat,k≤us.length∧i=.int .i64 k∧urow wr w.heap.size v (us.take k)∧Below w.heap.size w wr) (fun _ i _=>us.length - (intOf i).toNat)
 case atStart=>exact ⟨0,Nat.zero_le _,rfl,urow_nil _ _,Below.refl _ _⟩
 case round =>
  obtain ⟨k,hk,rfl,hrow,hb⟩:=hrel
  have hsz:=hb.size
  by_cases hlt:k < us.length
  ·obtain ⟨b,o,rfl,hbb,c1,c2⟩:=(HU.out.below hb).at_ k hlt
   have HS:Hid (us.take (k+1)=us.take k++[us[k]]):=us_take hlt
   obtain ⟨l1,l2⟩:=HNL.out us[k] (List.getElem_mem hlt)
   have hql:(us.take k).length≤1000000:=by simp;omega
   obtain ⟨pn,pv,hxy⟩:∃ x y,us[k]=(x,y):=⟨_,_,rfl⟩
   rw [hxy] at c1 c2 HS l1 l2
   clear hxy
   simp only at l1 l2
   generalize us.take k=oo at *
   have hb1:Below w.heap.size w (wr.alloc (.cells #[str pn,str pv] 29)):=hb.alloc hsz _
   have d1:(wr.alloc (.cells #[str pn,str pv] 29)).cell? ⟨wr.heap.size,0,none⟩=some (str pn):=by simp [go_sem]
   have d2:(wr.alloc (.cells #[str pn,str pv] 29)).cell? ⟨wr.heap.size,1,none⟩=some (str pv):=by simp [go_sem]
   have row0:=hrow.alloc (.cells #[str pn,str pv] 29)
   have hz0:wr.heap.size < (wr.alloc (.cells #[str pn,str pv] 29)).heap.size:=by simp
   have hne:some wr.heap.size≠u3.ownBlock:=fun e=>absurd (World.ownsRow.lt hrow _ e.symm).2 (by omega)
   go_wp2_with fail
   clear hrow hb c1 c2
   generalize (wr.alloc (.cells #[str pn,str pv] 29))=W0 at *
   generalize wr.heap.size=b0 at *
   go_region_held3 (fun w'=>w'.cell? ⟨b0,0,none⟩=some (str pn)∧w'.cell? ⟨b0,1,none⟩=some (str pv)) (first|exact ⟨d1,d2⟩|exact ⟨cell_alloc d1 _,cell_alloc d2 _⟩|exact ⟨hg8.cell (cell_alloc d1 _) hne,hg8.cell (cell_alloc d2 _) hne⟩)
    (first
     | (go_at_call 64;refine (R.clone_r _ _ (by omega)).mono ?_;rintro e w6 ⟨rfl,hb6⟩;replace d1:=(hb6.cell (p:=⟨b0,0,none⟩) hz0).trans d1;replace d2:=(hb6.cell (p:=⟨b0,1,none⟩) hz0).trans d2;replace hb1:Below w.heap.size w w6:=(by first|exact hb1.trans (hb6.mono hb1.size)|exact hb1.drew.trans (hb6.mono hb1.size));replace hz0:=Nat.lt_of_lt_of_le hz0 hb6.size;have hsz:=hb1.size;replace row0:urow w6 w.heap.size u3 oo:=(by first|exact row0.below hb6|exact urow.below (w:=W0.drew) row0 hb6))
     | (refine uapp_step rfl _ _ rfl w.heap.size oo (pn,pv) _ rfl (row0.alloc _) _ rfl _ (heap_alloc_new _ _) (by omega) (by simp;omega) ?_;intro v' w8 row8 hg8 hb8))
   rename_i hHeld
   clear hHeld
   go_wp2
   go_roundw
   case rel=>exact ⟨k+1,by omega,by go_num,by rw [HS.out];exact row8,(hb1.alloc hb1.size _).trans hb8⟩
   case measure=>simp [intOf];omega
  ·have HT:Hid (us.take k=us):=List.take_of_length_le (by omega)
   rw [HT.out] at hrow
   obtain ⟨va,vc,rfl,_⟩:=hrow.sl
   go_wp2
   go_ret
   exact ⟨_,rfl,hrow,hb⟩
theorem namesOf_any (a:Option Addr) (cap:Nat) (us:Us) (w:World) (h:UR a us w) (hl:us.length≤1000) :
  Calls Tryz.prog 44 #[.slice a us.length cap] w fun e w'=>∃ v,e=.returned v∧srow w' w.heap.size v (us.map (·.1))∧Below w.heap.size w w':=by
 have HU:Hid (UR a us w):=h
 clear h
 go_enter Tryz.func44,Tryz.ntmps44
 go_wp2
 go_loopw [3,8] (fun v i wr=>∃ k:Nat,k≤us.length∧i=.int .i64 k∧srow wr w.heap.size v ((us.take k).map (·.1))∧Below w.heap.size w wr) (fun _ i _=>us.length - (intOf i).toNat)
 case atStart=>exact ⟨0,Nat.zero_le _,rfl,srow_nil _ _,Below.refl _ _⟩
 case round =>
  obtain ⟨k,hk,rfl,hrow,hb⟩:=hrel
  have hsz:=hb.size
  by_cases hlt:k < us.length
  ·obtain ⟨b,o,rfl,hbb,c1,c2⟩:=(HU.out.below hb).at_ k hlt
   have HS:Hid ((us.take (k+1)).map (·.1)=(us.take k).map (·.1)++[us[k].1]):=by show _=_;rw [us_take hlt,List.map_append];rfl
   have hql:((us.take k).map (·.1)).length≤1000000:=by simp;omega
   obtain ⟨pn,pv,hxy⟩:∃ x y,us[k]=(x,y):=⟨_,_,rfl⟩
   rw [hxy] at c1 c2 HS
   clear hxy
   generalize (us.take k).map (·.1)=oo at *
   have hb1:Below w.heap.size w (wr.alloc (.cells #[str pn,str pv] 29)):=hb.alloc hsz _
   have row0:=hrow.alloc (.cells #[str pn,str pv] 29)
   obtain ⟨va,vn,vc,rfl⟩:∃ a n c,u3=.slice a n c:=by
    obtain ⟨_,⟨rfl,_⟩|⟨g,cap,cur,rfl,_⟩⟩:=hrow
    ·exact ⟨_,_,_,rfl⟩
    ·exact ⟨_,_,_,rfl⟩
   have z1:(wr.alloc (.cells #[str pn,str pv] 29)).heap.size=wr.heap.size+1:=by simp
   go_wp2_with (at_builtin;refine sapp_new rfl _ _ rfl w.heap.size oo pn (.slice va vn vc) rfl row0 (wr.heap.size+1) rfl z1 (by omega) (by simp;omega) ?_;intro v' w2 hr3 hb3)
   go_roundw
   case rel=>exact ⟨k+1,by omega,by go_num,by rw [HS.out];exact hr3,(hb1.alloc (by simp;omega) _).trans hb3⟩
   case measure=>simp [intOf];omega
  ·have HT:Hid (us.take k=us):=List.take_of_length_le (by omega)
   rw [HT.out] at hrow
   obtain ⟨va,vn,vc,rfl⟩:∃ a n c,u3=.slice a n c:=by
    obtain ⟨_,⟨rfl,_⟩|⟨g,cap,cur,rfl,_⟩⟩:=hrow
    ·exact ⟨_,_,_,rfl⟩
    ·exact ⟨_,_,_,rfl⟩
   go_wp2
   go_ret
   exact ⟨_,rfl,hrow,hb⟩
end Go.Proofs.YtbllcgibmgbnjaaGreatDoor.P
