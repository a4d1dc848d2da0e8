import Derived.Test.YtbllcgibmgbnjaaGreatDoorM12
import Derived.Test.YtbllcgibmgbnjaaGreatDoorM05
import Derived.Test.YtbllcgibmgbnjaaGreatDoorM10
import Derived.Lib.AppendStr
import Derived.Deep.QuietTactic
import Derived.BigQuiet
import Derived.Test.YtbllcgibmgbnjaaGreatDoorM11
import Derived.Lib.Join
import Derived.Sort.Walk0
set_option maxHeartbeats 1000000
namespace Go.Proofs.YtbllcgibmgbnjaaGreatDoor.R
open Go.RowKit
open Go.Sort (grow)
open C (ret_bool ret_int dec grown_trans grown_set grown_then grown_below)
theorem below_grow' (w:World) (k:Nat) (os:Array Obj):Below w.heap.size w (grow (w.drewN k) os) :=
 ⟨rfl,rfl,rfl,by show w.heap.size≤(w.heap++os).size;rw [Array.size_append];omega,fun j hj=>by show (w.heap++os)[j]?=_;rw [Array.getElem?_append,if_pos hj]⟩
theorem itoa_r (n:Nat) (w:World) (E:Env w) (hn:n≤1000000000000000):Calls Tryz.prog 34 #[.int .i64 n] w fun e w'=>e=.returned (str (Lib.itoa n))∧Below w.heap.size w w' :=
 (Tryz.strconv_Itoa n (by omega) (by omega) w E.tab).mono fun e w' ⟨h1,k,os,h2⟩=>⟨h1,by rw [h2];exact below_grow' w k os⟩
abbrev lengthName:Bs:=[108,101,110,103,116,104]
theorem decDigits_ne (n:Nat):Lib.decDigits n≠[]:=by
 rw [Lib.decDigits];split <;> simp
theorem itoa_ne (n:Nat):Lib.itoa (n:Int)≠[]:=by
 unfold Lib.itoa;rw [if_neg (by omega)];exact decDigits_ne _
theorem len_some {hs:Ps} {body v:Bs} (h:findP hs lengthName=some v):lenOk hs body=(v == Lib.itoa (body.length:Int)):=by unfold lenOk;rw [h]
theorem len_none {hs:Ps} {body:Bs} (h:findP hs lengthName=none):lenOk hs body=body.isEmpty:=by unfold lenOk;rw [h]
def lenEnd:Bool→Ending
 | true=>.returned (.tuple #[])
 | false=>.panicked noR
theorem needLength_any (m p:Bs) (q v:Value) (hs:Ps) (body:Bs) (B:Nat) (w:World) (E:Env w) (hr:prow w B v hs) (hl:hs.length≤100000) (hb:body.length≤100000) :
  Calls Tryz.prog 98 #[.agg #[str m,str p,q,v,str body]] w fun e w'=>e=lenEnd (lenOk hs body)∧Below w.heap.size w w':=by
 have hE0:=E.sz
 have B1:∀ o,Below w.heap.size w (w.alloc o):=fun o=>(Below.refl _ w).alloc (Nat.le_refl _) o
 have F:Hid (_):=find_any v hs lengthName
 have T:Hid (_):=itoa_r body.length
 obtain ⟨_,va,vc,hv⟩:=hr.len
 subst hv
 have hr1:=fun o=>hr.alloc o
 have A1:=reqAt_new w m p q (.slice va hs.length vc) body
 go_enter Tryz.func98,Tryz.ntmps98
 go_wp2_with fail
 refine (F.out _ _ (hr1 _).hold (Nat.le_refl _) (by omega)).mono ?_
 rintro e w1 ⟨rfl,hb1⟩
 have A2:=A1.below hb1 (by simp)
 have hz:=hb1.size
 have B2:Below w.heap.size w w1:=(B1 _).trans (hb1.mono (by simp))
 have E2:=E.below B2 E.sz
 obtain ⟨_,_,_,_,a4,_⟩:=A2
 clear A1 hb1 hr1 B1 F
 cases hf:findP hs lengthName with
 | some t =>
  simp only [findEnd]
  cases ht:t == Lib.itoa (body.length:Int) with
  | true =>
   have HX:Hid (lenOk hs body=true):=by show _=_;rw [len_some hf,ht]
   have het:=eq_of_beq ht
   subst het
   clear ht
   go_wp2_with (first|(go_at_call 34;refine (T.out _ E2 (by omega)).mono ?_;rintro e w5 ⟨rfl,hb5⟩)|(go_at_call 142;refine (need_yes _).mono ?_;rintro e w' ⟨rfl,rfl⟩))
   go_end0
   exact ⟨by rw [HX.out];rfl,B2.trans (hb5.mono B2.size)⟩
  | false =>
   have HX:Hid (lenOk hs body=false):=by show _=_;rw [len_some hf,ht]
   go_wp2_with (first|(go_at_call 34;refine (T.out _ E2 (by omega)).mono ?_;rintro e w5 ⟨rfl,hb5⟩)|(go_at_call 142;refine (need_not _).mono ?_;rintro e w' ⟨rfl,rfl⟩))
   exact ⟨rfl,by rw [HX.out];rfl,B2.trans (hb5.mono B2.size)⟩
 | none =>
  simp only [findEnd]
  by_cases hbe:body=[]
  ·have HX:Hid (lenOk hs body=true):=by show _=_;rw [len_none hf,hbe];rfl
   subst hbe
   go_wp2
   go_end0
   exact ⟨by rw [HX.out];rfl,B2⟩
  ·have HX:Hid (lenOk hs body=false):=by show _=_;rw [len_none hf];simpa using hbe
   have hie:body.isEmpty=false:=by simpa using hbe
   have hni:=itoa_ne body.length
   generalize Lib.itoa (body.length:Int)=it at *
   have hit:(([]:Bs) == it)=false:=by cases it with
    | nil=>exact absurd rfl hni
    | cons a l=>rfl
   go_wp2_with (first|(go_at_call 34;refine (T.out _ E2 (by omega)).mono ?_;rintro e w5 ⟨rfl,hb5⟩)|(go_at_call 142;refine (need_not _).mono ?_;rintro e w' ⟨rfl,rfl⟩))
   exact ⟨rfl,by rw [HX.out];rfl,B2.trans (hb5.mono B2.size)⟩
theorem r_no1 {s:Bs} (h:(Lib.cut s [10]).2.2=false):reqOf s=none:=by unfold reqOf;rw [if_neg (by simp [h])]
theorem r_no2 {s:Bs} (h:firstOf (Lib.cut s [10]).1=none):reqOf s=none:=by unfold reqOf;rw [h];simp
theorem r_no3 {s:Bs} (h:headersFrom 12 [] (Lib.cut s [10]).2.1=none):reqOf s=none:=by unfold reqOf;rw [h];split <;> (try split) <;> rfl
theorem r_last {s:Bs} {f:First} {x:Ps×Bs} (h1:(Lib.cut s [10]).2.2=true) (h2:firstOf (Lib.cut s [10]).1=some f) (h3:headersFrom 12 [] (Lib.cut s [10]).2.1=some x) :
  reqOf s=if lenOk x.1 x.2=true then some { toFirst:=f,headers:=x.1,body:=x.2 } else none:=by
 unfold reqOf;rw [if_pos h1,h2,h3]
theorem prow.ne {w:World} {B g:Nat} {v:Value} {l:Ps} (h:prow w B v l) (hg:∀ k,v.ownBlock=some k→k≠g) (j:Nat) (x:Value):prow (w.setCell ⟨g,j,none⟩ x) B v l :=
 World.ownsRow.kept h (grown_set w g j x) (by
  cases hv:v.ownBlock with
  | none=>exact Or.inl rfl
  | some k=>right;have:=hg k hv;intro e;simp at e;omega)
theorem prow.top {w:World} {B:Nat} {v:Value} {l:Ps} (h:prow w B v l):∀ k,v.ownBlock=some k→k < w.heap.size:=fun k hk=>(World.ownsRow.lt h k hk).2
theorem reqAt.grown {w w':World} {b g:Nat} {m p:Bs} {q h:Value} {y:Bs} (H:reqAt w b m p q h y) (k:w.grownBy w' (some g)) (hne:¬ b=g):reqAt w' b m p q h y:=by
 have hb:b < w.heap.size:=World.block_lt_of_cell? w _ H.c0
 have hn:some b≠some g:=by simpa using hne
 exact ⟨k.cell H.c0 hn,k.cell H.c1 hn,k.cell H.c2 hn,k.cell H.c3 hn,k.cell H.c4 hn,fun j=>(k.frozen_far ⟨b,j,none⟩ hb hn).trans (H.fz j)⟩
def rPost (w:World) (b:Nat) (o:Option Req) (e:Ending) (w':World):Prop :=
 w.grownBy w' (some b)∧match o with
  | none=>e=.panicked noR
  | some r=>∃ vq vh M,e=.returned (.agg #[str r.method,str r.path,vq,vh,str r.body])∧prow w' w.heap.size vq r.query∧w.heap.size≤M∧prow w' M vh r.headers∧∀ k,vq.ownBlock=some k→k < M
theorem rPost_no {w w':World} {b:Nat} {o:Option Req} (h:o=none) (hg:w.grownBy w' (some b)):rPost w b o (.panicked noR) w':=by subst h;exact ⟨hg,rfl⟩
theorem headers_cap:∀ (k:Nat) (l:Ps) (rest:Bs) (x:Ps×Bs),headersFrom k l rest=some x→x.1.length≤k+l.length∧x.2.length≤rest.length:=by
 intro k
 induction k with
 | zero =>
  intro l rest x h
  have hc:=cut_le rest [10]
  unfold headersFrom at h
  split at h
  ·cases h
  ·split at h
   ·cases h;exact ⟨by simp,hc.2⟩
   ·cases h
 | succ k ih =>
  intro l rest x h
  have hc:=cut_le rest [10]
  unfold headersFrom at h
  split at h
  ·cases h
  ·split at h
   ·cases h;exact ⟨by simp,hc.2⟩
   ·simp only at h
    split at h
    ·cases h
    ·split at h
     ·cases h
     ·rename_i p _ _ l' hl'
      have e:l'=l++[p]:=by
       unfold addP at hl'
       split at hl'
       ·cases hl';rfl
       ·cases hl'
      obtain ⟨i1,i2⟩:=ih l' _ x h
      rw [e] at i1
      simp at i1
      exact ⟨by omega,by omega⟩
theorem readRequest_any (b:Nat) (l:Bs) (w:World) (h:rdr w b l) (E:Env w) (hb0:gTop≤b) (hl:l.length≤100000) :
  Calls Tryz.prog 67 #[.pointer (some ⟨b,0,none⟩)] w fun e w'=>rPost w b (reqOf l) e w':=by
 have hbw:=h.lt
 obtain ⟨n1,n2⟩:=cut_le l [10]
 have N1:=@r_no1 l
 have N2:=@r_no2 l
 have N3:=@r_no3 l
 have N4:=@r_last l
 have L1:Hid (_):=readLine_ok b l
 have L2:Hid (_):=readLine_no b l
 have F:Hid (_):=readFirstLine_any (Lib.cut l [10]).1
 have HD:Hid (_):=readHeaders_any b (Lib.cut l [10]).2.1
 have HC:=headers_cap 12 [] (Lib.cut l [10]).2.1
 generalize Lib.cut l [10]=c at *
 obtain ⟨line,rest,f⟩:=c
 simp only at n1 n2 N1 N2 N3 N4 F HD HC
 have B1:Below w.heap.size w (w.alloc emptyReq):=(Below.refl _ w).alloc (Nat.le_refl _) _
 have G1:w.grownBy (w.alloc emptyReq) (some b):=grown_below B1 (Nat.le_refl _)
 have E1:=E.below B1 E.sz
 have h1:rdr (w.alloc emptyReq) b l:=h.below hbw B1
 have R1:reqAt (w.alloc emptyReq) w.heap.size [] [] (.slice none 0 0) (.slice none 0 0) []:=reqAt_new w [] [] (.slice none 0 0) (.slice none 0 0) []
 have z1:(w.alloc emptyReq).heap.size=w.heap.size+1:=by simp
 have hbR:¬ w.heap.size=b:=by omega
 generalize reqOf l=o at *
 go_enter Tryz.func67,Tryz.ntmps67
 go_wp2_with fail
 generalize w.alloc emptyReq=w1 at *
 cases f with
 | false =>
  have HO:=N1 rfl
  clear N1 N2 N3 N4
  refine (L2.out w1 h1 E1 hl rfl).mono ?_
  rintro e w2 ⟨rfl,g2⟩
  have G2:=grown_trans G1 g2
  clear h1 E1 g2 R1 L1 L2 F HD HC
  go_wp2
  exact ⟨rfl,rPost_no HO G2⟩
 | true =>
  refine (L1.out w1 h1 E1 hl rfl).mono ?_
  rintro e w2 ⟨rfl,h2,g2⟩
  have G2:=grown_trans G1 g2
  have E2:=E.grown G2 hb0
  have R2:=R1.grown g2 hbR
  have z2:=g2.size
  clear h1 E1 g2 R1 L1 L2 G1 B1
  go_wp2_with fail
  refine (F.out w2 E2 (by omega)).mono ?_
  rintro e w3 ⟨b3,p3⟩
  have G3:=grown_then G2 (b3.mono (by omega))
  have h3:=h2.below (by omega) b3
  have R3:=R2.below b3 (by omega)
  have z3:=b3.size
  cases hfo:firstOf line with
  | none =>
   have HO:=N2 hfo
   rw [hfo] at p3
   simp only at p3
   subst p3
   clear N1 N2 N3 N4 E2 h2 R2 R3 h3 b3 F HD HC
   go_wp2
   exact ⟨rfl,rPost_no HO G3⟩
  | some fi =>
   rw [hfo] at p3
   simp only at p3
   obtain ⟨v,rfl,row3⟩:=p3
   obtain ⟨_,va,vc,hv⟩:=row3.len
   subst hv
   have top3:=row3.top
   have row4:=row3.alloc (.cells #[str fi.method,str fi.path,.slice va fi.query.length vc,.slice none 0 0,str []] 97)
   have R4:=R3.alloc (.cells #[str fi.method,str fi.path,.slice va fi.query.length vc,.slice none 0 0,str []] 97)
   have S4:=reqAt_new w3 fi.method fi.path (.slice va fi.query.length vc) (.slice none 0 0) []
   have G4:w.grownBy (w3.alloc (.cells #[str fi.method,str fi.path,.slice va fi.query.length vc,.slice none 0 0,str []] 97)) (some b):=grown_then G3 ((Below.refl _ _).alloc (by omega) _)
   have h4:rdr (w3.alloc (.cells #[str fi.method,str fi.path,.slice va fi.query.length vc,.slice none 0 0,str []] 97)) b rest:=h3.below (B:=w3.heap.size) (by omega) ((Below.refl _ _).alloc (Nat.le_refl _) _)
   have z4:(w3.alloc (.cells #[str fi.method,str fi.path,.slice va fi.query.length vc,.slice none 0 0,str []] 97)).heap.size=w3.heap.size+1:=by simp
   have E4:=E.grown G4 hb0
   clear E2 h2 R2 R3 h3 b3 F row3
   go_wp2_with fail
   generalize w3.alloc (.cells #[str fi.method,str fi.path,.slice va fi.query.length vc,.slice none 0 0,str []] 97)=w4 at *
   refine (HD.out w4 h4 E4 hb0 (by omega)).mono ?_
   rintro e w5 ⟨g5,p5⟩
   have G5:=grown_trans G4 g5
   have z5:=g5.size
   have R5:=R4.grown g5 hbR
   have S5:=S4.grown g5 (by omega)
   have row5:=row4.grown g5 (by omega)
   clear h4 R4 S4 row4 E4 HD
   cases hho:headersFrom 12 [] rest with
   | none =>
    have HO:=N3 hho
    rw [hho] at p5
    simp only at p5
    subst p5
    clear N1 N2 N3 N4 R5 S5 row5 HC
    go_wp2
    exact ⟨rfl,rPost_no HO G5⟩
   | some x =>
    have HO:=N4 (by first|trivial|rfl) hfo hho
    obtain ⟨k1,k2⟩:=HC x hho
    rw [hho] at p5
    simp only at p5
    obtain ⟨vh,rfl,hrow5,h5⟩:=p5
    obtain ⟨hs,body⟩:=x
    simp only at HO k1 k2 hrow5 h5
    obtain ⟨_,ha,hc,hv⟩:=hrow5.len
    subst hv
    clear N1 N2 N3 N4 HC
    have hneT:¬ b=w3.heap.size:=by omega
    obtain ⟨s0,s1,s2,s3,s4,sf⟩:=S5
    obtain ⟨d0,d1⟩:=h5
    have S7:reqAt ((w5.setCell ⟨w3.heap.size,3,none⟩ (.slice ha hs.length hc)).setCell ⟨w3.heap.size,4,none⟩ (str body)) w3.heap.size fi.method fi.path (.slice va fi.query.length vc) (.slice ha hs.length hc) body :=
     ⟨by simp [go_sem,s0],by simp [go_sem,s1],by simp [go_sem,s2],by simp [go_sem,s3],by simp [go_sem,s4],fun j=>by simp [go_sem,sf]⟩
    have B57:Below w.heap.size w5 ((w5.setCell ⟨w3.heap.size,3,none⟩ (.slice ha hs.length hc)).setCell ⟨w3.heap.size,4,none⟩ (str body)):=((Below.refl _ _).setCell (p:=⟨w3.heap.size,3,none⟩) (show w.heap.size≤w3.heap.size by omega) _).setCell (p:=⟨w3.heap.size,4,none⟩) (show w.heap.size≤w3.heap.size by omega) _
    have G7:=grown_then G5 B57
    have R7:=(R5.far (g:=w3.heap.size) (j:=3) (x:=.slice ha hs.length hc) (by omega)).far (g:=w3.heap.size) (j:=4) (x:=str body) (by omega)
    have row7:=(row5.ne (g:=w3.heap.size) (fun k hk=>by have:=top3 k hk;omega) 3 (.slice ha hs.length hc)).ne (g:=w3.heap.size) (fun k hk=>by have:=top3 k hk;omega) 4 (str body)
    have hrow7:=(hrow5.set (b:=w3.heap.size) (by omega) 3 (.slice ha hs.length hc)).set (b:=w3.heap.size) (by omega) 4 (str body)
    have E7:=E.grown G7 hb0
    have z7:((w5.setCell ⟨w3.heap.size,3,none⟩ (.slice ha hs.length hc)).setCell ⟨w3.heap.size,4,none⟩ (str body)).heap.size=w5.heap.size:=by simp
    have NL:Hid (_):=needLength_any fi.method fi.path (.slice va fi.query.length vc) (.slice ha hs.length hc) hs body
    clear R5 row5 hrow5
    go_wp2_with fail
    generalize (w5.setCell ⟨w3.heap.size,3,none⟩ (.slice ha hs.length hc)).setCell ⟨w3.heap.size,4,none⟩ (str body)=w7 at *
    refine (NL.out _ w7 E7 hrow7 (by simp at k1;omega) (by omega)).mono ?_
    rintro e w8 ⟨rfl,b8⟩
    have G8:=grown_then G7 (b8.mono (by omega))
    have R8:=R7.below b8 (by omega)
    have S8:=S7.below b8 (by omega)
    have row8:=row7.below b8
    have hrow8:=hrow7.below b8
    have z8:=b8.size
    clear R7 S7 row7 hrow7 E7 NL b8 B57 s0 s1 s2 s3 s4 sf d0 d1
    cases hlo:lenOk hs body with
    | false =>
     rw [hlo] at HO
     simp only [Bool.false_eq_true,if_false] at HO
     simp only [lenEnd]
     clear R8 S8 row8 hrow8
     go_wp2
     exact ⟨rfl,rPost_no HO G8⟩
    | true =>
     rw [hlo] at HO
     simp only [if_true] at HO
     simp only [lenEnd]
     have RX:=R8.set fi.method fi.path (.slice va fi.query.length vc) (.slice ha hs.length hc) body
     have GX:=grown_then G8 (below_set5 (B:=w.heap.size) (Below.refl w.heap.size w8) (Nat.le_refl _) (str fi.method) (str fi.path) (.slice va fi.query.length vc) (.slice ha hs.length hc) (str body))
     have rowX:=(row8.set5 (b:=w.heap.size) (by omega) (str fi.method) (str fi.path) (.slice va fi.query.length vc) (.slice ha hs.length hc) (str body)).up (B':=w.heap.size) (by omega)
     have hrowX:=hrow8.set5 (b:=w.heap.size) (by omega) (str fi.method) (str fi.path) (.slice va fi.query.length vc) (.slice ha hs.length hc) (str body)
     obtain ⟨s0,s1,s2,s3,s4,sf⟩:=S8
     obtain ⟨q0,q1,q2,q3,q4,qf⟩:=R8
     clear row8 hrow8 G8 G7 G5 G4 G3 G2
     have HT:Hid (∀ k,(Value.slice va fi.query.length vc).ownBlock=some k→k < w3.heap.size):=top3
     clear top3
     go_wp2
     refine bodyPost_ret (v:=.agg #[str fi.method,str fi.path,.slice va fi.query.length vc,.slice ha hs.length hc,str body]) ?_ rfl ?_
     ·obtain ⟨x0,x1,x2,x3,x4,_⟩:=RX
      simp [results,Tryz.results67,go_sem,x0,x1,x2,x3,x4]
     ·rw [HO]
      exact ⟨GX,_,_,w4.heap.size,rfl,rowX,by omega,hrowX,fun k hk=>by have:=HT.out k hk;omega⟩
theorem clone_r (l:Bs) (w:World) (hl:l.length≤1000000):Calls Tryz.prog 64 #[str l] w fun e w'=>e=.returned (str l)∧Below w.heap.size w w':=by
 have C:Hid (_):=Tryz.stringslite_Clone ⟨l.toArray⟩
 go_enter Tryz.func64,Tryz.ntmps64
 go_wp2_with (go_at_call 92;refine (C.out _ (by simp [ByteArray.size];omega)).mono ?_;rintro e w' ⟨rfl,hb⟩)
 go_ret
 exact ⟨rfl,hb⟩
abbrev nilP:Value:=.slice none 0 0
theorem catch_panicking (a b : Nat) (m p : Bs) (q h : Value) (y : Bs) (x : Int) (u : TypeId) (pv : Value) (older : List PanicEntry) (w : World) (R : reqAt w a m p q h y)
   (hc2 : w.cell? ⟨b, 0, none⟩ = some (.int .i64 x)) (hz2 : w.frozen? ⟨b, 0, none⟩ = false) (hab : ¬ b = a) :
    CallsD Tryz.prog 66 #[.pointer (some ⟨a,0,none⟩),.pointer (some ⟨b,0,none⟩)] (.panicking ({ v:=.iface u pv,recovered:=false } :: older)) w fun e u' w' =>
      e=.returned (.tuple #[])∧u'=.panicking ({ v:=.iface u pv,recovered:=true } :: older)∧w'=(set5 w a (str []) (str []) nilP nilP (str [])).setCell ⟨b,0,none⟩ (.int .i64 2):=by
  obtain ⟨c0,c1,c2,c3,c4,fz⟩:=R
  refine callsD_of_wpS Tryz.func66 rfl fun c₀ cs hu=>?_
  apply wpS_seq
  apply wpS_region
  simp [wpOpsS,go_sem,recoverD,hu,Tryz.ntmps66,Exit.thenS]
  refine wpS_cond (t:=true) (by simp [Act.eval,Array.replicate]) ?_
  simp only [if_true]
  apply wpS_region
  simp [wpOpsS,go_sem,c0,c1,c2,c3,c4,fz,hc2,hz2,bodyPostS,results,Tryz.results66]
theorem catch_idle (a b:Nat) (w:World) :
  CallsD Tryz.prog 66 #[.pointer (some ⟨a,0,none⟩),.pointer (some ⟨b,0,none⟩)] .returning w fun e u' w'=>e=.returned (.tuple #[])∧u'=.returning∧w'=w:=by
 refine callsD_of_wpS Tryz.func66 rfl fun c₀ cs hu=>?_
 apply wpS_seq
 apply wpS_region
 simp [wpOpsS,go_sem,recoverD,hu,Tryz.ntmps66,Exit.thenS]
 refine wpS_cond (t:=false) (by simp [Act.eval,Array.replicate]) ?_
 simp only [Bool.false_eq_true,if_false]
 refine wpS_of_wp (wp_skip ?_)
 cases c₀
 simp_all [bodyPostS,results,Tryz.results66]
def pPost (w:World) (x:Int×Req) (e:Ending) (w':World):Prop :=
 Below w.heap.size w w'∧∃ vq vh M,e=.returned (.tuple #[.agg #[str x.2.method,str x.2.path,vq,vh,str x.2.body],.int .i64 x.1]) ∧
  prow w' w.heap.size vq x.2.query∧w.heap.size≤M∧prow w' M vh x.2.headers∧∀ k,vq.ownBlock=some k→k < M
theorem pPost_err {w w':World} {x:Int×Req} (n:Int) (hx:x=(n,{})) (hb:Below w.heap.size w w'):pPost w x (.returned (.tuple #[.agg #[str [],str [],nilP,nilP,str []],.int .i64 n])) w':=by
 subst hx
 exact ⟨hb,nilP,nilP,w.heap.size,rfl,prow_nil _ _,Nat.le_refl _,prow_nil _ _,fun k hk=>by cases hk⟩
theorem pPost_ok {w w':World} {x:Int×Req} {r:Req} {vq vh:Value} (M:Nat) (hx:x=(0,r)) (hb:Below w.heap.size w w') (h1:prow w' w.heap.size vq r.query) (hM:w.heap.size≤M) (h2:prow w' M vh r.headers) (ht:∀ k,vq.ownBlock=some k→k < M) :
  pPost w x (.returned (.tuple #[.agg #[str r.method,str r.path,vq,vh,str r.body],.int .i64 0])) w':=by
 subst hx
 exact ⟨hb,vq,vh,M,rfl,h1,hM,h2,ht⟩
theorem p_long {s:Bs} (h:2000 < s.length):parseOf s=(1,{}):=by unfold parseOf;rw [if_pos h]
theorem p_none {s:Bs} (h:¬ 2000 < s.length) (hr:reqOf s=none):parseOf s=(2,{}):=by unfold parseOf;rw [if_neg h,hr]
theorem p_body {s:Bs} {r:Req} (h:¬ 2000 < s.length) (hr:reqOf s=some r) (hb:300 < r.body.length):parseOf s=(1,{}):=by unfold parseOf;rw [if_neg h,hr];simp only;rw [if_pos hb]
theorem p_ok {s:Bs} {r:Req} (h:¬ 2000 < s.length) (hr:reqOf s=some r) (hb:¬ 300 < r.body.length):parseOf s=(0,r):=by unfold parseOf;rw [if_neg h,hr];simp only;rw [if_neg hb]
abbrev zeroErr:Obj:=.cells #[.int .i64 0] 25
theorem parse_any (l:Bs) (w:World) (E:Env w) (hl:l.length≤9223372036854775807) :
  Calls Tryz.prog 47 #[str l] w fun e w'=>pPost w (parseOf l) e w':=by
 have hmf:∀ (fn:Fn) (first cap:Array Value) (w:World),(Instr.makeFunc fn first cap).run Tryz.prog w=.ok (.func fn first cap) w:=fun _ _ _ _=>rfl
 have hE0:=E.sz
 have BA:Below w.heap.size w ((w.alloc emptyReq).alloc zeroErr):=((Below.refl _ w).alloc (Nat.le_refl _) _).alloc (by simp) _
 have RA:reqAt ((w.alloc emptyReq).alloc zeroErr) w.heap.size [] [] nilP nilP []:=(reqAt_new w [] [] nilP nilP []).alloc _
 have zA:((w.alloc emptyReq).alloc zeroErr).heap.size=w.heap.size+1+1:=by simp
 have cA:((w.alloc emptyReq).alloc zeroErr).cell? ⟨w.heap.size+1,0,none⟩=some (.int .i64 0):=by simp [go_sem]
 have fA:((w.alloc emptyReq).alloc zeroErr).frozen? ⟨w.heap.size+1,0,none⟩=false:=by simp [go_sem]
 have hne:¬ w.heap.size+1=w.heap.size:=by omega
 by_cases hlong:2000 < l.length
 ·have HP:Hid (parseOf l=(1,{})):=p_long hlong
  have hlong':(2000:Int) < (l.length:Int):=by omega
  have BX:Below w.heap.size w ((w.alloc emptyReq).alloc (.cells #[.int .i64 1] 25)):=((Below.refl _ w).alloc (Nat.le_refl _) _).alloc (by simp) _
  have PX:=pPost_err 1 HP.out BX
  clear hlong
  go_enter_defers Tryz.func47,Tryz.ntmps47
  go_wp2
  refine leaves_cons (f:=66) (args:=#[.pointer (some ⟨w.heap.size,0,none⟩),.pointer (some ⟨w.heap.size+1,0,none⟩)]) (by simp) (by simp [go_sem]) ?_
  refine (catch_idle w.heap.size (w.heap.size+1) _).mono ?_
  rintro e u' w'' ⟨rfl,rfl,rfl⟩
  simp [Leaves,settle,results,Tryz.results47,go_sem]
  exact PX
 ·have hlong':¬ ((2000:Int) < (l.length:Int)):=by omega
  have CL:Hid (_):=clone_r l
  have RR:Hid (_):=fun b=>readRequest_any b l
  have N1:=@p_none l hlong
  have N2:=fun r=>@p_body l r hlong
  have N3:=fun r=>@p_ok l r hlong
  generalize parseOf l=x at *
  go_enter_defers Tryz.func47,Tryz.ntmps47
  go_wp2_with fail
  generalize hwA:(w.alloc emptyReq).alloc zeroErr=wA at *
  clear hwA
  refine (CL.out wA (by omega)).mono ?_
  rintro e wB ⟨rfl,bB⟩
  have zB:=bB.size
  have RB:=RA.below bB (by omega)
  have cB:=(bB.cell (p:=⟨w.heap.size+1,0,none⟩) (show w.heap.size+1 < wA.heap.size by omega)).trans cA
  have fB:=(bB.frozen (p:=⟨w.heap.size+1,0,none⟩) (show w.heap.size+1 < wA.heap.size by omega)).trans fA
  have BB:Below w.heap.size w wB:=BA.trans (bB.mono (by omega))
  clear RA cA fA BA bB CL
  have BC:Below w.heap.size w (wB.alloc (.cells #[str l] 134)):=BB.alloc (by omega) _
  have RC:=RB.alloc (.cells #[str l] 134)
  have cC:=cell_alloc cB (.cells #[str l] 134)
  have fC:(wB.alloc (.cells #[str l] 134)).frozen? ⟨w.heap.size+1,0,none⟩=false:=(((Below.refl wB.heap.size wB).alloc (Nat.le_refl _) _).frozen (p:=⟨w.heap.size+1,0,none⟩) (show w.heap.size+1 < wB.heap.size by omega)).trans fB
  have hC:rdr (wB.alloc (.cells #[str l] 134)) wB.heap.size l:=⟨by simp [go_sem],by simp [go_sem]⟩
  have EC:=E.below BC E.sz
  have zC:(wB.alloc (.cells #[str l] 134)).heap.size=wB.heap.size+1:=by simp
  clear RB cB fB BB
  go_wp2_with fail
  generalize wB.alloc (.cells #[str l] 134)=wC at *
  refine (RR.out wB.heap.size wC hC EC (by omega) (by omega)).mono ?_
  rintro e wD ⟨gD,pD⟩
  have BD:Below w.heap.size w wD:=BC.grown gD (by omega) (fun k hk=>by simp at hk;omega)
  have RD:=RC.grown gD (by omega)
  have cD:=gD.cell cC (by simp;omega)
  have fD:=(gD.frozen_far ⟨w.heap.size+1,0,none⟩ (show w.heap.size+1 < wC.heap.size by omega) (by simp;omega)).trans fC
  have zD:=gD.size
  clear RC cC fC hC EC gD BC
  cases hr:reqOf l with
  | none =>
   have HX:=N1 hr
   rw [hr] at pD
   simp only at pD
   subst pD
   clear N1 N2 N3
   have PX:=pPost_err 2 HX ((below_set5 BD (Nat.le_refl _) (str []) (str []) nilP nilP (str [])).setCell (p:=⟨w.heap.size+1,0,none⟩) (Nat.le_succ _) (.int .i64 2))
   have RX:=(RD.set [] [] nilP nilP []).far (g:=w.heap.size+1) (j:=0) (x:=.int .i64 2) (by omega)
   go_wp2
   refine leaves_cons (f:=66) (args:=#[.pointer (some ⟨w.heap.size,0,none⟩),.pointer (some ⟨w.heap.size+1,0,none⟩)]) (by simp) (by simp [go_sem]) ?_
   refine (catch_panicking w.heap.size (w.heap.size+1) [] [] nilP nilP [] 0 299 _ [] _ RD cD fD hne).mono ?_
   rintro e u' w'' ⟨rfl,rfl,rfl⟩
   obtain ⟨x0,x1,x2,x3,x4,_⟩:=RX
   simp [Leaves,settle,results,Tryz.results47,go_sem,x0,x1,x2,x3,x4,cD]
   exact PX
  | some r =>
   rw [hr] at pD
   simp only at pD
   obtain ⟨vq,vh,M,rfl,rowD,hM,hrowD,htop⟩:=pD
   obtain ⟨_,va,vc,hv⟩:=rowD.len
   subst hv
   obtain ⟨_,ha,hc,hv⟩:=hrowD.len
   subst hv
   have RE:=RD.set r.method r.path (.slice va r.query.length vc) (.slice ha r.headers.length hc) r.body
   have BE:=below_set5 BD (Nat.le_refl _) (str r.method) (str r.path) (.slice va r.query.length vc) (.slice ha r.headers.length hc) (str r.body)
   have rowE:=rowD.set5 (b:=w.heap.size) (by omega) (str r.method) (str r.path) (.slice va r.query.length vc) (.slice ha r.headers.length hc) (str r.body)
   have hrowE:=hrowD.set5 (b:=w.heap.size) (by omega) (str r.method) (str r.path) (.slice va r.query.length vc) (.slice ha r.headers.length hc) (str r.body)
   have cE:(set5 wD w.heap.size (str r.method) (str r.path) (.slice va r.query.length vc) (.slice ha r.headers.length hc) (str r.body)).cell? ⟨w.heap.size+1,0,none⟩=some (.int .i64 0):=by simp [go_sem,cD]
   have fE:(set5 wD w.heap.size (str r.method) (str r.path) (.slice va r.query.length vc) (.slice ha r.headers.length hc) (str r.body)).frozen? ⟨w.heap.size+1,0,none⟩=false:=by simp [go_sem,fD]
   have zE:(set5 wD w.heap.size (str r.method) (str r.path) (.slice va r.query.length vc) (.slice ha r.headers.length hc) (str r.body)).heap.size=wD.heap.size:=by simp
   have HT:Hid (∀ k,(Value.slice va r.query.length vc).ownBlock=some k→k < M):=htop
   clear htop rowD hrowD
   have N2':Hid (300 < r.body.length→x=(1,{})):=N2 r hr
   have N3':Hid (¬ 300 < r.body.length→x=(0,r)):=N3 r hr
   clear N1 N2 N3
   have HRD:Hid (reqAt wD w.heap.size [] [] nilP nilP []):=RD
   obtain ⟨d0,d1,d2,d3,d4,df⟩:=RD
   by_cases hb:300 < r.body.length
   ·have HX:=N2'.out hb
    have hb':(300:Int) < (r.body.length:Int):=by omega
    have PX:=pPost_err 1 HX ((below_set5 BE (Nat.le_refl _) (str []) (str []) nilP nilP (str [])).setCell (p:=⟨w.heap.size+1,0,none⟩) (Nat.le_succ _) (.int .i64 1))
    have RX:=(RE.set [] [] nilP nilP []).far (g:=w.heap.size+1) (j:=0) (x:=.int .i64 1) (by omega)
    have HPX:Hid (pPost w x (.returned (.tuple #[.agg #[str [],str [],nilP,nilP,str []],.int .i64 1])) _):=PX
    have HRX:Hid (reqAt _ w.heap.size [] [] nilP nilP []):=RX
    clear PX RX RE BE rowE hrowE cE fE zE N2' N3' hb HRD HX
    go_wp2
    refine leaves_cons (f:=66) (args:=#[.pointer (some ⟨w.heap.size,0,none⟩),.pointer (some ⟨w.heap.size+1,0,none⟩)]) (by simp) (by simp [go_sem]) ?_
    refine (catch_idle w.heap.size (w.heap.size+1) _).mono ?_
    rintro e u' w'' ⟨rfl,rfl,rfl⟩
    obtain ⟨x0,x1,x2,x3,x4,_⟩:=HRX.out
    simp [Leaves,settle,results,Tryz.results47,go_sem,x0,x1,x2,x3,x4,cD]
    exact HPX.out
   ·have HX:=N3'.out hb
    have hb':¬ ((300:Int) < (r.body.length:Int)):=by omega
    have BF:=(below_set5 BE (Nat.le_refl _) (str r.method) (str r.path) (.slice va r.query.length vc) (.slice ha r.headers.length hc) (str r.body)).setCell (p:=⟨w.heap.size+1,0,none⟩) (Nat.le_succ _) (.int .i64 0)
    have rowF:=((rowE.set5 (b:=w.heap.size) (by omega) (str r.method) (str r.path) (.slice va r.query.length vc) (.slice ha r.headers.length hc) (str r.body)).set (b:=w.heap.size+1) (by omega) 0 (.int .i64 0)).up (B':=w.heap.size) (by omega)
    have hrowF:=(hrowE.set5 (b:=w.heap.size) (by omega) (str r.method) (str r.path) (.slice va r.query.length vc) (.slice ha r.headers.length hc) (str r.body)).set (b:=w.heap.size+1) (by omega) 0 (.int .i64 0)
    have RX:=(RE.set r.method r.path (.slice va r.query.length vc) (.slice ha r.headers.length hc) r.body).far (g:=w.heap.size+1) (j:=0) (x:=.int .i64 0) (by omega)
    have HPX:Hid (pPost w x (.returned (.tuple #[.agg #[str r.method,str r.path,.slice va r.query.length vc,.slice ha r.headers.length hc,str r.body],.int .i64 0])) _):=pPost_ok M HX BF rowF (by omega) hrowF HT.out
    have HRX:Hid (reqAt _ w.heap.size r.method r.path (.slice va r.query.length vc) (.slice ha r.headers.length hc) r.body):=RX
    clear RX RE BE rowE hrowE cE fE zE N2' N3' hb HRD HX BF rowF hrowF
    go_wp2
    refine leaves_cons (f:=66) (args:=#[.pointer (some ⟨w.heap.size,0,none⟩),.pointer (some ⟨w.heap.size+1,0,none⟩)]) (by simp) (by simp [go_sem]) ?_
    refine (catch_idle w.heap.size (w.heap.size+1) _).mono ?_
    rintro e u' w'' ⟨rfl,rfl,rfl⟩
    obtain ⟨x0,x1,x2,x3,x4,_⟩:=HRX.out
    simp [Leaves,settle,results,Tryz.results47,go_sem,x0,x1,x2,x3,x4,cD]
    exact HPX.out
end Go.Proofs.YtbllcgibmgbnjaaGreatDoor.R
namespace Go.Proofs.YtbllcgibmgbnjaaGreatDoor.P
open Go.RowKit
def rowCells (m:List UInt8) (p:Bool) (a b c:List UInt8) (n k:Int) (act:List UInt8) (y:Bool):List Value :=
 [str m,.bool p,str a,str b,str c,.int .i64 n,.int .i64 k,str act,.bool y]
def tPUT:List UInt8:=[80,85,84]
def tGET:List UInt8:=[71,69,84]
def tDEL:List UInt8:=[68,69,76,69,84,69]
def tPrefix:List UInt8:=[112,114,101,102,105,120]
def tAfter:List UInt8:=[97,102,116,101,114]
def tMax:List UInt8:=[109,97,120]
def tVersion:List UInt8:=[118,101,114,115,105,111,110]
def rowsC:List (List Value):=[
 rowCells tPUT false [] [] [] 0 0 [] false,
 rowCells tPUT false sPolicy [] [] 1 1 sPolicy true,
 rowCells tGET false sPolicy [] [] 1 2 sPolicy false,
 rowCells tDEL false sPolicy [] [] 1 3 sPolicy false,
 rowCells tGET false tPrefix tAfter tMax 0 4 sList false,
 rowCells tPUT true [] [] [] 0 5 sPut true,
 rowCells tGET true tVersion [] [] 0 6 sGet false,
 rowCells tDEL true [] [] [] 0 7 sDelete false,
 rowCells tDEL true tVersion [] [] 1 8 sDelete false]
structure GL (w:World):Prop where
 env:R.Env w
 laid:Laid w
 err:errT w
 room:∃ t p,w.cell? ⟨5,0,none⟩=some (.iface t p)
 syn:∃ t p,w.cell? ⟨9,0,none⟩=some (.iface t p)
 rng:∃ t p,w.cell? ⟨10,0,none⟩=some (.iface t p)
 rows:∀ j u,rowsC.flatten[j]?=some u→w.cell? ⟨3,j,none⟩=some u
 sz:13≤w.heap.size
theorem gTop_le:R.gTop≤13:=by decide
theorem GL.below {B:Nat} {w w':World} (h:GL w) (k:Below B w w') (hB:13≤B):GL w':=by
 have c:∀ {a o:Nat} {v:Value},a < 13→w.cell? ⟨a,o,none⟩=some v→w'.cell? ⟨a,o,none⟩=some v:=fun {a o v} ha hc=>(k.cell (p:=⟨a,o,none⟩) (show a < B by omega)).trans hc
 obtain ⟨t1,p1,e1⟩:=h.room
 obtain ⟨t2,p2,e2⟩:=h.syn
 obtain ⟨t3,p3,e3⟩:=h.rng
 exact ⟨h.env.below k (Nat.le_trans gTop_le hB),h.laid.below k (by omega) (by omega),c (by omega) h.err,⟨t1,p1,c (by omega) e1⟩,⟨t2,p2,c (by omega) e2⟩,⟨t3,p3,c (by omega) e3⟩,fun j u hu=>c (by omega) (h.rows j u hu),Nat.le_trans h.sz k.size⟩
theorem GL.call {w w':World} (h:GL w) (k:Below w.heap.size w w'):GL w':=h.below k h.sz
theorem GL.kept {S:Nat→Prop} {w w':World} (h:GL w) (k:Kept S w w') (hS:∀ g,S g→13≤g):GL w':=h.below (k.below (B:=13) h.sz hS) (Nat.le_refl _)
theorem GL.drew {w:World} (h:GL w):GL w.drew:=h.call (below_drew w)
theorem GL.alloc {w:World} (h:GL w) (o:Obj):GL (w.alloc o):=h.call ((Below.refl _ _).alloc (Nat.le_refl _) _)
theorem run_append_str {P:Program} (w:World) (t u ty e:TypeId) (i:TypeInfo) (ht:P.underlying t=some (.slice e)) (hu:P.underlying u=some .string) (hi:P.info? e=some i) (hz:i.zero=some (.int .u8 0))
  (hsize:i.size=1) (hby:i.bytes=1) (base:Nat) (v:Value) (n:Nat) (xs:List Value) (hown:w.ownsRow base e 1 v n xs) (s:ByteArray) (hbytes:n+s.size≤140737488355328) (hbase:base≤w.heap.size) :
  ∃ v' w',(Builtin.append_ #[t,u] ty #[v,.string s]).run P w=.ok v' w'∧w'.ownsRow base e 1 v' (n+s.size) (xs++Lib.strCells s)∧w.grownBy w' v.ownBlock∧(v'.ownBlock=v.ownBlock∨v'.ownBlock=some w.heap.size):=by
 have h63:n+s.size≤maxLen:=by unfold maxLen;omega
 obtain ⟨v',w',hr,h2,h3,h4⟩:=Lib.run_append_own_string (P:=P) w base t u ty e i ht hu hi hz hsize hby v n xs hown s h63 hbytes hbase
 refine ⟨v',w',hr,h2,h3,?_⟩
 have hxl:xs.length=n:=by simpa using hown.1
 rcases hown.2 with ⟨rfl,rfl⟩|⟨g,cap,cur,rfl,hbg,hg,hnc,hcm,hcs,htake⟩
 ·by_cases hm:s.size=0
  ·obtain rfl:=h4.2 ⟨rfl,hm⟩
   exact .inl rfl
  ·have hr2:=run_append_nil_string (P:=P) w t u ty e i (.int .u8 0) ht hu hi hz s (by omega) (by omega) (by rw [hby];omega)
   rw [hr] at hr2
   cases hr2
   exact .inr rfl
 ·by_cases hroom:n+s.size≤cap
  ·have hcs':cur.size=cap:=by simpa using hcs
   have hr2:=Lib.run_append_room_string (P:=P) w t u ty e i ht hu hi hsize g n cap cur hg s hroom (by omega)
   rw [hr] at hr2
   cases hr2
   exact .inl rfl
  ·have hc:∀ j u,xs[j]?=some u→w.cell? ((⟨g,0,none⟩:Addr).add j)=some u:=hown.cells (g:=g) rfl
   have hr2:=Lib.run_append_grow_string (P:=P) w t u ty e i (.int .u8 0) ht hu hi hz ⟨g,0,none⟩ n cap xs (by rw [hsize];simpa using hxl) hc s (by omega) (by omega) (by rw [hby];exact growslice_fits (by omega) (by omega))
   rw [hr] at hr2
   cases hr2
   exact .inr rfl
theorem strCells_l (l:List UInt8):Lib.strCells ⟨l.toArray⟩=l.map u8v:=by
 simp [Lib.strCells,u8v]
end Go.Proofs.YtbllcgibmgbnjaaGreatDoor.P
namespace Go.Proofs.YtbllcgibmgbnjaaGreatDoor.R
open Go.RowKit
open C (ret_bool ret_int dec)
def srow (w:World) (B:Nat) (v:Value) (l:List Bs):Prop:=w.ownsRow B 9 1 v l.length (l.map str)
theorem Tryz.infoS:(Tryz.prog.info? 9).map (fun i=>(i.zero,i.size,i.bytes))=some (some (.string ⟨#[]⟩),1,16):=by kernel_rfl
theorem srow.lt {w:World} {B:Nat} {v:Value} {l:List Bs} (h:srow w B v l):∀ k,v.ownBlock=some k→B≤k:=fun k hk=>(World.ownsRow.lt h k hk).1
theorem srow.alloc {w:World} {B:Nat} {v:Value} {l:List Bs} (h:srow w B v l) (o:Obj):srow (w.alloc o) B v l:=World.ownsRow.alloc h o
theorem srow_nil (w:World) (B:Nat):srow w B (.slice none 0 0) []:=World.ownsRow_nil w B 9 1
theorem sapp_law {w:World} {ops:Array Oper} {rest:List Oper} {o:Oper} {a:Act} {Q:Exit→Act→World→Prop} (hgd:o.guard=none) (s x:Operand)
  (ho:o.op=.call { callee:=.builtin .append,args:=#[s,x],argTypes:=#[61,61] })
  (B:Nat) (l:List Bs) (p:Bs) (v:Value) (hs:a.eval s=v) (hown:srow w B v l) (H:Nat) (hx:a.eval x=.slice (some ⟨H,0,none⟩) 1 1)
  (fr:Nat×Nat) (hblk:w.heap[H]?=some (.cells #[str p] 9 fr)) (hlen:l.length≤1000000000) (hB:B≤w.heap.size)
  (h:∀ v' w',srow w' B v' (l++[p])→w.grownBy w' v.ownBlock→Below B w w'→wpList Tryz.prog ops Q rest (a.put o.dst v') w'):wpList Tryz.prog ops Q (o :: rest) a w:=by
 obtain ⟨i0,hi,hz0,hz1,hz2⟩:=info_parts Tryz.infoS
 refine wpList_append_lies _ hgd s x 61 ho B 9 i0 (.string ⟨#[]⟩) 1 16 Tryz.underlying61 hi hz0 hz1 hz2 rfl (by omega) v l.length (l.map str) hs hown ⟨H,0,none⟩ 1 1 [str p] hx (by simp)
  (fun j u hu=>World.news_of_block hblk j u (by simpa using hu)) (by intro u hu;simp at hu;subst hu;rfl) (by omega) (by unfold maxLen;omega) (by omega) hB w.heap.size rfl ?_
 intro g cap w' h1 h2 _ _
 refine h _ w' ?_ h2 ((Below.refl B w).grown h2 hB hown.lt)
 unfold srow
 rw [List.length_append,List.map_append]
 exact h1
theorem srow.form {w:World} {B:Nat} {v:Value} {l:List Bs} (h:srow w B v l) (hl:l≠[]):∃ g cap,v=.slice (some ⟨g,0,none⟩) l.length cap∧B≤g∧g < w.heap.size∧∀ k (hk:k < l.length),w.cell? ⟨g,k,none⟩=some (str l[k]):=by
 have hb:=World.ownsRow.lt h
 have hc:=fun g hv=>World.ownsRow.cells h (g:=g) hv
 obtain ⟨h1,⟨rfl,hn⟩|⟨g,cap,cur,rfl,hg,_⟩⟩:=h
 ·exact absurd (List.eq_nil_of_length_eq_zero hn) hl
 ·refine ⟨g,cap,rfl,hg,(hb g rfl).2,fun k hk=>?_⟩
  have c1:=hc g rfl k (str l[k]) (by simp [hk])
  simpa [Addr.add_lit] using c1
def moreN:Value→Nat
 | .bool true=>1
 | _=>0
theorem moreN_t:moreN (.bool true)=1:=rfl
theorem moreN_f:moreN (.bool false)=0:=rfl
def lenS:Value→Nat
 | .string s=>s.size
 | _=>0
theorem lenS_str (l:Bs):lenS (str l)=l.length:=by simp [lenS,ByteArray.size]
theorem split_more {s sep:Bs} (hs:sep≠[]) (h:(Lib.cut s sep).2.2=true):Lib.split s sep=(Lib.cut s sep).1 :: Lib.split (Lib.cut s sep).2.1 sep:=by rw [split_rec s sep hs,if_pos h]
theorem split_last {s sep:Bs} (hs:sep≠[]) (h:(Lib.cut s sep).2.2=false):Lib.split s sep=[(Lib.cut s sep).1]:=by
 rw [split_rec s sep hs,if_neg (by simp [h])]
 unfold Lib.cut at h ⊢
 split <;> simp_all
theorem cut_rest {s sep:Bs} (h:(Lib.cut s sep).2.2=false):(Lib.cut s sep).2.1=[]:=by
 unfold Lib.cut at h ⊢
 split <;> simp_all
open C (ret_bool ret_int dec decEnd)
theorem findEnd_eq (x:Option Bs):findEnd x=.returned (.tuple #[str (x.getD []),.bool x.isSome]):=by cases x <;> rfl
def prPost (w:World) (o:Option Ps) (e:Ending) (w':World):Prop :=
 Below w.heap.size w w'∧match o with
  | none=>e=.returned (.tuple #[nilP,.bool false])
  | some q=>∃ v,e=.returned (.tuple #[v,.bool true])∧prow w' w.heap.size v q
theorem prPost_no {w w':World} {o:Option Ps} (h:o=none) (hb:Below w.heap.size w w'):prPost w o (.returned (.tuple #[nilP,.bool false])) w':=by subst h;exact ⟨hb,rfl⟩
def dgt (k:Nat):UInt8:=UInt8.ofNat (48+k)
theorem dd_small {n:Nat} (h:n < 10):Lib.decDigits n=[dgt n]:=by rw [Lib.decDigits,dif_pos h];rfl
theorem dd_big {n:Nat} (h:¬ n < 10):Lib.decDigits n=Lib.decDigits (n / 10)++[dgt (n % 10)]:=by rw [Lib.decDigits,dif_neg h];rfl
theorem dd_len (n:Nat):(Lib.decDigits n).length≤n+1:=by
 induction n using Nat.strongRecOn with
 | _ n ih =>
  by_cases h:n < 10
  ·rw [dd_small h];simp
  ·have:=ih (n / 10) (by omega)
   rw [dd_big h,List.length_append];simp;omega
open Go.Proofs.YtbllcgibmgbnjaaGreatDoor.C (enc)
def namesOf (list:Bs):List Bs:=if list=[] then [] else Lib.split list [59]
def pickFrom (hs:Ps):Bs→List Bs→Option Ps
 | _,[]=>some []
 | last,n :: r=>match findP hs n with
  | none=>none
  | some v=>if n≤last∨n=[97,117,116,104] then none else (pickFrom hs n r).map ((n,v) :: ·)
def must (n:Bs):Bool:=n == [104,111,115,116] || n == [108,101,110,103,116,104] || ([120,45]:Bs).isPrefixOf n
def misses (hs signed:Ps):Bool:=hs.any fun p=>must p.1 && (findP signed p.1).isNone
def pairText (p:Bs×Bs):Bs:=enc false p.1++[61]++enc false p.2
def canonQ (q:Ps):Bs:=Lib.join (((q.filter fun p=>!(p.1 == [120,45,115,105,103])).map pairText).mergeSort fun x y=>decide (x≤y)) [38]
def lineText (p:Bs×Bs):Bs:=p.1++[58]++p.2
def canonText (m p q:Bs) (signed:Ps) (list h:Bs):Bs:=Lib.join ([m,enc true p,q]++signed.map lineText++[[],list,h]) [10]
def told (signed:Ps):Bs:=signed.flatMap fun p=>lineText p++[10]
theorem join_cons2 (x y:Bs) (r:List Bs) (sep:Bs):Lib.join (x :: y :: r) sep=x++sep++Lib.join (y :: r) sep:=by
 simp [Lib.join,List.intercalate]
theorem join_told (signed:Ps) (y:Bs) (r:List Bs):Lib.join (signed.map lineText++(y :: r)) [10]=told signed++Lib.join (y :: r) [10]:=by
 induction signed with
 | nil=>rfl
 | cons p s ih =>
  cases s with
  | nil=>simp [join_cons2,told]
  | cons p2 s =>
   simp only [List.map_cons,List.cons_append] at ih ⊢
   rw [join_cons2,ih]
   simp [told]
theorem canon_told (m p q:Bs) (signed:Ps) (list h:Bs):canonText m p q signed list h=m++[10]++enc true p++[10]++q++[10]++told signed++[10]++list++[10]++h:=by
 unfold canonText
 have e:([m,enc true p,q]++signed.map lineText++[[],list,h])=m :: enc true p :: q :: (signed.map lineText++[[],list,h]):=by simp
 rw [e]
 have e2:∀ x:Bs,Lib.join (x :: (signed.map lineText++[[],list,h])) [10]=x++[10]++Lib.join (signed.map lineText++[[],list,h]) [10]:=by
  intro x
  cases signed with
  | nil=>exact join_cons2 _ _ _ _
  | cons p s=>exact join_cons2 _ _ _ _
 rw [join_cons2,join_cons2,e2,join_told,join_cons2,join_cons2]
 simp [Lib.join_one]
theorem pick_names (hs:Ps):∀ (r:List Bs) (l:Bs) (s:Ps),pickFrom hs l r=some s→s.map (·.1)=r:=by
 intro r
 induction r with
 | nil=>intro l s h;simp [pickFrom] at h;subst h;rfl
 | cons n r ih =>
  intro l s h
  unfold pickFrom at h
  split at h
  ·cases h
  ·split at h
   ·cases h
   ·rw [Option.map_eq_some_iff] at h
    obtain ⟨t,ht,rfl⟩:=h
    simp [ih n t ht]
end Go.Proofs.YtbllcgibmgbnjaaGreatDoor.R
namespace Go.Proofs.YtbllcgibmgbnjaaGreatDoor.R
open Go.RowKit
open Go.Proofs.YtbllcgibmgbnjaaGreatDoor.C (ret_bool ret_int)
theorem srow.below {w w':World} {B:Nat} {v:Value} {l:List Bs} (h:srow w B v l) (k:Below w.heap.size w w'):srow w' B v l:=by
 have hb:=World.ownsRow.lt h
 obtain ⟨h1,⟨rfl,hn⟩|⟨g,cap,cur,rfl,h2,h3,h4⟩⟩:=h
 ·exact ⟨h1,.inl ⟨rfl,hn⟩⟩
 ·exact ⟨h1,.inr ⟨g,cap,cur,rfl,h2,(k.block g (hb g rfl).2).trans h3,h4⟩⟩
theorem srow.up {w:World} {B B':Nat} {v:Value} {l:List Bs} (h:srow w B v l) (hB:B'≤B):srow w B' v l:=by
 obtain ⟨h1,h2|⟨g,cap,cur,rfl,h2,h3,h4⟩⟩:=h
 ·exact ⟨h1,.inl h2⟩
 ·exact ⟨h1,.inr ⟨g,cap,cur,rfl,Nat.le_trans hB h2,h3,h4⟩⟩
theorem str_app (a b:Bs):((⟨a.toArray⟩:ByteArray)++⟨b.toArray⟩)=⟨(a++b).toArray⟩:=by
 apply ByteArray.ext
 apply Array.ext'
 simp
open C (ret_bool ret_int)
theorem srow.len {w:World} {B:Nat} {v:Value} {l:List Bs} (h:srow w B v l):∃ a c,v=.slice a l.length c:=by
 obtain ⟨h1,⟨rfl,hn⟩|⟨g,cap,cur,rfl,hg,_⟩⟩:=h
 ·exact ⟨none,0,by rw [hn]⟩
 ·exact ⟨_,cap,rfl⟩
theorem le_cases (a b:Bs):(a≤b∧Op.bytesLess a b=true)∨(a≤b∧Op.bytesLess a b=false∧(a == b)=true)∨(¬ a≤b∧Op.bytesLess a b=false∧(a == b)=false):=by
 rw [bytesLess_eq]
 by_cases h:a < b
 ·exact .inl ⟨List.le_of_lt h,by simpa using h⟩
 ·refine .inr ?_
  by_cases e:a=b
  ·subst e;exact .inl ⟨List.le_refl _,by simp,by simp⟩
  ·refine .inr ⟨fun k=>?_,by simpa using h,by simpa using e⟩
   rcases List.le_iff_lt_or_eq.1 k with k|k
   ·exact h k
   ·exact e k
open C (ret_bool ret_int dec grown_trans grown_set grown_then grown_below)
theorem prow.any {w:World} {B:Nat} {v:Value} {l:Ps} (h:prow w B v l):∃ a n c,v=.slice a n c∧Hid (n=l.length):=by
 obtain ⟨_,a,c,hv⟩:=h.len
 exact ⟨a,_,c,hv,rfl⟩
def rqPost (w:World) (o:Option Req) (e:Ending) (w':World):Prop :=
 Below w.heap.size w w'∧match o with
  | none=>∃ (m p y:Bs) (a a':Option Addr) (n c n' c':Nat),e=.returned (.tuple #[.agg #[str m,str p,.slice a n c,.slice a' n' c',str y],.bool false])
  | some r=>∃ vq vh,e=.returned (.tuple #[.agg #[str r.method,str r.path,vq,vh,str r.body],.bool true])∧prow w' w.heap.size vq r.query∧prow w' w.heap.size vh r.headers
theorem rqPost_no {w w':World} {o:Option Req} {m p y:Bs} {a a':Option Addr} {n c n' c':Nat} (h:o=none) (hb:Below w.heap.size w w') :
  rqPost w o (.returned (.tuple #[.agg #[str m,str p,.slice a n c,.slice a' n' c',str y],.bool false])) w':=by subst h;exact ⟨hb,m,p,y,a,a',n,c,n',c',rfl⟩
theorem rqPost_ok {w w':World} {o:Option Req} {r:Req} {vq vh:Value} (h:o=some r) (hb:Below w.heap.size w w') (h1:prow w' w.heap.size vq r.query) (h2:prow w' w.heap.size vh r.headers) :
  rqPost w o (.returned (.tuple #[.agg #[str r.method,str r.path,vq,vh,str r.body],.bool true])) w':=by subst h;exact ⟨hb,vq,vh,rfl,h1,h2⟩
open C (ret_bool ret_int dec)
end Go.Proofs.YtbllcgibmgbnjaaGreatDoor.R
