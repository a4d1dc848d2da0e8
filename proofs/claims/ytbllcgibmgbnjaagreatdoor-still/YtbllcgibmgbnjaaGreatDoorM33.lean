import Derived.Test.YtbllcgibmgbnjaaGreatDoorM31
set_option maxHeartbeats 8000000
set_option maxRecDepth 20000
namespace Go.Proofs.YtbllcgibmgbnjaaGreatDoor.P
open Go.RowKit
open C (ret_bool ret_int ret_str enc enc_len)
theorem done_log (s:Sto) (c:Chg):s.log <+: (s.done c).2.log:=by
 unfold Sto.done
 split
 ·exact List.prefix_refl _
 ·split
  ·exact List.prefix_append _ _
  ·exact List.prefix_refl _
theorem done_no {s:Sto} {c:Chg} (h:(s.done c).1≠200):(s.done c).2=s:=by
 unfold Sto.done at h ⊢
 split
 ·rfl
 ·rename_i t e
  rw [e] at h
  simp only at h
  split
  ·rename_i hl
   rw [if_pos hl] at h
   exact absurd rfl h
  ·rfl
theorem serve_log (s:Sto) (u:Tx) (q:AskP):s.log <+: (serveP s u q).2.2.2.log:=by
 unfold serveP
 repeat' split
 all_goals first|exact done_log _ _|exact List.prefix_refl _|(unfold getP;split <;> exact List.prefix_refl _)
theorem serve_no {s:Sto} {u:Tx} {q:AskP} (h:(serveP s u q).1≠200):(serveP s u q).2.2.2=s:=by
 unfold serveP at h ⊢
 by_cases k0:q.kind=0
 ·rw [if_pos k0] at h ⊢;exact done_no h
 rw [if_neg k0] at h ⊢
 by_cases k1:q.kind=1
 ·rw [if_pos k1] at h ⊢;exact done_no h
 rw [if_neg k1] at h ⊢
 by_cases k2:q.kind=2
 ·rw [if_pos k2]
 rw [if_neg k2] at h ⊢
 by_cases k3:q.kind=3
 ·rw [if_pos k3] at h ⊢;exact done_no h
 rw [if_neg k3] at h ⊢
 by_cases k5:q.kind=5
 ·rw [if_pos k5] at h ⊢;exact done_no h
 rw [if_neg k5] at h ⊢
 by_cases k6:q.kind=6
 ·rw [if_pos k6];unfold getP;split <;> rfl
 rw [if_neg k6] at h ⊢
 by_cases k7:q.kind=7
 ·rw [if_pos k7] at h ⊢;exact done_no h
 rw [if_neg k7] at h ⊢
 exact done_no h
theorem RespQ.log {us:Us} {clock:Nat} {s:Sto} {t:Tx} {X:Nat×Hs×Tx×Sto} (h:RespQ us clock s t X):s.log <+: X.2.2.2.log:=by
 cases hr:readP us clock t with
 | error n=>rw [h.err n hr];exact List.prefix_refl _
 | ok p =>
  obtain ⟨u,q⟩:=p
  by_cases hm:mayP s u q=200
  ·have hs:=h.serves u q hr hm
   by_cases hk:q.kind=4
   ·obtain ⟨l,_,rfl⟩:=hs.2 hk;exact List.prefix_refl _
   ·rw [hs.1 hk];exact serve_log s u q
  ·rw [h.no u q hr hm];exact List.prefix_refl _
theorem RespQ.same {us:Us} {clock:Nat} {s:Sto} {t:Tx} {X:Nat×Hs×Tx×Sto} (h:RespQ us clock s t X) (hn:X.1≠200):X.2.2.2=s:=by
 cases hr:readP us clock t with
 | error n=>rw [h.err n hr]
 | ok p =>
  obtain ⟨u,q⟩:=p
  by_cases hm:mayP s u q=200
  ·have hs:=h.serves u q hr hm
   by_cases hk:q.kind=4
   ·obtain ⟨l,_,rfl⟩:=hs.2 hk;rfl
   ·rw [hs.1 hk] at hn ⊢;exact serve_no hn
  ·rw [h.no u q hr hm]
theorem first_method {top:Tx} {f:R.First} (h:R.firstOf top=some f):f.method=(Lib.cut top [32]).1:=by
 unfold R.firstOf at h
 split at h
 ·split at h
  ·cases h
  ·split at h
   ·obtain ⟨q,_,rfl⟩:=Option.map_eq_some_iff.1 h;rfl
   ·cases h;rfl
 ·cases h
theorem req_method {t:Tx} {r:R.Req} (h:R.reqOf (71 :: 69 :: 84 :: 32 :: t)=some r):r.method=tGET:=by
 unfold R.reqOf at h
 rw [R.cut_cons (pre1 (by decide)),R.cut_cons (pre1 (by decide)),R.cut_cons (pre1 (by decide)),R.cut_cons (pre1 (by decide))] at h
 simp only at h
 split at h
 ·split at h
  ·cases h
  ·rename_i f hf
   split at h
   ·cases h
   ·split at h
    ·cases h
     have e:=first_method hf
     rw [show (71 :: 69 :: 84 :: 32 :: (Lib.cut t [10]).1:Tx)=[71,69,84]++32 :: (Lib.cut t [10]).1 from rfl,cutc_hit _ (by decide)] at e
     exact e
    ·cases h
 ·cases h
theorem pairs_kind (a:AskP):∀ ps:Hs,(pairsA a ps).1.kind=a.kind
 | []=>rfl
 | p :: ps=>by
  unfold pairsA
  split
  ·rw [pairs_kind _ ps];exact (pairA_keep a p.1 p.2).1
  ·exact (pairA_keep a p.1 p.2).1
theorem ask_get_kind {p:Tx} {q:Hs} {y:Tx} {a:AskP} (h:askP tGET p q y=some a):a.kind=2∨a.kind=4∨a.kind=6:=by
 unfold askP at h
 split at h
 ·cases h
 ·rename_i r hr
  have hk:r.kind=2∨r.kind=4∨r.kind=6:=by
   unfold rowP at hr
   have h1:=List.find?_some hr
   have h2:=List.mem_of_find?_eq_some hr
   unfold rowFits at h1
   simp only [Bool.and_eq_true] at h1
   have h3:r.method=tGET:=by simpa using h1.1.1
   simp only [rowsP,List.mem_cons,List.not_mem_nil,or_false] at h2
   rcases h2 with rfl|rfl|rfl|rfl|rfl|rfl|rfl|rfl|rfl
   all_goals first|(exact absurd h3 (by decide))|simp
  split at h
  ·split at h
   ·cases h
    rw [pairs_kind]
    exact hk
   ·cases h
  ·cases h
theorem get_kind {us:Us} {clock:Nat} {t u:Tx} {q:AskP} (h:readP us clock (71 :: 69 :: 84 :: 32 :: t)=.ok (u,q)):q.kind=2∨q.kind=4∨q.kind=6:=by
 unfold readP at h
 split at h
 ·cases h
 ·split at h
  ·cases h
  ·rename_i h1 h2
   have hm:(R.parseOf (71 :: 69 :: 84 :: 32 :: t)).2.method=tGET:=by
    unfold R.parseOf at h1 h2 ⊢
    split
    ·rename_i hl;rw [if_pos hl] at h1;exact absurd rfl h1
    ·rename_i hl
     rw [if_neg hl] at h1 h2
     cases hr:R.reqOf (71 :: 69 :: 84 :: 32 :: t) with
     | none=>rw [hr] at h2;exact absurd (by decide) h2
     | some r =>
      rw [hr] at h1 h2
      simp only at h1 h2 ⊢
      split
      ·rename_i hb;rw [if_pos hb] at h1;exact absurd rfl h1
      ·exact req_method hr
   split at h
   ·cases h
   ·split at h
    ·cases h
    ·rename_i a ha
     cases h
     rw [hm] at ha
     exact ask_get_kind ha
theorem RespQ.got {us:Us} {clock:Nat} {s:Sto} {t:Tx} {X:Nat×Hs×Tx×Sto} (h:RespQ us clock s (71 :: 69 :: 84 :: 32 :: t) X):X.2.2.2=s:=by
 cases hr:readP us clock (71 :: 69 :: 84 :: 32 :: t) with
 | error n=>rw [h.err n hr]
 | ok p=>exact get_same h hr (get_kind hr)
theorem ans_200 {X:Nat×Hs×Tx×Sto} (_h:Good X) (hp:([50,48,48,32]:Tx).isPrefixOf (ansT X)=false):X.1≠200:=by
 intro e
 unfold ansT respT at hp
 rw [e,told200] at hp
 simp [List.isPrefixOf] at hp
theorem begins_any (t p:Tx) (w:World) :
  Calls Tryz.prog 29 #[str t,str p] w fun e w'=>e=.returned (.bool (p.isPrefixOf t))∧w=w':=by
 by_cases h:p.length≤t.length
 ·have t1:decide ((p.length:Int)≤(t.length:Int))=true:=by simp;omega
  have HR:Hid (p.isPrefixOf t=(t.take p.length == p)):=by
   show _=_
   rw [Bool.eq_iff_iff,List.isPrefixOf_iff_prefix]
   constructor
   ·intro hp;rw [List.prefix_iff_eq_take] at hp;simp [← hp]
   ·intro hp;rw [List.prefix_iff_eq_take];simpa using (by simpa using hp:t.take p.length=p).symm
  rw [HR.out]
  go_enter Tryz.func29,Tryz.ntmps29
  go_wp2
  go_ret
  refine ⟨ret_bool ?_,rfl⟩
  rw [Lib.toList_data,Lib.extract_from_zero]
 ·have t1:decide ((p.length:Int)≤(t.length:Int))=false:=by simp;omega
  have HR:Hid (p.isPrefixOf t=false):=by
   show _=_
   cases e:p.isPrefixOf t with
   | false=>rfl
   | true=>exact absurd (List.isPrefixOf_iff_prefix.1 e).length_le h
  rw [HR.out]
  go_enter Tryz.func29,Tryz.ntmps29
  go_wp2
  go_ret
  exact ⟨rfl,rfl⟩
theorem idle_of {s:Sto} {t:Tx} {X:Nat×Hs×Tx×Sto} (h:RespQ two 5000 s t X) (g:Good X):(([50,48,48,32]:Tx).isPrefixOf (ansT X)=true∧([71,69,84,32]:Tx).isPrefixOf t=false)∨((([50,48,48,32]:Tx).isPrefixOf (ansT X)=false∨(([50,48,48,32]:Tx).isPrefixOf (ansT X)=true∧([71,69,84,32]:Tx).isPrefixOf t=true))∧X.2.2.2=s):=by
 cases e1:([50,48,48,32]:Tx).isPrefixOf (ansT X) with
 | false=>exact .inr ⟨.inl rfl,h.same (ans_200 g e1)⟩
 | true =>
  cases e2:([71,69,84,32]:Tx).isPrefixOf t with
  | false=>exact .inl ⟨rfl,rfl⟩
  | true =>
   obtain ⟨r,rfl⟩:=List.isPrefixOf_iff_prefix.1 e2
   exact .inr ⟨.inr ⟨rfl,rfl⟩,RespQ.got (t:=r) h⟩
structure SS (a:Option Addr) (l:List Tx) (w:World):Prop where
 get:∀ k (h:k < l.length),∃ b o,a=some ⟨b,o,none⟩∧b < w.heap.size∧w.cell? ⟨b,o+k,none⟩=some (str l[k])
structure HB (N h a b:Nat) (s:Sto) (r:Roles) (w:World):Prop where
 H:HS h a b s r w
 K:Keys s
 hr:∀ g,r g≠.none→N≤g
 hN:N≤w.heap.size
theorem HB.step {N h a b:Nat} {s s':Sto} {r r':Roles} {w w':World} (P:HB N h a b s r w) (st:Step r w r' w') (H:HS h a b s' r' w') (K:Keys s'):HB N h a b s' r' w'∧Below N w w' :=
 ⟨⟨H,K,(st.base P.hr P.hN).1,Nat.le_trans P.hN st.kept.size⟩,(st.base P.hr P.hN).2⟩
theorem stlaw_any (a0:Option Addr) (c0:Nat) (l:List StP) (_hl:l.length≤9223372036854775807) (hf:∀ o∈l,StFit o) (a1:Option Addr) (c1:Nat) (ts:List Tx) (htl:ts.length≤9223372036854775807) (ht:∀ t∈ts,t.length≤9223372036854775807) (w:World) (G:GL w) (S:SR a0 l w) (A:SS a1 ts w) :
  Calls Tryz.prog 8 #[.slice a0 l.length c0,.slice a1 ts.length c1] w fun e w'=>e=.returned (.bool true)∧Below w.heap.size w w':=by
 have BG:Hid (Calls Tryz.prog 19 #[.int .i64 20000] w fun e w'=>∃ h a b r,e=.returned (.tuple #[.pointer (some ⟨h,0,none⟩),.bool true])∧HS h a b (sBeg 20000) r w'∧Below w.heap.size w w'∧∀ g,r g≠.none→w.heap.size≤g):=by
  have:=begun_any 20000 (by omega) (by omega) w G
  rw [beg_eq 20000 (by omega)] at this
  exact this
 have PL:Hid (∀ (h a b bb:Nat) (s:Sto) (bl:List BV) (sl:Value) (r:Roles) (o:StP) W,StFit o→GL W→PB w.heap.size h a b bb s bl sl 20000 r W→Calls Tryz.prog 20 #[.pointer (some ⟨bb,0,none⟩),.pointer (some ⟨h,0,none⟩),o.v,.int .i64 20000] W fun e w'=>∃ s' l' sl' r',e=.returned (.bool true)∧PB w.heap.size h a b bb s' l' sl' 20000 r' w'∧Below w.heap.size W w'):=fun h a b bb s bl sl r o W ho GW P=>by
  obtain ⟨X,hX⟩:=respQ_ex P.P.K.K two 5000 (headT tAl sAl 5000 (stAsk o s.last).1 (stAsk o s.last).2.1 (stAsk o s.last).2.2)
  have:=playK_any w.heap.size h a b bb s bl sl 20000 r o ho X hX (by omega) W GW P
  exact Calls.mono this fun e w' ⟨l',sl',r',h1,h2,h3⟩=>⟨_,l',sl',r',h1,h2,h3⟩
 have HS0:Hid (SR a0 l w):=S
 have HA0:Hid (SS a1 ts w):=A
 have HG:Hid (GL w):=G
 have HF:Hid (∀ o∈l,StFit o):=hf
 have HTL:Hid (∀ t∈ts,t.length≤9223372036854775807):=ht
 have BE:Hid (∀ (t p:Tx) (w:World),Calls Tryz.prog 29 #[str t,str p] w fun e w'=>e=.returned (.bool (p.isPrefixOf t))∧w=w'):=begins_any
 clear S A G hf ht
 go_enter Tryz.func8,Tryz.ntmps8
 go_wp2_with fail
 refine Calls.mono BG.out ?_
 rintro e w1 ⟨h,a,b,r,rfl,H1,b1,hr1⟩
 have PB1:Hid (PB w.heap.size h a b w1.heap.size (sBeg 20000) [] (.slice none 0 0) 20000 r (w1.alloc bokC)):=pb_begun 20000 H1 b1.size hr1
 have B1:Below w.heap.size w (w1.alloc bokC):=b1.alloc b1.size _
 clear BG H1 hr1
 go_wp2
 go_loopw [6,8] (fun ok i wr=>∃ k:Nat,i=.int .i64 k∧k≤l.length∧k≤20∧ok=.bool true∧(∃ s bl sl r,PB w.heap.size h a b w1.heap.size s bl sl 20000 r wr)∧Below w.heap.size w wr) (fun _ i _=>l.length - (intOf i).toNat)
 case atStart=>exact ⟨0,rfl,Nat.zero_le _,by omega,rfl,⟨_,_,_,_,PB1.out⟩,B1⟩
 case round =>
  obtain ⟨k,rfl,hk,hk20,rfl,⟨s,bl,sl,r2,P2⟩,hb⟩:=hrel
  by_cases hlt:k < l.length∧k < 20
  ·obtain ⟨hlt,hlt2⟩:=hlt
   obtain ⟨g,off,rfl,hg,q0,q1,q2,q3⟩:=(HS0.out.below hb).get k hlt
   have ho:=HF.out _ (List.getElem_mem hlt)
   generalize l[k]=o at *
   have P3:Hid (_):=PL.out h a b w1.heap.size s bl sl r2 o wr ho (HG.out.call hb) P2
   obtain ⟨kd,ky,on,bo⟩:=o
   dsimp only at q0 q1 q2 q3
   clear P2 ho PB1
   go_wp2_with (go_at_call 20;refine Calls.mono P3.out ?_;rintro e w3 ⟨s',l',sl',r',rfl,P4,b4⟩)
   go_roundw
   case rel=>exact ⟨k+1,by go_num,by omega,by omega,rfl,⟨_,_,_,_,P4⟩,hb.trans b4⟩
   case measure=>simp [intOf];omega
  ·have HB2:Hid (HB w.heap.size h a b s r2 wr):=⟨P2.P.H,P2.P.K.K,P2.hr,hb.size⟩
   have tt:(decide (k < l.length)=true∧decide ((k:Int) < 20)=false∧decide (k < 20)=false)∨decide (k < l.length)=false:=by
    by_cases h1:k < l.length
    ·exact .inl ⟨by simpa using h1,by simp;omega,by simp;omega⟩
    ·exact .inr (by simpa using h1)
   clear P2 PB1 PL HS0 HF hlt
   rcases tt with ⟨t1,t2,t3⟩|t1
   all_goals (
    go_wp2
    go_loopw [9] (fun i wr=>∃ (k:Nat) (s:Sto) (r2:Roles),i=.int .i64 k∧k≤ts.length∧HB w.heap.size h a b s r2 wr∧Below w.heap.size w wr) (fun i _=>ts.length - (intOf i).toNat)
    case atStart=>exact ⟨0,s,r2,rfl,Nat.zero_le _,HB2.out,hb⟩
    case round =>
     clear HB2
     (try clear t2 t3)
     clear t1
     obtain ⟨j,s2,r3,rfl,hj,P3,hb3⟩:=hrel
     by_cases hjl:j < ts.length
     ·obtain ⟨g,off,rfl,hgN,q0⟩:=HA0.out.get j hjl
      replace q0:=(hb3.cell (p:=⟨g,off+j,none⟩) hgN).trans q0
      have htx:=HTL.out _ (List.getElem_mem hjl)
      generalize ts[j]=tx at *
      obtain ⟨X,hX⟩:=respQ_ex P3.K two 5000 tx
      have HX:Hid (RespQ two 5000 s2 tx X):=hX
      have HP3:Hid (HB w.heap.size h a b s2 r3 wr):=P3
      have HID:Hid ((([50,48,48,32]:Tx).isPrefixOf (ansT X)=true∧([71,69,84,32]:Tx).isPrefixOf tx=false)∨((([50,48,48,32]:Tx).isPrefixOf (ansT X)=false∨(([50,48,48,32]:Tx).isPrefixOf (ansT X)=true∧([71,69,84,32]:Tx).isPrefixOf tx=true))∧X.2.2.2=s2)):=idle_of hX (hX.good P3.K P3.H.L.F P3.H.L.un)
      have G3:=HG.out.call hb3
      have LG1:Hid (_):=llog_any a b two 5000 s2 r3 wr P3.H.L
      have TE1:Hid (_):=tells_any h a b s2 r3 2 (by omega) P3.K wr G3 P3.H
      have hc:=P3.H.c
      clear hX P3
      go_wp2_with (go_at_call 21;refine Calls.mono LG1.out ?_;rintro e w3 ⟨rfl,rfl⟩)
      refine Calls.mono TE1.out ?_
      rintro e w4 ⟨T1,r4,rfl,hT1,H4,st4⟩
      obtain ⟨P4,b4⟩:=HP3.out.step st4 H4 HP3.out.K
      have hb4:=hb3.trans b4
      have G4:=HG.out.call hb4
      have q4:=(b4.cell (p:=⟨g,off+j,none⟩) hgN).trans q0
      have hc4:=P4.H.c
      have hrg:r4 g=.none:=by
       cases e:r4 g with
       | none=>rfl
       | _=>have:=P4.hr g (by rw [e];simp);omega
      have hrh:=P4.H.rh
      have xd:w4.drew.cell? ⟨h,0,none⟩=some (.pointer (some ⟨a,0,none⟩))∧w4.drew.cell? ⟨g,off+j,none⟩=some (str tx):=⟨hc4,q4⟩
      have DO:Hid (Calls Tryz.prog 16 #[.pointer (some ⟨a,0,none⟩),str tx] w4.drew fun e w'=>(∃ r',e=.returned (str (ansT X))∧LS a b two 5000 X.2.2.2 r' w'∧Step r4 w4.drew r' w')∧(w'.cell? ⟨h,0,none⟩=some (.pointer (some ⟨a,0,none⟩))∧w'.cell? ⟨g,off+j,none⟩=some (str tx))):=Calls.mono (doQ_any a b two 5000 s2 r4 tx htx X HX.out P4.K w4.drew G4.drew (P4.H.L.below (below_drew w4))) fun e w' hh=>⟨hh,by
       obtain ⟨r',_,_,st⟩:=hh
       exact ⟨st.kept.cell xd.1 (by simp [hrh]),st.kept.cell xd.2 (by simp [hrg])⟩⟩
      have HP4:Hid (HB w.heap.size h a b s2 r4 w4):=P4
      have HT1:Hid (Told s2 (tellTo 4 2) T1):=hT1
      clear P4 hT1 H4 st4 TE1 LG1
      go_wp2_with fail
      go_region_held3 (fun w'=>w'.cell? ⟨h,0,none⟩=some (.pointer (some ⟨a,0,none⟩))∧w'.cell? ⟨g,off+j,none⟩=some (str tx)) (first|with_reducible exact xd|with_reducible exact y5) ((go_at_call 16;with_reducible refine Calls.mono DO.out ?_;rintro e w5 ⟨⟨r5,rfl,L5,st5⟩,y5⟩))
      all_goals (
       have stD:=(Step.of_below (r:=r4) (below_drew w4)).trans st5
       have H5:=HP4.out.H.step stD L5
       obtain ⟨P5,b5⟩:=HP4.out.step stD H5 (HX.out.keys HP4.out.K)
       have hb5:=hb4.trans b5
       have G5:=HG.out.call hb5
       have LG2:Hid (_):=llog_any a b two 5000 X.2.2.2 r5 w5 L5
       have TE2:Hid (_):=tells_any h a b X.2.2.2 r5 2 (by omega) P5.K w5 G5 H5
       have HP5:Hid (HB w.heap.size h a b X.2.2.2 r5 w5):=P5
       have q5:=y5.2
       have hc5:=y5.1
       clear P5 H5 L5 st5 stD y5 xd DO
       go_wp2_with (go_at_call 21;refine Calls.mono LG2.out ?_;rintro e w6 ⟨rfl,rfl⟩)
       refine Calls.mono TE2.out ?_
       rintro e w6 ⟨T2,r6,rfl,hT2,H6,st6⟩
       obtain ⟨P6,b6⟩:=HP5.out.step st6 H6 HP5.out.K
       have hb6:=hb5.trans b6
       have q6:=(b6.cell (p:=⟨g,off+j,none⟩) hgN).trans q5
       have FIN:Hid (∃ s r2,HB w.heap.size h a b s r2 w6):=⟨_,_,P6⟩
       have PRE:Hid (s2.log.isPrefixOf X.2.2.2.log=true):=List.isPrefixOf_iff_prefix.2 HX.out.log
       have B1:Hid (Calls Tryz.prog 29 #[str X.2.2.2.log,str s2.log] w6 fun e w'=>e=.returned (.bool true)∧w6=w'):=by
        have:=BE.out X.2.2.2.log s2.log w6
        rwa [PRE.out] at this
       have B2:Hid (Calls Tryz.prog 29 #[str (ansT X),.string ⟨#[50,48,48,32]⟩] w6 fun e w'=>e=.returned (.bool (([50,48,48,32]:Tx).isPrefixOf (ansT X)))∧w6=w'):=BE.out (ansT X) [50,48,48,32] w6
       have B3:Hid (Calls Tryz.prog 29 #[str tx,.string ⟨#[71,69,84,32]⟩] w6 fun e w'=>e=.returned (.bool (([71,69,84,32]:Tx).isPrefixOf tx))∧w6=w'):=BE.out tx [71,69,84,32] w6
       have HT2:Hid (Told X.2.2.2 (tellTo 4 2) T2):=hT2
       clear P6 H6 st6 TE2 LG2 hT2 HP5 PRE
       rcases HID.out with ⟨k1,k2⟩|⟨k1,k2⟩
       ·rw [k1] at B2
        rw [k2] at B3
        generalize X.2.2.2.log=lg at *
        generalize s2.log=lg0 at *
        generalize ansT X=xt at *
        go_wp2_with (first|(go_at_call 29;with_reducible refine Calls.mono B1.out ?_;rintro e w7 ⟨rfl,rfl⟩)|(go_at_call 29;with_reducible refine Calls.mono B2.out ?_;rintro e w7 ⟨rfl,rfl⟩)|(go_at_call 29;with_reducible refine Calls.mono B3.out ?_;rintro e w7 ⟨rfl,rfl⟩))
        go_roundw
        case rel =>
         obtain ⟨s9,r9,P9⟩:=FIN.out
         exact ⟨j+1,s9,r9,by go_num,by omega,P9,hb6⟩
        case measure=>simp [intOf];omega
       ·have e2:T2=T1:=told_uniq (by rw [← k2];exact HT2.out) HT1.out
        subst e2
        rw [k2] at B1
        clear HT1 HT2 HID
        generalize X.2.2.2=sx at *
        subst k2
        rcases k1 with k1|⟨k1,k2⟩
        ·rw [k1] at B2
         generalize sx.log=lg at *
         generalize ansT X=xt at *
         go_wp2_with (first|(go_at_call 29;with_reducible refine Calls.mono B1.out ?_;rintro e w7 ⟨rfl,rfl⟩)|(go_at_call 29;with_reducible refine Calls.mono B2.out ?_;rintro e w7 ⟨rfl,rfl⟩)|(go_at_call 29;with_reducible refine Calls.mono B3.out ?_;rintro e w7 ⟨rfl,rfl⟩))
         go_roundw
         case rel =>
          obtain ⟨s9,r9,P9⟩:=FIN.out
          exact ⟨j+1,s9,r9,by go_num,by omega,P9,hb6⟩
         case measure=>simp [intOf];omega
        ·rw [k1] at B2
         rw [k2] at B3
         generalize sx.log=lg at *
         generalize ansT X=xt at *
         go_wp2_with (first|(go_at_call 29;with_reducible refine Calls.mono B1.out ?_;rintro e w7 ⟨rfl,rfl⟩)|(go_at_call 29;with_reducible refine Calls.mono B2.out ?_;rintro e w7 ⟨rfl,rfl⟩)|(go_at_call 29;with_reducible refine Calls.mono B3.out ?_;rintro e w7 ⟨rfl,rfl⟩))
         go_roundw
         case rel =>
          obtain ⟨s9,r9,P9⟩:=FIN.out
          exact ⟨j+1,s9,r9,by go_num,by omega,P9,hb6⟩
         case measure=>simp [intOf];omega)
     ·obtain rfl:j=ts.length:=by omega
      go_wp2
      go_ret
      exact ⟨rfl,hb3⟩)
end Go.Proofs.YtbllcgibmgbnjaaGreatDoor.P
