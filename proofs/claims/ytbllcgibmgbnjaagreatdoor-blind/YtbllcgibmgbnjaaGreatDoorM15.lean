import Derived.Test.YtbllcgibmgbnjaaGreatDoorM07
import Derived.Test.YtbllcgibmgbnjaaGreatDoorM14
import Derived.Test.YtbllcgibmgbnjaaGreatDoorM13
import Derived.Lib.FrozenHead
import Derived.Lib.AtoiTie
import Derived.Deep.RegionHeld3
import Derived.BigRegion
set_option maxHeartbeats 4000000
set_option maxRecDepth 100000
namespace Go.Proofs.YtbllcgibmgbnjaaGreatDoor
open Go.RowKit
theorem arr8.drew {w:World} {b:Nat} {f:Nat→Nat} {n:Nat} (h:arr8 w b f n):arr8 w.drew b f n:=fun j hj=>⟨(h j hj).1,(h j hj).2⟩
theorem box32_size (D:List UInt8) (w:World):w.heap.size < ((w.alloc (.cells z32 141)).setCells w.heap.size 0 (D.map u8v)).heap.size:=by
 have:=(below_setCells (B:=0) (w.alloc (.cells z32 141)) w.heap.size (D.map u8v) 0 (Nat.zero_le _)).size
 have e:(w.alloc (.cells z32 141)).heap.size=w.heap.size+1:=by simp
 omega
theorem store32 (R:List Value) (hR:R.length=32) (h1:∀ v∈R,v.oneCell'=true) (w:World) (b:Nat) (ht:w.there b 0 32):(storeCells ⟨b,0,none⟩ R).run Tryz.prog w=.ok () (w.setCells b 0 R):=by
 have:=run_storeCells_cells (P:=Tryz.prog) b 0 R 0 w (fun j hj=>by simpa using (ht j (by omega)).1) (fun j hj=>by simpa using (ht j (by omega)).2) h1
 simpa using this
structure TagW (w:World) (B:Nat) (wr:World):Prop where
 th:wr.there B 0 32
 bel:Below B w wr
 laid:Laid wr
 sz:B+1≤wr.heap.size
theorem TagW.call {w wr w':World} {B:Nat} (h:TagW w B wr) (hb:Below wr.heap.size wr w'):TagW w B w' :=
 ⟨there_below h.th hb h.sz,h.bel.trans (hb.mono (Nat.le_of_lt h.sz)),h.laid.call hb,Nat.le_trans h.sz hb.size⟩
theorem TagW.drew {w wr:World} {B:Nat} (h:TagW w B wr):TagW w B wr.drew:=⟨h.th,h.bel.drew,h.laid.drew,h.sz⟩
theorem mtag_any (key text:List UInt8) (hk:key.length≤400000000000000) (ht:text.length≤400000000000000) (w:World) (h:Laid w) :
  Calls Tryz.prog 74 #[.string ⟨key.toArray⟩,.string ⟨text.toArray⟩] w fun e' w'=>e'=.returned (.agg ((tagL key text).map u8v).toArray)∧Below w.heap.size w w':=by
 have CS:Hid (_):=shortKey_any key hk
 have hsl:=shortK_len key
 have HT:Hid (tagL key text=digest (keyB (shortK key) 92 64++digest (keyB (shortK key) 54 64++text))):=rfl
 generalize shortK key=s at *
 have CK1:Hid (∀ w,Calls Tryz.prog 107 #[.string ⟨s.toArray⟩,.int .u8 54] w fun e' w'=>e'=.returned (.string ⟨(keyB s 54 64).toArray⟩)∧Below w.heap.size w w'):=keyBlock_any s hsl 54 (by omega)
 have CK2:Hid (∀ w,Calls Tryz.prog 107 #[.string ⟨s.toArray⟩,.int .u8 92] w fun e' w'=>e'=.returned (.string ⟨(keyB s 92 64).toArray⟩)∧Below w.heap.size w w'):=keyBlock_any s hsl 92 (by omega)
 have CH1:Hid (_):=behind_any (keyB s 54 64) text (keyB_len _ _ _) ht
 have HD:Hid ((digest (keyB s 54 64++text)).length=32):=digest_len _
 have CH2:Hid (_):=behind_any (keyB s 92 64) (digest (keyB s 54 64++text)) (keyB_len _ _ _) (by rw [digest_len];omega)
 rw [HT.out]
 clear HT hsl
 generalize keyB s 54 64=k1 at *
 generalize keyB s 92 64=k2 at *
 generalize digest (k1++text)=D at *
 have HR:Hid (((digest (k2++D)).map u8v).length=32):=by show _=_;rw [List.length_map,digest_len]
 have HRA:Hid (((digest (k2++D)).map u8v).toArray.size=32):=by show _=_;rw [List.size_toArray];exact HR.out
 have HRO:Hid (∀ v∈(digest (k2++D)).map u8v,v.oneCell'=true):=by intro v hv;rw [List.mem_map] at hv;obtain ⟨x,_,rfl⟩:=hv;rfl
 generalize (digest (k2++D)).map u8v=R at *
 have HLA:Hid ((D.map u8v).toArray.size=32):=by show _=_;rw [List.size_toArray,List.length_map];exact HD.out
 have HON:Hid (∀ v∈D.map u8v,v.oneCell'=true):=by intro v hv;rw [List.mem_map] at hv;obtain ⟨x,_,rfl⟩:=hv;rfl
 have HLT:Hid ((D.map u8v).toArray.toList=D.map u8v):=rfl
 generalize hG:(D.map u8v).toArray=G at *
 have HG:Hid ((D.map u8v).toArray=G):=hG
 clear hG
 obtain ⟨w1,hw1⟩:∃ w1,w1=w.alloc (.cells z32 141):=⟨_,rfl⟩
 have HT1:Hid (TagW w w.heap.size w1):=by
  rw [hw1]
  exact ⟨(box32 D HD.out w).1,(Below.refl _ _).alloc (Nat.le_refl _) _,h.alloc _,by simp⟩
 clear h
 unfold z32 at hw1
 have HW1:Hid (_):=hw1.symm
 clear hw1
 go_enter Tryz.func74,Tryz.ntmps74
 go_wp2_with (first
  | (go_at_call 105;rw [HW1.out];refine (CS.out _ HT1.out.laid).mono ?_;rintro e' w2 ⟨rfl,hb2⟩;have HT2:Hid (TagW w w.heap.size w2):=HT1.out.call hb2;clear hb2 CS)
  | (go_at_call 107;refine (CK1.out _).mono ?_;rintro e' w3 ⟨rfl,hb3⟩;have HT3:Hid (TagW w w.heap.size w3):=HT2.out.call hb3;clear hb3 CK1)
  | (go_at_call 106;refine (CH1.out _ HT3.out.laid).mono ?_;rintro e' w4 ⟨rfl,hb4⟩;have HT4:Hid (TagW w w.heap.size w4):=HT3.out.call hb4;clear hb4 CH1;have HBOX:Hid (_):=box32 D HD.out w4)
  | (refine wpList_store_mid rfl 141 _ _ rfl w4.heap.size 0 G rfl rfl (by rw [HLA.out];exact HBOX.out.1) (by rw [HLA.out];kernel_rfl) (by rw [← HG.out];exact all_oneCell_toArray HON.out) ?_;rw [HLT.out];show wpList _ _ _ _ _ ((w4.alloc (.cells z32 141)).setCells w4.heap.size 0 (D.map u8v));obtain ⟨_,ha5,hb5⟩:=HBOX.out;clear HBOX;have HZ4:Hid (w4.heap.size < ((w4.alloc (.cells z32 141)).setCells w4.heap.size 0 (D.map u8v)).heap.size):=box32_size D w4;generalize (w4.alloc (.cells z32 141)).setCells w4.heap.size 0 (D.map u8v)=w5 at *;have HA5:Hid (arr8 w5 w4.heap.size (fun j=>(D.getD j 0).toNat) 32):=ha5;have HT5:Hid (TagW w w.heap.size w5):=HT4.out.call hb5;have HZ5:Hid (w4.heap.size < w5.heap.size):=HZ4.out;have hcv:=conv_arr8 D 32 32 HD.out w5 w4.heap.size ha5;clear ha5 hb5 HT1 HT2 HT3 HZ4))
 simp only [Act.put]
 have hrl:R.length=32:=HR.out
 have hcd:=conv_arr8 D 32 32 HD.out w5.drew w4.heap.size HA5.out.drew
 clear HW1
 go_region_with (first
  | (go_at_call 107;refine (CK2.out _).mono ?_;rintro e' w6 ⟨rfl,hb6⟩;have HT6:Hid (TagW w w.heap.size w6):=HT5.out.drew.call hb6;have hc6:=conv_arr8 D 32 32 HD.out w6 w4.heap.size (fun j hj=>⟨(hb6.cell (p:=⟨w4.heap.size,j,none⟩) HZ5.out).trans (HA5.out.drew j hj).1,(hb6.frozen (p:=⟨w4.heap.size,j,none⟩) HZ5.out).trans (HA5.out.drew j hj).2⟩);clear hb6)
  | (go_at_call 106;refine (CH2.out _ HT6.out.laid).mono ?_;rintro e' w7 ⟨rfl,hb7⟩;have HT7:Hid (TagW w w.heap.size w7):=HT6.out.call hb7;have hst:=store32 R HR.out HRO.out w7 w.heap.size HT7.out.th;clear hb7))
 all_goals
  go_wp2
  have hr2:=World.rangeAt_setCells_same w7 w.heap.size 0 R (by rw [HR.out];exact HT7.out.th)
  refine bodyPost_ret (v:=.agg R.toArray) (results_cell rfl _ _ _ w.heap.size 0 rfl _ (run_loadVar_mid _ _ _ _ _ _ hr2 Tryz.underlying141 rfl (by rw [HR.out];kernel_rfl))) rfl ⟨rfl,?_⟩
  exact HT7.out.bel.trans (below_setCells _ _ _ _ (by omega))
end Go.Proofs.YtbllcgibmgbnjaaGreatDoor
namespace Go.Proofs.YtbllcgibmgbnjaaGreatDoor.R
open Go.RowKit
open C (ret_bool ret_int)
theorem mtag_b (k t:ByteArray) (a b:Bs) (ha:k.data.toList=a) (hb:t.data.toList=b) (h1:a.length≤400000000000000) (h2:b.length≤400000000000000) (w:World) (h:Laid w) :
  Calls Tryz.prog 74 #[.string k,.string t] w fun e w'=>e=.returned (.agg ((tagL a b).map u8v).toArray)∧Below w.heap.size w w':=by
 subst ha;subst hb
 have:=mtag_any k.data.toList t.data.toList h1 h2 w h
 rwa [ba_back,ba_back] at this
theorem key_any (secret date:Bs) (w:World) (h:Laid w) (h1:secret.length≤1000000) (h2:date.length≤400000000000000) :
  Calls Tryz.prog 75 #[str secret,str date] w fun e w'=>e=.returned (str (tagL (tagL ([76,49]++secret) date) [108,97,114,100,101,114]))∧Below w.heap.size w w':=by
 have C1:Hid (_):=fun k t=>mtag_b k t ([76,49]++secret) date
 have C2:Hid (_):=fun k t=>mtag_b k t (tagL ([76,49]++secret) date) [108,97,114,100,101,114]
 have HH:Hid (Laid w):=h
 clear h
 have HD:Hid ((tagL ([76,49]++secret) date).length=32):=tagL_len _ _
 have HE:Hid ((tagL (tagL ([76,49]++secret) date) [108,97,114,100,101,114]).length=32):=tagL_len _ _
 generalize tagL ([76,49]++secret) date=D at *
 generalize tagL D [108,97,114,100,101,114]=F at *
 have HLA:Hid ((D.map u8v).toArray.size=32):=by show _=_;rw [List.size_toArray,List.length_map];exact HD.out
 have HON:Hid (∀ v∈D.map u8v,v.oneCell'=true):=by intro v hv;rw [List.mem_map] at hv;obtain ⟨x,_,rfl⟩:=hv;rfl
 have HLT:Hid ((D.map u8v).toArray.toList=D.map u8v):=rfl
 generalize hG:(D.map u8v).toArray=G at *
 have HG:Hid ((D.map u8v).toArray=G):=hG
 clear hG
 have HLA2:Hid ((F.map u8v).toArray.size=32):=by show _=_;rw [List.size_toArray,List.length_map];exact HE.out
 have HON2:Hid (∀ v∈F.map u8v,v.oneCell'=true):=by intro v hv;rw [List.mem_map] at hv;obtain ⟨x,_,rfl⟩:=hv;rfl
 have HLT2:Hid ((F.map u8v).toArray.toList=F.map u8v):=rfl
 generalize hG2:(F.map u8v).toArray=G2 at *
 have HG2:Hid ((F.map u8v).toArray=G2):=hG2
 clear hG2
 go_enter Tryz.func75,Tryz.ntmps75
 go_wp2_with fail
 refine (C1.out _ _ (by simp) (by simp) (by simp;omega) h2 _ HH.out).mono ?_
 rintro e w2 ⟨rfl,hb2⟩
 have HB2:Hid (Below w.heap.size w w2):=hb2
 have HL2:Hid (Laid w2):=HH.out.call hb2
 clear hb2
 have HBOX:Hid (_):=box32 D HD.out w2
 go_wp2_with (refine wpList_store_mid rfl 141 _ _ rfl w2.heap.size 0 G rfl rfl (by rw [HLA.out];exact HBOX.out.1) (by rw [HLA.out];kernel_rfl) (by rw [← HG.out];exact all_oneCell_toArray HON.out) ?_;rw [HLT.out];show wpList _ _ _ _ _ ((w2.alloc (.cells z32 141)).setCells w2.heap.size 0 (D.map u8v));obtain ⟨_,ha3,hb3⟩:=HBOX.out;clear HBOX;generalize (w2.alloc (.cells z32 141)).setCells w2.heap.size 0 (D.map u8v)=w3 at *;have hcv:=conv_arr8 D 32 32 HD.out w3 w2.heap.size ha3;have HB3:Hid (Below w2.heap.size w2 w3):=hb3;have HL3:Hid (Laid w3):=HL2.out.call hb3;clear ha3 hb3)
 refine (C2.out _ _ (by simp) (by simp) (by rw [HD.out];omega) (by simp) _ HL3.out).mono ?_
 rintro e w4 ⟨rfl,hb4⟩
 have HB4:Hid (Below w.heap.size w w4):=(HB2.out.trans (HB3.out.mono HB2.out.size)).trans (hb4.mono (Nat.le_trans HB2.out.size HB3.out.size))
 clear hb4 hcv
 have HBOX2:Hid (_):=box32 F HE.out w4
 go_wp2_with (refine wpList_store_mid rfl 141 _ _ rfl w4.heap.size 0 G2 rfl rfl (by rw [HLA2.out];exact HBOX2.out.1) (by rw [HLA2.out];kernel_rfl) (by rw [← HG2.out];exact all_oneCell_toArray HON2.out) ?_;rw [HLT2.out];show wpList _ _ _ _ _ ((w4.alloc (.cells z32 141)).setCells w4.heap.size 0 (F.map u8v));obtain ⟨_,ha5,hb5⟩:=HBOX2.out;clear HBOX2;generalize (w4.alloc (.cells z32 141)).setCells w4.heap.size 0 (F.map u8v)=w5 at *;have hcv:=conv_arr8 F 32 32 HE.out w5 w4.heap.size ha5;have HB5:Hid (Below w4.heap.size w4 w5):=hb5;clear ha5 hb5)
 go_ret
 exact ⟨rfl,HB4.out.trans (HB5.out.mono HB4.out.size)⟩
theorem itoa_nat (n:Nat):Lib.itoa (n:Int)=Lib.decDigits n:=by unfold Lib.itoa;rw [if_neg (by omega)];simp
theorem itoa_q (n:Nat) (w:World) (E:Env w) (hn:n≤1000000000000000):Calls Tryz.prog 34 #[.int .i64 n] w fun e w'=>e=.returned (str (Lib.decDigits n))∧Below w.heap.size w w':=by
 have:=itoa_r n w E hn
 rwa [itoa_nat] at this
theorem sign_any (secret:Bs) (t:Int) (form:Bs) (w:World) (E:Env w) (L:Laid w) (h3:form.length≤400000000000000) (h4:secret.length≤400000000000000) :
  Calls Tryz.prog 49 #[str secret,.int .i64 t,str form] w fun e w'=>e=sgEnd (signOf secret t form)∧Below w.heap.size w w':=by
 by_cases h0:t < 0
 ·have HX:Hid (signOf secret t form=([],5)):=by show _=_;unfold signOf;rw [if_pos (.inl h0)]
  go_enter Tryz.func49,Tryz.ntmps49
  go_wp2
  go_ret2
  exact ⟨sg_eq HX.out,Below.refl _ _⟩
 ·by_cases h1:1000000000000 < t
  ·have HX:Hid (signOf secret t form=([],5)):=by show _=_;unfold signOf;rw [if_pos (.inr h1)]
   go_enter Tryz.func49,Tryz.ntmps49
   go_wp2
   go_ret2
   exact ⟨sg_eq HX.out,Below.refl _ _⟩
  ·have hn:¬ (t < 0∨1000000000000 < t):=by omega
   by_cases h2:secret=[]
   ·have HX:Hid (signOf secret t form=([],1)):=by show _=_;unfold signOf;rw [if_neg hn,if_pos (.inl h2)]
    have h2':(secret == [])=true:=by simpa using h2
    clear h2 hn
    go_enter Tryz.func49,Tryz.ntmps49
    go_wp2
    go_ret2
    exact ⟨sg_eq HX.out,Below.refl _ _⟩
   ·have h2':(secret == [])=false:=by simpa using h2
    by_cases h5:40 < secret.length
    ·have HX:Hid (signOf secret t form=([],1)):=by show _=_;unfold signOf;rw [if_neg hn,if_pos (.inr h5)]
     have h5':(40:Int) < (secret.length:Int):=by omega
     clear h2 hn
     go_enter Tryz.func49,Tryz.ntmps49
     go_wp2
     go_ret2
     exact ⟨sg_eq HX.out,Below.refl _ _⟩
    ·have HX:Hid (signOf secret t form=(sigT secret t.toNat form,0)):=by show _=_;unfold signOf;rw [if_neg hn,if_neg (by rintro (k|k);exact h2 k;exact h5 k)]
     have h5':¬ (40:Int) < (secret.length:Int):=by omega
     obtain ⟨n,rfl⟩:∃ n:Nat,t=n:=⟨t.toNat,by omega⟩
     rw [Int.toNat_natCast] at HX
     clear h2 hn
     have hd:=dayT_len n (by omega)
     have hdn:=dd_len n
     have hhl:(hashT form).length≤64:=by rw [hashT_len];omega
     have hdiv:(n:Int).tdiv 86400=((n / 86400:Nat):Int):=by rw [Int.tdiv_eq_ediv_of_nonneg (by omega)];omega
     have D1:Hid (_):=itoa_q (n / 86400)
     rw [show Lib.decDigits (n / 86400)=dayT n from rfl] at D1
     have D2:Hid (_):=itoa_q n
     have K1:Hid (_):=key_any secret (dayT n)
     rw [show tagL (tagL ([76,49]++secret) (dayT n)) [108,97,114,100,101,114]=keyT secret n from rfl] at K1
     have T3:Hid (_):=fun k t=>mtag_b k t (keyT secret n) (signT secret n form)
     have hk:(keyT secret n).length≤400000000000000:=by unfold keyT;rw [tagL_len];omega
     have hs:(signT secret n form).length≤400000000000000:=by
      unfold signT;simp only [List.length_append,List.length_cons,List.length_nil];omega
     have HS:Hid (signT secret n form=[76,49,10]++Lib.decDigits n++[10]++dayT n++[10]++hashT form):=rfl
     have G1:Hid (_):=digits_any (digest form) (digest_len form)
     rw [show hexL lowF (digest form)=hashT form from rfl] at G1
     have G2:Hid (_):=digits_any (tagL (keyT secret n) (signT secret n form)) (tagL_len _ _)
     rw [show hexL lowF (tagL (keyT secret n) (signT secret n form))=sigT secret n form from rfl] at G2
     go_enter Tryz.func49,Tryz.ntmps49
     go_wp2_with fail
     refine (D1.out _ E (by omega)).mono ?_
     rintro e w1 ⟨rfl,b1⟩
     have E1:=E.call b1
     have L1:=L.call b1
     clear E L
     go_wp2_with fail
     refine (D2.out _ E1 (by omega)).mono ?_
     rintro e w2 ⟨rfl,hb2⟩
     have L2:=L1.call hb2
     have b2:=b1.trans (hb2.mono b1.size)
     clear E1 L1 hb2 b1
     go_wp2_with fail
     refine (mhash_any form h3 _ L2).mono ?_
     rintro e w3 ⟨rfl,hb3⟩
     have L3:=L2.call hb3
     have b3:=b2.trans (hb3.mono b2.size)
     clear L2 hb3 b2
     go_wp2_with fail
     refine (G1.out _).mono ?_
     rintro e w4 ⟨rfl,hb4⟩
     have L4:=L3.call hb4
     have b4:=b3.trans (hb4.mono b3.size)
     clear L3 hb4 b3
     go_wp2_with fail
     refine (K1.out _ L4 (by omega) (by omega)).mono ?_
     rintro e w5 ⟨rfl,hb5⟩
     have L5:=L4.call hb5
     have b5:=b4.trans (hb5.mono b4.size)
     clear L4 hb5 b4
     go_wp2_with fail
     refine (T3.out _ _ (by simp) (by rw [HS.out];simp) hk hs _ L5).mono ?_
     rintro e w6 ⟨rfl,hb6⟩
     have b6:=b5.trans (hb6.mono b5.size)
     clear L5 hb6 b5
     go_wp2_with fail
     refine (G2.out _).mono ?_
     rintro e w7 ⟨rfl,hb7⟩
     have b7:=b6.trans (hb7.mono b6.size)
     go_wp2
     go_ret2
     exact ⟨sg_eq HX.out,b7⟩
end Go.Proofs.YtbllcgibmgbnjaaGreatDoor.R
namespace Go.Proofs.YtbllcgibmgbnjaaGreatDoor.P
open Go.RowKit
open C (ret_bool ret_int ret_str)
abbrev BL (B b:Nat) (l:List UInt8) (w:World):Prop:=Lib.IsBuilderF 105 5 B b (Lib.byteCells l) w
abbrev BLa (B b:Nat) (l:List UInt8) (w:World):Prop:=Lib.BuilderAtF 105 5 B b (.pointer (some ⟨b,0,none⟩)) (Lib.byteCells l) w
theorem BL_new (w:World):BL w.heap.size w.heap.size [] (w.alloc (.cells #[.pointer none,.slice none 0 0] 105)) :=
 .inl ⟨Nat.le_refl _,.slice none 0 0,heap_alloc_new _ _,World.ownsRowF_of (World.ownsRow_nil _ _ _ _),by simp [Value.ownBlock]⟩
theorem BLa.blk {B b:Nat} {l:List UInt8} {w:World} (h:BLa B b l w):b < w.heap.size:=by
 obtain ⟨_,v,hb,_⟩:=h
 exact (Array.getElem?_eq_some_iff.1 hb).1
theorem bsize:(Tryz.prog.info? 105).map (·.size)=some 2:=by kernel_rfl
theorem copyCheck_any (B b:Nat) (l:List UInt8) (w:World) (h:BL B b l w) :
  Calls Tryz.prog 78 #[.pointer (some ⟨b,0,none⟩)] w fun e w'=>e=.returned (.tuple #[])∧BLa B b l w'∧Below B w w':=by
 obtain ⟨j,hj,hjs⟩:=Option.map_eq_some_iff.1 bsize
 rcases h with h|h
 ·have U:=h.used (.pointer (some ⟨b,0,none⟩))
  have c0:=h.cell0
  have f0:=h.frozen0
  have hB:=h.1
  have hsh:=h.shape
  clear h
  go_enter Tryz.func78,Tryz.ntmps78
  go_wp2
  rw [Lib.run_to_unsafe w ⟨b,0,none⟩ Tryz.underlying103 Tryz.underlying204 hj (by rw [hjs];decide) hsh (Nat.zero_lt_succ 1)]
  simp only [Result.andThen]
  rw [Oper.upon_value]
  go_wp2
  rw [run_callFunc_extern Tryz.func116 (by kernel_rfl) (by kernel_rfl) (by kernel_rfl) (e:=Extern.AbiNoEscape.same) (by kernel_rfl)]
  rw [Lib.run_noEscape]
  simp only [Result.andThen]
  rw [Oper.upon_value]
  go_wp2
  rw [Lib.run_from_unsafe w ⟨b,0,none⟩ Tryz.underlying204 Tryz.underlying103 hj hsh (by kernel_rfl)]
  simp only [Result.andThen]
  rw [Oper.upon_value]
  go_wp2
  go_end0
  exact ⟨rfl,U,(Below.refl B w).setCell (p:=⟨b,0,none⟩) hB _⟩
 ·have c0:=h.cell0
  go_enter Tryz.func78,Tryz.ntmps78
  go_wp2
  rw [Lib.run_neq_ptr_same w _ Tryz.underlying103 hj]
  go_wp2
  go_end0
  exact ⟨rfl,h,Below.refl B _⟩
theorem byteCells_app (l t:List UInt8):Lib.byteCells (l++t)=Lib.byteCells l++Lib.strCells ⟨t.toArray⟩:=by simp [Lib.byteCells,Lib.strCells]
theorem writeStr_any (B b:Nat) (l t:List UInt8) (w:World) (h:BL B b l w) (hlen:l.length+t.length≤140737488355328) (hBw:B≤w.heap.size) :
  Calls Tryz.prog 52 #[.pointer (some ⟨b,0,none⟩),str t] w fun e w'=>e=.returned (.tuple #[.int .i64 (t.length:Int),.nilIface])∧BL B b (l++t) w'∧Below B w w':=by
 obtain ⟨i0,hi,hz0,hz1,hz2⟩:=info_parts Tryz.infoByte
 have C:Hid (_):=copyCheck_any B b l w h
 clear h
 go_enter Tryz.func52,Tryz.ntmps52
 go_wp2_with fail
 refine Calls.mono C.out ?_
 rintro e w1 ⟨rfl,h1,hb1⟩
 have hlt:=h1.blk
 have hs1:=hb1.size
 obtain ⟨hB,v,hbk,hown,hne⟩:=h1
 rw [Lib.byteCells_length] at hown
 have c0:w1.cell? ⟨b,0,none⟩=some (.pointer (some ⟨b,0,none⟩)):=by rw [Lib.cell_of_heap hbk];rfl
 have c1:w1.cell? ⟨b,1,none⟩=some v:=by rw [Lib.cell_of_heap hbk];rfl
 go_wp2_with (at_builtin;refine Lib.wpList_append_own_stringF _ rfl _ _ 70 9 rfl B 5 i0 Tryz.underlying70 Tryz.underlying9 hi hz0 hz1 hz2 _ _ _ rfl hown ⟨t.toArray⟩ rfl ?c3 ?c4 ?c5 ?_)
 case c3=>unfold maxLen;simp [ByteArray.size];omega
 case c4=>simp [ByteArray.size];omega
 case c5=>omega
 intro v' w2 hown' hgrow _
 have hb2:w2.heap[b]?=some (.cells #[.pointer (some ⟨b,0,none⟩),v] 105 (0,0)):=by
  rw [hgrow.block b hlt (fun e=>hne e.symm)]
  exact hbk
 have d0:w2.cell? ⟨b,0,none⟩=some (.pointer (some ⟨b,0,none⟩)):=by rw [Lib.cell_of_heap hb2];rfl
 have d1:w2.cell? ⟨b,1,none⟩=some v:=by rw [Lib.cell_of_heap hb2];rfl
 have f1:w2.frozen? ⟨b,1,none⟩=false:=Lib.frozen_of_heap hb2 1
 obtain ⟨ao,n',cap,rfl⟩:∃ ao n' cap,v'=.slice ao n' cap:=by
  rcases hown'.2 with ⟨hv,_⟩|⟨g,cap,cur,fz,hv,_⟩
  ·exact ⟨_,_,_,hv⟩
  ·exact ⟨_,_,_,hv⟩
 have HP:Hid (BL B b (l++t) (w2.setCell ⟨b,1,none⟩ (.slice ao n' cap))):=by
  refine .inr ?_
  rw [byteCells_app]
  refine Lib.BuilderAtF.put (T:=105) (e:=5) hB hb2 ?_ (by decide)
  rw [List.length_append,Lib.byteCells_length,Lib.strCells_length]
  exact hown'
 have HB:Hid (Below B w (w2.setCell ⟨b,1,none⟩ (.slice ao n' cap))):=(hb1.grown hgrow (by omega) (fun k hk=>(hown.lt k hk).1)).setCell (p:=⟨b,1,none⟩) hB _
 clear hown hown' hgrow hbk hb2 hb1
 go_wp2
 go_ret2
 exact ⟨rfl,HP.out,HB.out⟩
theorem writeStr_b (B b:Nat) (l:List UInt8) (s:ByteArray) (t:List UInt8) (hs:s=⟨t.toArray⟩) (w:World) (h:BL B b l w) (hlen:l.length+t.length≤140737488355328) (hBw:B≤w.heap.size) :
  Calls Tryz.prog 52 #[.pointer (some ⟨b,0,none⟩),.string s] w fun e w'=>e=.returned (.tuple #[.int .i64 (t.length:Int),.nilIface])∧BL B b (l++t) w'∧Below B w w':=by
 subst hs;exact writeStr_any B b l t w h hlen hBw
theorem BL.belowL {B b:Nat} {l:List UInt8} {w w':World} (h:BL B b l w) (k:Below w.heap.size w w'):BL B b l w':=by
 have go:∀ p,Lib.BuilderAtF 105 5 B b p (Lib.byteCells l) w→Lib.BuilderAtF 105 5 B b p (Lib.byteCells l) w':=by
  rintro p ⟨hB,v,hb,hown,hne⟩
  refine ⟨hB,v,(k.block b (Array.getElem?_eq_some_iff.1 hb).1).trans hb,⟨hown.1,?_⟩,hne⟩
  rcases hown.2 with h0|⟨g,cap,cur,fz,rfl,hbg,hg,r⟩
  ·exact .inl h0
  ·exact .inr ⟨g,cap,cur,fz,rfl,hbg,(k.block g (Array.getElem?_eq_some_iff.1 hg).1).trans hg,r⟩
 exact h.elim (fun h=>.inl (go _ h)) (fun h=>.inr (go _ h))
theorem bstring_any (B b:Nat) (l:List UInt8) (w:World) (h:BL B b l w) (hBw:B≤w.heap.size) :
  Calls Tryz.prog 54 #[.pointer (some ⟨b,0,none⟩)] w fun e w'=>e=.returned (str l)∧BL B b l w'∧Below B w w' :=
 (Tryz.Builder_String_any_k B b l w h hBw).mono fun _ _ ⟨h1,h2,h3,_⟩=>⟨h1,h2,h3⟩
theorem dd_lt:∀ (k n:Nat),n < 10 ^ (k+1)→(Lib.decDigits n).length≤k+1
 | 0,n,h=>by rw [R.dd_small (by simpa using h)];simp
 | k+1,n,h=>by
  by_cases h0:n < 10
  ·rw [R.dd_small h0];simp
  ·rw [R.dd_big h0,List.length_append]
   have:=dd_lt k (n / 10) (by rw [Nat.pow_succ] at h;omega)
   simp;omega
theorem itoa_len {n:Nat} (h:n < 10000000000000000):(Lib.itoa (n:Int)).length≤16:=by rw [R.itoa_nat];exact dd_lt 15 n (by simpa using h)
def toldT (n:Nat):List UInt8:=Lib.itoa (n:Int)++[32]++wordT n
abbrev Hs:=List (List UInt8×List UInt8)
def hLine (h:List UInt8×List UInt8):List UInt8:=h.1++[58,32]++h.2++[10]
def respT (n:Nat) (hs:Hs) (y:List UInt8):List UInt8:=toldT n++[10]++(if n=200 then hs.flatMap hLine++([10]++y) else [10])
theorem told_any (n:Nat) (hn:isNum n) (w:World) (E:R.Env w) :
  Calls Tryz.prog 53 #[.int .i64 (n:Int)] w fun e w'=>e=.returned (str (toldT n))∧Below w.heap.size w w':=by
 have I:Hid (_):=R.itoa_r n w E (by unfold isNum at hn;omega)
 have W:Hid (_):=word_any n hn
 have l1:(Lib.itoa (n:Int)).length≤16:=itoa_len (by unfold isNum at hn;omega)
 have l2:(wordT n).length≤1000:=by rcases hn with rfl|rfl|rfl|rfl|rfl|rfl|rfl <;> decide
 have HT:Hid (toldT n=Lib.itoa (n:Int)++[32]++wordT n):=rfl
 generalize Lib.itoa (n:Int)=a at *
 generalize wordT n=b at *
 go_enter Tryz.func53,Tryz.ntmps53
 go_wp2_with (first|(go_at_call 34;refine Calls.mono I.out ?_;rintro e w1 ⟨rfl,b1⟩)|(go_at_call 79;refine (W.out _).mono ?_;rintro e w2 ⟨rfl,rfl⟩))
 go_ret
 refine ⟨ret_str ?_,b1⟩
 rw [HT.out];simp
theorem flat_take {hs:Hs} {k:Nat} (h:k < hs.length):(hs.take (k+1)).flatMap hLine=(hs.take k).flatMap hLine++hLine hs[k]:=by
 rw [List.take_succ_eq_append_getElem h,List.flatMap_append];simp
theorem flat_len {hs:Hs} (hb:∀ p∈hs,p.1.length≤1000∧p.2.length≤1000):(hs.flatMap hLine).length≤hs.length*3000:=by
 induction hs with
 | nil=>simp
 | cons p hs ih =>
  have h1:=hb p (List.mem_cons_self ..)
  have h2:=ih (fun q hq=>hb q (List.mem_cons_of_mem _ hq))
  have h3:(hLine p).length=p.1.length+p.2.length+3:=by simp [hLine];omega
  rw [List.flatMap_cons,List.length_append,List.length_cons,h3];omega
theorem told_len {n:Nat} (hn:isNum n):(toldT n).length≤1000:=by
 have l1:(Lib.itoa (n:Int)).length≤16:=itoa_len (by unfold isNum at hn;omega)
 have l2:(wordT n).length≤900:=by rcases hn with rfl|rfl|rfl|rfl|rfl|rfl|rfl <;> decide
 simp only [toldT,List.length_append,List.length_cons,List.length_nil];omega
theorem resp_no {n:Nat} {hs:Hs} {y:List UInt8} (h:¬ n=200):respT n hs y=toldT n++[10]++[10]:=by unfold respT;rw [if_neg h]
theorem resp_ok {hs:Hs} {y:List UInt8}:respT 200 hs y=toldT 200++[10]++(hs.flatMap hLine++([10]++y)):=by unfold respT;rw [if_pos rfl]
theorem writeNo_any (n:Nat) (hn:isNum n) (h200:¬ n=200) (v:Value) (hv:errIs v n) (ha:Option Addr) (hm hc:Nat) (y:List UInt8) (w:World) (G:GL w) (hs:Hs) (z:List UInt8) :
  Calls Tryz.prog 35 #[.agg #[.slice ha hm hc,str y],v] w fun e w'=>e=.returned (str (respT n hs z))∧Below w.heap.size w w':=by
 have b0:Below w.heap.size w (w.alloc (.cells #[.slice ha hm hc,str y] 78)):=(Below.refl _ _).alloc (Nat.le_refl _) _
 have N:Hid (_):=numberOf_any v n hv (w.alloc (.cells #[.slice ha hm hc,str y] 78)) (G.call b0).err
 have HX:Hid (respT n hs z=toldT n++[10]++[10]):=resp_no h200
 have t1:((n:Int) != 200)=true:=by simp;omega
 have T:Hid (_):=fun w E=>told_any n hn w E
 have lt:=told_len hn
 generalize toldT n=tt at *
 generalize respT n hs z=X at *
 clear hv hn
 go_enter Tryz.func35,Tryz.ntmps35
 go_wp2_with fail
 refine Calls.mono N.out ?_
 rintro e w1 ⟨rfl,b1⟩
 have hs1:=b1.size
 have r0:w1.cell? ⟨w.heap.size,0,none⟩=some (.slice ha hm hc):=(b1.cell (p:=⟨w.heap.size,0,none⟩) (by simp)).trans (by simp [go_sem])
 have r1:w1.cell? ⟨w.heap.size,1,none⟩=some (str y):=(b1.cell (p:=⟨w.heap.size,1,none⟩) (by simp)).trans (by simp [go_sem])
 have f0:w1.frozen? ⟨w.heap.size,0,none⟩=false:=(b1.frozen (p:=⟨w.heap.size,0,none⟩) (by simp)).trans (by simp [go_sem])
 have f1:w1.frozen? ⟨w.heap.size,1,none⟩=false:=(b1.frozen (p:=⟨w.heap.size,1,none⟩) (by simp)).trans (by simp [go_sem])
 have B1:Below w.heap.size w ((w1.setCell ⟨w.heap.size,0,none⟩ (.slice none 0 0)).setCell ⟨w.heap.size,1,none⟩ (str [])):=((below_trans b0 b1).setCell (p:=⟨w.heap.size,0,none⟩) (Nat.le_refl _) _).setCell (p:=⟨w.heap.size,1,none⟩) (Nat.le_refl _) _
 have d0:((w1.setCell ⟨w.heap.size,0,none⟩ (.slice none 0 0)).setCell ⟨w.heap.size,1,none⟩ (str [])).cell? ⟨w.heap.size,0,none⟩=some (.slice none 0 0):=by simp [go_sem,r0]
 have d1:((w1.setCell ⟨w.heap.size,0,none⟩ (.slice none 0 0)).setCell ⟨w.heap.size,1,none⟩ (str [])).cell? ⟨w.heap.size,1,none⟩=some (str []):=by simp [go_sem,r1]
 have hz:w.heap.size < ((w1.setCell ⟨w.heap.size,0,none⟩ (.slice none 0 0)).setCell ⟨w.heap.size,1,none⟩ (str [])).heap.size:=by simp at hs1 ⊢;omega
 have zW:((w1.setCell ⟨w.heap.size,0,none⟩ (.slice none 0 0)).setCell ⟨w.heap.size,1,none⟩ (str [])).heap.size=w1.heap.size:=by simp
 go_wp2_with fail
 clear r0 r1 f0 f1 b1 N
 generalize (w1.setCell ⟨w.heap.size,0,none⟩ (.slice none 0 0)).setCell ⟨w.heap.size,1,none⟩ (str [])=W at *
 have L0:=BL_new W
 rw [zW] at L0
 have b2:Below W.heap.size W (W.alloc (.cells #[.pointer none,.slice none 0 0] 105)):=(Below.refl _ _).alloc (Nat.le_refl _) _
 refine Calls.mono (T.out _ ((G.call B1).call b2).env) ?_
 rintro e w2 ⟨rfl,b3⟩
 have L1:=L0.belowL b3
 have hs3:=b3.size
 simp at hs3
 have B3:=below_trans b2 b3
 go_wp2_with fail
 refine Calls.mono (writeStr_b w1.heap.size w1.heap.size [] _ (tt++[10]) (by apply ByteArray.ext;simp) w2 L1 (by simp;omega) (by omega)) ?_
 rintro e w3 ⟨rfl,L2,b4⟩
 have hs4:=b4.size
 rw [zW] at B3
 replace B3:=B3.trans b4
 have e0:w3.cell? ⟨w.heap.size,0,none⟩=some (.slice none 0 0):=(B3.cell (p:=⟨w.heap.size,0,none⟩) (zW ▸ hz)).trans d0
 have e1:w3.cell? ⟨w.heap.size,1,none⟩=some (str []):=(B3.cell (p:=⟨w.heap.size,1,none⟩) (zW ▸ hz)).trans d1
 clear T L0 L1 b2 b3 b4 d0 d1
 go_wp2
 go_loopw [21] (fun i wr=>i=.int .i64 0∧wr=w3) (fun _ _=>0)
 case atStart=>exact ⟨rfl,rfl⟩
 case round =>
  obtain ⟨rfl,rfl⟩:=hrel
  go_wp2_with fail
  refine Calls.mono (writeStr_b w1.heap.size w1.heap.size ([]++(tt++[10])) _ [10] (by apply ByteArray.ext;simp) _ L2 (by simp;omega) (by omega)) ?_
  rintro e w4 ⟨rfl,L3,b5⟩
  have hs5:=b5.size
  go_wp2_with fail
  refine Calls.mono (bstring_any w1.heap.size w1.heap.size _ w4 L3 (by omega)) ?_
  rintro e w5 ⟨rfl,_,b6⟩
  go_wp2
  go_ret
  exact ⟨ret_str (by rw [HX.out];simp),B1.trans (((B3.trans b5).trans b6).mono (by omega))⟩
theorem writeOk_any (ha:Option Addr) (hm hc:Nat) (hs:Hs) (y:List UInt8) (w:World) (G:GL w) (hh:R.phold w w.heap.size (.slice ha hm hc) hs) (hl:hs.length≤100) (hb:∀ p∈hs,p.1.length≤1000∧p.2.length≤1000) (hy:y.length≤100000000) :
  Calls Tryz.prog 35 #[.agg #[.slice ha hm hc,str y],.nilIface] w fun e w'=>e=.returned (str (respT 200 hs y))∧Below w.heap.size w w':=by
 have b0:Below w.heap.size w (w.alloc (.cells #[.slice ha hm hc,str y] 78)):=(Below.refl _ _).alloc (Nat.le_refl _) _
 have N:Hid (_):=numberOf_any .nilIface 200 .ok (w.alloc (.cells #[.slice ha hm hc,str y] 78)) (G.call b0).err
 have hm2:hm=hs.length:=by obtain ⟨a,c,e⟩:=R.phold.len hh;cases e;rfl
 subst hm2
 have HX:Hid (respT 200 hs y=toldT 200++[10]++(hs.flatMap hLine++([10]++y))):=resp_ok
 have T:Hid (_):=fun w E=>told_any 200 (.inl rfl) w E
 have lt:=told_len (n:=200) (.inl rfl)
 have HB:Hid (∀ p∈hs,p.1.length≤1000∧p.2.length≤1000):=hb
 have lf:=fun k=>flat_len (hs:=hs.take k) (fun p hp=>hb p (List.mem_of_mem_take hp))
 generalize toldT 200=tt at *
 generalize respT 200 hs y=X at *
 clear hb
 go_enter Tryz.func35,Tryz.ntmps35
 go_wp2_with fail
 refine Calls.mono N.out ?_
 rintro e w1 ⟨rfl,b1⟩
 have hs1:=b1.size
 have hz:w.heap.size < w1.heap.size:=by simp at hs1;omega
 have d0:w1.cell? ⟨w.heap.size,0,none⟩=some (.slice ha hs.length hc):=(b1.cell (p:=⟨w.heap.size,0,none⟩) (by simp)).trans (by simp [go_sem])
 have d1:w1.cell? ⟨w.heap.size,1,none⟩=some (str y):=(b1.cell (p:=⟨w.heap.size,1,none⟩) (by simp)).trans (by simp [go_sem])
 have B1:Below w.heap.size w w1:=below_trans b0 b1
 have L0:=BL_new w1
 have b2:Below w1.heap.size w1 (w1.alloc (.cells #[.pointer none,.slice none 0 0] 105)):=(Below.refl _ _).alloc (Nat.le_refl _) _
 clear N b1 hs1
 go_wp2_with fail
 refine Calls.mono (T.out _ ((G.call B1).call b2).env) ?_
 rintro e w2 ⟨rfl,b3⟩
 have L1:=L0.belowL b3
 have hs3:=b3.size
 simp at hs3
 have B3:=below_trans b2 b3
 go_wp2_with fail
 refine Calls.mono (writeStr_b w1.heap.size w1.heap.size [] _ (tt++[10]) (by apply ByteArray.ext;simp) w2 L1 (by simp;omega) (by omega)) ?_
 rintro e w3 ⟨rfl,L2,b4⟩
 have hs4:=b4.size
 replace B3:=B3.trans b4
 have HH:Hid (R.phold w3 w.heap.size (.slice ha hs.length hc) hs):=(hh.below B1).below (B3.mono (by omega))
 have e0:w3.cell? ⟨w.heap.size,0,none⟩=some (.slice ha hs.length hc):=(B3.cell (p:=⟨w.heap.size,0,none⟩) hz).trans d0
 have e1:w3.cell? ⟨w.heap.size,1,none⟩=some (str y):=(B3.cell (p:=⟨w.heap.size,1,none⟩) hz).trans d1
 clear T L0 L1 b2 b3 b4 d0 d1 hh
 go_wp2
 go_loopw [21] (fun i wr=>∃ k:Nat,k≤hs.length∧i=.int .i64 k∧BL w1.heap.size w1.heap.size (tt++[10]++(hs.take k).flatMap hLine) wr∧Below w1.heap.size w3 wr) (fun i _=>hs.length - (intOf i).toNat)
 case atStart=>exact ⟨0,Nat.zero_le _,rfl,by simpa using L2,Below.refl _ _⟩
 case round =>
  obtain ⟨k,hk,rfl,hL,hbw⟩:=hrel
  have hsr:=hbw.size
  have lk:=lf k
  have llk:(hs.take k).length≤100:=by simp;omega
  by_cases hlt:k < hs.length
  ·obtain ⟨g,rfl,hg,c0,c1⟩:=R.phold.at HH.out hlt
   have hbk:=HB.out hs[k] (List.getElem_mem hlt)
   have HT:Hid ((hs.take (k+1)).flatMap hLine=(hs.take k).flatMap hLine++hLine hs[k]):=flat_take hlt
   replace c0:=(hbw.cell (p:=⟨g,k*2,none⟩) (show g < w1.heap.size by omega)).trans c0
   replace c1:=(hbw.cell (p:=⟨g,k*2+1,none⟩) (show g < w1.heap.size by omega)).trans c1
   generalize (hs.take k).flatMap hLine=zz at *
   obtain ⟨x,z,hxz⟩:∃ x z,hs[k]=(x,z):=⟨_,_,rfl⟩
   rw [hxz] at c0 c1 hbk HT
   clear hxz
   have hb4:Below wr.heap.size wr (wr.alloc (.cells #[str x,str z] 109)):=(Below.refl _ _).alloc (Nat.le_refl _) _
   have hL4:=hL.belowL hb4
   have z4:w1.heap.size≤(wr.alloc (.cells #[str x,str z] 109)).heap.size:=by simp;omega
   simp only at hbk
   go_wp2_with fail
   refine Calls.mono (writeStr_b w1.heap.size w1.heap.size (tt++[10]++zz) _ (hLine (x,z)) (by apply ByteArray.ext;simp [hLine]) _ hL4 (by simp [hLine];omega) z4) ?_
   rintro e w4 ⟨rfl,L3,b5⟩
   go_wp2
   go_roundw
   case rel=>exact ⟨k+1,by omega,by go_num,by rw [HT.out];simpa using L3,(hbw.trans (hb4.mono (by omega))).trans b5⟩
   case measure=>simp [intOf];omega
  ·obtain rfl:k=hs.length:=by omega
   rw [List.take_length] at hL lk
   replace e1:=(hbw.cell (p:=⟨w.heap.size,1,none⟩) hz).trans e1
   generalize hs.flatMap hLine=zz at *
   go_wp2_with fail
   refine Calls.mono (writeStr_b w1.heap.size w1.heap.size (tt++[10]++zz) _ ([10]++y) (by apply ByteArray.ext;simp) _ hL (by simp;omega) (by omega)) ?_
   rintro e w4 ⟨rfl,L3,b5⟩
   have hs5:=b5.size
   go_wp2_with fail
   refine Calls.mono (bstring_any w1.heap.size w1.heap.size _ w4 L3 (by omega)) ?_
   rintro e w5 ⟨rfl,_,b6⟩
   go_wp2
   go_ret
   exact ⟨ret_str (by rw [HX.out];simp),B1.trans ((((B3.trans hbw).trans b5).trans b6).mono (by omega))⟩
theorem write_any (n:Nat) (hn:isNum n) (v:Value) (hv:errIs v n) (ha:Option Addr) (hm hc:Nat) (hs:Hs) (y:List UInt8) (w:World) (G:GL w) (hok:n=200→R.phold w w.heap.size (.slice ha hm hc) hs∧hs.length≤100∧(∀ p∈hs,p.1.length≤1000∧p.2.length≤1000)∧y.length≤100000000) (z:List UInt8) (hz:n=200→z=y) :
  Calls Tryz.prog 35 #[.agg #[.slice ha hm hc,str y],v] w fun e w'=>e=.returned (str (respT n hs z))∧Below w.heap.size w w':=by
 by_cases h:n=200
 ·cases hv with
  | ok=>obtain ⟨h1,h2,h3,h4⟩:=hok rfl;rw [hz rfl];exact writeOk_any ha hm hc hs y w G h1 h2 h3 h4
  | no n c hc h2=>exact absurd h h2
 ·exact writeNo_any n hn h v hv ha hm hc y w G hs z
def numP (t:List UInt8) (lo hi:Nat):Option Nat:=match Lib.atoiAll t with
 | .ok v=>if v < (lo:Int)∨(hi:Int) < v∨Lib.itoa v≠t then none else some v.toNat
 | _=>none
theorem below_bytesWorld (w:World) (e:TypeId) (t:ByteArray):Below w.heap.size w (Lib.bytesWorld w e t) :=
 ⟨rfl,rfl,rfl,by rw [Lib.bytesWorld_size];omega,fun k hk=>Lib.bytesWorld_at_old w e t k hk⟩
def atPost (t:List UInt8) (w:World) (e:Ending) (w':World):Prop:=Below w.heap.size w w'∧match Lib.atoiAll t with
 | .ok v=>e=.returned (.tuple #[.int .i64 v,.nilIface])
 | _=>∃ v T p,e=.returned (.tuple #[.int .i64 v,.iface T p])
theorem atoi_any (t:List UInt8) (w:World) (G:GL w) (hl:t.length≤281474976710656):Calls Tryz.prog 240 #[str t] w (atPost t w):=by
 have hs:(⟨t.toArray⟩:ByteArray).size=t.length:=by simp [ByteArray.size]
 have hd:(⟨t.toArray⟩:ByteArray).data.toList=t:=rfl
 unfold atPost
 cases h:Lib.atoiAll t with
 | ok v =>
  refine (Tryz.strconv_Atoi_ok ⟨t.toArray⟩ (by omega) v h w).mono ?_
  rintro e w' ⟨rfl,rfl|⟨x,rfl⟩⟩
  ·exact ⟨Below.refl _ _,rfl⟩
  ·exact ⟨below_bytesWorld _ _ _,rfl⟩
 | «syntax» =>
  obtain ⟨T,p,hv⟩:=G.syn
  refine (Tryz.strconv_Atoi_syntax ⟨t.toArray⟩ (by omega) h _ w hv (.inr ⟨_,_,rfl⟩)).mono ?_
  rintro e w' ⟨N,rfl,_,_,hb⟩
  exact ⟨hb,_,_,_,rfl⟩
 | range =>
  obtain ⟨T,p,hv⟩:=G.rng
  refine (Tryz.strconv_Atoi_range ⟨t.toArray⟩ (by omega) h _ w hv (.inr ⟨_,_,rfl⟩)).mono ?_
  rintro e w' ⟨N,rfl,_,_,hb⟩
  exact ⟨hb,_,_,_,rfl⟩
def nmEnd:Option Nat→Ending
 | none=>.returned (.tuple #[.int .i64 0,.bool false])
 | some n=>.returned (.tuple #[.int .i64 (n:Int),.bool true])
theorem nm_no {o:Option Nat} (h:o=none):Ending.returned (.tuple #[.int .i64 0,.bool false])=nmEnd o:=by rw [h];rfl
theorem numRead_any (t:List UInt8) (lo hi:Nat) (hhi:hi≤1000000000000) (w:World) (G:GL w) (hl:t.length≤281474976710656) :
  Calls Tryz.prog 213 #[str t,.int .i64 (lo:Int),.int .i64 (hi:Int)] w fun e w'=>e=nmEnd (numP t lo hi)∧Below w.heap.size w w':=by
 have A:Hid (_):=atoi_any t w G hl
 have HN:Hid (numP t lo hi=match Lib.atoiAll t with|.ok v=>if v < (lo:Int)∨(hi:Int) < v∨Lib.itoa v≠t then none else some v.toNat|_=>none):=rfl
 unfold atPost at A
 cases h:Lib.atoiAll t with
 | ok v =>
  rw [h] at A HN
  simp only at HN
  by_cases h1:v < (lo:Int)
  ·have HX:Hid (numP t lo hi=none):=by show _=_;rw [HN.out,if_pos (.inl h1)]
   have p1:decide (v < (lo:Int))=true:=by simpa using h1
   clear HN h
   go_enter Tryz.func213,Tryz.ntmps213
   go_wp2_with fail
   refine Calls.mono A.out ?_
   rintro e w1 ⟨hb,rfl⟩
   go_wp2
   go_ret2
   exact ⟨nm_no HX.out,hb⟩
  ·by_cases h2:(hi:Int) < v
   ·have HX:Hid (numP t lo hi=none):=by show _=_;rw [HN.out,if_pos (.inr (.inl h2))]
    have p1:decide (v < (lo:Int))=false:=by simpa using h1
    have p2:decide ((hi:Int) < v)=true:=by simpa using h2
    clear HN h
    go_enter Tryz.func213,Tryz.ntmps213
    go_wp2_with fail
    refine Calls.mono A.out ?_
    rintro e w1 ⟨hb,rfl⟩
    go_wp2
    go_ret2
    exact ⟨nm_no HX.out,hb⟩
   ·have p1:decide (v < (lo:Int))=false:=by simpa using h1
    have p2:decide ((hi:Int) < v)=false:=by simpa using h2
    obtain ⟨n,rfl⟩:∃ n:Nat,v=n:=⟨v.toNat,by omega⟩
    have I:Hid (_):=fun w E=>R.itoa_r n w E (by omega)
    by_cases h3:Lib.itoa (n:Int)=t
    ·have HX:Hid (numP t lo hi=some n):=by show _=_;rw [HN.out,if_neg (by simp [h1,h2,h3])];simp
     have p3:(Lib.itoa (n:Int) == t)=true:=by simpa using h3
     clear HN h h3
     generalize Lib.itoa (n:Int)=q at *
     go_enter Tryz.func213,Tryz.ntmps213
     go_wp2_with fail
     refine Calls.mono A.out ?_
     rintro e w1 ⟨hb,rfl⟩
     have G1:=(G.call hb).env
     go_wp2_with (go_at_call 34;refine (I.out _ G1).mono ?_;rintro e w2 ⟨rfl,hb2⟩)
     go_ret2
     exact ⟨by rw [HX.out];rfl,below_trans hb hb2⟩
    ·have HX:Hid (numP t lo hi=none):=by show _=_;rw [HN.out,if_pos (.inr (.inr h3))]
     have p3:(Lib.itoa (n:Int) == t)=false:=by simpa using h3
     clear HN h h3
     generalize Lib.itoa (n:Int)=q at *
     go_enter Tryz.func213,Tryz.ntmps213
     go_wp2_with fail
     refine Calls.mono A.out ?_
     rintro e w1 ⟨hb,rfl⟩
     have G1:=(G.call hb).env
     go_wp2_with (go_at_call 34;refine (I.out _ G1).mono ?_;rintro e w2 ⟨rfl,hb2⟩)
     go_ret2
     exact ⟨nm_no HX.out,below_trans hb hb2⟩
 | «syntax» =>
  rw [h] at A HN
  have HX:Hid (numP t lo hi=none):=HN.out
  clear HN h
  go_enter Tryz.func213,Tryz.ntmps213
  go_wp2_with fail
  refine Calls.mono A.out ?_
  rintro e w1 ⟨hb,v,T,p,rfl⟩
  go_wp2
  go_ret2
  exact ⟨nm_no HX.out,hb⟩
 | range =>
  rw [h] at A HN
  have HX:Hid (numP t lo hi=none):=HN.out
  clear HN h
  go_enter Tryz.func213,Tryz.ntmps213
  go_wp2_with fail
  refine Calls.mono A.out ?_
  rintro e w1 ⟨hb,v,T,p,rfl⟩
  go_wp2
  go_ret2
  exact ⟨nm_no HX.out,hb⟩
end Go.Proofs.YtbllcgibmgbnjaaGreatDoor.P
namespace Go.Proofs.YtbllcgibmgbnjaaGreatDoor.R
open Go.RowKit
open C (ret_bool ret_int enc enc_len)
open C (dec enc enc_len dec_short)
def small (M:Nat) (l:Ps):Prop:=∀ p∈l,p.1.length≤M∧p.2.length≤M
theorem small_nil (M:Nat):small M []:=fun p hp=>by cases hp
theorem small_snoc {M:Nat} {l:Ps} {p:Bs×Bs} (h:small M l) (h1:p.1.length≤M) (h2:p.2.length≤M):small M (l++[p]):=by
 intro x hx
 rcases List.mem_append.1 hx with hx|hx
 ·exact h x hx
 ·rw [List.mem_singleton] at hx;subst hx;exact ⟨h1,h2⟩
theorem dec_le {p:Bool} {l t:Bs} (h:dec p l=some t):t.length≤l.length:=Nat.le_trans (enc_len p t).1 (dec_short h)
theorem pairOf_le {t:Bs} {p:Bs×Bs} (h:pairOf t=some p):p.1.length≤t.length∧p.2.length≤t.length:=by
 have hc:=cut_le t [61]
 unfold pairOf at h
 split at h
 ·rename_i n v h1 h2
  split at h
  ·cases h
  ·cases h;exact ⟨Nat.le_trans (dec_le h1) hc.1,Nat.le_trans (dec_le h2) hc.2⟩
 ·cases h
theorem addP_eq {l l':Ps} {p:Bs×Bs} (h:addP l p=some l'):l'=l++[p]:=by
 unfold addP at h
 split at h
 ·cases h;rfl
 ·cases h
theorem query_small {M:Nat}:∀ (ps:List Bs) (l q:Ps),small M l→(∀ t∈ps,t.length≤M)→queryFrom l ps=some q→small M q∧q.length≤l.length+ps.length:=by
 intro ps
 induction ps with
 | nil=>intro l q hl _ h;cases h;exact ⟨hl,by simp⟩
 | cons t r ih =>
  intro l q hl ht h
  unfold queryFrom at h
  split at h
  ·cases h
  ·rename_i p hp
   split at h
   ·cases h
   ·rename_i l' hl'
    have e:=addP_eq hl'
    subst e
    have hp':=pairOf_le hp
    have ht':=ht t (by simp)
    obtain ⟨h1,h2⟩:=ih _ _ (small_snoc hl (by omega) (by omega)) (fun x hx=>ht x (by simp [hx])) h
    refine ⟨h1,?_⟩
    simp only [List.length_append,List.length_cons,List.length_nil] at h2 ⊢
    omega
theorem queryOf_small {M:Nat} {s:Bs} {q:Ps} (hs:s.length≤M) (h:queryOf s=some q):small M q∧q.length≤s.length+1:=by
 obtain ⟨h1,h2⟩:=query_small (M:=M) _ _ _ (small_nil M) (fun t ht=>Nat.le_trans (split_mem (by simp) ht) hs) h
 have:=split_len s [38] (by simp)
 refine ⟨h1,?_⟩
 simp only [List.length_nil] at h2
 omega
theorem headerOf_le {t:Bs} {p:Bs×Bs} (h:headerOf t=some p):p.1.length≤t.length∧p.2.length≤t.length:=by
 have hc:=cut_le t [58,32]
 unfold headerOf at h
 split at h
 ·cases h;exact hc
 ·cases h
theorem headers_small {M:Nat}:∀ (k:Nat) (l:Ps) (rest:Bs) (x:Ps×Bs),small M l→rest.length≤M→headersFrom k l rest=some x→small M x.1∧x.1.length≤k+l.length:=by
 intro k
 induction k with
 | zero =>
  intro l rest x hl _ h
  unfold headersFrom at h
  split at h
  ·cases h
  ·split at h
   ·cases h;exact ⟨hl,by simp⟩
   ·cases h
 | succ k ih =>
  intro l rest x hl hr h
  have hc:=cut_le rest [10]
  unfold headersFrom at h
  split at h
  ·cases h
  ·split at h
   ·cases h;exact ⟨hl,by simp⟩
   ·simp only at h
    split at h
    ·cases h
    ·rename_i p hp
     split at h
     ·cases h
     ·rename_i l' hl'
      have e:=addP_eq hl'
      subst e
      have hp':=headerOf_le hp
      obtain ⟨h1,h2⟩:=ih _ _ _ (small_snoc hl (by omega) (by omega)) (by omega) h
      refine ⟨h1,?_⟩
      simp only [List.length_append,List.length_cons,List.length_nil] at h2
      omega
theorem first_small {t:Bs} {f:First} (h:firstOf t=some f):f.method.length≤t.length∧f.path.length≤t.length∧small t.length f.query∧f.query.length≤t.length+1:=by
 have c1:=cut_le t [32]
 have c2:=cut_le (Lib.cut t [32]).2.1 [63]
 unfold firstOf at h
 split at h
 ·split at h
  ·cases h
  ·rename_i p hp
   have hp':=dec_le hp
   split at h
   ·rw [Option.map_eq_some_iff] at h
    obtain ⟨q,hq,rfl⟩:=h
    obtain ⟨h1,h2⟩:=queryOf_small (M:=t.length) (Nat.le_trans c2.2 c1.2) hq
    exact ⟨c1.1,Nat.le_trans hp' (Nat.le_trans c2.1 c1.2),h1,by simp only;omega⟩
   ·cases h
    exact ⟨c1.1,Nat.le_trans hp' (Nat.le_trans c2.1 c1.2),small_nil _,by simp⟩
 ·cases h
structure Fits (r:Req):Prop where
 m:r.method.length≤1000000
 p:r.path.length≤1000000
 q:r.query.length≤1000000
 qs:small 1000000 r.query
 h:r.headers.length≤1000000
 hs:small 1000000 r.headers
 y:r.body.length≤1000000
theorem small_up {M N:Nat} {l:Ps} (h:small M l) (k:M≤N):small N l:=fun p hp=>⟨Nat.le_trans (h p hp).1 k,Nat.le_trans (h p hp).2 k⟩
theorem fits_none:Fits {}:=⟨by simp,by simp,by simp,small_nil _,by simp,small_nil _,by simp⟩
theorem parse_fits (s:Bs):Fits (parseOf s).2:=by
 unfold parseOf
 split
 ·exact fits_none
 ·rename_i hl
  split
  ·exact fits_none
  ·rename_i r hr
   split
   ·exact fits_none
   ·rename_i hb
    have c0:=cut_le s [10]
    unfold reqOf at hr
    split at hr
    ·split at hr
     ·cases hr
     ·rename_i f hf
      split at hr
      ·cases hr
      ·rename_i hs body hx
       split at hr
       ·cases hr
        obtain ⟨h1,h2,h3,h4⟩:=first_small hf
        obtain ⟨h5,h6⟩:=headers_small (M:=2000) _ _ _ _ (small_nil _) (by omega) hx
        simp only [List.length_nil] at h6
        exact ⟨by simp only;omega,by simp only;omega,by simp only;omega,small_up h3 (by omega),by simp only;omega,small_up h5 (by omega),by simp only at hb ⊢;omega⟩
       ·cases hr
    ·cases hr
open C (ret_bool ret_int)
theorem lsign_any (secret:Bs) (t:Int) (form:Bs) (w:World) (E:Env w) (L:Laid w) (h3:form.length≤400000000000000) (h4:secret.length≤400000000000000) :
  Calls Tryz.prog 33 #[str secret,.int .i64 t,str form] w fun e w'=>e=sgEnd (signOf secret t form)∧Below w.heap.size w w':=by
 have C:Hid (_):=sign_any secret t form
 generalize signOf secret t form=x at *
 go_enter Tryz.func33,Tryz.ntmps33
 go_wp2_with fail
 refine (C.out _ E L h3 h4).mono ?_
 rintro e w1 ⟨rfl,hb1⟩
 unfold sgEnd
 go_wp2
 go_ret2
 exact ⟨rfl,hb1⟩
def cnOf (s list:Bs):Bs×Int :=
 if (parseOf s).1=0 then match canonOf (parseOf s).2.method (parseOf s).2.path (parseOf s).2.query (parseOf s).2.headers (parseOf s).2.body list with
  | none=>([],2)
  | some t=>(t,0)
 else ([],(parseOf s).1)
theorem cn_err {s list:Bs} (h:(parseOf s).1≠0):cnOf s list=([],(parseOf s).1):=by unfold cnOf;rw [if_neg h]
theorem cn_none {s list:Bs} (h:(parseOf s).1=0) (k:canonOf (parseOf s).2.method (parseOf s).2.path (parseOf s).2.query (parseOf s).2.headers (parseOf s).2.body list=none):cnOf s list=([],2):=by unfold cnOf;rw [if_pos h,k]
theorem cn_some {s list t:Bs} (h:(parseOf s).1=0) (k:canonOf (parseOf s).2.method (parseOf s).2.path (parseOf s).2.query (parseOf s).2.headers (parseOf s).2.body list=some t):cnOf s list=(t,0):=by unfold cnOf;rw [if_pos h,k]
theorem lcanon_any (s list:Bs) (w:World) (E:Env w) (L:Laid w) (h1:s.length≤9223372036854775807) (h2:list.length≤2000000) :
  Calls Tryz.prog 31 #[str s,str list] w fun e w'=>e=sgEnd (cnOf s list)∧Below w.heap.size w w':=by
 have F:=parse_fits s
 have C:Hid (_):=parse_any s
 have N1:=@cn_err s list
 have N2:=@cn_none s list
 have N3:=@cn_some s list
 generalize cnOf s list=X at *
 generalize parseOf s=x at *
 obtain ⟨n,r⟩:=x
 simp only at N1 N2 N3 F
 go_enter Tryz.func31,Tryz.ntmps31
 go_wp2_with fail
 refine (C.out _ E (by omega)).mono ?_
 rintro e w1 ⟨hb1,vq,vh,M,rfl,hq,hM,hh,_⟩
 simp only at hq hh
 obtain ⟨qa,qn,qc,rfl,_⟩:=hq.any
 obtain ⟨ha,hm,hc,rfl,_⟩:=hh.any
 have E1:=E.call hb1
 have L1:=L.call hb1
 by_cases hn:n=0
 ·subst hn
  have hW:Below w1.heap.size w1 (w1.alloc (.cells #[str r.method,str r.path,.slice qa qn qc,.slice ha hm hc,str r.body] 97)):=(Below.refl _ _).alloc (Nat.le_refl _) _
  have hb2:=hb1.trans (hW.mono hb1.size)
  have E2:=E1.call hW
  have L2:=L1.call hW
  have hq2:=(hq.hold).call hW
  have hh2:=(hh.hold).call hW
  clear E1 L1 hW hq hh E L hb1
  go_wp2_with fail
  refine (canon_any r.method r.path r.query r.headers (.slice qa qn qc) (.slice ha hm hc) r.body list _ hq2 hh2 E2 L2 F.m F.p F.q F.qs F.h F.y (by omega) F.hs).mono ?_
  rintro e w3 ⟨rfl,hb3⟩
  have hb4:=hb2.trans (hb3.mono hb2.size)
  cases hco:canonOf r.method r.path r.query r.headers r.body list with
  | none =>
   have HX:Hid (X=([],2)):=N2 (by trivial) hco
   simp only [cEnd]
   go_wp2
   go_ret2
   exact ⟨sg_eq HX.out,hb4⟩
  | some t =>
   have HX:Hid (X=(t,0)):=N3 (by trivial) hco
   simp only [cEnd]
   go_wp2
   go_ret2
   exact ⟨sg_eq HX.out,hb4⟩
 ·have HX:Hid (X=([],n)):=N1 hn
  have hn':(n == 0)=false:=by simpa using hn
  have hb2:=hb1.trans (((Below.refl _ _).alloc (Nat.le_refl _) (.cells #[str r.method,str r.path,.slice qa qn qc,.slice ha hm hc,str r.body] 97)).mono hb1.size)
  clear N1 N2 N3 C F
  go_wp2
  go_ret2
  exact ⟨sg_eq HX.out,hb2⟩
end Go.Proofs.YtbllcgibmgbnjaaGreatDoor.R
