import Derived.Test.YtbllcgibmgbnjaaGreatDoorM07
import Derived.Test.YtbllcgibmgbnjaaGreatDoorM04
import Derived.Test.YtbllcgibmgbnjaaGreatDoorM02
import Derived.Maps.Range
set_option maxHeartbeats 2000000
namespace Go.Proofs.YtbllcgibmgbnjaaGreatDoor.P
open Go.RowKit
open C (ret_bool ret_int)
theorem bytesOf_1 (n:Nat) (_hn:n < 4611686018427387904) (w:World) :
  Calls Tryz.prog 242 #[.int .i64 (n:Int),.int .i64 1] w fun e' w'=>e'=.returned (.string ⟨(bigL n 1).toArray⟩)∧Below w.heap.size w w':=by
 obtain ⟨i0,hi,hz0,hz1,hz2⟩:=info_parts Tryz.infoByte
 go_enter Tryz.func242,Tryz.ntmps242
 go_wp2_with (at_make;refine wpList_make_full _ rfl _ _ 70 rfl w.heap.size 5 i0 (.int .u8 0) 1 Tryz.underlying70 hi hz0 hz1 .i64 .i64 _ _ 1 rfl rfl rfl rfl (by rw [hz2];omega) (by unfold maxLen;omega) (Nat.le_refl _) ?_;intro w1 hown1 hg1;have ha1:=made_arr8 hown1;have hb1:=(Below.refl w.heap.size w).grown hg1 (Nat.le_refl _) (by simp);clear hown1 hg1)
 clear hi hz0 hz1 hz2 i0
 go_loopw [11] (fun i wr=>∃ k:Nat,k≤1∧i=.int .i64 k∧arr8 wr w.heap.size (fun j=>if j < k then n / 256 ^ (1 - 1 - j) % 256 else 0) 1∧Below w.heap.size w wr) (fun i _=>1 - (intOf i).toNat)
 case atStart=>exact ⟨0,by omega,rfl,ha1.congr fun j _=>by simp,hb1⟩
 case round =>
  clear ha1 hb1
  obtain ⟨k,hk,rfl,har,hbel⟩:=hrel
  by_cases hlt:k < 1
  ·obtain ⟨ck,fk⟩:=har k hlt
   dsimp only at ck
   rw [if_neg (Nat.lt_irrefl k)] at ck
   rcases (show k=0 by omega) with rfl
   ·have HF:Hid (∀ j,j < 1→(if j=0 then n / 256 ^ (1 - 1 - 0) % 256 else if j < 0 then n / 256 ^ (1 - 1 - j) % 256 else 0)=if j < 0+1 then n / 256 ^ (1 - 1 - j) % 256 else 0):=by
     intro j hj
     rcases (show j=0∨j < 0∨0 < j by omega) with e|e|e
     ·subst e;rfl
     ·rw [if_neg (by omega),if_pos e,if_pos (by omega)]
     ·rw [if_neg (by omega),if_neg (by omega),if_neg (by omega)]
    go_wp2
    go_roundw
    case rel =>
     refine ⟨1,by omega,rfl,?_,hbel.setCell (Nat.le_refl _) _⟩
     have h:=(har.set 0 (n / 256 ^ (1 - 1 - 0) % 256) (by omega)).congr HF.out
     rw [show ((n / 256 ^ (1 - 1 - 0) % 256:Nat):Int)=(n:Int) % 256 by simp] at h
     exact h
    case measure=>simp [intOf]
  ·have ha8:arr8 wr w.heap.size (fun j=>((bigL n 1).getD j 0).toNat) 1:=har.congr fun j hj=>by rw [if_pos (by omega),bigL_get n 1 j hj]
   have hcv:=conv_arr8 (bigL n 1) 1 1 (bigL_len _ _) wr w.heap.size ha8
   clear ha8 har
   generalize hqg:bigL n 1=q at *
   have HQG:Hid (bigL n 1=q):=hqg
   clear hqg
   have hdk:decide ((k:Int) < 1)=false:=by simp;omega
   go_wp2_with fail
   go_ret
   exact ⟨ret_str HQG.out.symm,hbel⟩
theorem bytesOf_2 (n:Nat) (_hn:n < 4611686018427387904) (w:World) :
  Calls Tryz.prog 242 #[.int .i64 (n:Int),.int .i64 2] w fun e' w'=>e'=.returned (.string ⟨(bigL n 2).toArray⟩)∧Below w.heap.size w w':=by
 obtain ⟨i0,hi,hz0,hz1,hz2⟩:=info_parts Tryz.infoByte
 go_enter Tryz.func242,Tryz.ntmps242
 go_wp2_with (at_make;refine wpList_make_full _ rfl _ _ 70 rfl w.heap.size 5 i0 (.int .u8 0) 1 Tryz.underlying70 hi hz0 hz1 .i64 .i64 _ _ 2 rfl rfl rfl rfl (by rw [hz2];omega) (by unfold maxLen;omega) (Nat.le_refl _) ?_;intro w1 hown1 hg1;have ha1:=made_arr8 hown1;have hb1:=(Below.refl w.heap.size w).grown hg1 (Nat.le_refl _) (by simp);clear hown1 hg1)
 clear hi hz0 hz1 hz2 i0
 go_loopw [11] (fun i wr=>∃ k:Nat,k≤2∧i=.int .i64 k∧arr8 wr w.heap.size (fun j=>if j < k then n / 256 ^ (2 - 1 - j) % 256 else 0) 2∧Below w.heap.size w wr) (fun i _=>2 - (intOf i).toNat)
 case atStart=>exact ⟨0,by omega,rfl,ha1.congr fun j _=>by simp,hb1⟩
 case round =>
  clear ha1 hb1
  obtain ⟨k,hk,rfl,har,hbel⟩:=hrel
  by_cases hlt:k < 2
  ·obtain ⟨ck,fk⟩:=har k hlt
   dsimp only at ck
   rw [if_neg (Nat.lt_irrefl k)] at ck
   rcases (show k=0∨k=1 by omega) with rfl|rfl
   ·have HF:Hid (∀ j,j < 2→(if j=0 then n / 256 ^ (2 - 1 - 0) % 256 else if j < 0 then n / 256 ^ (2 - 1 - j) % 256 else 0)=if j < 0+1 then n / 256 ^ (2 - 1 - j) % 256 else 0):=by
     intro j hj
     rcases (show j=0∨j < 0∨0 < j by omega) with e|e|e
     ·subst e;rfl
     ·rw [if_neg (by omega),if_pos e,if_pos (by omega)]
     ·rw [if_neg (by omega),if_neg (by omega),if_neg (by omega)]
    go_wp2
    go_roundw
    case rel =>
     refine ⟨1,by omega,rfl,?_,hbel.setCell (Nat.le_refl _) _⟩
     have h:=(har.set 0 (n / 256 ^ (2 - 1 - 0) % 256) (by omega)).congr HF.out
     rw [show ((n / 256 ^ (2 - 1 - 0) % 256:Nat):Int)=(n:Int) / 256 % 256 by simp] at h
     exact h
    case measure=>simp [intOf]
   ·have HF:Hid (∀ j,j < 2→(if j=1 then n / 256 ^ (2 - 1 - 1) % 256 else if j < 1 then n / 256 ^ (2 - 1 - j) % 256 else 0)=if j < 1+1 then n / 256 ^ (2 - 1 - j) % 256 else 0):=by
     intro j hj
     rcases (show j=1∨j < 1∨1 < j by omega) with e|e|e
     ·subst e;rfl
     ·rw [if_neg (by omega),if_pos e,if_pos (by omega)]
     ·rw [if_neg (by omega),if_neg (by omega),if_neg (by omega)]
    go_wp2
    go_roundw
    case rel =>
     refine ⟨2,by omega,rfl,?_,hbel.setCell (Nat.le_refl _) _⟩
     have h:=(har.set 1 (n / 256 ^ (2 - 1 - 1) % 256) (by omega)).congr HF.out
     rw [show ((n / 256 ^ (2 - 1 - 1) % 256:Nat):Int)=(n:Int) % 256 by simp] at h
     exact h
    case measure=>simp [intOf]
  ·have ha8:arr8 wr w.heap.size (fun j=>((bigL n 2).getD j 0).toNat) 2:=har.congr fun j hj=>by rw [if_pos (by omega),bigL_get n 2 j hj]
   have hcv:=conv_arr8 (bigL n 2) 2 2 (bigL_len _ _) wr w.heap.size ha8
   clear ha8 har
   generalize hqg:bigL n 2=q at *
   have HQG:Hid (bigL n 2=q):=hqg
   clear hqg
   have hdk:decide ((k:Int) < 2)=false:=by simp;omega
   go_wp2_with fail
   go_ret
   exact ⟨ret_str HQG.out.symm,hbel⟩
theorem bytesOf_4 (n:Nat) (_hn:n < 4611686018427387904) (w:World) :
  Calls Tryz.prog 242 #[.int .i64 (n:Int),.int .i64 4] w fun e' w'=>e'=.returned (.string ⟨(bigL n 4).toArray⟩)∧Below w.heap.size w w':=by
 obtain ⟨i0,hi,hz0,hz1,hz2⟩:=info_parts Tryz.infoByte
 go_enter Tryz.func242,Tryz.ntmps242
 go_wp2_with (at_make;refine wpList_make_full _ rfl _ _ 70 rfl w.heap.size 5 i0 (.int .u8 0) 1 Tryz.underlying70 hi hz0 hz1 .i64 .i64 _ _ 4 rfl rfl rfl rfl (by rw [hz2];omega) (by unfold maxLen;omega) (Nat.le_refl _) ?_;intro w1 hown1 hg1;have ha1:=made_arr8 hown1;have hb1:=(Below.refl w.heap.size w).grown hg1 (Nat.le_refl _) (by simp);clear hown1 hg1)
 clear hi hz0 hz1 hz2 i0
 go_loopw [11] (fun i wr=>∃ k:Nat,k≤4∧i=.int .i64 k∧arr8 wr w.heap.size (fun j=>if j < k then n / 256 ^ (4 - 1 - j) % 256 else 0) 4∧Below w.heap.size w wr) (fun i _=>4 - (intOf i).toNat)
 case atStart=>exact ⟨0,by omega,rfl,ha1.congr fun j _=>by simp,hb1⟩
 case round =>
  clear ha1 hb1
  obtain ⟨k,hk,rfl,har,hbel⟩:=hrel
  by_cases hlt:k < 4
  ·obtain ⟨ck,fk⟩:=har k hlt
   dsimp only at ck
   rw [if_neg (Nat.lt_irrefl k)] at ck
   rcases (show k=0∨k=1∨k=2∨k=3 by omega) with rfl|rfl|rfl|rfl
   ·have HF:Hid (∀ j,j < 4→(if j=0 then n / 256 ^ (4 - 1 - 0) % 256 else if j < 0 then n / 256 ^ (4 - 1 - j) % 256 else 0)=if j < 0+1 then n / 256 ^ (4 - 1 - j) % 256 else 0):=by
     intro j hj
     rcases (show j=0∨j < 0∨0 < j by omega) with e|e|e
     ·subst e;rfl
     ·rw [if_neg (by omega),if_pos e,if_pos (by omega)]
     ·rw [if_neg (by omega),if_neg (by omega),if_neg (by omega)]
    go_wp2
    go_roundw
    case rel =>
     refine ⟨1,by omega,rfl,?_,hbel.setCell (Nat.le_refl _) _⟩
     have h:=(har.set 0 (n / 256 ^ (4 - 1 - 0) % 256) (by omega)).congr HF.out
     rw [show ((n / 256 ^ (4 - 1 - 0) % 256:Nat):Int)=(n:Int) / 16777216 % 256 by simp] at h
     exact h
    case measure=>simp [intOf]
   ·have HF:Hid (∀ j,j < 4→(if j=1 then n / 256 ^ (4 - 1 - 1) % 256 else if j < 1 then n / 256 ^ (4 - 1 - j) % 256 else 0)=if j < 1+1 then n / 256 ^ (4 - 1 - j) % 256 else 0):=by
     intro j hj
     rcases (show j=1∨j < 1∨1 < j by omega) with e|e|e
     ·subst e;rfl
     ·rw [if_neg (by omega),if_pos e,if_pos (by omega)]
     ·rw [if_neg (by omega),if_neg (by omega),if_neg (by omega)]
    go_wp2
    go_roundw
    case rel =>
     refine ⟨2,by omega,rfl,?_,hbel.setCell (Nat.le_refl _) _⟩
     have h:=(har.set 1 (n / 256 ^ (4 - 1 - 1) % 256) (by omega)).congr HF.out
     rw [show ((n / 256 ^ (4 - 1 - 1) % 256:Nat):Int)=(n:Int) / 65536 % 256 by simp] at h
     exact h
    case measure=>simp [intOf]
   ·have HF:Hid (∀ j,j < 4→(if j=2 then n / 256 ^ (4 - 1 - 2) % 256 else if j < 2 then n / 256 ^ (4 - 1 - j) % 256 else 0)=if j < 2+1 then n / 256 ^ (4 - 1 - j) % 256 else 0):=by
     intro j hj
     rcases (show j=2∨j < 2∨2 < j by omega) with e|e|e
     ·subst e;rfl
     ·rw [if_neg (by omega),if_pos e,if_pos (by omega)]
     ·rw [if_neg (by omega),if_neg (by omega),if_neg (by omega)]
    go_wp2
    go_roundw
    case rel =>
     refine ⟨3,by omega,rfl,?_,hbel.setCell (Nat.le_refl _) _⟩
     have h:=(har.set 2 (n / 256 ^ (4 - 1 - 2) % 256) (by omega)).congr HF.out
     rw [show ((n / 256 ^ (4 - 1 - 2) % 256:Nat):Int)=(n:Int) / 256 % 256 by simp] at h
     exact h
    case measure=>simp [intOf]
   ·have HF:Hid (∀ j,j < 4→(if j=3 then n / 256 ^ (4 - 1 - 3) % 256 else if j < 3 then n / 256 ^ (4 - 1 - j) % 256 else 0)=if j < 3+1 then n / 256 ^ (4 - 1 - j) % 256 else 0):=by
     intro j hj
     rcases (show j=3∨j < 3∨3 < j by omega) with e|e|e
     ·subst e;rfl
     ·rw [if_neg (by omega),if_pos e,if_pos (by omega)]
     ·rw [if_neg (by omega),if_neg (by omega),if_neg (by omega)]
    go_wp2
    go_roundw
    case rel =>
     refine ⟨4,by omega,rfl,?_,hbel.setCell (Nat.le_refl _) _⟩
     have h:=(har.set 3 (n / 256 ^ (4 - 1 - 3) % 256) (by omega)).congr HF.out
     rw [show ((n / 256 ^ (4 - 1 - 3) % 256:Nat):Int)=(n:Int) % 256 by simp] at h
     exact h
    case measure=>simp [intOf]
  ·have ha8:arr8 wr w.heap.size (fun j=>((bigL n 4).getD j 0).toNat) 4:=har.congr fun j hj=>by rw [if_pos (by omega),bigL_get n 4 j hj]
   have hcv:=conv_arr8 (bigL n 4) 4 4 (bigL_len _ _) wr w.heap.size ha8
   clear ha8 har
   generalize hqg:bigL n 4=q at *
   have HQG:Hid (bigL n 4=q):=hqg
   clear hqg
   have hdk:decide ((k:Int) < 4)=false:=by simp;omega
   go_wp2_with fail
   go_ret
   exact ⟨ret_str HQG.out.symm,hbel⟩
def shortT (t:List UInt8):List UInt8:=bigL t.length 1++t
def longT (t:List UInt8):List UInt8:=bigL t.length 2++t
def numT (n:Nat):List UInt8:=bigL n 4
def frameT (b:List UInt8):List UInt8:=longT b++numT (crcL b)
theorem app_strL (a b:List UInt8):(⟨a.toArray⟩:ByteArray)++⟨b.toArray⟩=⟨(a++b).toArray⟩:=by apply ByteArray.ext;simp
theorem fshort_any (t:List UInt8) (ht:t.length≤1000000) (w:World) :
  Calls Tryz.prog 305 #[.string ⟨t.toArray⟩] w fun e w'=>e=.returned (.string ⟨(shortT t).toArray⟩)∧Below w.heap.size w w':=by
 have C:Hid (_):=bytesOf_1 t.length (by omega)
 have HS:Hid (_):=app_strL (bigL t.length 1) t
 have hl:=bigL_len t.length 1
 have HR:Hid (shortT t=bigL t.length 1++t):=rfl
 generalize bigL t.length 1=q at *
 go_enter Tryz.func305,Tryz.ntmps305
 go_wp2_with (go_at_call 242;refine (C.out _).mono ?_;rintro e w1 ⟨rfl,b1⟩)
 go_ret
 exact ⟨by rw [HR.out,← HS.out];rfl,b1⟩
theorem flong_any (t:List UInt8) (ht:t.length≤1000000) (w:World) :
  Calls Tryz.prog 218 #[.string ⟨t.toArray⟩] w fun e w'=>e=.returned (.string ⟨(longT t).toArray⟩)∧Below w.heap.size w w':=by
 have C:Hid (_):=bytesOf_2 t.length (by omega)
 have HS:Hid (_):=app_strL (bigL t.length 2) t
 have hl:=bigL_len t.length 2
 have HR:Hid (longT t=bigL t.length 2++t):=rfl
 generalize bigL t.length 2=q at *
 go_enter Tryz.func218,Tryz.ntmps218
 go_wp2_with (go_at_call 242;refine (C.out _).mono ?_;rintro e w1 ⟨rfl,b1⟩)
 go_ret
 exact ⟨by rw [HR.out,← HS.out];rfl,b1⟩
theorem fnum_any (n:Nat) (hn:n < 4611686018427387904) (w:World) :
  Calls Tryz.prog 219 #[.int .i64 (n:Int)] w fun e w'=>e=.returned (.string ⟨(numT n).toArray⟩)∧Below w.heap.size w w':=by
 have C:Hid (_):=bytesOf_4 n hn
 have HR:Hid (numT n=bigL n 4):=rfl
 generalize bigL n 4=q at *
 go_enter Tryz.func219,Tryz.ntmps219
 go_wp2_with (go_at_call 242;refine (C.out _).mono ?_;rintro e w1 ⟨rfl,b1⟩)
 go_ret
 exact ⟨by rw [HR.out];rfl,b1⟩
theorem frameOf_any (b:List UInt8) (hb:b.length≤60000) (w:World) :
  Calls Tryz.prog 182 #[.string ⟨b.toArray⟩] w fun e w'=>e=.returned (.string ⟨(frameT b).toArray⟩)∧Below w.heap.size w w':=by
 have hc:crcL b≤4294967295:=Nat.sub_le _ _
 have C1:Hid (_):=flong_any b (by omega)
 have C2:Hid (_):=check_any ⟨b.toArray⟩ (by simp [ByteArray.size];omega)
 have C3:Hid (_):=fnum_any (crcL b) (by omega)
 have HS:Hid (_):=app_strL (longT b) (numT (crcL b))
 have HR:Hid (frameT b=longT b++numT (crcL b)):=rfl
 have l1:(longT b).length≤100000:=by simp [longT,bigL_len];omega
 have l2:(numT (crcL b)).length≤100000:=by simp [numT,bigL_len]
 have e1:(⟨b.toArray⟩:ByteArray).data.toList=b:=rfl
 rw [e1] at C2
 generalize crcL b=c at *
 generalize longT b=q at *
 generalize numT c=r at *
 go_enter Tryz.func182,Tryz.ntmps182
 go_wp2_with (first|(go_at_call 218;refine (C1.out _).mono ?_;rintro e w1 ⟨rfl,b1⟩)|(go_at_call 138;refine (C2.out _).mono ?_;rintro e w2 ⟨rfl,rfl⟩)|(go_at_call 219;refine (C3.out _).mono ?_;rintro e w3 ⟨rfl,b3⟩))
 go_ret
 exact ⟨by rw [HR.out,← HS.out];rfl,below_trans b1 b3⟩
theorem ext_take (l:List UInt8) (k:Nat):(⟨l.toArray⟩:ByteArray).extract 0 k=⟨(l.take k).toArray⟩:=by
 apply ByteArray.ext;simp [ByteArray.data_extract]
theorem ext_drop (l:List UInt8) (k:Nat):(⟨l.toArray⟩:ByteArray).extract k l.length=⟨(l.drop k).toArray⟩:=by
 apply ByteArray.ext;simp [ByteArray.data_extract];rw [List.take_of_length_le (by simp)]
structure RD (b:Nat) (rest:List UInt8) (short:Bool) (w:World):Prop where
 c0:w.cell? ⟨b,0,none⟩=some (.string ⟨rest.toArray⟩)
 c1:w.cell? ⟨b,1,none⟩=some (.bool short)
 f0:w.frozen? ⟨b,0,none⟩=false
 f1:w.frozen? ⟨b,1,none⟩=false
def takeR (k:Nat) (rest:List UInt8) (short:Bool):List UInt8×List UInt8×Bool:=if rest.length < k then ([],[],true) else (rest.take k,rest.drop k,short)
theorem rtake_any (b k:Nat) (rest:List UInt8) (short:Bool) (_hr:rest.length≤1000000) (_hk:k≤1000000) (w:World) (h:RD b rest short w) :
  Calls Tryz.prog 188 #[.pointer (some ⟨b,0,none⟩),.int .i64 (k:Int)] w fun e w'=>e=.returned (.string ⟨(takeR k rest short).1.toArray⟩)∧RD b (takeR k rest short).2.1 (takeR k rest short).2.2 w'∧Kept (·=b) w w':=by
 have c0:=h.c0;have c1:=h.c1;have f0:=h.f0;have f1:=h.f1
 by_cases hlt:rest.length < k
 ·have HR:Hid (takeR k rest short=([],[],true)):=if_pos hlt
  have t1:decide ((rest.length:Int) < (k:Int))=true:=by simp;omega
  clear h
  go_enter Tryz.func188,Tryz.ntmps188
  go_wp2
  go_ret
  rw [HR.out]
  refine ⟨rfl,⟨?_,?_,?_,?_⟩,(Kept.of_grown1 (grown_set _ _ _ _)).trans (Kept.of_grown1 (grown_set _ _ _ _)) (fun _ _ e=>e)⟩ <;> simp [go_sem,c0,c1,f0,f1]
 ·have HR:Hid (takeR k rest short=(rest.take k,rest.drop k,short)):=if_neg hlt
  have t1:decide ((rest.length:Int) < (k:Int))=false:=by simp;omega
  have x1:(⟨rest.toArray⟩:ByteArray).extract 0 k=⟨(rest.take k).toArray⟩:=ext_take rest k
  have x2:(⟨rest.toArray⟩:ByteArray).extract k rest.length=⟨(rest.drop k).toArray⟩:=ext_drop rest k
  clear h
  go_enter Tryz.func188,Tryz.ntmps188
  go_wp2
  go_ret
  rw [HR.out]
  refine ⟨by simp only [← x1];rfl,⟨?_,?_,?_,?_⟩,Kept.of_grown1 (grown_set _ _ _ _)⟩ <;> simp [go_sem,c0,c1,f0,f1]
def numOf (l:List UInt8):Nat:=l.foldl (fun a c=>a*256+c.toNat) 0
theorem numOf_take (l:List UInt8) (k:Nat) (h:k < l.length):numOf (l.take (k+1))=numOf (l.take k)*256+l[k].toNat:=by
 have e:l.take (k+1)=l.take k++[l[k]]:=by rw [List.take_add_one,List.getElem?_eq_getElem h];rfl
 unfold numOf;rw [e,List.foldl_append];rfl
theorem numOf_lt:∀ (l:List UInt8),numOf l < 256 ^ l.length:=by
 intro l
 have:∀ (l:List UInt8) (a:Nat),l.foldl (fun a c=>a*256+c.toNat) a < (a+1)*256 ^ l.length:=by
  intro l
  induction l with
  | nil=>intro a;simp
  | cons c l ih =>
   intro a
   have hc:=c.toNat_lt
   refine Nat.lt_of_lt_of_le (ih (a*256+c.toNat)) ?_
   rw [List.length_cons,Nat.pow_succ,Nat.mul_comm (256 ^ l.length) 256,← Nat.mul_assoc]
   exact Nat.mul_le_mul_right _ (by omega)
 simpa [numOf] using this l 0
def numR (k:Nat) (rest:List UInt8) (short:Bool):Nat:=numOf (takeR k rest short).1
theorem rnumber_any (b k:Nat) (rest:List UInt8) (short:Bool) (hr:rest.length≤1000000) (hk:k≤4) (w:World) (h:RD b rest short w) :
  Calls Tryz.prog 189 #[.pointer (some ⟨b,0,none⟩),.int .i64 (k:Int)] w fun e w'=>e=.returned (.int .i64 (numR k rest short:Nat))∧RD b (takeR k rest short).2.1 (takeR k rest short).2.2 w'∧Kept (·=b) w w':=by
 have T:Hid (_):=rtake_any b k rest short hr (by omega) w h
 have hl:(takeR k rest short).1.length≤4:=by unfold takeR;split <;> simp;omega
 have HN:Hid (numR k rest short=numOf (takeR k rest short).1):=rfl
 clear h
 generalize (takeR k rest short).2.1=r2 at *
 generalize (takeR k rest short).2.2=s2 at *
 generalize (takeR k rest short).1=t at *
 go_enter Tryz.func189,Tryz.ntmps189
 go_wp2_with fail
 refine Calls.mono T.out ?_
 rintro e w1 ⟨rfl,h1,k1⟩
 go_wp2
 go_loop [5,13] (fun v i=>∃ q:Nat,q≤t.length∧i=.int .i64 q∧v=.int .i64 (numOf (t.take q):Nat)) (fun _ i=>t.length - (intOf i).toNat)
 case atStart=>exact ⟨0,Nat.zero_le _,rfl,rfl⟩
 case round =>
  obtain ⟨q,hq,rfl,rfl⟩:=hrel
  by_cases hlt:q < t.length
  ·have hs:q < (⟨t.toArray⟩:ByteArray).size:=hlt
   have HS:Hid (numOf (t.take (q+1))=numOf (t.take q)*256+t[q].toNat):=numOf_take t q hlt
   have hb:=numOf_lt (t.take q)
   have hx:=t[q].toNat_lt
   have h32:numOf (t.take q) < 16777216:=by
    refine Nat.lt_of_lt_of_le hb ?_
    rw [List.length_take,Nat.min_eq_left (by omega)]
    exact Nat.le_trans (Nat.pow_le_pow_right (by omega) (show q≤3 by omega)) (by decide)
   generalize numOf (t.take q)=m at *
   clear hb
   go_wp2
   have hw:wrap64 (((⟨t.toArray⟩:ByteArray)[q]'hs).toNat:Int)=((t[q].toNat:Nat):Int):=by
    show wrap64 ((t[q].toNat:Nat):Int)=_
    unfold wrap64;omega
   have ho:bits .or .i64 ((m:Int)*256) ((t[q].toNat:Nat):Int)=((m*256+t[q].toNat:Nat):Int):=by
    have e1:=i64_or_nat (m*256) t[q].toNat (by omega) (by omega)
    have e2:m*256+t[q].toNat=m*256 ||| t[q].toNat:=by
     have:=Nat.shiftLeft_add_eq_or_of_lt hx m
     rwa [Nat.shiftLeft_eq] at this
    rw [← e2] at e1
    rw [← e1];simp
   rw [hw,ho]
   go_round
   case rel=>exact ⟨q+1,by omega,by go_num,by rw [HS.out]⟩
   case measure=>simp [intOf];omega
  ·obtain rfl:q=t.length:=by omega
   rw [List.take_length]
   go_wp2
   go_ret
   exact ⟨by rw [HN.out];rfl,h1,k1⟩
abbrev St3:=List UInt8×List UInt8×Bool
def textR (k:Nat) (rest:List UInt8) (short:Bool):St3:=takeR (numR k rest short) (takeR k rest short).2.1 (takeR k rest short).2.2
theorem takeR_len (k:Nat) (rest:List UInt8) (short:Bool):(takeR k rest short).1.length≤rest.length∧(takeR k rest short).2.1.length≤rest.length∧(takeR k rest short).1.length≤k:=by
 unfold takeR;split <;> simp;omega
theorem numR_lt (k:Nat) (rest:List UInt8) (short:Bool):numR k rest short < 256 ^ k:=by
 refine Nat.lt_of_lt_of_le (numOf_lt _) ?_
 exact Nat.pow_le_pow_right (by omega) (takeR_len k rest short).2.2
def rdPostK (b:Nat) (x:St3) (w:World) (e:Ending) (w':World):Prop:=e=.returned (.string ⟨x.1.toArray⟩)∧RD b x.2.1 x.2.2 w'∧Kept (·=b) w w'
theorem kept_same {b:Nat} {w w1 w2:World} (h:Kept (·=b) w w1) (k:Kept (·=b) w1 w2):Kept (·=b) w w2:=h.trans k (fun _ _ e=>e)
theorem rletter_any (b:Nat) (rest:List UInt8) (short:Bool) (hr:rest.length≤1000000) (w:World) (h:RD b rest short w) :
  Calls Tryz.prog 139 #[.pointer (some ⟨b,0,none⟩)] w (rdPostK b (takeR 1 rest short) w):=by
 have T:Hid (_):=rtake_any b 1 rest short hr (by omega) w h
 clear h
 generalize takeR 1 rest short=x at *
 go_enter Tryz.func139,Tryz.ntmps139
 go_wp2_with fail
 refine Calls.mono T.out ?_
 rintro e w1 ⟨rfl,h1,k1⟩
 go_wp2
 go_ret
 exact ⟨rfl,h1,k1⟩
theorem rshort_any (b:Nat) (rest:List UInt8) (short:Bool) (hr:rest.length≤1000000) (w:World) (h:RD b rest short w) :
  Calls Tryz.prog 140 #[.pointer (some ⟨b,0,none⟩)] w (rdPostK b (textR 1 rest short) w):=by
 have N:Hid (_):=rnumber_any b 1 rest short hr (by omega) w h
 have hn:=numR_lt 1 rest short
 have hl:=(takeR_len 1 rest short).2.1
 have T:Hid (_):=fun w h=>rtake_any b (numR 1 rest short) (takeR 1 rest short).2.1 (takeR 1 rest short).2.2 (by omega) (by omega) w h
 have HX:Hid (textR 1 rest short=takeR (numR 1 rest short) (takeR 1 rest short).2.1 (takeR 1 rest short).2.2):=rfl
 rw [HX.out]
 clear h hn hl HX
 generalize takeR (numR 1 rest short) (takeR 1 rest short).2.1 (takeR 1 rest short).2.2=x at *
 generalize numR 1 rest short=n at *
 go_enter Tryz.func140,Tryz.ntmps140
 go_wp2_with fail
 refine Calls.mono N.out ?_
 rintro e w1 ⟨rfl,h1,k1⟩
 go_wp2_with fail
 refine Calls.mono (T.out w1 h1) ?_
 rintro e w2 ⟨rfl,h2,k2⟩
 go_wp2
 go_ret
 exact ⟨rfl,h2,kept_same k1 k2⟩
theorem rlong_any (b:Nat) (rest:List UInt8) (short:Bool) (hr:rest.length≤1000000) (w:World) (h:RD b rest short w) :
  Calls Tryz.prog 136 #[.pointer (some ⟨b,0,none⟩)] w (rdPostK b (textR 2 rest short) w):=by
 have N:Hid (_):=rnumber_any b 2 rest short hr (by omega) w h
 have hn:=numR_lt 2 rest short
 have hl:=(takeR_len 2 rest short).2.1
 have T:Hid (_):=fun w h=>rtake_any b (numR 2 rest short) (takeR 2 rest short).2.1 (takeR 2 rest short).2.2 (by omega) (by omega) w h
 have HX:Hid (textR 2 rest short=takeR (numR 2 rest short) (takeR 2 rest short).2.1 (takeR 2 rest short).2.2):=rfl
 rw [HX.out]
 clear h hn hl HX
 generalize takeR (numR 2 rest short) (takeR 2 rest short).2.1 (takeR 2 rest short).2.2=x at *
 generalize numR 2 rest short=n at *
 go_enter Tryz.func136,Tryz.ntmps136
 go_wp2_with fail
 refine Calls.mono N.out ?_
 rintro e w1 ⟨rfl,h1,k1⟩
 go_wp2_with fail
 refine Calls.mono (T.out w1 h1) ?_
 rintro e w2 ⟨rfl,h2,k2⟩
 go_wp2
 go_ret
 exact ⟨rfl,h2,kept_same k1 k2⟩
theorem rnum4_any (b:Nat) (rest:List UInt8) (short:Bool) (hr:rest.length≤1000000) (w:World) (h:RD b rest short w) :
  Calls Tryz.prog 137 #[.pointer (some ⟨b,0,none⟩)] w fun e w'=>e=.returned (.int .i64 (numR 4 rest short:Nat))∧RD b (takeR 4 rest short).2.1 (takeR 4 rest short).2.2 w'∧Kept (·=b) w w':=by
 have N:Hid (_):=rnumber_any b 4 rest short hr (by omega) w h
 clear h
 generalize numR 4 rest short=n at *
 generalize takeR 4 rest short=x at *
 go_enter Tryz.func137,Tryz.ntmps137
 go_wp2_with fail
 refine Calls.mono N.out ?_
 rintro e w1 ⟨rfl,h1,k1⟩
 go_wp2
 go_ret
 exact ⟨rfl,h1,k1⟩
theorem rended_any (b:Nat) (rest:List UInt8) (short:Bool) (w:World) (h:RD b rest short w) :
  Calls Tryz.prog 141 #[.pointer (some ⟨b,0,none⟩)] w fun e w'=>e=.returned (.bool (!short && rest == []))∧w=w':=by
 have c0:=h.c0;have c1:=h.c1
 clear h
 cases short with
 | true =>
  go_enter Tryz.func141,Tryz.ntmps141
  go_wp2
  go_ret
  exact ⟨rfl,rfl⟩
 | false =>
  go_enter Tryz.func141,Tryz.ntmps141
  go_wp2
  go_ret
  exact ⟨ret_bool (by cases rest <;> rfl),rfl⟩
theorem fread_any (t:List UInt8) (w:World) :
  Calls Tryz.prog 135 #[.string ⟨t.toArray⟩] w fun e w'=>e=.returned (.pointer (some ⟨w.heap.size,0,none⟩))∧RD w.heap.size t false w'∧Below w.heap.size w w':=by
 go_enter Tryz.func135,Tryz.ntmps135
 go_wp2
 go_ret
 refine ⟨rfl,?_,(Below.refl _ _).alloc (Nat.le_refl _) _⟩
 constructor <;> simp [go_sem]
def firstF (log:List UInt8):Option (List UInt8×Nat) :=
 let b:=textR 2 log false
 let c:=takeR 4 b.2.1 b.2.2
 if c.2.2=true then none else if numOf c.1=crcL b.1 then some (b.1,log.length - c.2.1.length) else none
def ffEnd:Option (List UInt8×Nat)→Ending
 | none=>.returned (.tuple #[.string ⟨#[]⟩,.int .i64 0,.bool false])
 | some p=>.returned (.tuple #[.string ⟨p.1.toArray⟩,.int .i64 (p.2:Nat),.bool true])
theorem ffirst_any (log:List UInt8) (hl:log.length≤1000000) (w:World) :
  Calls Tryz.prog 93 #[.string ⟨log.toArray⟩] w fun e w'=>e=ffEnd (firstF log)∧Below w.heap.size w w':=by
 have R:Hid (_):=fread_any log w
 have L:Hid (_):=rlong_any w.heap.size log false hl
 have lb:(textR 2 log false).1.length≤log.length∧(textR 2 log false).2.1.length≤log.length:=by
  have a:=takeR_len 2 log false
  have b:=takeR_len (numR 2 log false) (takeR 2 log false).2.1 (takeR 2 log false).2.2
  unfold textR;omega
 have N:Hid (_):=rnum4_any w.heap.size (textR 2 log false).2.1 (textR 2 log false).2.2 (by omega)
 have lc:=(takeR_len 4 (textR 2 log false).2.1 (textR 2 log false).2.2).2.1
 have C:Hid (_):=check_any ⟨(textR 2 log false).1.toArray⟩ (by simp [ByteArray.size];omega)
 have e1:(⟨(textR 2 log false).1.toArray⟩:ByteArray).data.toList=(textR 2 log false).1:=rfl
 rw [e1] at C
 have hc:crcL (textR 2 log false).1≤4294967295:=Nat.sub_le _ _
 have HF:Hid (firstF log=if (takeR 4 (textR 2 log false).2.1 (textR 2 log false).2.2).2.2=true then none else if numR 4 (textR 2 log false).2.1 (textR 2 log false).2.2=crcL (textR 2 log false).1 then some ((textR 2 log false).1,log.length - (takeR 4 (textR 2 log false).2.1 (textR 2 log false).2.2).2.1.length) else none):=rfl
 clear e1
 generalize crcL (textR 2 log false).1=cc at *
 generalize numR 4 (textR 2 log false).2.1 (textR 2 log false).2.2=nn at *
 generalize takeR 4 (textR 2 log false).2.1 (textR 2 log false).2.2=x at *
 generalize textR 2 log false=y at *
 obtain ⟨x1,x2,x3⟩:=x
 obtain ⟨y1,y2,y3⟩:=y
 go_enter Tryz.func93,Tryz.ntmps93
 go_wp2_with fail
 refine Calls.mono R.out ?_
 rintro e w1 ⟨rfl,h1,b1⟩
 go_wp2_with fail
 refine Calls.mono (L.out w1 h1) ?_
 rintro e w2 ⟨rfl,h2,k2⟩
 go_wp2_with fail
 refine Calls.mono (N.out w2 h2) ?_
 rintro e w3 ⟨rfl,h3,k3⟩
 have B3:Below w.heap.size w w3:=(((Kept.of_below b1).trans k2 (fun x hx e=>by omega)).trans k3 (fun x hx e=>by omega)).below (Nat.le_refl _) (fun k e=>e)
 have c0:=h3.c0;have c1:=h3.c1
 try dsimp only at c0
 try dsimp only at c1
 try dsimp only at lc
 try dsimp only at lb
 clear h1 h2 h3 k2 k3 b1 R L N
 cases x3 with
 | true =>
  have HR:Hid (firstF log=none):=by show _=_;rw [HF.out,if_pos rfl]
  go_wp2
  go_ret3
  exact ⟨by rw [HR.out];rfl,B3⟩
 | false =>
  by_cases he:nn=cc
  ·have HR:Hid (firstF log=some (y1,log.length - x2.length)):=by show _=_;rw [HF.out,if_neg (by simp),if_pos he]
   have p1:((nn:Int) != (cc:Int))=false:=by simp;omega
   have HL:Hid (((log.length - x2.length:Nat):Int)=(log.length:Int) - (x2.length:Int)):=by show _=_;omega
   clear he HF
   go_wp2_with (go_at_call 138;refine (C.out _).mono ?_;rintro e w4 ⟨rfl,rfl⟩)
   go_region
   all_goals go_wp2
   all_goals go_ret3
   all_goals exact ⟨by rw [HR.out];simp only [ffEnd];rw [HL.out];rfl,B3.drew⟩
  ·have HR:Hid (firstF log=none):=by show _=_;rw [HF.out,if_neg (by simp),if_neg he]
   have p1:((nn:Int) != (cc:Int))=true:=by simp;omega
   clear he HF
   go_wp2_with (go_at_call 138;refine (C.out _).mono ?_;rintro e w4 ⟨rfl,rfl⟩)
   go_ret3
   exact ⟨by rw [HR.out];rfl,B3⟩
open C (ret_bool ret_int ret_str)
def bktB (b:UInt8):Bool:=lcB b || b.toNat == 45
def keyB1 (b:UInt8):Bool:=decide (32≤b.toNat∧b.toNat≤126)
def bktP (s:List UInt8):Bool:=decide (3≤s.length∧s.length≤20) && s.all bktB
def keyP (s:List UInt8):Bool:=decide (1≤s.length∧s.length≤40) && s.all keyB1
theorem bkt1_any (b:UInt8) (w:World) :
  Calls Tryz.prog 172 #[.int .u8 (b.toNat:Int)] w fun e w'=>e=.returned (.bool (bktB b))∧w=w':=by
 have L:Hid (_):=isLD_any b
 have HB:Hid (bktB b=(lcB b || b.toNat == 45)):=rfl
 cases hb:lcB b with
 | true =>
  have HR:Hid (bktB b=true):=by show _=_;rw [HB.out,hb];rfl
  rw [hb] at L
  go_enter Tryz.func172,Tryz.ntmps172
  go_wp2_with (go_at_call 173;refine (L.out _).mono ?_;rintro e w' ⟨rfl,rfl⟩)
  go_ret
  exact ⟨ret_bool HR.out.symm,rfl⟩
 | false =>
  have HR:Hid (bktB b=(b.toNat == 45)):=by show _=_;rw [HB.out,hb];rfl
  rw [hb] at L
  go_enter Tryz.func172,Tryz.ntmps172
  go_wp2_with (go_at_call 173;refine (L.out _).mono ?_;rintro e w' ⟨rfl,rfl⟩)
  go_ret
  refine ⟨ret_bool ?_,rfl⟩
  rw [HR.out,Bool.eq_iff_iff];simp only [beq_iff_eq];omega
theorem key1_any (b:UInt8) (w:World) :
  Calls Tryz.prog 174 #[.int .u8 (b.toNat:Int)] w fun e w'=>e=.returned (.bool (keyB1 b))∧w=w':=by
 by_cases h:32≤b.toNat
 ·have p1:decide (32≤(b.toNat:Int))=true:=by simp;omega
  have HR:Hid (keyB1 b=decide (b.toNat≤126)):=by show decide _=decide _;rw [decide_eq_decide];omega
  go_enter Tryz.func174,Tryz.ntmps174
  go_wp2
  go_ret
  refine ⟨ret_bool ?_,rfl⟩
  rw [HR.out,decide_eq_decide];omega
 ·have p1:decide (32≤(b.toNat:Int))=false:=by simp;omega
  have HR:Hid (keyB1 b=false):=by show decide _=false;rw [decide_eq_false_iff_not];omega
  go_enter Tryz.func174,Tryz.ntmps174
  go_wp2
  go_ret
  exact ⟨ret_bool HR.out.symm,rfl⟩
theorem isBucket_any (l:List UInt8) (w:World) (hl:l.length≤1000000) :
  Calls Tryz.prog 122 #[str l] w fun e w'=>e=.returned (.bool (bktP l))∧w=w':=by
 have L:Hid (_):=fun w=>isLong_any l 3 20 w hl
 have O:Hid (_):=fun w=>isOf_any bktB 172 (enters_of Tryz.func172 (by kernel_rfl) rfl) bkt1_any l w hl
 by_cases h:3≤l.length∧l.length≤20
 ·have HF:Hid (bktP l=l.all bktB):=by show _=_;unfold bktP;rw [decide_eq_true h];rfl
  have HD:Hid (decide (3≤l.length∧l.length≤20)=true):=decide_eq_true h
  clear h
  go_enter Tryz.func122,Tryz.ntmps122
  go_wp2_with (first|(go_at_call 170;refine (L.out _).mono ?_;rw [HD.out];rintro e w' ⟨rfl,rfl⟩)|(go_at_call 171;refine (O.out _).mono ?_;rintro e w' ⟨rfl,rfl⟩))
  go_ret
  exact ⟨ret_bool HF.out.symm,rfl⟩
 ·have HF:Hid (bktP l=false):=by show _=_;unfold bktP;rw [decide_eq_false h];rfl
  have HD:Hid (decide (3≤l.length∧l.length≤20)=false):=decide_eq_false h
  clear h
  go_enter Tryz.func122,Tryz.ntmps122
  go_wp2_with (go_at_call 170;refine (L.out _).mono ?_;rw [HD.out];rintro e w' ⟨rfl,rfl⟩)
  go_ret
  exact ⟨ret_bool HF.out.symm,rfl⟩
theorem isKey_any (l:List UInt8) (w:World) (hl:l.length≤1000000) :
  Calls Tryz.prog 123 #[str l] w fun e w'=>e=.returned (.bool (keyP l))∧w=w':=by
 have L:Hid (_):=fun w=>isLong_any l 1 40 w hl
 have O:Hid (_):=fun w=>isOf_any keyB1 174 (enters_of Tryz.func174 (by kernel_rfl) rfl) key1_any l w hl
 by_cases h:1≤l.length∧l.length≤40
 ·have HF:Hid (keyP l=l.all keyB1):=by show _=_;unfold keyP;rw [decide_eq_true h];rfl
  have HD:Hid (decide (1≤l.length∧l.length≤40)=true):=decide_eq_true h
  clear h
  go_enter Tryz.func123,Tryz.ntmps123
  go_wp2_with (first|(go_at_call 170;refine (L.out _).mono ?_;rw [HD.out];rintro e w' ⟨rfl,rfl⟩)|(go_at_call 171;refine (O.out _).mono ?_;rintro e w' ⟨rfl,rfl⟩))
  go_ret
  exact ⟨ret_bool HF.out.symm,rfl⟩
 ·have HF:Hid (keyP l=false):=by show _=_;unfold keyP;rw [decide_eq_false h];rfl
  have HD:Hid (decide (1≤l.length∧l.length≤40)=false):=decide_eq_false h
  clear h
  go_enter Tryz.func123,Tryz.ntmps123
  go_wp2_with (go_at_call 170;refine (L.out _).mono ?_;rw [HD.out];rintro e w' ⟨rfl,rfl⟩)
  go_ret
  exact ⟨ret_bool HF.out.symm,rfl⟩
open Go.ChangeMaps Go.MapKept
structure KeyB (P:Program) (k:TypeId) (K:Value→Prop):Prop where
 check:∀ (w:World) (em:Bool) {v:Value},K v→(Instr.checkKey em 10000 k v).run P w=.ok () w
 find:∀ (w:World) {x:Value},K x→∀ es:List MapEntry,(∀ e∈es,K e.key) →
  ((Instr.findKey k x es).run P w=.ok none w∧∀ e∈es,e.key≠x)∨∃ j e,(Instr.findKey k x es).run P w=.ok (some (j,e.val)) w∧es[j]?=some e∧e.key=x
 stays:∀ (w:World) {v:Value},K v→(Instr.keyThatStays v v).run P w=.ok v w
def isStr (v:Value):Prop:=∃ s,v=.string s
theorem str_keys {P:Program} {k:TypeId} (hk:P.underlying k=some .string):KeyB P k isStr where
 check w em v h:=by obtain ⟨s,rfl⟩:=h;exact run_checkKey (d:=.string) (k:=.string s) hk True.intro em 9999
 stays w v h:=by obtain ⟨s,rfl⟩:=h;exact run_keyThatStays (d:=.string) (k:=.string s) True.intro
 find w x hx es hes:=by
  have hks:∀ y∈es,IsKey .string y.key:=fun y hy=>by obtain ⟨s,e⟩:=hes y hy;rw [e];trivial
  have hx':IsKey .string x:=by obtain ⟨s,rfl⟩:=hx;trivial
  rcases findNow_spec hx' es 0 hks with ⟨h1,h2⟩|⟨j,e0,h1,h2,h3⟩
  ·exact .inl ⟨run_findKey hk h1,h2⟩
  ·exact .inr ⟨j,e0,by simpa using run_findKey hk h1,h2,h3⟩
def isTwo (v:Value):Prop:=∃ a b,v=.agg #[.string a,.string b]
theorem two_keys {P:Program} {k:TypeId} (hwide:(match P.underlying k with|some (.array _ _)|some (.struct _)=>true|_=>false)=true)
  (hc:∀ (w:World) (em:Bool) (a b:ByteArray),(Instr.checkKey em 10000 k (.agg #[.string a,.string b])).run P w=.ok () w)
  (he:∀ (w:World) (a b c d:ByteArray),(Op.equal k (.agg #[.string a,.string b]) (.agg #[.string c,.string d])).run P w=.ok (a == c && b == d) w)
  (hs:∀ (w:World) (a b:ByteArray),(Instr.keyThatStays (.agg #[.string a,.string b]) (.agg #[.string a,.string b])).run P w=.ok (.agg #[.string a,.string b]) w):KeyB P k isTwo where
 check w em v h:=by obtain ⟨a,b,rfl⟩:=h;exact hc w em a b
 stays w v h:=by obtain ⟨a,b,rfl⟩:=h;exact hs w a b
 find w x hx es hes:=by
  obtain ⟨a,b,rfl⟩:=hx
  rw [run_findKey_eq w hwide]
  suffices H:∀ (es:List MapEntry) (i:Nat),(∀ e∈es,isTwo e.key)→((Instr.findAsking k (.agg #[.string a,.string b]) es i).run P w=.ok none w∧∀ e∈es,e.key≠.agg #[.string a,.string b]) ∨
    ∃ j e,(Instr.findAsking k (.agg #[.string a,.string b]) es i).run P w=.ok (some (i+j,e.val)) w∧es[j]?=some e∧e.key=.agg #[.string a,.string b] by
   rcases H es 0 hes with h|⟨j,e,h1,h2,h3⟩
   ·exact .inl h
   ·exact .inr ⟨j,e,by simpa using h1,h2,h3⟩
  intro es
  induction es with
  | nil=>intro i _;exact .inl ⟨by simp [Instr.findAsking],by simp⟩
  | cons e es ih =>
   intro i hes
   obtain ⟨c,d,hk⟩:=hes e (.head _)
   by_cases hq:a=c∧b=d
   ·obtain ⟨rfl,rfl⟩:=hq
    refine .inr ⟨0,e,?_,rfl,hk⟩
    have hb:(a == a && b == b)=true:=by rw [(bytes_beq a a).2 rfl,(bytes_beq b b).2 rfl];rfl
    simp [Instr.findAsking,hk,he,Result.andThen,hb]
   ·have hb:(a == c && b == d)=false:=by
     cases h:(a == c && b == d) with
     | false=>rfl
     | true =>
      rw [Bool.and_eq_true] at h
      exact absurd ⟨(bytes_beq _ _).1 h.1,(bytes_beq _ _).1 h.2⟩ hq
    have hrun:(Instr.findAsking k (.agg #[.string a,.string b]) (e :: es) i).run P w=(Instr.findAsking k (.agg #[.string a,.string b]) es (i+1)).run P w:=by
     simp [Instr.findAsking,hk,he,Result.andThen,hb]
    rw [hrun]
    have hne:e.key≠.agg #[.string a,.string b]:=by
     rw [hk];intro h
     simp only [Value.agg.injEq,Array.mk.injEq,List.cons.injEq,Value.string.injEq] at h
     exact hq ⟨h.1.symm,h.2.1.symm⟩
    rcases ih (i+1) (fun x hx=>hes x (.tail _ hx)) with ⟨h1,h2⟩|⟨j,e',h1,h2,h3⟩
    ·refine .inl ⟨h1,fun x hx=>?_⟩
     rcases List.mem_cons.1 hx with rfl|hx
     ·exact hne
     ·exact h2 x hx
    ·exact .inr ⟨j+1,e',by rw [h1];congr 3;omega,by simpa using h2,h3⟩
def MapIs (K:Value→Prop) (w:World) (b:Nat) (f:Value→Option Value):Prop :=
 ∃ es clock,w.heap[b]?=some (.map es clock)∧Stamped es clock∧(∀ e∈es.toList,K e.key)∧(∀ e∈es.toList,f e.key=some e.val)∧∀ key v,f key=some v→∃ e∈es.toList,e.key=key
theorem MapIs.lt {K:Value→Prop} {w:World} {b:Nat} {f:Value→Option Value} (h:MapIs K w b f):b < w.heap.size:=by
 obtain ⟨es,clock,hb,_⟩:=h
 exact (Array.getElem?_eq_some_iff.1 hb).1
theorem MapIs.of_block {K:Value→Prop} {w w':World} {b:Nat} {f:Value→Option Value} (h:MapIs K w b f) (e:w'.heap[b]?=w.heap[b]?):MapIs K w' b f:=by
 obtain ⟨es,clock,hb,r⟩:=h
 exact ⟨es,clock,e.trans hb,r⟩
theorem MapIs.kept {K:Value→Prop} {S:Nat→Prop} {w w':World} {b:Nat} {f:Value→Option Value} (h:MapIs K w b f) (k:Kept S w w') (hn:¬ S b):MapIs K w' b f:=h.of_block (k.block b h.lt hn)
theorem MapIs.below {K:Value→Prop} {w w':World} {b:Nat} {f:Value→Option Value} (h:MapIs K w b f) (k:Below w.heap.size w w'):MapIs K w' b f:=h.of_block (k.block b h.lt)
theorem MapIs.alloc {K:Value→Prop} {w:World} {b:Nat} {f:Value→Option Value} (h:MapIs K w b f) (o:Obj):MapIs K (w.alloc o) b f:=h.below ((Below.refl _ _).alloc (Nat.le_refl _) _)
theorem MapIs.drew {K:Value→Prop} {w:World} {b:Nat} {f:Value→Option Value} (h:MapIs K w b f):MapIs K w.drew b f:=h
theorem mapIs_new (K:Value→Prop) (w:World):MapIs K (w.alloc (.map #[] 0)) w.heap.size (fun _=>none) :=
 ⟨#[],0,(MapKept.heap_alloc w _).1,stamped_empty 0,by simp,by simp,by simp⟩
def lookV (c:Bool) (z:Value):Option Value→Value
 | none=>if c then .tuple #[z,.bool false] else z
 | some v=>if c then .tuple #[v,.bool true] else v
theorem MapIs.look {P:Program} {k t e:TypeId} {K:Value→Prop} {w:World} {b:Nat} {f:Value→Option Value} (h:MapIs K w b f) (B:KeyB P k K) (ht:P.underlying t=some (.map k e)) (c:Bool) {z:Value} (hz:(zeroValue e).run P w=.ok z w) {key:Value} (hk:K key) :
  (Instr.lookup t (.map (some b)) key c).run P w=.ok (lookV c z (f key)) w:=by
 obtain ⟨es,clock,hb,_,hks,hv,ha⟩:=h
 rcases B.find w hk es.toList hks with ⟨h1,h2⟩|⟨j,e0,h1,h2,h3⟩
 ·have hf:f key=none:=by
   cases hf:f key with
   | none=>rfl
   | some v=>obtain ⟨x,hx,e⟩:=ha key v hf;exact absurd e (h2 x hx)
  rw [hf]
  simp [Instr.lookup,run_underlying ht,MapKept.run_getObj_map hb,B.check w _ hk,h1,hz,Result.andThen,lookV]
 ·have hm:=List.mem_of_getElem? h2
  have hf:f key=some e0.val:=h3 ▸ hv e0 hm
  rw [hf]
  simp [Instr.lookup,run_underlying ht,MapKept.run_getObj_map hb,B.check w _ hk,h1,Result.andThen,lookV]
theorem kept_setBlock (w:World) (b:Nat) (o:Obj):Kept (·=b) w (setBlock w b o) :=
 ⟨rfl,rfl,rfl,by simp [setBlock],fun k _ hn=>by simp only [setBlock];rw [Array.getElem?_setIfInBounds_ne (fun e=>hn e.symm)]⟩
theorem MapIs.put {P:Program} {k t e:TypeId} {K:Value→Prop} {w:World} {b:Nat} {f:Value→Option Value} (h:MapIs K w b f) (B:KeyB P k K) (ht:P.underlying t=some (.map k e)) {key:Value} (hk:K key) (val:Value) :
  ∃ w' g,(Instr.mapUpdate t (.map (some b)) key val).run P w=.ok () w'∧MapIs K w' b g∧(g key=some val∧∀ x,x≠key→g x=f x)∧Kept (·=b) w w'∧w'.heap.size=w.heap.size:=by
 classical
 obtain ⟨es,clock,hb,hst,hks,hv,ha⟩:=h
 rcases B.find w hk es.toList hks with ⟨h1,h2⟩|⟨j,e0,h1,h2,h3⟩
 ·refine ⟨setBlock w b (.map (es.push ⟨key,val,clock⟩) (clock+1)),(fun x=>if x=key then some val else f x),?_,⟨es.push ⟨key,val,clock⟩,clock+1,heap_setBlock_same hb _,stamped_push hst h2,?_,?_,?_⟩,⟨by simp,fun x hx=>by simp [hx]⟩,kept_setBlock _ _ _,by simp [setBlock]⟩
  ·simp [Instr.mapUpdate,run_underlying ht,MapKept.run_getObj_map hb,B.check w false hk,h1,MapKept.run_setObj_map _ hb,Result.andThen,setBlock]
  ·intro x hx
   simp only [Array.toList_push,List.mem_append,List.mem_singleton] at hx
   rcases hx with hx|rfl
   ·exact hks x hx
   ·exact hk
  ·intro x hx
   simp only [Array.toList_push,List.mem_append,List.mem_singleton] at hx
   rcases hx with hx|rfl
   ·dsimp only;rw [if_neg (h2 x hx)];exact hv x hx
   ·dsimp only;rw [if_pos rfl]
  ·intro x v hx
   dsimp only at hx
   by_cases hq:x=key
   ·exact ⟨⟨key,val,clock⟩,by simp,hq.symm⟩
   ·rw [if_neg hq] at hx
    obtain ⟨y,hy,e⟩:=ha x v hx
    exact ⟨y,by simp [hy],e⟩
 ·have hj:es[j]?=some e0:=by simpa using h2
  have hjl:j < es.toList.length:=(List.getElem?_eq_some_iff.1 h2).1
  have hlist:(es.modify j (fun e'=>{ e' with key:=key,val:=val })).toList=es.toList.set j { e0 with key:=key,val:=val }:=by rw [Array.toList_modify,modify_eq_set _ _ _ _ h2]
  have hst2:=(stamped_iff es clock).1 hst
  have who:∀ x∈es.toList.set j { e0 with key:=key,val:=val },x={ e0 with key:=key,val:=val }∨(x∈es.toList∧x.key≠key):=by
   intro x hx
   obtain ⟨i,hi,ex⟩:=List.getElem_of_mem hx
   rw [List.getElem_set] at ex
   split at ex
   ·exact .inl ex.symm
   ·rename_i hne
    have hi':i < es.toList.length:=by simpa using hi
    refine .inr ⟨ex ▸ List.getElem_mem hi',?_⟩
    rw [← h3]
    intro hq
    have hp:=hst2.2.2
    rw [List.pairwise_iff_getElem] at hp
    have e0':es.toList[j]=e0:=(List.getElem?_eq_some_iff.1 h2).2
    rcases Nat.lt_or_ge i j with hl|hl
    ·exact hp i j hi' hjl hl (by rw [ex,e0'];exact hq)
    ·exact hp j i hjl hi' (by omega) (by rw [ex,e0'];exact hq.symm)
  refine ⟨setBlock w b (.map (es.modify j (fun e'=>{ e' with key:=key,val:=val })) clock),(fun x=>if x=key then some val else f x),?_,⟨es.modify j (fun e'=>{ e' with key:=key,val:=val }),clock,heap_setBlock_same hb _,stamped_modify hst _ _ (fun _ _=>rfl) (fun e' _ he'=>by rw [hj] at he';cases he';exact h3.symm),?_,?_,?_⟩,⟨by simp,fun x hx=>by simp [hx]⟩,kept_setBlock _ _ _,by simp [setBlock]⟩
  ·simp [Instr.mapUpdate,run_underlying ht,MapKept.run_getObj_map hb,B.check w false hk,h1,hj,h3,B.stays w hk,MapKept.run_setObj_map _ hb,Result.andThen,setBlock]
  ·intro x hx
   rw [hlist] at hx
   rcases who x hx with rfl|⟨hx',_⟩
   ·exact hk
   ·exact hks x hx'
  ·intro x hx
   rw [hlist] at hx
   rcases who x hx with rfl|⟨hx',hne⟩
   ·dsimp only;rw [if_pos rfl]
   ·dsimp only;rw [if_neg hne];exact hv x hx'
  ·intro x v hx
   dsimp only at hx
   rw [hlist]
   by_cases hq:x=key
   ·exact ⟨{ e0 with key:=key,val:=val },List.mem_iff_getElem.2 ⟨j,by simpa using hjl,by simp⟩,hq.symm⟩
   ·rw [if_neg hq] at hx
    obtain ⟨y,hy,e⟩:=ha x v hx
    obtain ⟨i,hi⟩:=List.getElem?_of_mem hy
    refine ⟨y,List.mem_of_getElem? (i:=i) ?_,e⟩
    rw [List.getElem?_set_ne (fun e1=>hq ?_)]
    ·exact hi
    ·rw [← e,← h3];subst e1;rw [h2] at hi;cases hi;rfl
theorem MapIs.del {P:Program} {k t e ty:TypeId} {K:Value→Prop} {w:World} {b:Nat} {f:Value→Option Value} (h:MapIs K w b f) (B:KeyB P k K) (ht:P.underlying t=some (.map k e)) {key:Value} (hk:K key) :
  ∃ w' g,(Builtin.delete_ #[t,k] ty #[.map (some b),key]).run P w=.ok (.tuple #[]) w'∧MapIs K w' b g∧(g key=none∧∀ x,x≠key→g x=f x)∧Kept (·=b) w w'∧w'.heap.size=w.heap.size:=by
 classical
 obtain ⟨es,clock,hb,hst,hks,hv,ha⟩:=h
 rcases B.find w hk es.toList hks with ⟨h1,h2⟩|⟨j,e0,h1,h2,h3⟩
 ·refine ⟨setBlock w b (.map es clock),(fun x=>if x=key then none else f x),?_,⟨es,clock,heap_setBlock_same hb _,hst,hks,?_,?_⟩,⟨by simp,fun x hx=>by simp [hx]⟩,kept_setBlock _ _ _,by simp [setBlock]⟩
  ·simp [Builtin.delete_,run_underlying ht,MapKept.run_getObj_map hb,B.check w _ hk,h1,MapKept.run_setObj_map _ hb,Result.andThen,setBlock]
  ·intro x hx;dsimp only;rw [if_neg (h2 x hx)];exact hv x hx
  ·intro x v hx
   dsimp only at hx
   by_cases hq:x=key
   ·rw [if_pos hq] at hx;cases hx
   ·rw [if_neg hq] at hx;exact ha x v hx
 ·have hjl:j < es.toList.length:=(List.getElem?_eq_some_iff.1 h2).1
  have hjs:j < es.size:=by simpa using hjl
  have hsub:(es.eraseIdxIfInBounds j).toList=es.toList.eraseIdx j:=by
   unfold Array.eraseIdxIfInBounds
   rw [dif_pos hjs]
   simp
  have hst2:=(stamped_iff es clock).1 hst
  have hwho:∀ x,x∈es.toList.eraseIdx j↔(x∈es.toList∧x.key≠key):=by
   intro x
   rw [List.mem_eraseIdx_iff_getElem?]
   constructor
   ·rintro ⟨i,hne,hi⟩
    refine ⟨List.mem_of_getElem? hi,?_⟩
    rw [← h3]
    intro hq
    have hp:=hst2.2.2
    rw [List.pairwise_iff_getElem] at hp
    obtain ⟨hil,ei⟩:=List.getElem?_eq_some_iff.1 hi
    have e0':es.toList[j]=e0:=(List.getElem?_eq_some_iff.1 h2).2
    rcases Nat.lt_or_ge i j with hl|hl
    ·exact hp i j hil hjl hl (by rw [ei,e0'];exact hq)
    ·exact hp j i hjl hil (by omega) (by rw [ei,e0'];exact hq.symm)
   ·rintro ⟨hx,hne⟩
    obtain ⟨i,hi⟩:=List.getElem?_of_mem hx
    refine ⟨i,fun e1=>hne ?_,hi⟩
    rw [e1,h2] at hi
    cases hi
    exact h3
  refine ⟨setBlock w b (.map (es.eraseIdxIfInBounds j) clock),(fun x=>if x=key then none else f x),?_,⟨es.eraseIdxIfInBounds j,clock,heap_setBlock_same hb _,stamped_erase hst j,?_,?_,?_⟩,⟨by simp,fun x hx=>by simp [hx]⟩,kept_setBlock _ _ _,by simp [setBlock]⟩
  ·simp [Builtin.delete_,run_underlying ht,MapKept.run_getObj_map hb,B.check w _ hk,h1,MapKept.run_setObj_map _ hb,Result.andThen,setBlock]
  ·intro x hx;rw [hsub] at hx;exact hks x ((hwho x).1 hx).1
  ·intro x hx;rw [hsub] at hx;dsimp only;rw [if_neg ((hwho x).1 hx).2];exact hv x ((hwho x).1 hx).1
  ·intro x v hx
   dsimp only at hx
   by_cases hq:x=key
   ·rw [if_pos hq] at hx;cases hx
   ·rw [if_neg hq] at hx
    obtain ⟨y,hy,e⟩:=ha x v hx
    exact ⟨y,by rw [hsub];exact (hwho y).2 ⟨hy,by rw [e];exact hq⟩,e⟩
end Go.Proofs.YtbllcgibmgbnjaaGreatDoor.P
