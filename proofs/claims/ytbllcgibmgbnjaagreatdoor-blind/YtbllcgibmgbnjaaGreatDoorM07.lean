import Derived.Test.YtbllcgibmgbnjaaGreatDoorM06
import Derived.Lib.LazyBuf
import Derived.Test.YtbllcgibmgbnjaaGreatDoorM05
set_option maxHeartbeats 1000000
set_option maxRecDepth 100000
namespace Go.Proofs.YtbllcgibmgbnjaaGreatDoor
open Go.RowKit
theorem size_byte (w:World):(Go.sizeOf 5).run Tryz.prog w=.ok 1 w:=by
 obtain ⟨i0,hi,hz0,hz1,hz2⟩:=info_parts Tryz.infoByte
 simp [Go.sizeOf,typeInfo,hi,hz1]
theorem made_arr8 {w:World} {B g n c:Nat} (h:w.ownsRow B 5 1 (.slice (some ⟨g,0,none⟩) n c) n (madeCells (Value.int .u8 0).cells (n*1)).toList):arr8 w g (fun _=>0) n:=by
 intro j hj
 have hc:=World.ownsRow.cells h (g:=g) rfl j (.int .u8 0) (by simp [madeCells,hj,Value.cells,Nat.mod_one])
 have e:(⟨g,0,none⟩:Addr).add j=⟨g,j,none⟩:=by unfold Addr.add;split <;> simp_all
 rw [e] at hc
 refine ⟨hc,?_⟩
 obtain ⟨_,⟨h1,_⟩|⟨g',cap,cur,e1,e2,e3,_⟩⟩:=h
 ·cases h1
 ·cases e1
  simp [World.frozen?,e3]
theorem arr8.cells {b n:Nat}:∀ (l:List UInt8) (o:Nat) (f:Nat→Nat) (w:World),arr8 w b f n→o+l.length≤n →
  arr8 (w.setCells b o (l.map fun x=>Value.int .u8 (x.toNat:Int))) b (fun j=>if o≤j∧j < o+l.length then (l.getD (j - o) 0).toNat else f j) n
 | [],o,f,w,h,_=>h.congr fun j _=>by rw [if_neg (by simp)]
 | c :: l,o,f,w,h,hn=>by
  have h1:=h.set o c.toNat (by simp at hn;omega)
  have h2:=arr8.cells l (o+1) _ _ h1 (by simp at hn;omega)
  refine h2.congr fun j _=>?_
  by_cases e1:o+1≤j∧j < o+1+l.length
  ·rw [if_pos e1,if_pos (by simp;omega)]
   rw [show j - o=(j - (o+1))+1 from by omega]
   rfl
  ·rw [if_neg e1]
   by_cases e2:j=o
   ·subst e2;simp
   ·rw [if_neg e2,if_neg (by simp;omega)]
theorem wpList_copy_str {ops:Array Oper} {rest:List Oper} {o:Oper} {a:Act} {w:World} {Q:Exit→Act→World→Prop} (hg:o.guard=none) (d x:Operand) (dT sT:TypeId)
  (hop:o.op=Op.call { callee:=Callee.builtin Builtin.copy,args:=#[d,x],argTypes:=#[dT,sT] })
  (elem:TypeId) (hu:Tryz.prog.underlying dT=some (.slice elem)) (hz:∀ w,(Go.sizeOf elem).run Tryz.prog w=.ok 1 w)
  (b dLen dCap:Nat) (hd:a.eval d=.slice (some ⟨b,0,none⟩) dLen dCap) (t:List UInt8) (hx:a.eval x=.string ⟨t.toArray⟩) {f:Nat→Nat} (har:arr8 w b f dLen) (hn:t.length≤dLen)
  (hK:∀ w',arr8 w' b (fun j=>if j < t.length then (t.getD j 0).toNat else f j) dLen→Below b w w'→wpList Tryz.prog ops Q rest (a.put o.dst (goInt t.length)) w'):wpList Tryz.prog ops Q (o :: rest) a w:=by
 refine wpList_plain hg fun K hK'=>?_
 have hts:(⟨t.toArray⟩:ByteArray).size=t.length:=by simp [ByteArray.size]
 have hrun:=run_copy_string (P:=Tryz.prog) w dT sT o.type elem b 0 dLen dCap ⟨t.toArray⟩ hu hz (by omega) (fun j hj=>by rw [Nat.zero_add,(har j (by omega)).1];rfl) (fun j hj=>by rw [Nat.zero_add];exact (har j (by omega)).2)
 rw [hts] at hrun
 unfold Oper.wp
 simp [execOp,hop,resolve,invoke,builtin,hd,hx,hrun,Result.andThen]
 refine hK' _ _ (hK _ ((arr8.cells t 0 f w har (by omega)).congr fun j _=>by simp) (below_setCells _ _ _ _ (Nat.le_refl _)))
def lastL (rest:List UInt8) (L:Nat):List UInt8:=rest++[128]++List.replicate (zs rest.length) 0++bigL (8*L) 8
theorem last_len (rest:List UInt8) (L:Nat):(lastL rest L).length=rest.length+9+zs rest.length:=by simp [lastL,bigL_len];omega
def lastF (rest:List UInt8) (L S k:Nat) (j:Nat):Nat :=
 if S - k≤j then 8*L / 256 ^ (S - 1 - j) % 256 else if j=rest.length then 128 else if j < rest.length then (rest.getD j 0).toNat else 0
theorem lastF_succ (rest:List UInt8) (L S k:Nat) (hk:k+1≤S):∀ j,j < S→(if j=S - 1 - k then 8*L / 256 ^ k % 256 else lastF rest L S k j)=lastF rest L S (k+1) j:=by
 intro j hj
 unfold lastF
 by_cases e:j=S - 1 - k
 ·rw [if_pos e,if_pos (show S - (k+1)≤j by omega),show S - 1 - j=k from by omega]
 ·rw [if_neg e]
  by_cases e2:S - k≤j
  ·rw [if_pos e2,if_pos (show S - (k+1)≤j by omega)]
  ·rw [if_neg e2,if_neg (show ¬ S - (k+1)≤j by omega)]
theorem bigL_get (n k j:Nat) (hj:j < k):((bigL n k).getD j 0).toNat=n / 256 ^ (k - 1 - j) % 256:=by
 induction k generalizing j with
 | zero=>omega
 | succ k ih =>
  cases j with
  | zero=>simp [bigL]
  | succ j =>
   have:=ih j (by omega)
   simp only [bigL,List.getD_cons_succ]
   rw [this,show k+1 - 1 - (j+1)=k - 1 - j from by omega]
theorem conv_arr8 (l:List UInt8) (n c:Nat) (hl:l.length=n) (w:World) (b:Nat) (h:arr8 w b (fun j=>(l.getD j 0).toNat) n):(convert 70 9 (.slice (some ⟨b,0,none⟩) n c)).run Tryz.prog w=.ok (.string ⟨l.toArray⟩) w:=by
 subst hl
 refine run_convert_bytes_back w 70 9 5 ⟨b,0,none⟩ c l Tryz.underlying70 Tryz.underlying5 Tryz.underlying9 fun j hj=>?_
 have e:(⟨b,0,none⟩:Addr).add j=⟨b,j,none⟩:=by unfold Addr.add;split <;> simp_all
 have h1:=(h j hj).1
 simp only [List.getD_eq_getElem?_getD,List.getElem?_eq_getElem hj,Option.getD_some] at h1
 rw [e];exact h1
theorem getD_app (a b:List UInt8) (j:Nat):(a++b).getD j 0=if j < a.length then a.getD j 0 else b.getD (j - a.length) 0:=by
 simp only [List.getD_eq_getElem?_getD,List.getElem?_append]
 split <;> rfl
theorem last_get (rest:List UInt8) (L S:Nat) (hs:rest.length+9+zs rest.length=S):∀ j,j < S→lastF rest L S 8 j=((lastL rest L).getD j 0).toNat:=by
 intro j hj
 have hA:(rest++[128]++List.replicate (zs rest.length) (0:UInt8)).length=S - 8:=by simp;omega
 have hB:(rest++[(128:UInt8)]).length=rest.length+1:=by simp
 unfold lastF lastL
 rw [getD_app,hA]
 by_cases e1:S - 8≤j
 ·rw [if_pos e1,if_neg (show ¬ j < S - 8 by omega),bigL_get (8*L) 8 (j - (S - 8)) (by omega),show 8 - 1 - (j - (S - 8))=S - 1 - j from by omega]
 ·rw [if_neg e1,if_pos (show j < S - 8 by omega),getD_app,hB]
  by_cases e2:j=rest.length
  ·rw [if_pos e2,if_pos (show j < rest.length+1 by omega),getD_app,if_neg (show ¬ j < rest.length by omega),e2,Nat.sub_self];rfl
  ·rw [if_neg e2]
   by_cases e3:j < rest.length
   ·rw [if_pos e3,if_pos (show j < rest.length+1 by omega),getD_app,if_pos e3]
   ·rw [if_neg e3,if_neg (show ¬ j < rest.length+1 by omega),List.getD_eq_getElem?_getD,List.getElem?_replicate]
    split <;> rfl
theorem last_any (rest:List UInt8) (L:Nat) (hr:rest.length < 64) (hL:L < 1000000000000000) (w:World) :
  Calls Tryz.prog 153 #[.string ⟨rest.toArray⟩,.int .u64 L] w fun e w'=>e=.returned (.string ⟨(lastL rest L).toArray⟩)∧Below w.heap.size w w':=by
 by_cases hbig:55 < rest.length
 ·have hs:rest.length+9+zs rest.length=128:=by unfold zs;omega
  obtain ⟨i0,hi,hz0,hz1,hz2⟩:=info_parts Tryz.infoByte
  have HLG:=last_get rest L 128 hs
  have HLL:Hid ((lastL rest L).length=128):=by show _=_;rw [last_len];omega
  have hrs:rest.length < 128:=by omega
  have hr9:rest.length+9≤128:=by omega
  clear hs
  go_enter Tryz.func153,Tryz.ntmps153
  go_wp2_with (first|(at_make;refine wpList_make_full _ rfl _ _ 70 rfl w.heap.size 5 i0 (.int .u8 0) 1 Tryz.underlying70 hi hz0 hz1 .i64 .i64 _ _ 128 rfl rfl rfl rfl (by rw [hz2];omega) (by unfold maxLen;omega) (Nat.le_refl _) ?_;intro w1 hown1 hg1;have ha1:=made_arr8 hown1;have hb1:=(Below.refl w.heap.size w).grown hg1 (Nat.le_refl _) (by simp);clear hown1 hg1)|(refine wpList_copy_str rfl _ _ 70 9 rfl 5 Tryz.underlying70 size_byte w.heap.size 128 128 rfl rest rfl ha1 (by omega) ?_;intro w2 ha2 hb2;obtain ⟨c2,f2⟩:=ha2 rest.length hrs;have hB2:=hb1.trans hb2;clear hb1 hb2 ha1))
  clear hi hz0 hz1 hz2 i0
  go_loopw [25] (fun i wr=>∃ k:Nat,k≤8∧i=.int .i64 k∧arr8 wr w.heap.size (lastF rest L 128 k) 128∧Below w.heap.size w wr) (fun i _=>8 - (intOf i).toNat)
  case atStart =>
   refine ⟨0,by omega,rfl,?_,hB2.setCell (Nat.le_refl _) _⟩
   refine (ha2.set rest.length 128 hrs).congr fun j hj=>?_
   unfold lastF
   rw [if_neg (show ¬ 128 - 0≤j by omega)]
  case round =>
   clear ha2 c2 f2 hB2
   obtain ⟨k,hk,rfl,har,hbel⟩:=hrel
   by_cases hlt:k < 8
   ·obtain ⟨ck,fk⟩:=har (128 - 1 - k) (by omega)
    have HF:Hid (∀ j,j < 128→(if j=128 - 1 - k then 8*L / 256 ^ k % 256 else lastF rest L 128 k j)=lastF rest L 128 (k+1) j):=lastF_succ rest L 128 k (by omega)
    have t1:(128 - 1 - (k:Int)).toNat=128 - 1 - k:=by omega
    have e8:(2:Int) ^ (8*k)=((256 ^ k:Nat):Int):=by rw [Int.pow_mul];simp
    go_wp2
    go_roundw
    case rel =>
     have e:((L:Int)*8 / 256 ^ k % 256)=((8*L / 256 ^ k % 256:Nat):Int):=by simp;rw [Int.mul_comm]
     rw [e]
     exact ⟨k+1,by omega,by go_num,(har.set (128 - 1 - k) _ (by omega)).congr HF.out,hbel.setCell (Nat.le_refl _) _⟩
    case measure=>simp [intOf];omega
   ·have ha8:arr8 wr w.heap.size (fun j=>((lastL rest L).getD j 0).toNat) 128:=by
     rw [show k=8 from by omega] at har
     exact har.congr HLG
    have hcv:=conv_arr8 (lastL rest L) 128 128 HLL.out wr w.heap.size ha8
    clear ha8 har HLG
    generalize hqg:lastL rest L=q at *
    have HQG:Hid (lastL rest L=q):=hqg
    clear hqg
    have hdk:decide ((k:Int) < 8)=false:=by simp;omega
    go_wp2_with fail
    go_ret
    exact ⟨ret_str HQG.out.symm,hbel⟩
 ·have hs:rest.length+9+zs rest.length=64:=by unfold zs;omega
  obtain ⟨i0,hi,hz0,hz1,hz2⟩:=info_parts Tryz.infoByte
  have HLG:=last_get rest L 64 hs
  have HLL:Hid ((lastL rest L).length=64):=by show _=_;rw [last_len];omega
  have hrs:rest.length < 64:=by omega
  have hr9:rest.length+9≤64:=by omega
  clear hs
  go_enter Tryz.func153,Tryz.ntmps153
  go_wp2_with (first|(at_make;refine wpList_make_full _ rfl _ _ 70 rfl w.heap.size 5 i0 (.int .u8 0) 1 Tryz.underlying70 hi hz0 hz1 .i64 .i64 _ _ 64 rfl rfl rfl rfl (by rw [hz2];omega) (by unfold maxLen;omega) (Nat.le_refl _) ?_;intro w1 hown1 hg1;have ha1:=made_arr8 hown1;have hb1:=(Below.refl w.heap.size w).grown hg1 (Nat.le_refl _) (by simp);clear hown1 hg1)|(refine wpList_copy_str rfl _ _ 70 9 rfl 5 Tryz.underlying70 size_byte w.heap.size 64 64 rfl rest rfl ha1 (by omega) ?_;intro w2 ha2 hb2;obtain ⟨c2,f2⟩:=ha2 rest.length hrs;have hB2:=hb1.trans hb2;clear hb1 hb2 ha1))
  clear hi hz0 hz1 hz2 i0
  go_loopw [25] (fun i wr=>∃ k:Nat,k≤8∧i=.int .i64 k∧arr8 wr w.heap.size (lastF rest L 64 k) 64∧Below w.heap.size w wr) (fun i _=>8 - (intOf i).toNat)
  case atStart =>
   refine ⟨0,by omega,rfl,?_,hB2.setCell (Nat.le_refl _) _⟩
   refine (ha2.set rest.length 128 hrs).congr fun j hj=>?_
   unfold lastF
   rw [if_neg (show ¬ 64 - 0≤j by omega)]
  case round =>
   clear ha2 c2 f2 hB2
   obtain ⟨k,hk,rfl,har,hbel⟩:=hrel
   by_cases hlt:k < 8
   ·obtain ⟨ck,fk⟩:=har (64 - 1 - k) (by omega)
    have HF:Hid (∀ j,j < 64→(if j=64 - 1 - k then 8*L / 256 ^ k % 256 else lastF rest L 64 k j)=lastF rest L 64 (k+1) j):=lastF_succ rest L 64 k (by omega)
    have t1:(64 - 1 - (k:Int)).toNat=64 - 1 - k:=by omega
    have e8:(2:Int) ^ (8*k)=((256 ^ k:Nat):Int):=by rw [Int.pow_mul];simp
    go_wp2
    go_roundw
    case rel =>
     have e:((L:Int)*8 / 256 ^ k % 256)=((8*L / 256 ^ k % 256:Nat):Int):=by simp;rw [Int.mul_comm]
     rw [e]
     exact ⟨k+1,by omega,by go_num,(har.set (64 - 1 - k) _ (by omega)).congr HF.out,hbel.setCell (Nat.le_refl _) _⟩
    case measure=>simp [intOf];omega
   ·have ha8:arr8 wr w.heap.size (fun j=>((lastL rest L).getD j 0).toNat) 64:=by
     rw [show k=8 from by omega] at har
     exact har.congr HLG
    have hcv:=conv_arr8 (lastL rest L) 64 64 HLL.out wr w.heap.size ha8
    clear ha8 har HLG
    generalize hqg:lastL rest L=q at *
    have HQG:Hid (lastL rest L=q):=hqg
    clear hqg
    have hdk:decide ((k:Int) < 8)=false:=by simp;omega
    go_wp2_with fail
    go_ret
    exact ⟨ret_str HQG.out.symm,hbel⟩
end Go.Proofs.YtbllcgibmgbnjaaGreatDoor
namespace Go.Proofs.YtbllcgibmgbnjaaGreatDoor
def finM (st:List Nat) (l:List UInt8):List Nat:=mixN (l.take (64*(l.length / 64))) st (l.length / 64)
def finL (st:List Nat) (l:List UInt8) (before:Nat):List UInt8 :=
 outL (mixN (lastL (l.drop (64*(l.length / 64))) (before+l.length)) (finM st l) ((lastL (l.drop (64*(l.length / 64))) (before+l.length)).length / 64)) 8
theorem byteAt_left (a b:List UInt8) (i:Nat) (h:i < a.length):byteAt (a++b) i=byteAt a i:=by
 unfold byteAt;rw [getD_app,if_pos h]
theorem byteAt_right (a b:List UInt8) (i:Nat):byteAt (a++b) (a.length+i)=byteAt b i:=by
 unfold byteAt;rw [getD_app,if_neg (by omega),Nat.add_sub_cancel_left]
theorem wpart_left (a b:List UInt8) (p k:Nat) (h:p+k≤a.length):wpart (a++b) p k=wpart a p k:=by
 induction k with
 | zero=>rfl
 | succ k ih=>simp only [wpart];rw [ih (by omega),byteAt_left a b (p+k) (by omega)]
theorem wpart_right (a b:List UInt8) (p k:Nat):wpart (a++b) (a.length+p) k=wpart b p k:=by
 induction k with
 | zero=>rfl
 | succ k ih=>simp only [wpart];rw [ih,Nat.add_assoc,byteAt_right]
theorem firsts_left (a b:List UInt8) (p k:Nat) (h:p+4*k≤a.length):firsts (a++b) p k=firsts a p k:=by
 induction k with
 | zero=>rfl
 | succ k ih=>simp only [firsts];rw [ih (by omega),wpart_left a b _ 4 (by omega)]
theorem firsts_right (a b:List UInt8) (p k:Nat):firsts (a++b) (a.length+p) k=firsts b p k:=by
 induction k with
 | zero=>rfl
 | succ k ih=>simp only [firsts];rw [ih,Nat.add_assoc,wpart_right]
theorem mixN_left (a b:List UInt8) (h:List Nat) (n:Nat) (hn:64*n≤a.length):mixN (a++b) h n=mixN a h n:=by
 induction n with
 | zero=>rfl
 | succ n ih=>simp only [mixN];rw [ih (by omega),firsts_left a b _ 16 (by omega)]
theorem mixN_right (a b:List UInt8) (h:List Nat) (m n:Nat) (hm:a.length=64*m):mixN (a++b) h (m+n)=mixN b (mixN a h m) n:=by
 induction n with
 | zero=>exact mixN_left a b h m (by omega)
 | succ n ih=>rw [← Nat.add_assoc];simp only [mixN];rw [ih,Nat.mul_add,← hm,firsts_right]
theorem fin_digest (B l:List UInt8) (k:Nat) (hB:B.length=64*k):finL (mixN B hL k) l (64*k)=digest (B++l):=by
 unfold finL finM digest
 generalize hm:l.length / 64=m
 have htl:(l.take (64*m)).length=64*m:=by rw [List.length_take];omega
 have hdl:(l.drop (64*m)).length=l.length - 64*m:=List.length_drop
 have hz:zs (B++l).length=zs (l.drop (64*m)).length:=by
  rw [hdl,List.length_append,hB];unfold zs;omega
 have hp:pad (B++l)=(B++l.take (64*m))++lastL (l.drop (64*m)) (64*k+l.length):=by
  unfold pad lastL
  rw [hz,List.length_append,hB]
  simp only [← List.append_assoc]
  rw [List.append_assoc B (l.take (64*m)),List.take_append_drop]
 have hbl:(B++l.take (64*m)).length=64*(k+m):=by rw [List.length_append,hB,htl];omega
 rw [hp]
 generalize lastL (l.drop (64*m)) (64*k+l.length)=q
 have e:((B++l.take (64*m))++q).length / 64=(k+m)+q.length / 64:=by rw [List.length_append,hbl];omega
 rw [e,mixN_right _ _ _ (k+m) _ hbl,mixN_right _ _ _ k m hB]
theorem fin_hash (l:List UInt8):finL hL l 0=digest l:=fin_digest [] l 0 rfl
theorem outL_get (h:List Nat) (k j:Nat) (hj:j < 4*k):((outL h k).getD j 0).toNat=outAt h j:=by
 induction k with
 | zero=>omega
 | succ k ih =>
  simp only [outL]
  rw [getD_app,outL_len]
  by_cases e:j < 4*k
  ·rw [if_pos e,ih e]
  ·rw [if_neg e,bigL_get _ 4 _ (by omega)]
   unfold outAt
   rw [show j / 4=k from by omega,show j % 4=j - 4*k from by omega]
   have:j - 4*k=0∨j - 4*k=1∨j - 4*k=2∨j - 4*k=3:=by omega
   rcases this with e|e|e|e <;> rw [e]
theorem out_bytes (h:List Nat):((List.range 32).map (outAt h)).map (fun x:Nat=>Value.int .u8 (x:Int))=(outL h 8).map u8v:=by
 apply List.ext_getElem?
 intro j
 by_cases hj:j < 32
 ·have:=outL_get h 8 j (by omega)
  have hl:j < (outL h 8).length:=by rw [outL_len];omega
  simp only [List.getD_eq_getElem?_getD,List.getElem?_eq_getElem hl,Option.getD_some] at this
  simp [hj,List.getElem?_eq_getElem hl,u8v,← this]
 ·have hl:¬ j < (outL h 8).length:=by rw [outL_len];omega
  rw [List.getElem?_eq_none (by simp;omega),List.getElem?_eq_none (by simp [outL_len];omega)]
theorem cut_to (l:List UInt8) (p:Nat):(⟨l.toArray⟩:ByteArray).extract 0 p=⟨(l.take p).toArray⟩:=by
 apply ByteArray.ext;simp
theorem cut_from (l:List UInt8) (p:Nat):(⟨l.toArray⟩:ByteArray).extract p l.length=⟨(l.drop p).toArray⟩:=by
 apply ByteArray.ext;simp [List.take_of_length_le]
open Go.RowKit
theorem mixAll8 (x0 x1 x2 x3 x4 x5 x6 x7 y0 y1 y2 y3 y4 y5 y6 y7:Nat) (hst:small [x0,x1,x2,x3,x4,x5,x6,x7]) (s:ByteArray) (l:List UInt8) (hsl:s=⟨l.toArray⟩) (hl:l.length % 64=0) (hl2:l.length≤500000000000000) (hY:mixN l [x0,x1,x2,x3,x4,x5,x6,x7] (l.length / 64)=[y0,y1,y2,y3,y4,y5,y6,y7])
  (w:World) (hK:layK w) (hgl:4 < w.heap.size) :
  Calls Tryz.prog 152 #[.agg #[.int .u32 x0,.int .u32 x1,.int .u32 x2,.int .u32 x3,.int .u32 x4,.int .u32 x5,.int .u32 x6,.int .u32 x7],.string s] w fun e' w'=>e'=.returned (.agg #[.int .u32 y0,.int .u32 y1,.int .u32 y2,.int .u32 y3,.int .u32 y4,.int .u32 y5,.int .u32 y6,.int .u32 y7])∧Below w.heap.size w w':=by
 subst hsl
 refine (mixAll_core x0 x1 x2 x3 x4 x5 x6 x7 hst l hl hl2 w hK hgl).mono ?_
 rintro e' w' ⟨rfl,hb⟩
 refine ⟨?_,hb⟩
 rw [hY];rfl
theorem fin_start (x0 x1 x2 x3 x4 x5 x6 x7:Nat) (w w0:World)
  (hw0:w0=(w.alloc (.cells #[.int .u32 (x0:Nat),.int .u32 (x1:Nat),.int .u32 (x2:Nat),.int .u32 (x3:Nat),.int .u32 (x4:Nat),.int .u32 (x5:Nat),.int .u32 (x6:Nat),.int .u32 (x7:Nat)] 196)).alloc (.cells z32 141)) :
  arr32 w0 w.heap.size (fOf [x0,x1,x2,x3,x4,x5,x6,x7]) 8∧w0.there (w.heap.size+1) 0 32∧Below w.heap.size w w0∧w0.heap.size=w.heap.size+2:=by
 subst hw0
 rw [z32_is]
 refine ⟨?_,?_,?_,by simp⟩
 ·intro j hj
  refine ⟨?_,by simp [go_sem]⟩
  obtain ⟨g0,g1,g2,g3,g4,g5,g6,g7⟩:=l8_gets x0 x1 x2 x3 x4 x5 x6 x7
  unfold fOf
  rw [World.cell?_alloc_past (hn:=by simp),World.cell?_alloc_at (hn:=rfl)]
  have:j=0∨j=1∨j=2∨j=3∨j=4∨j=5∨j=6∨j=7:=by omega
  rcases this with rfl|rfl|rfl|rfl|rfl|rfl|rfl|rfl
  ·rw [g0];rfl
  ·rw [g1];rfl
  ·rw [g2];rfl
  ·rw [g3];rfl
  ·rw [g4];rfl
  ·rw [g5];rfl
  ·rw [g6];rfl
  ·rw [g7];rfl
 ·intro j hj
  have h1:=zeros8_cell (w.alloc (.cells #[.int .u32 (x0:Nat),.int .u32 (x1:Nat),.int .u32 (x2:Nat),.int .u32 (x3:Nat),.int .u32 (x4:Nat),.int .u32 (x5:Nat),.int .u32 (x6:Nat),.int .u32 (x7:Nat)] 196)) 141 32 j hj
  have h2:=zeros_free (w.alloc (.cells #[.int .u32 (x0:Nat),.int .u32 (x1:Nat),.int .u32 (x2:Nat),.int .u32 (x3:Nat),.int .u32 (x4:Nat),.int .u32 (x5:Nat),.int .u32 (x6:Nat),.int .u32 (x7:Nat)] 196)) 141 (Array.replicate 32 (.int .u8 0)) j
  have e:(w.alloc (.cells #[.int .u32 (x0:Nat),.int .u32 (x1:Nat),.int .u32 (x2:Nat),.int .u32 (x3:Nat),.int .u32 (x4:Nat),.int .u32 (x5:Nat),.int .u32 (x6:Nat),.int .u32 (x7:Nat)] 196)).heap.size=w.heap.size+1:=by simp
  rw [e] at h1 h2
  rw [Nat.zero_add,h1,h2]
  exact ⟨rfl,rfl⟩
 ·exact ((Below.refl _ _).alloc (Nat.le_refl _) _).alloc (by simp) _
abbrev w8 (a b c d e f g h:Nat):List Value:=[.int .u32 (a:Nat),.int .u32 (b:Nat),.int .u32 (c:Nat),.int .u32 (d:Nat),.int .u32 (e:Nat),.int .u32 (f:Nat),.int .u32 (g:Nat),.int .u32 (h:Nat)]
structure FinB (w:World) (B:Nat) (x0 x1 x2 x3 x4 x5 x6 x7:Nat) (wr:World):Prop where
 gl:4 < B
 k:layK w
 ar:arr32 wr B (fOf [x0,x1,x2,x3,x4,x5,x6,x7]) 8
 th:wr.there (B+1) 0 32
 bel:Below B w wr
 sz:B+2≤wr.heap.size
theorem FinB.lk {w wr:World} {B x0 x1 x2 x3 x4 x5 x6 x7:Nat} (h:FinB w B x0 x1 x2 x3 x4 x5 x6 x7 wr):layK wr:=fun i hi=>(h.bel.cell (p:=⟨4,i,none⟩) h.gl).trans (h.k i hi)
theorem FinB.drew {w wr:World} {B x0 x1 x2 x3 x4 x5 x6 x7:Nat} (h:FinB w B x0 x1 x2 x3 x4 x5 x6 x7 wr):FinB w B x0 x1 x2 x3 x4 x5 x6 x7 wr.drew:=⟨h.gl,h.k,h.ar,h.th,h.bel.drew,h.sz⟩
theorem FinB.call {w wr w':World} {B x0 x1 x2 x3 x4 x5 x6 x7:Nat} (h:FinB w B x0 x1 x2 x3 x4 x5 x6 x7 wr) (hb:Below wr.heap.size wr w'):FinB w B x0 x1 x2 x3 x4 x5 x6 x7 w':=by
 have hs:=h.sz
 have hz:=hb.size
 refine ⟨h.gl,h.k,fun j hj=>?_,there_below h.th hb (by omega),h.bel.trans (hb.mono (by omega)),by omega⟩
 exact ⟨(hb.cell (p:=⟨B,j,none⟩) (by simp;omega)).trans (h.ar j hj).1,(hb.frozen (p:=⟨B,j,none⟩) (by simp;omega)).trans (h.ar j hj).2⟩
theorem FinB.facts {w wr:World} {B x0 x1 x2 x3 x4 x5 x6 x7:Nat} (h:FinB w B x0 x1 x2 x3 x4 x5 x6 x7 wr) :
  wr.cell? ⟨B,0,none⟩=some (.int .u32 (x0:Nat))∧wr.cell? ⟨B,1,none⟩=some (.int .u32 (x1:Nat))∧wr.cell? ⟨B,2,none⟩=some (.int .u32 (x2:Nat))∧wr.cell? ⟨B,3,none⟩=some (.int .u32 (x3:Nat))∧wr.cell? ⟨B,4,none⟩=some (.int .u32 (x4:Nat))∧wr.cell? ⟨B,5,none⟩=some (.int .u32 (x5:Nat))∧wr.cell? ⟨B,6,none⟩=some (.int .u32 (x6:Nat))∧wr.cell? ⟨B,7,none⟩=some (.int .u32 (x7:Nat)) ∧
  wr.frozen? ⟨B,0,none⟩=false∧wr.frozen? ⟨B,1,none⟩=false∧wr.frozen? ⟨B,2,none⟩=false∧wr.frozen? ⟨B,3,none⟩=false∧wr.frozen? ⟨B,4,none⟩=false∧wr.frozen? ⟨B,5,none⟩=false∧wr.frozen? ⟨B,6,none⟩=false∧wr.frozen? ⟨B,7,none⟩=false:=by
 have hs:=h.sz
 exact box_facts h.ar (Below.refl wr.heap.size wr) (by omega)
theorem FinB.store {w wr:World} {B x0 x1 x2 x3 x4 x5 x6 x7:Nat} (h:FinB w B x0 x1 x2 x3 x4 x5 x6 x7 wr) (y0 y1 y2 y3 y4 y5 y6 y7:Nat):FinB w B y0 y1 y2 y3 y4 y5 y6 y7 (wr.setCells B 0 (w8 y0 y1 y2 y3 y4 y5 y6 y7)):=by
 have hs:=h.sz
 have th':wr.there B 0 8:=there_keep h.ar (Below.refl wr.heap.size wr) (by omega)
 have:=(below_setCells (B:=0) wr B (w8 y0 y1 y2 y3 y4 y5 y6 y7) 0 (Nat.zero_le _)).size
 exact ⟨h.gl,h.k,box_store th',World.there_setCells h.th B 0 _,h.bel.trans (below_setCells wr B (w8 y0 y1 y2 y3 y4 y5 y6 y7) 0 (Nat.le_refl _)),by omega⟩
theorem fin_arg (l r:List UInt8) (m:Nat) (h:(⟨l.toArray⟩:ByteArray).extract (64*m) l.length=⟨r.toArray⟩) (hr:r.length < 64) (L:Nat) (hL:L < 1000000000000000) (w:World) :
  Calls Tryz.prog 153 #[.string ((⟨l.toArray⟩:ByteArray).extract (64*m) l.length),.int .u64 L] w fun e w'=>e=.returned (.string ⟨(lastL r L).toArray⟩)∧Below w.heap.size w w':=by
 rw [h];exact last_any r L hr hL w
theorem finish_core (x0 x1 x2 x3 x4 x5 x6 x7:Nat) (hst:small [x0,x1,x2,x3,x4,x5,x6,x7]) (l:List UInt8) (hl:l.length≤400000000000000) (bf:Nat) (hbf:bf≤64) (w:World) (hK:layK w) (hgl:4 < w.heap.size) :
  Calls Tryz.prog 103 #[.agg #[.int .u32 x0,.int .u32 x1,.int .u32 x2,.int .u32 x3,.int .u32 x4,.int .u32 x5,.int .u32 x6,.int .u32 x7],.string ⟨l.toArray⟩,.int .i64 bf] w fun e' w'=>e'=.returned (.agg ((finL [x0,x1,x2,x3,x4,x5,x6,x7] l bf).map u8v).toArray)∧Below w.heap.size w w':=by
 have hq:(l.length:Int) - (l.length:Int) % 64=64*((l.length / 64:Nat):Int):=by omega
 have HFIN:Hid (finL [x0,x1,x2,x3,x4,x5,x6,x7] l bf=outL (mixN (lastL (l.drop (64*(l.length / 64))) (bf+l.length)) (finM [x0,x1,x2,x3,x4,x5,x6,x7] l) ((lastL (l.drop (64*(l.length / 64))) (bf+l.length)).length / 64)) 8):=rfl
 have hml:(finM [x0,x1,x2,x3,x4,x5,x6,x7] l).length=8:=mixN_len rfl _ _
 have hms:small (finM [x0,x1,x2,x3,x4,x5,x6,x7] l):=mixN_small hst _ _
 have HM:Hid (finM [x0,x1,x2,x3,x4,x5,x6,x7] l=mixN (l.take (64*(l.length / 64))) [x0,x1,x2,x3,x4,x5,x6,x7] (l.length / 64)):=rfl
 generalize finM [x0,x1,x2,x3,x4,x5,x6,x7] l=M at *
 obtain ⟨m,hm⟩:∃ m,m=l.length / 64:=⟨_,rfl⟩
 rw [← hm] at hq HFIN HM
 have hm1:64*m≤l.length:=by omega
 have hm2:l.length < 64*m+64:=by omega
 have htl:(l.take (64*m)).length=64*m:=by rw [List.length_take];omega
 have hdl:(l.drop (64*m)).length < 64:=by rw [List.length_drop];omega
 obtain ⟨y0,y1,y2,y3,y4,y5,y6,y7,rfl⟩:=eight hml
 have c1:=mixAll8 x0 x1 x2 x3 x4 x5 x6 x7 y0 y1 y2 y3 y4 y5 y6 y7 hst _ (l.take (64*m)) (cut_to l (64*m)) (by omega) (by omega) (by rw [htl,Nat.mul_div_cancel_left _ (by omega)];exact HM.out.symm)
 have C1:Hid (_):=c1
 clear c1 hml HM hm
 have HC0:=cut_from l (64*m)
 have HC:Hid ((⟨l.toArray⟩:ByteArray).extract (64*m) l.length=⟨(l.drop (64*m)).toArray⟩):=HC0
 clear HC0
 generalize l.drop (64*m)=r at *
 have hlal:=last_len r (bf+l.length)
 have hzm:=zs_mod r.length
 have hll:=mixN_len (h:=[y0,y1,y2,y3,y4,y5,y6,y7]) rfl (lastL r (bf+l.length)) ((lastL r (bf+l.length)).length / 64)
 have hls:=mixN_small hms (lastL r (bf+l.length)) ((lastL r (bf+l.length)).length / 64)
 have hz64:=zs_lt r.length
 have hl3:(lastL r (bf+l.length)).length % 64=0:=by omega
 have hl4:(lastL r (bf+l.length)).length≤500000000000000:=by omega
 obtain ⟨v0,v1,v2,v3,v4,v5,v6,v7,hv⟩:=eight hll
 rw [hv] at hls HFIN
 have CL0:=fin_arg l r m HC.out hdl (bf+l.length) (by omega)
 have CM0:=mixAll8 y0 y1 y2 y3 y4 y5 y6 y7 v0 v1 v2 v3 v4 v5 v6 v7 hms _ (lastL r (bf+l.length)) rfl hl3 hl4 hv
 clear hll hlal hzm hz64 hl3 hl4 hv HC
 generalize lastL r (bf+l.length)=q at *
 have CL:Hid (_):=CL0
 have CM:Hid (_):=CM0
 clear CL0 CM0
 have n1:(0:Int)≤64*(m:Int)∧64*(m:Int)≤(l.length:Int):=by omega
 have t1:(64*(m:Int)).toNat=64*m:=by omega
 have k1:IntKind.u64.wrap (bf:Int)=bf:=by rw [IntKind.wrap_u64];omega
 have k2:IntKind.u64.wrap (l.length:Int)=l.length:=by rw [IntKind.wrap_u64];omega
 have k3:IntKind.u64.wrap ((bf:Int)+l.length)=((bf+l.length:Nat):Int):=by rw [IntKind.wrap_u64];omega
 obtain ⟨w0,hw0⟩:∃ w0,w0=(w.alloc (.cells #[.int .u32 (x0:Nat),.int .u32 (x1:Nat),.int .u32 (x2:Nat),.int .u32 (x3:Nat),.int .u32 (x4:Nat),.int .u32 (x5:Nat),.int .u32 (x6:Nat),.int .u32 (x7:Nat)] 196)).alloc (.cells z32 141):=⟨_,rfl⟩
 have F0:FinB w w.heap.size x0 x1 x2 x3 x4 x5 x6 x7 w0:=by
  obtain ⟨har,hth,hbel,hsz⟩:=fin_start x0 x1 x2 x3 x4 x5 x6 x7 w w0 hw0
  exact ⟨hgl,hK,har,hth,hbel,by omega⟩
 obtain ⟨q0,q1,q2,q3,q4,q5,q6,q7,e0,e1,e2,e3,e4,e5,e6,e7⟩:=F0.facts
 clear hst hK
 go_enter Tryz.func103,Tryz.ntmps103
 go_wp2
 unfold z32 at hw0
 rw [← hw0]
 clear hw0
 go_region_with ((go_at_call 152;refine (C1.out _ F0.drew.lk (Nat.lt_trans F0.gl (Nat.lt_of_lt_of_le (Nat.lt_succ_self _) (Nat.le_trans (Nat.le_succ _) F0.sz)))).mono ?_;rintro e' w' ⟨rfl,hb'⟩;have F1:=F0.drew.call hb';obtain ⟨p0,p1,p2,p3,p4,p5,p6,p7,s0,s1,s2,s3,s4,s5,s6,s7⟩:=F1.facts))
 all_goals
  have F2:=F1.store y0 y1 y2 y3 y4 y5 y6 y7
  show Exit.then _ _ _ _ (w'.setCells w.heap.size 0 (w8 y0 y1 y2 y3 y4 y5 y6 y7))
  generalize w'.setCells w.heap.size 0 (w8 y0 y1 y2 y3 y4 y5 y6 y7)=w2 at *
  clear hb' F0 F1 q0 q1 q2 q3 q4 q5 q6 q7 e0 e1 e2 e3 e4 e5 e6 e7 p0 p1 p2 p3 p4 p5 p6 p7 s0 s1 s2 s3 s4 s5 s6 s7 C1
  obtain ⟨q0,q1,q2,q3,q4,q5,q6,q7,e0,e1,e2,e3,e4,e5,e6,e7⟩:=F2.facts
  go_wp2
  have GL:Hid (4 < w2.heap.size):=Nat.lt_trans F2.gl (Nat.lt_of_lt_of_le (Nat.lt_succ_self _) (Nat.le_trans (Nat.le_succ _) F2.sz))
  have HF2:Hid (FinB w w.heap.size y0 y1 y2 y3 y4 y5 y6 y7 w2):=F2
  clear F2
  go_region_with (first
   | (go_at_call 153;refine (CL.out _).mono ?_;rintro e' w3 ⟨rfl,hb3⟩;have F3:=HF2.out.drew.call hb3;obtain ⟨p0,p1,p2,p3,p4,p5,p6,p7,s0,s1,s2,s3,s4,s5,s6,s7⟩:=F3.facts;have G3:Hid (4 < w3.heap.size):=Nat.lt_of_lt_of_le GL.out hb3.size;have HF3:Hid (FinB w w.heap.size y0 y1 y2 y3 y4 y5 y6 y7 w3):=F3;clear hb3 F3)
   | (go_at_call 152;refine (CM.out _ HF3.out.lk G3.out).mono ?_;rintro e' w4 ⟨rfl,hb4⟩;have HF4:Hid (FinB w w.heap.size y0 y1 y2 y3 y4 y5 y6 y7 w4):=HF3.out.call hb4;obtain ⟨i0,i1,i2,i3,i4,i5,i6,i7,j0,j1,j2,j3,j4,j5,j6,j7⟩:=HF4.out.facts;clear hb4))
  all_goals
   have F5:=HF4.out.store v0 v1 v2 v3 v4 v5 v6 v7
   show Exit.then _ _ _ _ (w4.setCells w.heap.size 0 (w8 v0 v1 v2 v3 v4 v5 v6 v7))
   generalize w4.setCells w.heap.size 0 (w8 v0 v1 v2 v3 v4 v5 v6 v7)=w5 at *
   clear HF2 HF3 HF4 CM CL GL G3 q0 q1 q2 q3 q4 q5 q6 q7 e0 e1 e2 e3 e4 e5 e6 e7 p0 p1 p2 p3 p4 p5 p6 p7 s0 s1 s2 s3 s4 s5 s6 s7 i0 i1 i2 i3 i4 i5 i6 i7 j0 j1 j2 j3 j4 j5 j6 j7
   obtain ⟨q0,q1,q2,q3,q4,q5,q6,q7,e0,e1,e2,e3,e4,e5,e6,e7⟩:=F5.facts
   have CS:=stateBytes_core v0 v1 v2 v3 v4 v5 v6 v7 hls
   rw [out_bytes,← HFIN.out] at CS
   have HLL:Hid (((finL [x0,x1,x2,x3,x4,x5,x6,x7] l bf).map u8v).length=32):=by show _=_;rw [HFIN.out,List.length_map,outL_len]
   have HLA:Hid (((finL [x0,x1,x2,x3,x4,x5,x6,x7] l bf).map u8v).toArray.size=32):=by show _=_;rw [List.size_toArray];exact HLL.out
   have HON:Hid (∀ v∈(finL [x0,x1,x2,x3,x4,x5,x6,x7] l bf).map u8v,v.oneCell'=true):=by intro v hv;rw [List.mem_map] at hv;obtain ⟨x,_,rfl⟩:=hv;rfl
   generalize hg:(finL [x0,x1,x2,x3,x4,x5,x6,x7] l bf).map u8v=L at *
   have HG:Hid ((finL [x0,x1,x2,x3,x4,x5,x6,x7] l bf).map u8v=L):=hg
   clear hg HFIN
   have HCS:Hid (_):=CS
   clear CS
   have HF5:Hid (FinB w w.heap.size v0 v1 v2 v3 v4 v5 v6 v7 w5):=F5
   clear F5
   go_wp2_with (first
    | (go_at_call 154;refine (HCS.out _).mono ?_;rintro e' w6 ⟨rfl,hb6⟩;have HF6:Hid (FinB w w.heap.size v0 v1 v2 v3 v4 v5 v6 v7 w6):=HF5.out.call hb6;clear hb6)
    | (refine wpList_store_mid rfl 141 _ _ rfl (w.heap.size+1) 0 L.toArray rfl rfl (by rw [HLA.out];exact HF6.out.th) (by rw [HLA.out];kernel_rfl) (all_oneCell_toArray HON.out) ?_))
   have hr2:=World.rangeAt_setCells_same w6 (w.heap.size+1) 0 L (by rw [HLL.out];exact HF6.out.th)
   refine bodyPost_ret (v:=.agg L.toArray) (results_cell rfl _ _ _ (w.heap.size+1) 0 rfl _ (run_loadVar_mid _ _ _ _ _ _ hr2 Tryz.underlying141 rfl (by rw [HLL.out];kernel_rfl))) rfl ⟨by rw [HG.out],?_⟩
   exact HF6.out.bel.trans (below_setCells _ _ _ _ (by omega))
structure Laid (w:World):Prop where
 k:layK w
 s:∀ j,j < 8→w.cell? ⟨0,j,none⟩=some (.int .u32 (hL.getD j 0:Nat))
 gk:4 < w.heap.size
 gs:0 < w.heap.size
theorem Laid.below {w w':World} {n:Nat} (h:Laid w) (hb:Below n w w') (hk:4 < n) (hs:0 < n):Laid w' :=
 ⟨fun i hi=>(hb.cell (p:=⟨4,i,none⟩) hk).trans (h.k i hi),fun i hi=>(hb.cell (p:=⟨0,i,none⟩) hs).trans (h.s i hi),Nat.lt_of_lt_of_le h.gk hb.size,Nat.lt_of_lt_of_le h.gs hb.size⟩
theorem Laid.call {w w':World} (h:Laid w) (hb:Below w.heap.size w w'):Laid w':=h.below hb h.gk h.gs
theorem Laid.drew {w:World} (h:Laid w):Laid w.drew:=⟨h.k,h.s,h.gk,h.gs⟩
theorem Laid.alloc {w:World} (h:Laid w) (o:Obj):Laid (w.alloc o):=h.call ((Below.refl _ _).alloc (Nat.le_refl _) _)
theorem Laid.facts {w:World} (h:Laid w) :
  w.cell? ⟨0,0,none⟩=some (.int .u32 1779033703)∧w.cell? ⟨0,1,none⟩=some (.int .u32 3144134277)∧w.cell? ⟨0,2,none⟩=some (.int .u32 1013904242)∧w.cell? ⟨0,3,none⟩=some (.int .u32 2773480762)∧w.cell? ⟨0,4,none⟩=some (.int .u32 1359893119)∧w.cell? ⟨0,5,none⟩=some (.int .u32 2600822924)∧w.cell? ⟨0,6,none⟩=some (.int .u32 528734635)∧w.cell? ⟨0,7,none⟩=some (.int .u32 1541459225) :=
 ⟨h.s 0 (by omega),h.s 1 (by omega),h.s 2 (by omega),h.s 3 (by omega),h.s 4 (by omega),h.s 5 (by omega),h.s 6 (by omega),h.s 7 (by omega)⟩
theorem fin_any (l:List UInt8) (hl:l.length≤400000000000000) (w:World) (h:Laid w) :
  Calls Tryz.prog 103 #[.agg #[.int .u32 1779033703,.int .u32 3144134277,.int .u32 1013904242,.int .u32 2773480762,.int .u32 1359893119,.int .u32 2600822924,.int .u32 528734635,.int .u32 1541459225],.string ⟨l.toArray⟩,.int .i64 0] w fun e' w'=>e'=.returned (.agg ((digest l).map u8v).toArray)∧Below w.heap.size w w':=by
 rw [← fin_hash l]
 exact finish_core 1779033703 3144134277 1013904242 2773480762 1359893119 2600822924 528734635 1541459225 hL_small l hl 0 (by omega) w h.k h.gk
theorem mhash_any (l:List UInt8) (hl:l.length≤400000000000000) (w:World) (h:Laid w) :
  Calls Tryz.prog 72 #[.string ⟨l.toArray⟩] w fun e' w'=>e'=.returned (.agg ((digest l).map u8v).toArray)∧Below w.heap.size w w':=by
 have CF:Hid (_):=fin_any l hl
 have HLL:Hid (((digest l).map u8v).length=32):=by show _=_;rw [List.length_map,digest_len]
 have HLA:Hid (((digest l).map u8v).toArray.size=32):=by show _=_;rw [List.size_toArray];exact HLL.out
 have HON:Hid (∀ v∈(digest l).map u8v,v.oneCell'=true):=by intro v hv;rw [List.mem_map] at hv;obtain ⟨x,_,rfl⟩:=hv;rfl
 generalize (digest l).map u8v=L at *
 obtain ⟨w1,hw1⟩:∃ w1,w1=w.alloc (.cells z32 141):=⟨_,rfl⟩
 have hth:w1.there w.heap.size 0 32:=by
  intro j hj
  have h1:=zeros8_cell w 141 32 j hj
  have h2:=zeros_free w 141 (Array.replicate 32 (.int .u8 0)) j
  rw [hw1,z32_is,Nat.zero_add,h1,h2]
  exact ⟨rfl,rfl⟩
 have HB0:Hid (Below w.heap.size w w1):=by rw [hw1];exact (Below.refl _ _).alloc (Nat.le_refl _) _
 have hz0:w1.heap.size=w.heap.size+1:=by rw [hw1];simp
 have HH0:Hid (Laid w1):=by rw [hw1];exact h.alloc _
 obtain ⟨q0,q1,q2,q3,q4,q5,q6,q7⟩:=h.facts
 have hgs:=h.gs
 clear h
 have HTH:Hid (w1.there w.heap.size 0 32):=hth
 clear hth
 have HZ0:Hid (w1.heap.size=w.heap.size+1):=hz0
 clear hz0
 unfold z32 at hw1
 have HW1:Hid (_):=hw1.symm
 clear hw1
 go_enter Tryz.func72,Tryz.ntmps72
 go_wp2_with (first
  | (go_at_call 103;rw [HW1.out];refine (CF.out _ HH0.out).mono ?_;rintro e' w2 ⟨rfl,hb2⟩;have HT2:Hid (w2.there w.heap.size 0 32):=there_below HTH.out hb2 (by rw [HZ0.out];omega);have HB2:Hid (Below w.heap.size w w2):=HB0.out.trans (hb2.mono (by rw [HZ0.out];omega));clear hb2)
  | (refine wpList_store_mid rfl 141 _ _ rfl w.heap.size 0 L.toArray rfl rfl (by rw [HLA.out];exact HT2.out) (by rw [HLA.out];kernel_rfl) (all_oneCell_toArray HON.out) ?_))
 have hr2:=World.rangeAt_setCells_same w2 w.heap.size 0 L (by rw [HLL.out];exact HT2.out)
 refine bodyPost_ret (v:=.agg L.toArray) (results_cell rfl _ _ _ w.heap.size 0 rfl _ (run_loadVar_mid _ _ _ _ _ _ hr2 Tryz.underlying141 rfl (by rw [HLL.out];kernel_rfl))) rfl ⟨rfl,?_⟩
 exact HB2.out.trans (below_setCells _ _ _ _ (by omega))
theorem mix1 (B:List UInt8) (hB:B.length=64) (y0 y1 y2 y3 y4 y5 y6 y7:Nat) (hy:mixN B hL 1=[y0,y1,y2,y3,y4,y5,y6,y7]) (w:World) (h:Laid w) :
  Calls Tryz.prog 156 #[.agg #[.int .u32 1779033703,.int .u32 3144134277,.int .u32 1013904242,.int .u32 2773480762,.int .u32 1359893119,.int .u32 2600822924,.int .u32 528734635,.int .u32 1541459225],.string ⟨B.toArray⟩] w fun e' w'=>e'=.returned (.agg #[.int .u32 y0,.int .u32 y1,.int .u32 y2,.int .u32 y3,.int .u32 y4,.int .u32 y5,.int .u32 y6,.int .u32 y7])∧Below w.heap.size w w' :=
 mix8 1779033703 3144134277 1013904242 2773480762 1359893119 2600822924 528734635 1541459225 y0 y1 y2 y3 y4 y5 y6 y7 hL_small ⟨B.toArray⟩ (by simp [ByteArray.size,hB]) w h.k h.gk hy
theorem fin1 (B l:List UInt8) (hB:B.length=64) (hl:l.length≤400000000000000) (y0 y1 y2 y3 y4 y5 y6 y7:Nat) (hy:mixN B hL 1=[y0,y1,y2,y3,y4,y5,y6,y7]) (w:World) (h:Laid w) :
  Calls Tryz.prog 103 #[.agg #[.int .u32 y0,.int .u32 y1,.int .u32 y2,.int .u32 y3,.int .u32 y4,.int .u32 y5,.int .u32 y6,.int .u32 y7],.string ⟨l.toArray⟩,.int .i64 64] w fun e' w'=>e'=.returned (.agg ((digest (B++l)).map u8v).toArray)∧Below w.heap.size w w':=by
 have e:=fin_digest B l 1 (by omega)
 have hs:=mixN_small hL_small B 1
 rw [hy] at e hs
 rw [← e]
 exact finish_core y0 y1 y2 y3 y4 y5 y6 y7 hs l hl 64 (by omega) w h.k h.gk
theorem behind_any (B l:List UInt8) (hB:B.length=64) (hl:l.length≤400000000000000) (w:World) (h:Laid w) :
  Calls Tryz.prog 106 #[.string ⟨B.toArray⟩,.string ⟨l.toArray⟩] w fun e' w'=>e'=.returned (.agg ((digest (B++l)).map u8v).toArray)∧Below w.heap.size w w':=by
 obtain ⟨y0,y1,y2,y3,y4,y5,y6,y7,hy⟩:=eight (mixN_len (h:=hL) rfl B 1)
 have CM:Hid (_):=mix1 B hB y0 y1 y2 y3 y4 y5 y6 y7 hy
 have CF:Hid (_):=fin1 B l hB hl y0 y1 y2 y3 y4 y5 y6 y7 hy
 clear hy
 have HLL:Hid (((digest (B++l)).map u8v).length=32):=by show _=_;rw [List.length_map,digest_len]
 have HLA:Hid (((digest (B++l)).map u8v).toArray.size=32):=by show _=_;rw [List.size_toArray];exact HLL.out
 have HON:Hid (∀ v∈(digest (B++l)).map u8v,v.oneCell'=true):=by intro v hv;rw [List.mem_map] at hv;obtain ⟨x,_,rfl⟩:=hv;rfl
 generalize (digest (B++l)).map u8v=L at *
 obtain ⟨w1,hw1⟩:∃ w1,w1=w.alloc (.cells z32 141):=⟨_,rfl⟩
 have HTH:Hid (w1.there w.heap.size 0 32):=by
  intro j hj
  have h1:=zeros8_cell w 141 32 j hj
  have h2:=zeros_free w 141 (Array.replicate 32 (.int .u8 0)) j
  rw [hw1,z32_is,Nat.zero_add,h1,h2]
  exact ⟨rfl,rfl⟩
 have HB0:Hid (Below w.heap.size w w1):=by rw [hw1];exact (Below.refl _ _).alloc (Nat.le_refl _) _
 have HZ0:Hid (w1.heap.size=w.heap.size+1):=by rw [hw1];show _=_;simp
 have HH0:Hid (Laid w1):=by rw [hw1];exact h.alloc _
 obtain ⟨q0,q1,q2,q3,q4,q5,q6,q7⟩:=h.facts
 have hgs:=h.gs
 clear h
 unfold z32 at hw1
 have HW1:Hid (_):=hw1.symm
 clear hw1
 go_enter Tryz.func106,Tryz.ntmps106
 go_wp2_with (first
  | (go_at_call 156; rw [HW1.out]; refine (CM.out _ HH0.out).mono ?_; rintro e' w2 ⟨rfl, hb2⟩; have HT2 : Hid (w2.there w.heap.size 0 32) := there_below HTH.out hb2 (by rw [HZ0.out]; omega); have HB2 : Hid (Below w.heap.size w w2) := HB0.out.trans (hb2.mono (by rw [HZ0.out]; omega)); have HH2 : Hid (Laid w2) := HH0.out.call hb2; have HZ2 : Hid (w.heap.size + 1 ≤ w2.heap.size) := by rw [← HZ0.out]; exact hb2.size
     clear hb2)
  | (go_at_call 103;refine (CF.out _ HH2.out).mono ?_;rintro e' w3 ⟨rfl,hb3⟩;have HT3:Hid (w3.there w.heap.size 0 32):=there_below HT2.out hb3 HZ2.out;have HB3:Hid (Below w.heap.size w w3):=HB2.out.trans (hb3.mono (Nat.le_of_lt HZ2.out));clear hb3)
  | (refine wpList_store_mid rfl 141 _ _ rfl w.heap.size 0 L.toArray rfl rfl (by rw [HLA.out];exact HT3.out) (by rw [HLA.out];kernel_rfl) (all_oneCell_toArray HON.out) ?_))
 have hr2:=World.rangeAt_setCells_same w3 w.heap.size 0 L (by rw [HLL.out];exact HT3.out)
 refine bodyPost_ret (v:=.agg L.toArray) (results_cell rfl _ _ _ w.heap.size 0 rfl _ (run_loadVar_mid _ _ _ _ _ _ hr2 Tryz.underlying141 rfl (by rw [HLL.out];kernel_rfl))) rfl ⟨rfl,?_⟩
 exact HB3.out.trans (below_setCells _ _ _ _ (by omega))
theorem keyB_get (l:List UInt8) (x k j:Nat) (hx:x < 256) (hj:j < k):((keyB l x k).getD j 0).toNat=byteAt l j ^^^ x:=by
 induction k with
 | zero=>omega
 | succ k ih =>
  simp only [keyB]
  rw [getD_app,keyB_len]
  by_cases e:j < k
  ·rw [if_pos e,ih e]
  ·rw [if_neg e,show j=k from by omega,Nat.sub_self]
   have hb:byteAt l k < 256:=by unfold byteAt;exact UInt8.toNat_lt _
   have:=i256 hb hx
   show (UInt8.ofNat (byteAt l k ^^^ x)).toNat=_
   rw [UInt8.toNat_ofNat'];exact Nat.mod_eq_of_lt this
theorem byteAt_if (l:List UInt8) (j:Nat):(if j < l.length then (l.getD j 0).toNat else 0)=byteAt l j:=by
 by_cases e:j < l.length
 ·rw [if_pos e];rfl
 ·rw [if_neg e,byteAt_past l j (by omega)]
theorem keyBlock_any (key:List UInt8) (hk:key.length≤64) (p:Nat) (hp:p < 256) (w:World) :
  Calls Tryz.prog 107 #[.string ⟨key.toArray⟩,.int .u8 p] w fun e' w'=>e'=.returned (.string ⟨(keyB key p 64).toArray⟩)∧Below w.heap.size w w':=by
 obtain ⟨i0,hi,hz0,hz1,hz2⟩:=info_parts Tryz.infoByte
 go_enter Tryz.func107,Tryz.ntmps107
 go_wp2_with (first|(at_make;refine wpList_make_full _ rfl _ _ 70 rfl w.heap.size 5 i0 (.int .u8 0) 1 Tryz.underlying70 hi hz0 hz1 .i64 .i64 _ _ 64 rfl rfl rfl rfl (by rw [hz2];omega) (by unfold maxLen;omega) (Nat.le_refl _) ?_;intro w1 hown1 hg1;have ha1:=made_arr8 hown1;have hb1:=(Below.refl w.heap.size w).grown hg1 (Nat.le_refl _) (by simp);clear hown1 hg1)|(refine wpList_copy_str rfl _ _ 70 9 rfl 5 Tryz.underlying70 size_byte w.heap.size 64 64 rfl key rfl ha1 (by omega) ?_;intro w2 ha2 hb2;have hB2:=hb1.trans hb2;clear hb1 hb2 ha1))
 clear hi hz0 hz1 hz2 i0
 replace ha2:=ha2.congr fun j _=>byteAt_if key j
 go_loopw [13] (fun i wr=>∃ k:Nat,k≤64∧i=.int .i64 k∧arr8 wr w.heap.size (fun j=>if j < k then byteAt key j ^^^ p else byteAt key j) 64∧Below w.heap.size w wr) (fun i _=>64 - (intOf i).toNat)
 case atStart=>exact ⟨0,by omega,rfl,ha2.congr fun j _=>by simp,hB2⟩
 case round =>
  clear ha2 hB2
  obtain ⟨k,hk,rfl,har,hbel⟩:=hrel
  by_cases hlt:k < 64
  ·obtain ⟨ck,fk⟩:=har k hlt
   dsimp only at ck
   rw [if_neg (Nat.lt_irrefl k)] at ck
   have hb:byteAt key k < 256:=by unfold byteAt;exact UInt8.toNat_lt _
   have hx:=u8_xor_nat (byteAt key k) p hb hp
   have HF:Hid (∀ j,j < 64→(if j=k then byteAt key k ^^^ p else if j < k then byteAt key j ^^^ p else byteAt key j)=if j < k+1 then byteAt key j ^^^ p else byteAt key j):=by
    intro j _
    by_cases e1:j=k
    ·subst e1;simp
    ·by_cases e2:j < k
     ·simp [e1,e2,Nat.lt_succ_of_lt e2]
     ·have:¬ j < k+1:=by omega
      simp [e1,e2,this]
   go_wp2
   go_roundw
   case rel=>exact ⟨k+1,by omega,by go_num,(har.set k _ hlt).congr HF.out,hbel.setCell (Nat.le_refl _) _⟩
   case measure=>simp [intOf];omega
  ·have ha8:arr8 wr w.heap.size (fun j=>((keyB key p 64).getD j 0).toNat) 64:=har.congr fun j hj=>by rw [if_pos (by omega),keyB_get key p 64 j hp hj]
   have hcv:=conv_arr8 (keyB key p 64) 64 64 (keyB_len _ _ _) wr w.heap.size ha8
   clear ha8 har
   generalize hqg:keyB key p 64=q at *
   have HQG:Hid (keyB key p 64=q):=hqg
   clear hqg
   have hdk:decide ((k:Int) < 64)=false:=by simp;omega
   go_wp2_with fail
   go_ret
   exact ⟨ret_str HQG.out.symm,hbel⟩
theorem box32 (D:List UInt8) (hD:D.length=32) (w:World) :
  (w.alloc (.cells z32 141)).there w.heap.size 0 32∧arr8 ((w.alloc (.cells z32 141)).setCells w.heap.size 0 (D.map u8v)) w.heap.size (fun j=>(D.getD j 0).toNat) 32∧Below w.heap.size w ((w.alloc (.cells z32 141)).setCells w.heap.size 0 (D.map u8v)):=by
 have ha:arr8 (w.alloc (.cells z32 141)) w.heap.size (fun _=>0) 32:=by
  intro j hj
  have h1:=zeros8_cell w 141 32 j hj
  have h2:=zeros_free w 141 (Array.replicate 32 (.int .u8 0)) j
  rw [z32_is]
  exact ⟨h1,h2⟩
 refine ⟨fun j hj=>?_,?_,?_⟩
 ·rw [Nat.zero_add,(ha j hj).1,(ha j hj).2];exact ⟨rfl,rfl⟩
 ·refine (arr8.cells D 0 _ _ ha (by omega)).congr fun j hj=>?_
  rw [if_pos (by omega)];rfl
 ·exact ((Below.refl _ _).alloc (Nat.le_refl _) _).trans (below_setCells _ _ _ _ (Nat.le_refl _))
theorem shortK_le (key:List UInt8) (h:key.length≤64):shortK key=key:=by unfold shortK;rw [if_neg (by omega)]
theorem shortK_gt (key:List UInt8) (h:64 < key.length):shortK key=digest key:=by unfold shortK;rw [if_pos h]
theorem shortKey_any (key:List UInt8) (hk:key.length≤400000000000000) (w:World) (h:Laid w) :
  Calls Tryz.prog 105 #[.string ⟨key.toArray⟩] w fun e' w'=>e'=.returned (.string ⟨(shortK key).toArray⟩)∧Below w.heap.size w w':=by
 by_cases hs:key.length≤64
 ·rw [shortK_le key hs]
  go_enter Tryz.func105,Tryz.ntmps105
  go_wp2
  go_ret
  exact ⟨rfl,Below.refl _ _⟩
 ·rw [shortK_gt key (by omega)]
  have CH:Hid (_):=mhash_any key hk
  have HH:Hid (Laid w):=h
  clear h
  have HD:Hid ((digest key).length=32):=digest_len key
  have HLA:Hid (((digest key).map u8v).toArray.size=32):=by show _=_;rw [List.size_toArray,List.length_map];exact HD.out
  have HON:Hid (∀ v∈(digest key).map u8v,v.oneCell'=true):=by intro v hv;rw [List.mem_map] at hv;obtain ⟨x,_,rfl⟩:=hv;rfl
  generalize digest key=D at *
  have HLT:Hid ((D.map u8v).toArray.toList=D.map u8v):=rfl
  generalize hG:(D.map u8v).toArray=G at *
  have HG:Hid ((D.map u8v).toArray=G):=hG
  clear hG
  go_enter Tryz.func105,Tryz.ntmps105
  go_wp2_with (first
   | (go_at_call 72;refine (CH.out _ HH.out).mono ?_;rintro e' w2 ⟨rfl,hb2⟩;have HB2:Hid (Below w.heap.size w w2):=hb2;clear hb2;have HBOX:Hid (_):=box32 D HD.out w2)
   | (refine wpList_store_mid rfl 141 _ _ rfl w2.heap.size 0 G rfl rfl (by rw [HLA.out];exact HBOX.out.1) (by rw [HLA.out];kernel_rfl) (by rw [← HG.out];exact all_oneCell_toArray HON.out) ?_;rw [HLT.out];show wpList _ _ _ _ _ ((w2.alloc (.cells z32 141)).setCells w2.heap.size 0 (D.map u8v));obtain ⟨_,ha3,hb3⟩:=HBOX.out;clear HBOX;generalize (w2.alloc (.cells z32 141)).setCells w2.heap.size 0 (D.map u8v)=w3 at *;have hcv:=conv_arr8 D 32 32 HD.out w3 w2.heap.size ha3;have HB3:Hid (Below w2.heap.size w2 w3):=hb3;clear ha3 hb3))
  go_ret
  exact ⟨rfl,HB2.out.trans (HB3.out.mono HB2.out.size)⟩
def ckB (c b:Nat):Nat→Nat
 | 0=>c
 | k+1=>if (ckB c b k+b / 2 ^ k) % 2=1 then (ckB c b k / 2) ^^^ 3988292384 else ckB c b k / 2
theorem ckB_lt {c:Nat} (hc:c < 4294967296) (b k:Nat):ckB c b k < 4294967296:=by
 induction k with
 | zero=>exact hc
 | succ k ih =>
  simp only [ckB];split
  ·exact xor32 (by omega) (by omega)
  ·omega
def crcN (l:List UInt8):Nat→Nat
 | 0=>4294967295
 | k+1=>ckB (crcN l k) ((l.getD k 0).toNat) 8
theorem crcN_lt (l:List UInt8) (k:Nat):crcN l k < 4294967296:=by
 induction k with
 | zero=>simp [crcN]
 | succ k ih=>exact ckB_lt ih _ _
def crcL (l:List UInt8):Nat:=4294967295 - crcN l l.length
theorem getD_at (s:ByteArray) (i:Nat) (h:i < s.size):s.data.toList.getD i 0=s[i]:=by
 have h':i < s.data.toList.length:=by simpa using h
 rw [List.getD_eq_getElem?_getD,List.getElem?_eq_getElem h'];rfl
theorem xor_half (a b:Nat):(a ^^^ b) / 2=a / 2 ^^^ b / 2:=by
 apply Nat.eq_of_testBit_eq
 intro i
 simp [Nat.testBit_xor,Nat.testBit_div_two]
theorem xor_par (x y:Nat):(x ^^^ y) % 2=(x+y) % 2:=by
 have h:=Nat.testBit_xor x y 0
 simp only [Nat.testBit_zero] at h
 by_cases hx:x % 2=1 <;> by_cases hy:y % 2=1
 ·rw [decide_eq_true hx,decide_eq_true hy] at h
  have:=of_decide_eq_false (h.trans rfl);omega
 ·rw [decide_eq_true hx,decide_eq_false hy] at h
  have:=of_decide_eq_true (h.trans rfl);omega
 ·rw [decide_eq_false hx,decide_eq_true hy] at h
  have:=of_decide_eq_true (h.trans rfl);omega
 ·rw [decide_eq_false hx,decide_eq_false hy] at h
  have:=of_decide_eq_false (h.trans rfl);omega
theorem xor_full (c:Nat) (hc:c < 4294967296):c ^^^ 4294967295=4294967295 - c:=by
 apply Nat.eq_of_testBit_eq
 intro i
 rw [not_bit c i hc,Nat.testBit_xor,show (4294967295:Nat)=2 ^ 32 - 1 from rfl,Nat.testBit_two_pow_sub_one]
 by_cases h:i < 32
 ·cases c.testBit i <;> simp [h]
 ·have:c.testBit i=false:=Nat.testBit_lt_two_pow (Nat.lt_of_lt_of_le (by exact hc) (Nat.pow_le_pow_right (by omega) (show 32≤i by omega)))
  simp [h,this]
theorem u32_and1 (x:Nat) (hx:x < 4294967296):bits .and .u32 (x:Int) 1=((x % 2:Nat):Int):=by
 have:=u32_and_nat x 1 hx (by omega)
 rw [nat_mask1] at this
 exact this
theorem checkByte_any (c b:Nat) (hc:c < 4294967296) (hb:b < 256) (w:World) :
  Calls Tryz.prog 190 #[.int .u32 c,.int .u8 b] w fun e w'=>e=.returned (.int .u32 (ckB c b 8:Nat))∧w'=w:=by
 have hx:=u32_xor_nat c b hc (by omega)
 go_enter Tryz.func190,Tryz.ntmps190
 go_wp2
 go_loop [0,10] (fun x i=>∃ k:Nat,k≤8∧i=.int .i64 k∧x=.int .u32 (ckB c b k ^^^ b / 2 ^ k:Nat)) (fun _ i=>8 - (intOf i).toNat)
 case atStart=>exact ⟨0,by omega,rfl,by simp [ckB]⟩
 case round =>
  clear hx
  obtain ⟨k,hk,rfl,rfl⟩:=hrel
  have hcl:=ckB_lt hc b k
  have hbl:b / 2 ^ k≤b:=Nat.div_le_self _ _
  have HS:Hid (ckB c b (k+1)=if (ckB c b k+b / 2 ^ k) % 2=1 then (ckB c b k / 2) ^^^ 3988292384 else ckB c b k / 2):=rfl
  have HB:Hid (b / 2 ^ (k+1)=b / 2 ^ k / 2):=by show _=_;rw [Nat.pow_succ,Nat.div_div_eq_div_mul]
  have HK:Hid (k=8→b / 2 ^ k=0):=fun e=>by rw [e];omega
  have HCK:Hid (k=8→ckB c b 8=ckB c b k):=fun e=>by rw [e]
  generalize ckB c b k=x at *
  generalize b / 2 ^ k=y at *
  have hp:x ^^^ y < 4294967296:=xor32 hcl (by omega)
  have hpar:(x ^^^ y) % 2=(x+y) % 2:=xor_par x y
  have hhalf:=xor_half x y
  have HP:Hid ((x ^^^ y) / 2=x / 2 ^^^ y / 2):=hhalf
  by_cases hkl:k < 8
  ·have hand:=u32_and1 (x ^^^ y) hp
   generalize x ^^^ y=q at *
   clear hhalf
   by_cases ho:q % 2=1
   ·have HS2:Hid (ckB c b (k+1) ^^^ b / 2 ^ (k+1)=(q / 2) ^^^ 3988292384):=by
     show _=_
     rw [HS.out,if_pos (by omega),HB.out,HP.out,Nat.xor_assoc,Nat.xor_comm 3988292384,← Nat.xor_assoc]
    have hx:=u32_xor_nat (q / 2) 3988292384 (by omega) (by omega)
    have t1:((((q % 2:Nat)):Int) == 1)=true:=by simp;omega
    have e2:((q:Int) / 2)=((q / 2:Nat):Int):=by simp
    have HX:Hid (bits .xor .u32 ((q:Int) / 2) 3988292384=((q / 2 ^^^ 3988292384:Nat):Int)):=by show _=_;rw [e2];exact hx
    clear HS HP HB hpar ho hx e2
    go_wp2
    go_round
    case rel=>exact ⟨k+1,by omega,by go_num,by rw [HS2.out,HX.out]⟩
    case measure=>simp [intOf];omega
   ·have HS2:Hid (ckB c b (k+1) ^^^ b / 2 ^ (k+1)=q / 2):=by
     show _=_
     rw [HS.out,if_neg (by omega),HB.out,HP.out]
    have t1:((((q % 2:Nat)):Int) == 1)=false:=by simp;omega
    clear HS HP HB hpar ho
    go_wp2
    go_round
    case rel=>exact ⟨k+1,by omega,by go_num,by rw [HS2.out];simp⟩
    case measure=>simp [intOf];omega
  ·have HX:Hid (x ^^^ y=ckB c b 8):=by
    show _=_
    rw [HCK.out (by omega),HK.out (by omega)];simp
   clear HP hpar HS HB hhalf
   generalize x ^^^ y=q at *
   go_wp2
   go_ret
   exact ⟨ret_int (by rw [HX.out]),rfl⟩
theorem check_any (s:ByteArray) (hs:s.size≤1000000000000000) (w:World) :
  Calls Tryz.prog 138 #[.string s] w fun e w'=>e=.returned (.int .u32 (crcL s.data.toList:Nat))∧w'=w:=by
 go_enter Tryz.func138,Tryz.ntmps138
 go_wp2
 go_loop [3,7] (fun c i=>∃ n:Nat,n≤s.size∧i=.int .i64 n∧c=.int .u32 (crcN s.data.toList n:Nat)) (fun _ i=>s.size - (intOf i).toNat)
 case atStart=>exact ⟨0,by omega,rfl,rfl⟩
 case round =>
  obtain ⟨n,hn,rfl,rfl⟩:=hrel
  have hc:=crcN_lt s.data.toList n
  by_cases hlt:n < s.size
  ·have HC:Hid (crcN s.data.toList (n+1)=ckB (crcN s.data.toList n) s[n].toNat 8):=by show _=_;rw [← getD_at s n hlt];rfl
   have hb:s[n].toNat < 256:=s[n].toNat_lt
   generalize crcN s.data.toList n=c at *
   go_wp2_with fail
   refine (checkByte_any c s[n].toNat hc hb _).mono ?_
   rintro e w' ⟨rfl,rfl⟩
   generalize ckB c s[n].toNat 8=c2 at *
   go_wp2_with fail
   go_round
   case rel=>exact ⟨n+1,by omega,by go_num,by rw [HC.out]⟩
   case measure=>simp [intOf];omega
  ·have HX:Hid (bits .xor .u32 (crcN s.data.toList n:Int) 4294967295=(crcL s.data.toList:Nat)):=by
    show _=_
    have:=u32_xor_nat (crcN s.data.toList n) 4294967295 hc (by omega)
    rw [xor_full _ hc] at this
    unfold crcL
    rw [show s.data.toList.length=n from by simp;omega]
    exact this
   generalize crcN s.data.toList n=c at *
   go_wp2_with fail
   go_ret
   exact ⟨ret_int HX.out,rfl⟩
end Go.Proofs.YtbllcgibmgbnjaaGreatDoor
