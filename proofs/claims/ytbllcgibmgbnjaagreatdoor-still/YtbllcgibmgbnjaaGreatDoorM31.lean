import Derived.Test.YtbllcgibmgbnjaaGreatDoorM30
import Derived.Test.YtbllcgibmgbnjaaGreatDoorRows
import Derived.Test.YtbllcgibmgbnjaaGreatDoorM13
import Derived.WalkKit
import Derived.ProofKit
import Derived.OpenShut
import Derived.Lib.LaidTab
import Derived.Stop.LaidErr
import Derived.LaidHandle
import Derived.Test.YtbllcgibmgbnjaaGreatDoorChecked
set_option maxHeartbeats 4000000
set_option maxRecDepth 20000
namespace Go.Proofs.YtbllcgibmgbnjaaGreatDoor.P
open Go.RowKit
open C (ret_bool ret_int ret_str enc enc_len)
theorem servQ_uniq {s:Sto} {u:Tx} {q:AskP} {X Y:Nat×Hs×Tx×Sto} (h:ServQ s u q X) (k:ServQ s u q Y):X=Y:=by
 by_cases h4:q.kind=4
 ·obtain ⟨l,hl,rfl⟩:=h.2 h4
  obtain ⟨m,hm,rfl⟩:=k.2 h4
  rw [lists_uniq hl hm]
 ·rw [h.1 h4,k.1 h4]
theorem respQ_uniq {us:Us} {clock:Nat} {s:Sto} {t:Tx} {X Y:Nat×Hs×Tx×Sto} (h:RespQ us clock s t X) (k:RespQ us clock s t Y):X=Y:=by
 cases hr:readP us clock t with
 | error n=>rw [h.err n hr,k.err n hr]
 | ok p =>
  obtain ⟨u,q⟩:=p
  by_cases hm:mayP s u q=200
  ·exact servQ_uniq (h.serves u q hr hm) (k.serves u q hr hm)
  ·rw [h.no u q hr hm,k.no u q hr hm]
theorem get_same {us:Us} {clock:Nat} {s:Sto} {t u:Tx} {q:AskP} {X:Nat×Hs×Tx×Sto} (h:RespQ us clock s t X) (hr:readP us clock t=.ok (u,q)) (hk:q.kind=2∨q.kind=4∨q.kind=6):X.2.2.2=s:=by
 by_cases hm:mayP s u q=200
 ·have hs:=h.serves u q hr hm
  rcases hk with hk|hk|hk
  ·rw [hs.1 (by omega)]
   unfold serveP
   rw [if_neg (by omega),if_neg (by omega),if_pos hk]
  ·obtain ⟨l,_,rfl⟩:=hs.2 hk;rfl
  ·rw [hs.1 (by omega)]
   unfold serveP
   rw [if_neg (by omega),if_neg (by omega),if_neg (by omega),if_neg (by omega),if_neg (by omega),if_pos hk]
   unfold getP
   split <;> rfl
 ·rw [h.no u q hr hm]
def Told (s:Sto):List Tx→Tx→Prop
 | [],T=>T=[]
 | tg :: ts,T=>∃ X T',AskQ s tGET tg [] X∧T=ansT X++T'∧Told s ts T'
theorem told_uniq {s:Sto}:∀ {ts:List Tx} {T T':Tx},Told s ts T→Told s ts T'→T=T'
 | [],_,_,h,k=>by rw [h,k]
 | tg :: ts,_,_,⟨X,A,h1,h2,h3⟩,⟨Y,B,k1,k2,k3⟩=>by rw [h2,k2,respQ_uniq h1 k1,told_uniq h3 k3]
theorem told_snoc {s:Sto} {tg:Tx} {X:Nat×Hs×Tx×Sto} (hX:AskQ s tGET tg [] X):∀ {ts:List Tx} {T:Tx},Told s ts T→Told s (ts++[tg]) (T++ansT X)
 | [],T,h=>by
  have h':T=[]:=h
  subst h'
  exact ⟨X,[],hX,by simp,rfl⟩
 | t0 :: ts,T,⟨Y,A,h1,h2,h3⟩=>⟨Y,A++ansT X,h1,by rw [h2,List.append_assoc],told_snoc hX h3⟩
def tellN (i g:Nat):List Tx:=(List.range g).map fun n=>kV (keyN i) (n+1)
def tellTo (k g:Nat):List Tx:=tABox :: (List.range k).flatMap fun i=>tellN i (g+1)
theorem tellTo_succ (k g:Nat):tellTo (k+1) g=tellTo k g++tellN k (g+1):=by
 unfold tellTo;rw [List.range_succ,List.flatMap_append];simp
theorem tellN_succ (i n:Nat):tellN i (n+1)=tellN i n++[kV (keyN i) (n+1)]:=by
 unfold tellN;rw [List.range_succ,List.map_append];rfl
theorem lines_len:∀ {hs:Hs},(∀ p∈hs,p.1.length≤1000∧p.2.length≤1000)→(hs.flatMap hLine).length≤hs.length*2003
 | [],_=>by simp
 | p :: hs,h=>by
  have h1:=h p (.head _)
  have h2:=lines_len (hs:=hs) (fun q hq=>h q (.tail _ hq))
  simp only [List.flatMap_cons,List.length_append,hLine,List.length_cons,List.length_nil] at *
  omega
theorem ans_len {X:Nat×Hs×Tx×Sto} (h:Good X):(ansT X).length≤200000000:=by
 have h1:=lines_len h.h
 have h2:=h.l
 have h3:=h.y
 have h4:(wordT X.1).length≤1000:=by rcases h.n with e|e|e|e|e|e|e <;> rw [e] <;> decide
 have h5:(Lib.itoa (X.1:Int)).length≤16:=itoa_len (by rcases h.n with e|e|e|e|e|e|e <;> rw [e] <;> decide)
 unfold ansT respT toldT
 simp only [List.length_append,List.length_cons,List.length_nil]
 split <;> simp only [List.length_append,List.length_cons,List.length_nil] <;> omega
theorem get_al {s:Sto} {h a b:Nat} {r:Roles} {w:World} (H:HS h a b s r w) (Ks:Keys s) {tg:Tx} {q:AskP} (hr:readP two 5000 (headT tAl sAl 5000 tGET tg [])=.ok (tAl,q)) (hk:q.kind=2∨q.kind=4∨q.kind=6) (htg:tg.length≤1000) :
  ∃ X,AskQ s tGET tg [] X∧(ansT X).length≤200000000∧∀ r w,GL w→HS h a b s r w→Calls Tryz.prog 25 #[.pointer (some ⟨h,0,none⟩),str tGET,str tg,str []] w fun e w'=>∃ r',e=.returned (str (ansT X))∧HS h a b s r' w'∧Step r w r' w':=by
 obtain ⟨X,hX⟩:=respQ_ex Ks two 5000 (headT tAl sAl 5000 tGET tg [])
 have hs:=get_same hX hr hk
 refine ⟨X,hX,ans_len (hX.good Ks H.L.F H.L.un),fun r w G H=>?_⟩
 have:=alQ_any h a b s r tGET tg [] (by decide) (by omega) (by simp) X hX Ks w G H (by have:=readlen (.inl ⟨_,hr⟩);omega)
 rw [hs] at this
 exact this
theorem tells_any (h a b:Nat) (s:Sto) (r:Roles) (g:Nat) (hg:g≤100000) (Ks:Keys s) (w:World) (G:GL w) (H:HS h a b s r w) :
  Calls Tryz.prog 22 #[.pointer (some ⟨h,0,none⟩),.int .i64 (g:Int)] w fun e w'=>∃ T r',e=.returned (str T)∧Told s (tellTo 4 g) T∧HS h a b s r' w'∧Step r w r' w':=by
 obtain ⟨X0,hX0,hl0,A0⟩:=get_al H Ks (rd_list has_al) (.inr (.inl rfl)) (by decide)
 have AL0:Hid (_):=A0
 have HK:Hid (Keys s):=Ks
 have HG:Hid (GL w):=G
 have HH:Hid (HS h a b s r w):=H
 have HT0:Hid (Told s (tellTo 0 g) (ansT X0)):=⟨X0,[],hX0,by simp,rfl⟩
 have wg:IntKind.i64.wrap ((g:Int)+1)=(g:Int)+1:=by unfold IntKind.wrap;simp [IntKind.bits,IntKind.signed];omega
 clear hX0 A0 Ks G H
 generalize ansT X0=T0 at *
 go_enter Tryz.func22,Tryz.ntmps22
 go_wp2_with (go_at_call 25;refine Calls.mono (AL0.out r w HG.out HH.out) ?_;rintro e w1 ⟨r1,rfl,H1,st1⟩)
 go_loopw [5,6] (fun v i wr=>∃ (k p:Nat) (T:Tx) (r2:Roles),v=str T∧i=.int .i64 k∧k≤4∧p=k*(g+1)∧Told s (tellTo k g) T∧T.length≤(1+p)*200000000∧HS h a b s r2 wr∧Step r w r2 wr) (fun _ i _=>4 - (intOf i).toNat)
 case atStart=>exact ⟨0,0,T0,r1,rfl,rfl,by omega,by simp,HT0.out,by omega,H1,st1⟩
 case round =>
  obtain ⟨k,p,T,r2,rfl,rfl,hk,hp,hT,hTl,H2,st2⟩:=hrel
  have hp4:p≤400004:=by rw [hp];exact Nat.le_trans (Nat.mul_le_mul hk (show g+1≤100001 by omega)) (by omega)
  have HP:Hid (p=k*(g+1)):=hp
  clear hp
  by_cases hk4:k < 4
  ·have HTT:Hid (Told s (tellTo k g) T):=hT
   have TG:Hid (∀ W,Calls Tryz.prog 26 #[.int .i64 (k:Int)] W fun e w'=>e=.returned (str (kT (keyN k)))∧Below W.heap.size W w'):=fun W=>by
    have:=target_any (k:Int) (by constructor <;> omega) W
    rwa [pick_self hk4] at this
   have tk:decide ((k:Int) < 4)=true:=by simp;omega
   clear hT AL0 HT0
   go_wp2
   go_loopw [5,7] (fun v i wr2=>∃ (n:Nat) (T2:Tx) (r3:Roles),v=str T2∧i=.int .i64 ((n:Int)+1)∧n≤g+1∧Told s (tellTo k g++tellN k n) T2∧T2.length≤(1+p+n)*200000000∧HS h a b s r3 wr2∧Step r w r3 wr2) (fun _ i _=>g+2 - (intOf i).toNat)
   case atStart=>exact ⟨0,T,r2,rfl,by simp,by omega,by simpa [tellN] using HTT.out,by omega,H2,st2⟩
   case round =>
    obtain ⟨n,T2,r3,rfl,rfl,hn,hT2,hT2l,H3,st3⟩:=hrel
    by_cases hlt:n < g+1
    ·obtain ⟨X,hX,hXl,A1⟩:=get_al H3 HK.out (rd_old has_al (keyN_ok k) (n:=n+1) (by omega) (by omega)) (.inr (.inr rfl)) (kV_len (keyN_ok k) (by omega))
     have HTN:Hid (Told s (tellTo k g++tellN k (n+1)) (T2++ansT X)):=by
      rw [tellN_succ,← List.append_assoc]
      exact told_snoc hX hT2
     have HKV:Hid (kV (keyN k) (n+1)=kT (keyN k)++([63,118,101,114,115,105,111,110,61]++Lib.itoa ((n+1:Nat):Int))):=rfl
     have AV:Hid (∀ r W,GL W→HS h a b s r W→∀ z:ByteArray,z=⟨(kV (keyN k) (n+1)).toArray⟩→Calls Tryz.prog 25 #[.pointer (some ⟨h,0,none⟩),str tGET,.string z,str []] W fun e w'=>∃ r',e=.returned (str (ansT X))∧HS h a b s r' w'∧Step r W r' w'):=fun r W GW HW z hz=>by rw [hz];exact A1 r W GW HW
     have IT:Hid (∀ W,R.Env W→Calls Tryz.prog 34 #[.int .i64 ((n:Int)+1)] W fun e w'=>e=.returned (str (Lib.itoa ((n+1:Nat):Int)))∧Below W.heap.size W w'):=fun W E=>by
      rw [show (n:Int)+1=((n+1:Nat):Int) by omega]
      exact R.itoa_r (n+1) W E (by omega)
     have hil:=itoa_len (n:=n+1) (by omega)
     have hkt:(kT (keyN k)).length≤100:=by have:=keyN_len k;have:=(enc_len true (keyN k)).2;simp;omega
     rw [HKV.out] at AV
     have G3:=HH.out.L.glob HG.out st3
     have HH3:Hid (HS h a b s r3 wr):=H3
     clear hX A1 hT2 HKV H3
     generalize ansT X=xt at *
     generalize kT (keyN k)=kt at *
     generalize Lib.itoa ((n+1:Nat):Int)=ti at *
     go_wp2_with (first|(go_at_call 26;refine Calls.mono (TG.out wr) ?_;rintro e w4 ⟨rfl,b4⟩)|(go_at_call 34;refine Calls.mono (IT.out w4 (G3.call b4).env) ?_;rintro e w5 ⟨rfl,b5⟩;have b45:=below_trans b4 b5)|(go_at_call 25;refine Calls.mono (AV.out r3 w5 (G3.call b45) (HH3.out.below b45) _ (by apply ByteArray.ext;simp)) ?_;rintro e w6 ⟨r6,rfl,H6,st6⟩))
     go_roundw
     case rel=>exact ⟨n+1,T2++xt,r6,congrArg Value.string (by apply ByteArray.ext;simp),by go_num,by omega,HTN.out,by simp;omega,H6,(st3.trans (Step.of_below b45)).trans st6⟩
     case measure=>simp [intOf];omega
    ·obtain rfl:n=g+1:=by omega
     have HTN:Hid (Told s (tellTo (k+1) g) T2):=by rw [tellTo_succ];exact hT2
     have HTL:Hid (T2.length≤(1+(p+(g+1)))*200000000):=by
      show T2.length≤_
      rw [← Nat.add_assoc]
      exact hT2l
     have HPP:Hid (p+(g+1)=(k+1)*(g+1)):=by show _=_;rw [HP.out,Nat.add_mul,Nat.one_mul]
     clear hT2
     go_wp2
     go_roundw
     case rel=>exact ⟨k+1,p+(g+1),T2,r3,rfl,by go_num,by omega,HPP.out,HTN.out,HTL.out,H3,st3⟩
     case measure=>simp [intOf];omega
  ·obtain rfl:k=4:=by omega
   go_wp2
   go_ret
   exact ⟨T,r2,rfl,hT,H2,st2⟩
theorem frame_mk {b o:Tx} (h1:b.length≤20) (h2:o.length≤20):(frameT (Chg.mk b o).text).length≤60:=by
 simp [frameT,Chg.text,shortT,longT,numT,bigL_len];omega
theorem ask_is {u sec:Tx} {s:Sto} {m tg y:Tx} {X:Tx×Sto} (e:doP two 5000 s (headT u sec 5000 m tg y)=X):askT u sec s m tg y=X:=e
def sBeg (room:Nat):Sto:={ (Sto.new [tAl,tBo] room).setBk tBkt ⟨tAl,[],[]⟩ with log:=(Sto.new [tAl,tBo] room).log++frameT (Chg.mk tBkt tAl).text }
theorem beg_eq (room:Nat) (h1:200≤room):(askT tAl sAl (Sto.new [tAl,tBo] room) tPUT tABox []).2=sBeg room:=by
 have hb:bktP tBkt=true:=by decide
 have fl:=frame_mk (b:=tBkt) (o:=tAl) (by decide) (by decide)
 have d1:=done_mk (s:=Sto.new [tAl,tBo] room) (o:=tAl) hb (by rfl) rfl (by show 0+_≤room;omega)
 have sv1:serveP (Sto.new [tAl,tBo] room) tAl ⟨0,[],tBkt,[],[],0,[],[],10⟩=(200,[],[],sBeg room):=by
  unfold serveP sBeg;rw [if_pos rfl];simp only;rw [d1]
 have hm:mayP (Sto.new [tAl,tBo] room) tAl ⟨0,[],tBkt,[],[],0,[],[],10⟩=200:=by unfold mayP;rw [if_pos rfl]
 have e:=ask_is (do_ok (s:=Sto.new [tAl,tBo] room) (begun_says room h1).2 hm)
 rw [sv1] at e
 rw [e]
theorem bk_begun (room:Nat) (F:Fine (sBeg room)):BK (sBeg room) [] room where
 b:=by simp [sBeg,Sto.setBk]
 v:=fun k=>rfl
 ks:=fun v hv=>by simp at hv
 y:=fun v hv=>by simp at hv
 n:=Nat.zero_le _
 r:=rfl
 K:=(keys_new [tAl,tBo] room).of_eq rfl rfl
 F:=F
theorem last_begun (room:Nat):(sBeg room).last=0:=rfl
abbrev bokC:Obj:=.cells #[.slice none 0 0,.int .i64 0] 47
theorem pb_begun (room:Nat) {N h a b:Nat} {r:Roles} {w1:World} (H:HS h a b (sBeg room) r w1) (hN:N≤w1.heap.size) (hr:∀ g,r g≠.none→N≤g):PB N h a b w1.heap.size (sBeg room) [] (.slice none 0 0) room r (w1.alloc bokC):=by
 have b1:Below w1.heap.size w1 (w1.alloc bokC):=(Below.refl _ _).alloc (Nat.le_refl _) _
 have H1:=H.below b1
 refine ⟨⟨H1,⟨by simp [go_sem],by rw [last_begun room];simp [go_sem],fun j=>by simp [go_sem],World.ownsRow_nil _ _ _ _⟩,bk_begun room H.L.F,H.L.new,fun g e=>nomatch e⟩,⟨H.hl,H.L.al,fun ua n uc e p hp=>?_⟩,hr,hN⟩
 obtain ⟨ua',uc',e',_,hp'⟩:=H.L.l0
 have e2:=(b1.cell (p:=⟨a,0,none⟩) H.L.al).trans e'
 have e3:=Option.some.inj (e2.symm.trans e)
 cases e3
 exact (hp' p hp).2
structure SR (a:Option Addr) (l:List StP) (w:World):Prop where
 get:∀ k (h:k < l.length),∃ b o,a=some ⟨b,o,none⟩∧b < w.heap.size∧w.cell? ⟨b,o+k*4,none⟩=some (.int .i64 l[k].kind)∧w.cell? ⟨b,o+k*4+1,none⟩=some (.int .i64 l[k].key)∧w.cell? ⟨b,o+k*4+2,none⟩=some (.int .i64 l[k].n)∧w.cell? ⟨b,o+k*4+3,none⟩=some (str l[k].body)
theorem SR.below {a:Option Addr} {l:List StP} {w w':World} (h:SR a l w) (k:Below w.heap.size w w'):SR a l w' :=
 ⟨fun i hi=>by
  obtain ⟨b,o,e,hb,c0,c1,c2,c3⟩:=h.get i hi
  have:=k.size
  exact ⟨b,o,e,by omega,(k.cell (p:=⟨b,o+i*4,none⟩) hb).trans c0,(k.cell (p:=⟨b,o+i*4+1,none⟩) hb).trans c1,(k.cell (p:=⟨b,o+i*4+2,none⟩) hb).trans c2,(k.cell (p:=⟨b,o+i*4+3,none⟩) hb).trans c3⟩⟩
end Go.Proofs.YtbllcgibmgbnjaaGreatDoor.P
namespace Go.Proofs.YtbllcgibmgbnjaaGreatDoor.E
open Go.ChangeShapes Go.WideShapes Go.ChangeAt Go.RowKit
open P (GL errT rowsC rowCells tPUT tGET tDEL tPrefix tAfter tMax tVersion sPolicy sList sPut sGet sDelete)
open R (Bs str Env gTop)
theorem own:ownKnob Tryz.prog.godebug=none:=by kernel_rfl
theorem gP : Tryz.prog.globalNamed "internal/strconv.uint64pow10" = some 2 := by kernel_rfl
theorem gPType:(Tryz.prog.globals[2]?).map (·.type)=some 261:=by kernel_rfl
theorem cellsP:Tryz.prog.cellsOf 261=20:=by kernel_rfl
theorem cellsU:Tryz.prog.cellsOf 199=1:=by kernel_rfl
theorem gS : Tryz.prog.globalNamed "larder/mark.firstState" = some 0 := by kernel_rfl
theorem gSType:(Tryz.prog.globals[0]?).map (·.type)=some 196:=by kernel_rfl
theorem gK : Tryz.prog.globalNamed "larder/mark.roundWords" = some 4 := by kernel_rfl
theorem gKType:(Tryz.prog.globals[4]?).map (·.type)=some 312:=by kernel_rfl
theorem cells8:Tryz.prog.cellsOf 196=8:=by kernel_rfl
theorem cells64:Tryz.prog.cellsOf 312=64:=by kernel_rfl
theorem cells1:Tryz.prog.cellsOf 195=1:=by kernel_rfl
def zS:List Int:=hL.map Int.ofNat
def zK:List Int:=kL.map Int.ofNat
theorem zS_get (j:Nat) (h:j < 8):zS.getD j 0=((hL.getD j 0:Nat):Int):=by
 have:∀ n:Fin 8,zS.getD n.val 0=((hL.getD n.val 0:Nat):Int):=by decide +kernel
 exact this ⟨j,h⟩
theorem zK_get (j:Nat) (h:j < 64):zK.getD j 0=((kL.getD j 0:Nat):Int):=by
 have:∀ n:Fin 64,zK.getD n.val 0=((kL.getD n.val 0:Nat):Int):=by decide +kernel
 exact this ⟨j,h⟩
theorem zS_len:zS.length=8:=by decide +kernel
theorem zK_len:zK.length=64:=by decide +kernel
theorem cell_lt {w:World} {b j:Nat} {v:Value} (h:w.cell? ⟨b,j,none⟩=some v):b < w.heap.size:=World.block_lt_of_cell? w ⟨b,j,none⟩ h
abbrev listed : List (String × DataW Unit) := [("math/bits.deBruijn32tab", Rows.laid_math_bits_deBruijn32tab), ("math/bits.deBruijn64tab", Rows.laid_math_bits_deBruijn64tab), ("internal/strconv.uint64pow10", Lib.tabData .u64 Lib.pow10Tab), ("larder/mark.firstState", Lib.tabData .u32 zS), ("larder/mark.roundWords", Lib.tabData .u32 zK), ("unicode/utf8.acceptRanges", Rows.laid_unicode_utf8_acceptRanges),
 ("strconv.ErrRange", Rows.laid_strconv_ErrRange), ("strconv.ErrSyntax", Rows.laid_strconv_ErrSyntax), ("larder/ask.rows", Rows.laid_larder_ask_rows), ("larder/kept.errNoRoom", Rows.laid_larder_kept_errNoRoom), ("unicode/utf8.first", Rows.laid_unicode_utf8_first)]
theorem filt_no:(Rows.signedRow.laid.filter fun x=>x.2.handleName?.isNone)=listed:=by kernel_rfl
theorem filt_yes : (Rows.signedRow.laid.filter fun x => x.2.handleName?.isSome) = [("errors.errorType", Rows.laid_errors_errorType)] := by kernel_rfl
theorem parts {W : World} (h : laidMetH Tryz.prog Rows.signedRow.laid W) : laidMet Tryz.prog listed W ∧ handlesMet Tryz.prog [("errors.errorType", Rows.laid_errors_errorType)] W := by
 unfold laidMetH at h
 rw [filt_yes,filt_no] at h
 exact h
theorem gE : Tryz.prog.globalNamed "errors.errorType" = some 1 := by kernel_rfl
theorem rtN : (Tryz.prog.cutTypes.find? (·.1 == "internal/reflectlite.rtype")).map (·.2) = some 264 := by kernel_rfl
theorem tySize:Tryz.prog.types.size=449:=by kernel_rfl
theorem oneRow:((List.range 449).filter fun t=>Tryz.prog.rowNamed t [101,114,114,111,114])=[80]:=by kernel_rfl
theorem handle_of {W : World} (h : handlesMet Tryz.prog [("errors.errorType", Rows.laid_errors_errorType)] W) : errT W := by
 obtain ⟨name,u,ty,e1,e2,e3,e4,e5⟩:=h _ (List.mem_singleton.2 rfl)
 have en:name=[101,114,114,111,114]:=(Option.some.inj e1).symm
 subst en
 obtain rfl:=Option.some.inj (rtN.symm.trans e2)
 have hm:ty∈(List.range 449).filter fun t=>Tryz.prog.rowNamed t [101,114,114,111,114]:=List.mem_filter.2 ⟨List.mem_range.2 (by rw [← tySize];exact e3),e4⟩
 rw [oneRow] at hm
 obtain rfl:=List.mem_singleton.1 hm
 have hh:typeHandle Tryz.prog 80=.pointer (some ⟨13,80,none⟩):=by kernel_rfl
 rw [hh] at e5
 have:=World.var?_cell gE e5 0
 simpa [errT] using this
section
variable {H:Type} {enc:TypeId×Value→H} {w:World} {base:Nat} {sp:Nat→Bool} {held:Bool} {fuel:Nat} {cs:List Value} {p:List MemPlace}
theorem leaf_str {t:TypeId} {l:List UInt8} (ht:Tryz.prog.underlying t=some .string) (h:DataW.trod enc Tryz.prog w base sp held fuel t cs=some (.lit (.string l),p)):cs=[str l]:=by
 obtain ⟨s,rfl,e,_⟩:=DataW.trod_string ht h
 have e3:l=s.data.toList:=by have:=congrArg Prod.fst e;simpa using this
 rw [e3]
theorem leaf_bool {t:TypeId} {b:Bool} (ht:Tryz.prog.underlying t=some .bool) (h:DataW.trod enc Tryz.prog w base sp held fuel t cs=some (.lit (.bool b),p)):cs=[.bool b]:=by
 obtain ⟨s,rfl,e⟩:=DataW.trod_bool ht h
 have e3:b=s:=by have:=congrArg Prod.fst e;simpa using this
 rw [e3]
theorem leaf_int {t:TypeId} {k:IntKind} {z:Int} (ht:Tryz.prog.underlying t=some (.int k)) (h:DataW.trod enc Tryz.prog w base sp held fuel t cs=some (.lit (.int k z),p)):cs=[.int k z]:=by
 obtain ⟨s,rfl,e,_⟩:=DataW.trod_int ht h
 have e3:z=s:=by have:=congrArg Prod.fst e;simpa using this
 rw [e3]
theorem at_of {xs:List (DataW H×List MemPlace)} {ds:List (DataW H)} (h:ds=xs.map (·.1)) {i:Nat} {d:DataW H} (hd:ds[i]?=some d) {o:Option (DataW H×List MemPlace)} (ho:o=xs[i]?):∃ q,o=some (d,q):=by
 rw [h,List.getElem?_map,Option.map_eq_some_iff] at hd
 obtain ⟨x,hx,rfl⟩:=hd
 exact ⟨x.2,by rw [ho,hx]⟩
theorem agg_inj {a b:List (DataW H)} (h:DataW.agg a=DataW.agg b):a=b:=by cases h;rfl
theorem len3:∀ {l:List Value},l.length=3→∃ x y z,l=[x,y,z]
 | [x,y,z],_=>⟨x,y,z,rfl⟩
theorem len9:∀ {l:List Value},l.length=9→∃ x0 x1 x2 x3 x4 x5 x6 x7 x8,l=[x0,x1,x2,x3,x4,x5,x6,x7,x8]
 | [x0,x1,x2,x3,x4,x5,x6,x7,x8],_=>⟨x0,x1,x2,x3,x4,x5,x6,x7,x8,rfl⟩
theorem c_str:Tryz.prog.cellsOf 9=1:=by kernel_rfl
theorem c_bool:Tryz.prog.cellsOf 4=1:=by kernel_rfl
theorem c_int:Tryz.prog.cellsOf 3=1:=by kernel_rfl
theorem c_kind:Tryz.prog.cellsOf 110=1:=by kernel_rfl
theorem c_three:Tryz.prog.cellsOf 223=3:=by kernel_rfl
theorem c_row:Tryz.prog.cellsOf 225=9:=by kernel_rfl
theorem c_rows:Tryz.prog.cellsOf 279=81:=by kernel_rfl
theorem three_cells {a b c:List UInt8} (h:DataW.trod enc Tryz.prog w base sp held fuel 223 cs=some (.agg [.lit (.string a),.lit (.string b),.lit (.string c)],p)):cs=[str a,str b,str c]:=by
 obtain ⟨xs,m,rfl,e,hl,hx,hat⟩:=DataW.trod_array Tryz.underlying223 h
 have e1:=congrArg Prod.fst e
 have e2:=agg_inj e1
 rw [c_str] at hat
 rw [c_three] at hl
 obtain ⟨x,y,z,rfl⟩:=len3 hl
 focus
  obtain ⟨q0,h0⟩:=at_of e2 (i:=0) rfl (hat 0 (by omega))
  obtain ⟨q1,h1⟩:=at_of e2 (i:=1) rfl (hat 1 (by omega))
  obtain ⟨q2,h2⟩:=at_of e2 (i:=2) rfl (hat 2 (by omega))
  have r0:[x]=[str a]:=leaf_str Tryz.underlying9 h0
  have r1:[y]=[str b]:=leaf_str Tryz.underlying9 h1
  have r2:[z]=[str c]:=leaf_str Tryz.underlying9 h2
  rw [(List.cons.inj r0).1,(List.cons.inj r1).1,(List.cons.inj r2).1]
theorem row_cells {m a b c act:List UInt8} {pb yb:Bool} {n k:Int} (h:DataW.trod enc Tryz.prog w base sp held fuel 225 cs=some (.agg [.lit (.string m),.lit (.bool pb),.agg [.lit (.string a),.lit (.string b),.lit (.string c)],.lit (.int .i64 n),.lit (.int .i64 k),.lit (.string act),.lit (.bool yb)],p)) :
  cs=rowCells m pb a b c n k act yb:=by
 obtain ⟨xs,fu,rfl,e,hl,hx,hat⟩:=DataW.trod_struct Tryz.underlying225 h
 have e1:=congrArg Prod.fst e
 have e2:=agg_inj e1
 rw [c_row] at hl
 obtain ⟨x0,x1,x2,x3,x4,x5,x6,x7,x8,rfl⟩:=len9 hl
 focus
  obtain ⟨q0, h0⟩ := at_of e2 (i := 0) rfl (hat 0 { name := "method", type := 9, offset := 0, embedded := false, tag := "", pkgPath := "larder/ask", byteOffset := 0 } rfl)
  obtain ⟨q1, h1⟩ := at_of e2 (i := 1) rfl (hat 1 { name := "path", type := 4, offset := 1, embedded := false, tag := "", pkgPath := "larder/ask", byteOffset := 16 } rfl)
  obtain ⟨q2, h2⟩ := at_of e2 (i := 2) rfl (hat 2 { name := "pairs", type := 223, offset := 2, embedded := false, tag := "", pkgPath := "larder/ask", byteOffset := 24 } rfl)
  obtain ⟨q3, h3⟩ := at_of e2 (i := 3) rfl (hat 3 { name := "least", type := 3, offset := 5, embedded := false, tag := "", pkgPath := "larder/ask", byteOffset := 72 } rfl)
  obtain ⟨q4, h4⟩ := at_of e2 (i := 4) rfl (hat 4 { name := "kind", type := 110, offset := 6, embedded := false, tag := "", pkgPath := "larder/ask", byteOffset := 80 } rfl)
  obtain ⟨q5, h5⟩ := at_of e2 (i := 5) rfl (hat 5 { name := "action", type := 9, offset := 7, embedded := false, tag := "", pkgPath := "larder/ask", byteOffset := 88 } rfl)
  obtain ⟨q6, h6⟩ := at_of e2 (i := 6) rfl (hat 6 { name := "hasBody", type := 4, offset := 8, embedded := false, tag := "", pkgPath := "larder/ask", byteOffset := 104 } rfl)
  dsimp only at h0 h1 h2 h3 h4 h5 h6
  rw [c_str] at h0 h5
  rw [c_bool] at h1 h6
  rw [c_three] at h2
  rw [c_int] at h3
  rw [c_kind] at h4
  have r0:[x0]=[str m]:=leaf_str Tryz.underlying9 h0
  have r1:[x1]=[.bool pb]:=leaf_bool Tryz.underlying4 h1
  have r2:[x2,x3,x4]=[str a,str b,str c]:=three_cells h2
  have r3:[x5]=[.int .i64 n]:=leaf_int Tryz.underlying3 h3
  have r4:[x6]=[.int .i64 k]:=leaf_int Tryz.underlying110 h4
  have r5:[x7]=[str act]:=leaf_str Tryz.underlying9 h5
  have r6:[x8]=[.bool yb]:=leaf_bool Tryz.underlying4 h6
  have s1:=(List.cons.inj r2).2
  have s2:=(List.cons.inj s1).2
  rw [(List.cons.inj r0).1,(List.cons.inj r1).1,(List.cons.inj r2).1,(List.cons.inj s1).1,(List.cons.inj s2).1,(List.cons.inj r3).1,(List.cons.inj r4).1,(List.cons.inj r5).1,(List.cons.inj r6).1];rfl
theorem chunks:∀ (k:Nat) (l:List Value),l.length=k*9→l=(List.range k).flatMap (fun i=>(l.drop (i*9)).take 9)
 | 0,l,h=>by simp at h;simp [h]
 | k+1,l,h=>by
  have ih:=chunks k (l.drop 9) (by rw [List.length_drop];omega)
  rw [List.range_succ_eq_map,List.flatMap_cons,List.flatMap_map]
  have e:(fun i=>List.take 9 (List.drop ((i+1)*9) l))=fun i=>List.take 9 (List.drop (i*9) (l.drop 9)):=by
   funext i;rw [List.drop_drop];congr 2;omega
  simp only [Nat.zero_mul,List.drop_zero,Nat.succ_eq_add_one]
  rw [e,← ih,List.take_append_drop]
theorem rows_cells (h:DataW.trod enc Tryz.prog w base sp held fuel 279 cs=some (Rows.laid_larder_ask_rows,p)):cs=rowsC.flatten:=by
 obtain ⟨xs,m,rfl,e,hl,hx,hat⟩:=DataW.trod_array Tryz.underlying279 h
 unfold Rows.laid_larder_ask_rows at e
 have e1:=congrArg Prod.fst e
 have e2:=agg_inj e1
 rw [c_row] at hat
 rw [c_rows] at hl
 rw [chunks 9 cs (by omega),show List.range 9=[0,1,2,3,4,5,6,7,8] from rfl]
 obtain ⟨q0,h0⟩:=at_of e2 (i:=0) rfl (hat 0 (by omega))
 obtain ⟨q1,h1⟩:=at_of e2 (i:=1) rfl (hat 1 (by omega))
 obtain ⟨q2,h2⟩:=at_of e2 (i:=2) rfl (hat 2 (by omega))
 obtain ⟨q3,h3⟩:=at_of e2 (i:=3) rfl (hat 3 (by omega))
 obtain ⟨q4,h4⟩:=at_of e2 (i:=4) rfl (hat 4 (by omega))
 obtain ⟨q5,h5⟩:=at_of e2 (i:=5) rfl (hat 5 (by omega))
 obtain ⟨q6,h6⟩:=at_of e2 (i:=6) rfl (hat 6 (by omega))
 obtain ⟨q7,h7⟩:=at_of e2 (i:=7) rfl (hat 7 (by omega))
 obtain ⟨q8,h8⟩:=at_of e2 (i:=8) rfl (hat 8 (by omega))
 simp only [List.flatMap_cons,List.flatMap_nil]
 rw [row_cells h0,row_cells h1,row_cells h2,row_cells h3,row_cells h4,row_cells h5,row_cells h6,row_cells h7,row_cells h8]
 rfl
end
theorem gR : Tryz.prog.globalNamed "larder/ask.rows" = some 3 := by kernel_rfl
theorem gRType:(Tryz.prog.globals[3]?).map (·.type)=some 279:=by kernel_rfl
theorem rows_of {W : World} {r : List (String × DataW Unit)} (h : laidMet Tryz.prog (("larder/ask.rows", Rows.laid_larder_ask_rows) :: r) W) : ∀ j u, rowsC.flatten[j]? = some u → W.cell? ⟨3, j, none⟩ = some u := by
 obtain ⟨ps,⟨g',t',cs,fuel,p,q,hg',ht',hvar,hd,_,_⟩,_⟩:=h
 obtain rfl:=Option.some.inj (gR.symm.trans hg')
 obtain rfl:=Option.some.inj (gRType.symm.trans ht')
 have e:=rows_cells hd
 intro j u hj
 have:=World.var?_cell gR hvar j
 rw [this]
 rw [← e] at hj
 simpa using hj
theorem gG : Tryz.prog.globalNamed "strconv.ErrRange" = some 10 := by kernel_rfl
theorem gGType:(Tryz.prog.globals[10]?).map (·.type)=some 80:=by kernel_rfl
theorem gY : Tryz.prog.globalNamed "strconv.ErrSyntax" = some 9 := by kernel_rfl
theorem gYType:(Tryz.prog.globals[9]?).map (·.type)=some 80:=by kernel_rfl
theorem gM : Tryz.prog.globalNamed "larder/kept.errNoRoom" = some 5 := by kernel_rfl
theorem gMType:(Tryz.prog.globals[5]?).map (·.type)=some 80:=by kernel_rfl
theorem iface_cells {H:Type} {enc:TypeId×Value→H} {P:Program} {w:World} {base:Nat} {sp:Nat→Bool} {held:Bool} {fuel:Nat} {cs:List Value} {p:List MemPlace} {t:TypeId} {ms:Array (String×TypeId)} {nm:String} {d:DataW H} (ht:P.underlying t=some (.interface ms)) (h:DataW.trod enc P w base sp held fuel t cs=some (.iface nm d,p)):∃ u v,cs=[.iface u v]:=by
 cases fuel with
 | zero=>simp [DataW.trod] at h
 | succ n =>
  unfold DataW.trod at h
  rw [ht] at h
  split at h <;> simp_all
theorem sentinel_of {W:World} {n nm:String} {d:DataW Unit} {r:List (String×DataW Unit)} {g:Nat} (h:laidMet Tryz.prog ((n,.iface nm d) :: r) W) (hg:Tryz.prog.globalNamed n=some g) (ht:(Tryz.prog.globals[g]?).map (·.type)=some 80):∃ t p,W.cell? ⟨g,0,none⟩=some (.iface t p):=by
 obtain ⟨ps,⟨g',t',cs,fuel,p,q,hg',ht',hvar,hd,_,_⟩,_⟩:=h
 obtain rfl:=Option.some.inj (hg.symm.trans hg')
 obtain rfl:=Option.some.inj (ht.symm.trans ht')
 obtain ⟨u,v,e⟩:=iface_cells Tryz.underlying80 hd
 have:=World.var?_cell hg hvar 0
 refine ⟨u,v,?_⟩
 rw [this]
 rw [show cs=#[.iface u v] by cases cs;simpa using e]
 rfl
theorem last_row:(((begin Tryz.prog (fun _ _=>0) default).world.heap[13 - 1]?).bind Obj.row?).isSome=true:=by kernel_rfl
theorem sz_of {W:World} (h:W.ShapedOpen Tryz.prog):13≤W.heap.size:=by
 obtain ⟨x,hx⟩:=Option.isSome_iff_exists.1 last_row
 obtain ⟨cs,hc,_⟩:=h.1 (13 - 1) x.1 x.2 (of_decide_eq_true (by kernel_rfl)) hx
 have:=(Array.getElem?_eq_some_iff.1 hc).1
 omega
theorem gl_at {W:World} (h:laidMetH Tryz.prog Rows.signedRow.laid W) (hsh:W.ShapedOpen Tryz.prog):GL W:=by
 obtain ⟨h1,hh⟩:=parts h
 have h3:=laidMet.tail (laidMet.tail h1)
 have h4:=laidMet.tail h3
 have h5:=laidMet.tail h4
 have h7:=laidMet.tail (laidMet.tail h5)
 have h8:=laidMet.tail h7
 have h9:=laidMet.tail h8
 have h10:=laidMet.tail h9
 have tP : Lib.TabIs Tryz.prog W "internal/strconv.uint64pow10" .u64 Lib.pow10Tab := Lib.tabIs_of_head gP gPType Tryz.underlying261 Tryz.underlying199 cellsU cellsP h3
 have tS : Lib.TabIs Tryz.prog W "larder/mark.firstState" .u32 zS := Lib.tabIs_of_head gS gSType Tryz.underlying196 Tryz.underlying195 cells1 cells8 h4
 have tK : Lib.TabIs Tryz.prog W "larder/mark.roundWords" .u32 zK := Lib.tabIs_of_head gK gKType Tryz.underlying312 Tryz.underlying195 cells1 cells64 h5
 have cS:∀ j,j < 8→W.cell? ⟨0,j,none⟩=some (.int .u32 (hL.getD j 0:Nat)):=fun j hj=>by rw [tS.cell gS j (by rw [zS_len];exact hj),zS_get j hj]
 have cK:∀ j,j < 64→W.cell? ⟨4,j,none⟩=some (.int .u32 (kL.getD j 0:Nat)):=fun j hj=>by rw [tK.cell gK j (by rw [zK_len];exact hj),zK_get j hj]
 have hm:∃ m,W.cell? ⟨6,0,none⟩=some (.int .i64 m):=Go.Proofs.cell_of_shapedOpen_int (zero:=#[.int .i64 0]) (t:=3) hsh (of_decide_eq_true (by kernel_rfl)) (by kernel_rfl) rfl (by kernel_rfl) (by kernel_rfl) Tryz.underlying3
 have hsz:=sz_of hsh
 refine ⟨⟨hm,tP,?_⟩,⟨cK,cS,cell_lt (cK 0 (by omega)),cell_lt (cS 0 (by omega))⟩,handle_of hh,sentinel_of h10 gM gMType,sentinel_of h8 gY gYType,sentinel_of h7 gG gGType,rows_of h9,hsz⟩
 exact Nat.le_trans P.gTop_le hsz
def flat:DataW Unit→List Value
 | .lit (.int k z)=>[.int k z]
 | .lit (.bool b)=>[.bool b]
 | .lit (.string l)=>[.string ⟨l.toArray⟩]
 | .agg ps=>flats ps
 | _=>[]
 where flats:List (DataW Unit)→List Value
 | []=>[]
 | d :: r=>flat d++flats r
def put (cs:List Value):Obj→Obj
 | .cells _ t frozen=>.cells cs.toArray t frozen
 | o=>o
abbrev text0:List UInt8:=[118,97,108,117,101,32,111,117,116,32,111,102,32,114,97,110,103,101]
abbrev text1:List UInt8:=[105,110,118,97,108,105,100,32,115,121,110,116,97,120]
abbrev text2:List UInt8:=[116,104,101,32,108,111,103,32,104,97,115,32,110,111,32,114,111,111,109,32,102,111,114,32,116,104,101,32,102,114,97,109,101]
def laidHeap (h:Array Obj) (n:Nat):Array Obj :=
 (((((((((((((((h.modify 7 (put (flat Rows.laid_math_bits_deBruijn32tab))).modify 8 (put (flat Rows.laid_math_bits_deBruijn64tab))).modify 2 (put (flat Rows.laid_internal_strconv_uint64pow10))).modify 0 (put (flat Rows.laid_larder_mark_firstState))).modify 4 (put (flat Rows.laid_larder_mark_roundWords))).modify 12 (put (flat Rows.laid_unicode_utf8_acceptRanges))).modify 11 (put (flat Rows.laid_unicode_utf8_first))).modify 3 (put (flat Rows.laid_larder_ask_rows))).modify 1 (put [.iface 264 (.agg #[.pointer (some ⟨13,80,none⟩)])])).modify 10 (put [.iface 370 (.pointer (some ⟨n,0,none⟩))])).modify 9 (put [.iface 370 (.pointer (some ⟨n+1,0,none⟩))])).modify 5 (put [.iface 370 (.pointer (some ⟨n+2,0,none⟩))])).push (.cells #[.string ⟨text0.toArray⟩] 372 (0,0))).push (.cells #[.string ⟨text1.toArray⟩] 372 (0,0))).push (.cells #[.string ⟨text2.toArray⟩] 372 (0,0)))
noncomputable def laidWorld (os:Os):World :=
 { World.holding Tryz.prog os ⟨#[],#[],[]⟩ with heap:=laidHeap (World.holding Tryz.prog os ⟨#[],#[],[]⟩).heap (World.holding Tryz.prog os ⟨#[],#[],[]⟩).heap.size }
end Go.Proofs.YtbllcgibmgbnjaaGreatDoor.E
