import Derived.Test.YtbllcgibmgbnjaaGreatDoorM13
import Derived.Test.YtbllcgibmgbnjaaGreatDoorM02
import Derived.Deep.QuietTactic
import Derived.BigQuiet
import Derived.Deep.RegionLaw
import Derived.Sort.OwnSorted
import Derived.Deep.RegionHeld3
import Derived.Test.YtbllcgibmgbnjaaGreatDoorM07
import Derived.Test.YtbllcgibmgbnjaaGreatDoorM06
set_option maxHeartbeats 4000000
set_option maxRecDepth 20000
namespace Go.Proofs.YtbllcgibmgbnjaaGreatDoor.R
open Go.RowKit
open C (ret_bool ret_int)
theorem must_any (n:Bs) (w:World):Calls Tryz.prog 101 #[str n] w fun e w'=>e=.returned (.bool (must n))∧w=w':=by
 have HM:Hid (must n=(n == [104,111,115,116] || n == [108,101,110,103,116,104] || ([120,45]:Bs).isPrefixOf n)):=rfl
 have C:Hid (_):=pre_r n [120,45]
 by_cases h1:n=[104,111,115,116]
 ·subst h1
  go_enter Tryz.func101,Tryz.ntmps101
  go_wp2
  go_ret
  exact ⟨rfl,rfl⟩
 ·by_cases h2:n=[108,101,110,103,116,104]
  ·subst h2
   go_enter Tryz.func101,Tryz.ntmps101
   go_wp2
   go_ret
   exact ⟨rfl,rfl⟩
  ·have e1:(n == [104,111,115,116])=false:=by simpa using h1
   have e2:(n == [108,101,110,103,116,104])=false:=by simpa using h2
   clear h1 h2
   rw [e1,e2] at HM
   go_enter Tryz.func101,Tryz.ntmps101
   go_wp2_with (go_at_call 144;refine (C.out _).mono ?_;rintro e w' ⟨rfl,rfl⟩)
   go_ret
   exact ⟨ret_bool HM.out.symm,rfl⟩
theorem find_r (v:Value) (l:Ps) (n:Bs) (B:Nat) (w:World) (h:phold w B v l) (hB:B≤w.heap.size) (hl:l.length≤1000000000) :
  Calls Tryz.prog 100 #[v,str n] w fun e w'=>e=.returned (.tuple #[str ((findP l n).getD []),.bool (findP l n).isSome])∧Below w.heap.size w w':=by
 rw [← findEnd_eq];exact find_any v l n B w h hB hl
theorem misses_take {hs s:Ps} {k:Nat} (h:k < hs.length) (h0:misses (hs.take k) s=false):misses (hs.take (k+1)) s=(must hs[k].1 && (findP s hs[k].1).isNone):=by
 rw [List.take_succ_eq_append_getElem h,misses,List.any_append]
 unfold misses at h0
 rw [h0];simp
theorem misses_hit {hs s:Ps} {k:Nat} (h:k < hs.length) (h0:(must hs[k].1 && (findP s hs[k].1).isNone)=true):misses hs s=true:=by
 unfold misses
 rw [List.any_eq_true]
 exact ⟨hs[k],List.getElem_mem h,h0⟩
theorem misses_any (v sv:Value) (hs s:Ps) (w:World) (h:phold w w.heap.size v hs) (h2:phold w w.heap.size sv s) (hl:hs.length≤1000000) (hl2:s.length≤3000000) :
  Calls Tryz.prog 69 #[v,sv] w fun e w'=>e=.returned (.bool (misses hs s))∧Below w.heap.size w w':=by
 rcases h with ⟨rfl,rfl⟩|⟨g,cap,rfl,hg,hc⟩
 ·go_enter Tryz.func69,Tryz.ntmps69
  go_wp2
  go_loop [11] (fun i=>i=.int .i64 0) (fun _=>0)
  case atStart=>rfl
  case round =>
   subst hrel
   go_wp2
   go_ret
   exact ⟨rfl,Below.refl _ _⟩
 ·go_enter Tryz.func69,Tryz.ntmps69
  go_wp2
  go_loopw [11] (fun i wr=>∃ k:Nat,k≤hs.length∧i=.int .i64 k∧misses (hs.take k) s=false∧Below w.heap.size w wr) (fun i _=>hs.length - (intOf i).toNat)
  case atStart=>exact ⟨0,Nat.zero_le _,rfl,by simp [misses],Below.refl _ _⟩
  case round =>
   obtain ⟨k,hk,rfl,hno,hb⟩:=hrel
   have HN:Hid (misses (hs.take k) s=false):=hno
   clear hno
   have hsz:=hb.size
   by_cases hlt:k < hs.length
   ·obtain ⟨c1,c2⟩:=hc k hlt
    replace c1:=(hb.cell (p:=⟨g,k*2,none⟩) (show g < w.heap.size by omega)).trans c1
    replace c2:=(hb.cell (p:=⟨g,k*2+1,none⟩) (show g < w.heap.size by omega)).trans c2
    have HS:Hid (misses (hs.take (k+1)) s=(must hs[k].1 && (findP s hs[k].1).isNone)):=misses_take hlt HN.out
    have HH:Hid ((must hs[k].1 && (findP s hs[k].1).isNone)=true→misses hs s=true):=misses_hit hlt
    clear hc
    generalize hs[k]=p at *
    obtain ⟨pn,pv⟩:=p
    simp only at c1 c2 HS HH
    have C:Hid (_):=find_r sv s pn
    have M:Hid (_):=must_any pn
    have hb1:Below w.heap.size w (wr.alloc (.cells #[str pn,str pv] 109)):=hb.alloc hsz _
    go_wp2_with fail
    refine (C.out w.heap.size _ (h2.below hb1) (by simp;omega) (by omega)).mono ?_
    rintro e w2 ⟨rfl,hb2⟩
    have hb3:Below w.heap.size w w2:=hb1.trans (hb2.mono (by simp;omega))
    have c3:w2.cell? ⟨wr.heap.size,0,none⟩=some (str pn):=(hb2.cell (p:=⟨wr.heap.size,0,none⟩) (by simp)).trans (by simp [go_sem])
    have hz2:=hb2.size
    clear hb1 hb2
    cases hf:findP s pn with
    | some u =>
     rw [hf] at HS
     simp only [Option.getD_some,Option.isSome_some]
     go_wp2
     go_roundw
     case rel=>exact ⟨k+1,by omega,by go_num,by rw [HS.out];simp,hb3⟩
     case measure=>simp [intOf];omega
    | none =>
     rw [hf] at HS HH
     simp only [Option.getD_none,Option.isSome_none]
     cases hm:must pn with
     | true =>
      rw [hm] at M
      go_wp2_with (go_at_call 101;refine (M.out _).mono ?_;rintro e w' ⟨rfl,rfl⟩)
      go_ret
      exact ⟨ret_bool (HH.out (by rw [hm];rfl)).symm,hb3⟩
     | false =>
      rw [hm] at M
      go_wp2_with (go_at_call 101;refine (M.out _).mono ?_;rintro e w' ⟨rfl,rfl⟩)
      go_roundw
      case rel=>exact ⟨k+1,by omega,by go_num,by rw [HS.out,hm];rfl,hb3⟩
      case measure=>simp [intOf];omega
   ·have HT:Hid (misses hs s=false):=by have:=HN.out;rwa [List.take_of_length_le (by omega)] at this
    go_wp2
    go_ret
    exact ⟨ret_bool HT.out.symm,hb⟩
theorem pick_no {hs:Ps} {la n:Bs} {r:List Bs} (h:findP hs n=none):pickFrom hs la (n :: r)=none:=by unfold pickFrom;rw [h]
theorem pick_bad {hs:Ps} {la n v:Bs} {r:List Bs} (h:findP hs n=some v) (k:n≤la∨n=[97,117,116,104]):pickFrom hs la (n :: r)=none:=by unfold pickFrom;rw [h];simp only;rw [if_pos k]
theorem pick_ok {hs:Ps} {la n v:Bs} {r:List Bs} (h:findP hs n=some v) (k1:¬ n≤la) (k2:n≠[97,117,116,104]):pickFrom hs la (n :: r)=(pickFrom hs n r).map ((n,v) :: ·):=by
 conv=>lhs;unfold pickFrom
 rw [h];simp only;rw [if_neg (fun k=>k.elim k1 k2)]
theorem map_app {x y:Option Ps} {o:Ps} {p:Bs×Bs} {z:Option Ps} (h1:x=y.map (o++·)) (h2:y=z.map (p :: ·)):x=z.map ((o++[p])++·):=by
 rw [h1,h2];cases z <;> simp
theorem pick_any (v:Value) (hs:Ps) (l:Bs) (w:World) (h:phold w w.heap.size v hs) (E:Env w) (hl:hs.length≤1000000) (hl2:l.length≤2000000) :
  Calls Tryz.prog 68 #[v,str l] w fun e w'=>prPost w (pickFrom hs [] (namesOf l)) e w':=by
 have hE:=E.sz
 have h0:(l=[]∧namesOf l=[])∨(l≠[]∧namesOf l=Lib.split l [59]):=by
  by_cases h:l=[]
  ·exact .inl ⟨h,by simp [namesOf,h]⟩
  ·exact .inr ⟨h,by simp [namesOf,h]⟩
 have C:Hid (_):=fun x=>cut_r x [59]
 have F:Hid (_):=find_r v hs
 generalize hN:pickFrom hs [] (namesOf l)=N at *
 rcases h0 with ⟨rfl,hn⟩|⟨hne,hn⟩
 ·have HX:Hid (N=some []):=by show _=_;rw [← hN,hn];rfl
  clear hN hn
  go_enter Tryz.func68,Tryz.ntmps68
  go_wp2
  go_loop [1,6,7,8] (fun x v la m=>x=str []∧v=nilP∧la=str []∧m=.bool false) (fun _ _ _ _=>0)
  case atStart=>exact ⟨rfl,rfl,rfl,rfl⟩
  case round =>
   obtain ⟨rfl,rfl,rfl,rfl⟩:=hrel
   go_wp2
   go_ret2
   rw [HX.out]
   exact ⟨Below.refl _ _,_,rfl,prow_nil _ _⟩
 ·have HX:Hid (N=(pickFrom hs [] (Lib.split l [59])).map ([]++·)):=by show _=_;rw [← hN,hn];simp
  clear hN hn
  have e0:(l == [])=false:=by simpa using hne
  go_enter Tryz.func68,Tryz.ntmps68
  go_wp2
  go_loopw [1,6,7,8] (fun x v la m wr=>(∃ (o:Ps) (r a:Bs),x=str r∧prow wr w.heap.size v o∧la=str a∧m=.bool true∧Below w.heap.size w wr∧N=(pickFrom hs a (Lib.split r [59])).map (o++·)∧r.length≤2000000∧o.length+r.length≤l.length) ∨
   (∃ (o:Ps) (a:Bs),x=str []∧prow wr w.heap.size v o∧la=str a∧m=.bool false∧Below w.heap.size w wr∧N=some o)) (fun x _ _ m _=>2*lenS x+moreN m)
  case atStart=>exact .inl ⟨[],l,[],rfl,prow_nil _ _,rfl,rfl,Below.refl _ _,HX.out,hl2,by simp⟩
  case round =>
   clear HX
   rcases hrel with ⟨o,r,a,rfl,hrow,rfl,rfl,hb,hsp,hr,hor⟩|⟨o,a,rfl,hrow,rfl,rfl,hb,hsp⟩
   ·have HS:Hid (N=(pickFrom hs a (Lib.split r [59])).map (o++·)):=hsp
    clear hsp
    obtain ⟨W,rfl⟩:∃ W,W=wr:=⟨_,rfl⟩
    have hcl:=cut_len [59] r
    have S1:=@split_more r [59] (by simp)
    have S2:=@split_last r [59] (by simp)
    have S3:=@cut_rest r [59]
    have hsz:=hb.size
    have C2:Hid (_):=C.out r
    have HL:Hid (lenS (str r)=r.length):=lenS_str r
    have EW:=E.below hb hE
    generalize Lib.cut r [59]=c at *
    obtain ⟨n,b,f⟩:=c
    simp only at S1 S2 S3 hcl
    have HSP:Hid (∃ rs,Lib.split r [59]=n :: rs∧(f=true→rs=Lib.split b [59])∧(f=false→rs=[]∧b=[])):=by
     cases f with
     | true=>exact ⟨_,S1 rfl,fun _=>rfl,fun h=>absurd h (by simp)⟩
     | false=>exact ⟨[],S2 rfl,fun h=>absurd h (by simp),fun _=>⟨rfl,S3 rfl⟩⟩
    clear S1 S2 S3
    obtain ⟨rs,hr1,hr2,hr3⟩:=HSP.out
    have HSQ:Hid (N=(pickFrom hs a (n :: rs)).map (o++·)):=by show _=_;rw [HS.out,hr1]
    clear HSP HS hr1
    have F2:Hid (_):=F.out n
    go_wp2_with (go_at_call 99;refine (C2.out _ EW (by omega)).mono ?_;rintro e w' ⟨rfl,k,rfl⟩)
    have hb0:Below w.heap.size w (W.drewN k):=below_drewN hb k
    refine (F2.out w.heap.size _ (h.below hb0) (by simp;omega) (by omega)).mono ?_
    rintro e w2 ⟨rfl,hb2⟩
    have row2:prow w2 w.heap.size u6 o:=(show prow (W.drewN k) w.heap.size u6 o from hrow).below hb2
    have hb3:Below w.heap.size w w2:=hb0.trans (hb2.mono (by simp;omega))
    have hz3:=hb3.size
    clear hb0 hb2 hb hrow EW C2 F2
    cases hf:findP hs n with
    | none =>
     have HP:Hid (N=none):=by show _=_;rw [HSQ.out,pick_no hf];rfl
     simp only [Option.getD_none,Option.isSome_none]
     go_wp2
     go_ret2
     exact prPost_no HP.out hb3
    | some u =>
     simp only [Option.getD_some,Option.isSome_some]
     rcases le_cases n a with ⟨hle,hbl⟩|⟨hle,hbl1,hbl2⟩|⟨hle,hbl1,hbl2⟩
     ·have HP:Hid (N=none):=by show _=_;rw [HSQ.out,pick_bad hf (.inl hle)];rfl
      clear hle
      go_wp2
      go_ret2
      exact prPost_no HP.out hb3
     ·have HP:Hid (N=none):=by show _=_;rw [HSQ.out,pick_bad hf (.inl hle)];rfl
      clear hle
      go_wp2
      go_ret2
      exact prPost_no HP.out hb3
     ·by_cases ha:n=[97,117,116,104]
      ·have HP:Hid (N=none):=by show _=_;rw [HSQ.out,pick_bad hf (.inr ha)];rfl
       have ha':(n == [97,117,116,104])=true:=by simpa using ha
       clear hle ha
       go_wp2
       go_ret2
       exact prPost_no HP.out hb3
      ·have HP:Hid (N=(pickFrom hs n rs).map ((o++[(n,u)])++·)):=map_app HSQ.out (pick_ok hf hle ha)
       have ha':(n == [97,117,116,104])=false:=by simpa using ha
       clear hle ha
       cases f with
       | true =>
        have HQ:Hid (N=(pickFrom hs n (Lib.split b [59])).map ((o++[(n,u)])++·)):=by show _=_;rw [← hr2 rfl];exact HP.out
        simp only [if_true,List.length_cons,List.length_nil] at hcl
        clear hr2 hr3 HP HSQ
        go_wp2_with (at_builtin;refine papp_law rfl _ _ rfl w.heap.size o (n,u) _ rfl (row2.alloc _) _ rfl _ (heap_alloc_new _ _) (by omega) (by simp;omega) ?_;intro v' w7 row7 hb7)
        go_roundw
        case rel=>exact .inl ⟨o++[(n,u)],b,n,rfl,row7,rfl,rfl,(hb3.alloc (by omega) _).trans hb7,HQ.out,by omega,by simp;omega⟩
        case measure=>rw [HL.out,lenS_str,moreN_t];omega
       | false =>
        obtain ⟨rfl,rfl⟩:=hr3 rfl
        have HQ:Hid (N=some (o++[(n,u)])):=by show _=_;rw [HP.out];simp [pickFrom]
        simp only [Bool.false_eq_true,if_false] at hcl
        clear hr2 hr3 HP HSQ
        go_wp2_with (at_builtin;refine papp_law rfl _ _ rfl w.heap.size o (n,u) _ rfl (row2.alloc _) _ rfl _ (heap_alloc_new _ _) (by omega) (by simp;omega) ?_;intro v' w7 row7 hb7)
        go_roundw
        case rel=>exact .inr ⟨o++[(n,u)],n,rfl,row7,rfl,rfl,(hb3.alloc (by omega) _).trans hb7,HQ.out⟩
        case measure=>rw [HL.out,lenS_str,moreN_f,moreN_t];omega
   ·have HX:Hid (prPost w N (.returned (.tuple #[u6,.bool true])) wr):=by
     show prPost _ _ _ _
     rw [hsp];exact ⟨hb,_,rfl,hrow⟩
    go_wp2
    go_ret2
    exact HX.out
end Go.Proofs.YtbllcgibmgbnjaaGreatDoor.R
namespace Go.Proofs.YtbllcgibmgbnjaaGreatDoor.C
open Go.RowKit
theorem up_hex (j n:Nat) (h:j < 16) (e:j=n):((⟨#[48,49,50,51,52,53,54,55,56,57,65,66,67,68,69,70]⟩:ByteArray)[j]'h)=hexD n:=by
 subst e
 apply UInt8.toNat_inj.1
 rw [up_at j h,hexD_toNat j h]
theorem and15 (c:UInt8):bits BinOp.and IntKind.u8 (c.toNat:Int) 15=(c.toNat:Int) % 16:=by
 have hb:=c.toNat_lt
 exact u8_and15 (x:=(c.toNat:Int)) (by omega) (by omega)
theorem hexs_map (c:UInt8) (h1 h2):#[Value.int .u8 37,Value.int .u8 (((⟨#[48,49,50,51,52,53,54,55,56,57,65,66,67,68,69,70]⟩:ByteArray)[((c.toNat:Int) / 16).toNat]'h1).toNat:Int),
  Value.int .u8 (((⟨#[48,49,50,51,52,53,54,55,56,57,65,66,67,68,69,70]⟩:ByteArray)[((c.toNat:Int) % 16).toNat]'h2).toNat:Int)]=([37,hexD (c.toNat / 16),hexD (c.toNat % 16)].map u8v).toArray:=by
 rw [up_hex _ (c.toNat / 16) h1 (by omega),up_hex _ (c.toNat % 16) h2 (by omega)]
 rfl
theorem encode_any (s:ByteArray) (p:Bool) (w:World) (hs:s.size≤1000000000) :
  Calls Tryz.prog 30 #[.string s,.bool p] w fun e w'=>e=.returned (.string ⟨(enc p s.data.toList).toArray⟩)∧Below w.heap.size w w':=by
 obtain ⟨i0,hi,hz0,hz1,hz2⟩:=info_parts Tryz.info5
 go_enter Tryz.func30,Tryz.ntmps30
 go_wp2_with (at_make;refine wpList_make_own _ rfl _ _ 70 rfl w.heap.size 5 i0 (.int .u8 0) 1 Tryz.underlying70 hi hz0 hz1 .i64 .i64 _ s.size rfl rfl rfl (by rw [hz2];omega) (by unfold maxLen;omega) (Nat.le_refl _) ?_;intro w1 hown1 hg1)
 go_loopw [5,13] (fun v i wr=>∃ k:Nat,k≤s.size∧i=.int .i64 k∧owns wr w.heap.size v (enc p (s.data.toList.take k))∧Below w.heap.size w wr) (fun _ i _=>s.size - (intOf i).toNat)
 case atStart=>exact ⟨0,Nat.zero_le _,rfl,by simpa [owns,enc] using hown1,(Below.refl _ _).grown hg1 (Nat.le_refl _) (by simp)⟩
 case round =>
  obtain ⟨k,hk,rfl,hown,hbel⟩:=hrel
  clear hown1 hg1 hi hz0 hz1 hz2 i0
  have hsz:=hbel.size
  have hel:=enc_len p (s.data.toList.take k)
  have hel2:(s.data.toList.take k).length≤k:=List.length_take_le _ _
  have hel3:(enc p (s.data.toList.take k)).length≤3*k:=by omega
  clear hel hel2
  by_cases hlt:k < s.size
  ·have HS:Hid (enc p (s.data.toList.take (k+1))=enc p (s.data.toList.take k)++enc1 p s[k]):=by rw [take_snoc s k hlt];exact enc_snoc _ _ _
   cases hpl:plainB (s[k].toNat:Int) p
   ·go_wp2_with (go_at_call 46;refine (isPlain_any _ _ _).mono ?_;rintro e w' ⟨rfl,rfl⟩)
    generalize hcg:s[k]=c at *
    have HC:Hid (s[k]=c):=hcg
    clear hcg
    have hb:=c.toNat_lt
    have q1:(0:Int)≤(c.toNat:Int) / 16:=by omega
    have q2:(c.toNat:Int) / 16 < 16:=by omega
    have q3:(0:Int)≤(c.toNat:Int) % 16:=by omega
    have q4:(c.toNat:Int) % 16 < 16:=by omega
    have q5:=and15 c
    go_region_law ((refine app_step rfl _ _ rfl w.heap.size _ [37,hexD (c.toNat / 16),hexD (c.toNat % 16)] _ rfl (hown.alloc _) _ 3 rfl rfl _ ((heap_alloc_new _ _).trans (by rw [hexs_map])) (by omega) (by omega) (by simp;omega) ?_;intro v' w2 hown2 hb2))
    all_goals
     go_wp2
     go_roundw
     case rel=>exact ⟨k+1,by omega,by go_num,by rw [HS.out];simpa [enc1,hpl] using hown2,(hbel.alloc (by omega) _).drew.trans hb2⟩
     case measure=>simp [intOf];omega
   ·go_wp2_with (first|(go_at_call 46;refine (isPlain_any _ _ _).mono ?_;rintro e w' ⟨rfl,rfl⟩)|(at_builtin;refine app_law rfl _ _ rfl w.heap.size _ [s[k]] _ rfl (hown.alloc _) _ 1 rfl rfl _ (heap_alloc_new _ _) (by omega) (by omega) (by simp;omega) ?_;intro v' w2 hown2 hb2))
    go_roundw
    case rel=>exact ⟨k+1,by omega,by go_num,by rw [HS.out];simpa [enc1,hpl] using hown2,(hbel.alloc (by omega) _).trans hb2⟩
    case measure=>simp [intOf];omega
  ·have hcv:=hown.conv
   have HE:Hid (enc p (s.data.toList.take k)=enc p s.data.toList):=by show _=_;rw [List.take_of_length_le (by simp;omega)]
   go_wp2
   go_ret
   exact ⟨ret_str HE.out,hbel⟩
end Go.Proofs.YtbllcgibmgbnjaaGreatDoor.C
namespace Go.Proofs.YtbllcgibmgbnjaaGreatDoor.C
open Go.RowKit
def hexL (d:Nat→UInt8) (l:List UInt8):List UInt8:=l.flatMap fun c=>[d (c.toNat / 16),d (c.toNat % 16)]
theorem hexL_snoc (d:Nat→UInt8) (l:List UInt8) (c:UInt8):hexL d (l++[c])=hexL d l++[d (c.toNat / 16),d (c.toNat % 16)]:=by simp [hexL]
theorem hexL_len (d:Nat→UInt8) (l:List UInt8):(hexL d l).length=2*l.length:=by
 induction l with
 | nil=>rfl
 | cons c l ih=>simp [hexL] at *;omega
end Go.Proofs.YtbllcgibmgbnjaaGreatDoor.C
namespace Go.Proofs.YtbllcgibmgbnjaaGreatDoor.C
open Go.RowKit
theorem below_drewN {B:Nat} {a w:World} (h:Below B a w) (n:Nat):Below B a (w.drewN n):=h.trans ⟨rfl,rfl,rfl,Nat.le_refl _,fun _ _=>rfl⟩
theorem owns.drew {w:World} {B:Nat} {v:Value} {l:List UInt8} (h:owns w B v l):owns w.drew B v l:=h
end Go.Proofs.YtbllcgibmgbnjaaGreatDoor.C
namespace Go.Proofs.YtbllcgibmgbnjaaGreatDoor.R
open Go.RowKit Go.Sort
open C (ret_bool ret_int enc enc_len encode_any)
theorem heap_new_eq {w:World} {A B:Array Value} {t:TypeId} (h:A=B):(w.alloc (.cells A t)).heap[w.heap.size]?=some (.cells B t (0,0)):=by subst h;exact heap_alloc_new _ _
theorem sapp_step {w:World} {ops:Array Oper} {o:Oper} {a:Act} {K:Act→World→Prop} {Q:Exit→Act→World→Prop} {E:Prop} (hgd:o.guard=none) (s x:Operand)
  (ho:o.op=.call { callee:=.builtin .append,args:=#[s,x],argTypes:=#[61,61] })
  (B:Nat) (l:List Bs) (p:Bs) (v:Value) (hs:a.eval s=v) (hown:srow w B v l) (H:Nat) (hx:a.eval x=.slice (some ⟨H,0,none⟩) 1 1)
  (fr:Nat×Nat) (hblk:w.heap[H]?=some (.cells #[str p] 9 fr)) (hlen:l.length≤1000000000) (hB:B≤w.heap.size)
  (h:∀ v' w',srow w' B v' (l++[p])→w.grownBy w' v.ownBlock→Below B w w'→K (a.put o.dst v') w') :
  if Region.wanted o (yielded ops a.tmps)=true then Oper.wp Tryz.prog o a w K Q else E:=by
 obtain ⟨i0,hi,hz0,hz1,hz2⟩:=info_parts Tryz.infoS
 refine step_append_lies _ hgd s x 61 ho B 9 i0 (.string ⟨#[]⟩) 1 16 Tryz.underlying61 hi hz0 hz1 hz2 rfl (by omega) v l.length (l.map str) hs hown ⟨H,0,none⟩ 1 1 [str p] hx (by simp)
  (fun j u hu=>World.news_of_block hblk j u (by simpa using hu)) (by intro u hu;simp at hu;subst hu;rfl) (by omega) (by unfold maxLen;omega) (by omega) hB w.heap.size rfl ?_
 intro g cap w' h1 h2 _ _
 refine h _ w' ?_ h2 ((Below.refl B w).grown h2 hB hown.lt)
 unfold srow
 rw [List.length_append,List.map_append]
 exact h1
theorem encode_r (l:Bs) (p:Bool) (w:World) (hl:l.length≤1000000000):Calls Tryz.prog 30 #[str l,.bool p] w fun e w'=>e=.returned (str (enc p l))∧Below w.heap.size w w' :=
 encode_any ⟨l.toArray⟩ p w (by simp [ByteArray.size];omega)
abbrev sorted (l:List Bs):List Bs:=l.mergeSort fun x y=>decide (x≤y)
theorem map_enc (l:List Bs):l.map encStr=l.map str:=List.map_congr_left fun x _=>by simp [encStr]
theorem sort_r (v:Value) (l:List Bs) (B:Nat) (w:World) (h:srow w B v l) (hB:B≤w.heap.size) (hl:l.length≤1000000000) :
  Calls Tryz.prog 102 #[v] w fun e w'=>e=.returned (.tuple #[])∧srow w' B v (sorted l)∧Below B w w':=by
 have hown:=h.lt
 obtain ⟨h0,⟨rfl,hn⟩|⟨g,cap,cur,rfl,hbase,hb,h1,h2,h3,h4⟩⟩:=id h
 ·have:l=[]:=List.eq_nil_of_length_eq_zero hn
  subst this
  refine (Tryz.slices_Sort_string_none none 0 w).mono ?_
  rintro e w' ⟨rfl,rfl⟩
  exact ⟨rfl,by simpa [sorted] using h,Below.refl _ _⟩
 ·refine (Tryz.slices_Sort_string g 0 cap l w (holds_of_block hb (by rw [map_enc];simpa using h4)) (Array.getElem?_eq_some_iff.1 hb).1 (by omega)).mono ?_
  rintro e w' ⟨rfl,n,os,rfl⟩
  have hl':(sorted l).length=l.length:=List.length_mergeSort _
  refine ⟨rfl,?_,(Below.refl B w).grown (grownBy_sorted _) hB hown⟩
  have:=ownsRow_sorted (n:=n) (os:=os) (ss:=l) (ts:=sorted l) hl' hbase hb h1 h2 h3
  unfold srow
  rw [map_enc] at this
  rw [hl']
  exact this
theorem join_len (sep:Bs) (M:Nat):∀ l:List Bs,(∀ x∈l,x.length≤M)→(Lib.join l sep).length≤l.length*(M+sep.length):=by
 intro l
 induction l with
 | nil=>intro _;simp [Lib.join,List.intercalate]
 | cons a r ih =>
  intro h
  have ha:=h a (by simp)
  have ih':=ih (fun x hx=>h x (by simp [hx]))
  cases r with
  | nil=>rw [Lib.join_one];simp;omega
  | cons b r =>
   rw [join_cons2]
   simp only [List.length_append,List.length_cons] at ih' ⊢
   rw [Nat.succ_mul]
   omega
theorem map_back (l:List Bs):(l.map fun x:Bs=>(⟨x.toArray⟩:ByteArray)).map (·.data.toList)=l:=by
 induction l with
 | nil=>rfl
 | cons a r ih=>simp only [List.map_cons,ih]
theorem ret_str {a b:Bs} (h:a=b):Ending.returned (str a)=.returned (str b):=by rw [h]
theorem join_h (v:Value) (l:List Bs) (sep:Bs) (B:Nat) (w:World) (h:srow w B v l) (hl:l.length≤100000000) (hjl:(Lib.join l sep).length≤140737488355328) :
  Calls Tryz.prog 73 #[v,str sep] w fun e w'=>e=.returned (str (Lib.join l sep))∧Below w.heap.size w w':=by
 by_cases h0:l=[]
 ·subst h0
  obtain ⟨a,c,rfl⟩:=h.len
  refine (Tryz.strings_Join_none a c ⟨sep.toArray⟩ w).mono ?_
  rintro e w' ⟨rfl,rfl⟩
  exact ⟨by simp [Lib.join,List.intercalate],Below.refl _ _⟩
 ·obtain ⟨g,cap,e,hg,hg2,hc⟩:=h.form h0
  have hcap:l.length≤cap:=by
   obtain ⟨_,⟨e2,_⟩|⟨g2,cap2,cur,e2,_,_,h1,_⟩⟩:=h
   ·rw [e] at e2;cases e2
   ·rw [e] at e2;cases e2;exact h1
  subst e
  have e1:(l.map fun x:Bs=>(⟨x.toArray⟩:ByteArray)).map (·.data.toList)=l:=map_back l
  have:=Tryz.strings_Join g 0 cap (l.map fun x=>(⟨x.toArray⟩:ByteArray)) ⟨sep.toArray⟩ w (by
   intro j x hx
   rw [List.getElem?_map,Option.map_eq_some_iff] at hx
   obtain ⟨y,hy,rfl⟩:=hx
   obtain ⟨hj,rfl⟩:=List.getElem?_eq_some_iff.1 hy
   rw [Nat.zero_add]
   exact hc j hj) hg2 (by simp;omega) (by simpa using hcap) (by rw [e1];simp only;omega)
  rw [e1,List.length_map] at this
  exact this
theorem join_r (v:Value) (l:List Bs) (sep:Bs) (B:Nat) (w:World) (h:srow w B v l) (hl:l.length≤1000000) (hm:∀ x∈l,x.length≤100000000) (hs:sep.length≤1000) :
  Calls Tryz.prog 73 #[v,str sep] w fun e w'=>e=.returned (str (Lib.join l sep))∧Below w.heap.size w w':=by
 have hjl:=join_len sep 100000000 l hm
 have hjl2:l.length*(100000000+sep.length)≤1000000*(100000000+1000):=Nat.mul_le_mul hl (by omega)
 exact join_h v l sep B w h (by omega) (by omega)
def qs (q:Ps):List Bs:=(q.filter fun p=>!(p.1 == [120,45,115,105,103])).map pairText
theorem qs_take {q:Ps} {k:Nat} (h:k < q.length):qs (q.take (k+1))=if q[k].1=[120,45,115,105,103] then qs (q.take k) else qs (q.take k)++[pairText q[k]]:=by
 rw [List.take_succ_eq_append_getElem h,qs,List.filter_append,List.map_append]
 by_cases e:q[k].1=[120,45,115,105,103]
 ·simp [e,qs]
 ·simp [e,qs]
theorem qs_len (q:Ps):(qs q).length≤q.length:=by unfold qs;rw [List.length_map];exact List.length_filter_le _ _
theorem qs_mem {q:Ps} (hq:∀ p∈q,p.1.length≤1000000∧p.2.length≤1000000):∀ x∈qs q,x.length≤100000000:=by
 intro x hx
 unfold qs at hx
 rw [List.mem_map] at hx
 obtain ⟨p,hp,rfl⟩:=hx
 obtain ⟨h1,h2⟩:=hq p (List.mem_filter.1 hp).1
 have e1:=(enc_len false p.1).2
 have e2:=(enc_len false p.2).2
 simp only [pairText,List.length_append,List.length_cons,List.length_nil]
 omega
theorem sorted_mem {l:List Bs} {M:Nat} (h:∀ x∈l,x.length≤M):∀ x∈sorted l,x.length≤M:=fun x hx=>h x (List.mem_mergeSort.1 hx)
theorem canonQ_len {q:Ps} (hl:q.length≤1000000) (hq:∀ p∈q,p.1.length≤1000000∧p.2.length≤1000000):(canonQ q).length≤100000001000000:=by
 have h1:=join_len [38] 100000000 (sorted (qs q)) (sorted_mem (qs_mem hq))
 have h2:(sorted (qs q)).length≤1000000:=by rw [List.length_mergeSort];exact Nat.le_trans (qs_len q) hl
 have h3:(sorted (qs q)).length*(100000000+1)≤1000000*(100000000+1):=Nat.mul_le_mul h2 (Nat.le_refl _)
 show (Lib.join (sorted (qs q)) [38]).length≤_
 simp only [List.length_cons,List.length_nil] at h1
 omega
theorem canonQ_any (v:Value) (q:Ps) (w:World) (h:phold w w.heap.size v q) (hl:q.length≤1000000) (hq:∀ p∈q,p.1.length≤1000000∧p.2.length≤1000000) :
  Calls Tryz.prog 70 #[v] w fun e w'=>e=.returned (str (canonQ q))∧Below w.heap.size w w':=by
 have HM:Hid (∀ x∈qs q,x.length≤100000000):=qs_mem hq
 have HQL:=qs_len q
 have HC:Hid (canonQ q=Lib.join (sorted (qs q)) [38]):=rfl
 have JR:Hid (_):=join_r
 have SR:Hid (_):=sort_r
 rcases h with ⟨rfl,rfl⟩|⟨g,cap,rfl,hg,hc⟩
 ·go_enter Tryz.func70,Tryz.ntmps70
  go_wp2
  go_loop [3,8] (fun v i=>v=.slice none 0 0∧i=.int .i64 0) (fun _ _=>0)
  case atStart=>exact ⟨rfl,rfl⟩
  case round =>
   obtain ⟨rfl,rfl⟩:=hrel
   go_wp2_with fail
   refine (SR.out _ [] w.heap.size w (srow_nil _ _) (Nat.le_refl _) (by simp)).mono ?_
   rintro e w1 ⟨rfl,hr1,hb1⟩
   go_wp2_with fail
   refine (JR.out _ (sorted []) [38] w.heap.size w1 hr1 (by simp) (by simp [sorted]) (by simp)).mono ?_
   rintro e w2 ⟨rfl,hb2⟩
   have hb3:=hb1.trans (hb2.mono hb1.size)
   go_wp2
   go_ret
   exact ⟨ret_str (by rw [HC.out];simp [sorted,qs]),hb3⟩
 ·go_enter Tryz.func70,Tryz.ntmps70
  go_wp2
  go_loopw [3,8] (fun v i wr=>∃ k:Nat,k≤q.length∧i=.int .i64 k∧srow wr w.heap.size v (qs (q.take k))∧Below w.heap.size w wr) (fun _ i _=>q.length - (intOf i).toNat)
  case atStart=>exact ⟨0,Nat.zero_le _,rfl,srow_nil _ _,Below.refl _ _⟩
  case round =>
   obtain ⟨k,hk,rfl,hrow,hb⟩:=hrel
   have hsz:=hb.size
   by_cases hlt:k < q.length
   ·obtain ⟨c1,c2⟩:=hc k hlt
    replace c1:=(hb.cell (p:=⟨g,k*2,none⟩) (show g < w.heap.size by omega)).trans c1
    replace c2:=(hb.cell (p:=⟨g,k*2+1,none⟩) (show g < w.heap.size by omega)).trans c2
    have HS:Hid (qs (q.take (k+1))=if q[k].1=[120,45,115,105,103] then qs (q.take k) else qs (q.take k)++[pairText q[k]]):=qs_take hlt
    obtain ⟨l1,l2⟩:=hq q[k] (List.getElem_mem hlt)
    have hql:(qs (q.take k)).length≤1000000:=Nat.le_trans (qs_len _) (by rw [List.length_take];omega)
    clear hc HM HC
    generalize q[k]=p at *
    obtain ⟨pn,pv⟩:=p
    simp only [pairText] at c1 c2 HS l1 l2
    have e1:=(enc_len false pn).2
    have e2:=(enc_len false pv).2
    generalize qs (q.take k)=o at *
    have hb1:Below w.heap.size w (wr.alloc (.cells #[str pn,str pv] 109)):=hb.alloc hsz _
    by_cases hx:pn=[120,45,115,105,103]
    ·have hx':(pn == [120,45,115,105,103])=true:=by simpa using hx
     have HS2:Hid (qs (q.take (k+1))=o):=by show _=_;rw [HS.out,if_pos hx]
     clear hx
     go_wp2
     go_roundw
     case rel=>exact ⟨k+1,by omega,by go_num,by rw [HS2.out];exact hrow.alloc _,hb1⟩
     case measure=>simp [intOf];omega
    ·have hx':(pn == [120,45,115,105,103])=false:=by simpa using hx
     have HS2:Hid (qs (q.take (k+1))=o++[enc false pn++[61]++enc false pv]):=by show _=_;rw [HS.out,if_neg hx]
     clear hx HS
     have EN:Hid (_):=encode_r pn false
     have EV:Hid (_):=encode_r pv false
     have d1:(wr.alloc (.cells #[str pn,str pv] 109)).cell? ⟨wr.heap.size,0,none⟩=some (str pn):=by simp [go_sem]
     have d2:(wr.alloc (.cells #[str pn,str pv] 109)).cell? ⟨wr.heap.size,1,none⟩=some (str pv):=by simp [go_sem]
     have row0:=hrow.alloc (.cells #[str pn,str pv] 109)
     have hz0:wr.heap.size < (wr.alloc (.cells #[str pn,str pv] 109)).heap.size:=by simp
     have hne:some wr.heap.size≠u3.ownBlock:=fun e=>absurd (World.ownsRow.lt hrow _ e.symm).2 (by omega)
     have HC2:Hid (#[Value.string ((⟨(enc false pn).toArray⟩:ByteArray)++⟨#[61]⟩++⟨(enc false pv).toArray⟩)]=#[str (enc false pn++[61]++enc false pv)]):=by
      show _=_
      have e3:((⟨(enc false pn).toArray⟩:ByteArray)++⟨#[61]⟩)=⟨(enc false pn++[61]).toArray⟩:=str_app _ [61]
      rw [e3,str_app]
     go_wp2_with fail
     clear hrow hb c1 c2
     have f1:¬ 9223372036854775807 < (enc false pn).length+1:=by omega
     have f2:¬ 9223372036854775807 < (enc false pn).length+1+(enc false pv).length:=by omega
     generalize (wr.alloc (.cells #[str pn,str pv] 109))=W0 at *
     generalize wr.heap.size=b0 at *
     go_region_held3 (fun w'=>w'.cell? ⟨b0,0,none⟩=some (str pn)∧w'.cell? ⟨b0,1,none⟩=some (str pv)) (first|exact ⟨d1,d2⟩|exact ⟨cell_alloc d1 _,cell_alloc d2 _⟩|exact ⟨hg8.cell (cell_alloc d1 _) hne,hg8.cell (cell_alloc d2 _) hne⟩)
      (first
       | (go_at_call 30;refine (encode_r _ false _ (by omega)).mono ?_;rintro e w6 ⟨rfl,hb6⟩;replace d1:=(hb6.cell (p:=⟨b0,0,none⟩) hz0).trans d1;replace d2:=(hb6.cell (p:=⟨b0,1,none⟩) hz0).trans d2;replace hb1:Below w.heap.size w w6:=(by first|exact hb1.trans (hb6.mono hb1.size)|exact hb1.drew.trans (hb6.mono hb1.size));replace hz0:=Nat.lt_of_lt_of_le hz0 hb6.size;have hsz:=hb1.size;replace row0:srow w6 w.heap.size u3 o:=(by first|exact row0.below hb6|exact srow.below (w:=W0.drew) row0 hb6))
       | (refine sapp_step rfl _ _ rfl w.heap.size o (enc false pn++[61]++enc false pv) _ rfl (row0.alloc _) _ rfl _ (heap_new_eq HC2.out) (by omega) (by simp;omega) ?_;intro v' w8 row8 hg8 hb8))
     rename_i hHeld
     clear hHeld
     go_wp2
     go_roundw
     case rel=>exact ⟨k+1,by omega,by go_num,by rw [HS2.out];exact row8,(hb1.alloc hb1.size _).trans hb8⟩
     case measure=>simp [intOf];omega
   ·have HT:Hid (q.take k=q):=List.take_of_length_le (by omega)
    rw [HT.out] at hrow
    go_wp2_with fail
    refine (SR.out _ (qs q) w.heap.size wr hrow hsz (by omega)).mono ?_
    rintro e w1 ⟨rfl,hr1,hb1⟩
    have hz1:=hb1.size
    have hls:(sorted (qs q)).length=(qs q).length:=List.length_mergeSort _
    have HSM:Hid (∀ x∈sorted (qs q),x.length≤100000000):=sorted_mem HM.out
    go_wp2_with fail
    refine (JR.out _ (sorted (qs q)) [38] w.heap.size w1 hr1 (by omega) HSM.out (by simp)).mono ?_
    rintro e w2 ⟨rfl,hb2⟩
    have hb3:=(hb.trans hb1).trans (hb2.mono (by omega))
    go_wp2
    go_ret
    exact ⟨ret_str HC.out.symm,hb3⟩
open Go.RowKit
open C (ret_bool ret_int enc enc_len)
theorem sappL_law {w:World} {ops:Array Oper} {rest:List Oper} {o:Oper} {a:Act} {Q:Exit→Act→World→Prop} (hgd:o.guard=none) (s x:Operand)
  (ho:o.op=.call { callee:=.builtin .append,args:=#[s,x],argTypes:=#[61,61] })
  (B:Nat) (l m:List Bs) (n:Nat) (hn:m.length=n) (h0:0 < n) (v:Value) (hs:a.eval s=v) (hown:srow w B v l) (H:Nat) (hx:a.eval x=.slice (some ⟨H,0,none⟩) n n)
  (fr:Nat×Nat) (hblk:w.heap[H]?=some (.cells (m.map str).toArray 9 fr)) (hlen:l.length+n≤1000000000) (hB:B≤w.heap.size)
  (h:∀ v' w',srow w' B v' (l++m)→w.grownBy w' v.ownBlock→Below B w w'→wpList Tryz.prog ops Q rest (a.put o.dst v') w'):wpList Tryz.prog ops Q (o :: rest) a w:=by
 obtain ⟨i0,hi,hz0,hz1,hz2⟩:=info_parts Tryz.infoS
 subst hn
 refine wpList_append_lies _ hgd s x 61 ho B 9 i0 (.string ⟨#[]⟩) 1 16 Tryz.underlying61 hi hz0 hz1 hz2 rfl (by omega) v l.length (l.map str) hs hown ⟨H,0,none⟩ m.length m.length (m.map str) hx (by simp)
  (fun j u hu=>World.news_of_block hblk j u (by simpa using hu)) (by intro u hu;rw [List.mem_map] at hu;obtain ⟨y,_,rfl⟩:=hu;rfl) h0 (by unfold maxLen;omega) (by omega) hB w.heap.size rfl ?_
 intro g cap w' h1 h2 _ _
 refine h _ w' ?_ h2 ((Below.refl B w).grown h2 hB hown.lt)
 unfold srow
 rw [List.length_append,List.map_append]
 exact h1
theorem heap_new_at {w:World} {A B:Array Value} {t:TypeId} {H:Nat} (e:H=w.heap.size) (h:A=B):(w.alloc (.cells A t)).heap[H]?=some (.cells B t (0,0)):=by subst e;subst h;exact heap_alloc_new _ _
theorem srow_three {w:World} {B:Nat} (a b c:Bs) (hB:B≤w.heap.size):srow (w.alloc (.cells #[str a,str b,str c] 9)) B (.slice (some ⟨w.heap.size,0,none⟩) 3 3) [a,b,c] :=
 ⟨rfl,.inr ⟨w.heap.size,3,_,rfl,hB,heap_alloc_new _ _,Nat.le_refl _,by unfold maxLen;omega,rfl,rfl⟩⟩
theorem Env.call {w w':World} (E:Env w) (k:Below w.heap.size w w'):Env w':=E.below k E.sz
theorem phold.up {w:World} {B B':Nat} {v:Value} {l:Ps} (h:phold w B v l) (k:B≤B'):phold w B' v l:=by
 rcases h with h|⟨g,cap,rfl,hg,hc⟩
 ·exact .inl h
 ·exact .inr ⟨g,cap,rfl,by omega,hc⟩
theorem phold.call {w w':World} {v:Value} {l:Ps} (h:phold w w.heap.size v l) (k:Below w.heap.size w w'):phold w' w'.heap.size v l:=(h.below k).up k.size
def hashT (y:Bs):Bs:=hexL lowF (digest y)
def canonOf (m p:Bs) (q hs:Ps) (y list:Bs):Option Bs:=match pickFrom hs [] (namesOf list) with
 | none=>none
 | some s=>if misses hs s then none else some (canonText m p (canonQ q) s list (hashT y))
def cEnd:Option Bs→Ending
 | none=>.returned (.tuple #[str [],.int .i64 2])
 | some t=>.returned (.tuple #[str t,.int .i64 0])
theorem cEnd_no {o:Option Bs} (h:o=none):Ending.returned (.tuple #[str [],.int .i64 2])=cEnd o:=by rw [h];rfl
theorem cEnd_ok {o:Option Bs} {t:Bs} (h:o=some t):Ending.returned (.tuple #[str t,.int .i64 0])=cEnd o:=by rw [h];rfl
theorem names_len (l:Bs):(namesOf l).length≤l.length+1:=by
 unfold namesOf
 split
 ·simp
 ·exact split_len l [59] (by simp)
theorem pick_len {hs s:Ps} {list:Bs} (hl:list.length≤2000000) (h:pickFrom hs [] (namesOf list)=some s):s.length≤2000001:=by
 have e:=pick_names hs _ _ _ h
 have:=congrArg List.length e
 rw [List.length_map] at this
 have:=names_len list
 omega
theorem find_in {hs:Ps} {n v:Bs} (h:findP hs n=some v):(n,v)∈hs:=by
 induction hs with
 | nil=>cases h
 | cons p s ih =>
  unfold findP at h
  split at h
  ·rename_i e;cases h;subst e;simp
  ·simp [ih h]
theorem pick_mem {hs:Ps}:∀ (r:List Bs) (l:Bs) (s:Ps),pickFrom hs l r=some s→∀ x∈s,x∈hs:=by
 intro r
 induction r with
 | nil=>intro l s h;simp [pickFrom] at h;subst h;simp
 | cons n r ih =>
  intro l s h
  unfold pickFrom at h
  split at h
  ·cases h
  ·rename_i v hv
   split at h
   ·cases h
   ·rw [Option.map_eq_some_iff] at h
    obtain ⟨t,ht,rfl⟩:=h
    intro x hx
    rcases List.mem_cons.1 hx with rfl|hx
    ·exact find_in hv
    ·exact ih n t ht x hx
theorem phold.len {w:World} {B:Nat} {v:Value} {l:Ps} (h:phold w B v l):∃ a c,v=.slice a l.length c:=by
 rcases h with ⟨rfl,rfl⟩|⟨g,cap,rfl,hg,hc⟩
 ·exact ⟨none,0,rfl⟩
 ·exact ⟨_,cap,rfl⟩
theorem phold.at {w:World} {B n c:Nat} {a:Option Addr} {l:Ps} (h:phold w B (.slice a n c) l) {k:Nat} (hk:k < l.length):∃ g,some ⟨g,0,none⟩=a∧g < B∧w.cell? ⟨g,k*2,none⟩=some (str l[k].1)∧w.cell? ⟨g,k*2+1,none⟩=some (str l[k].2):=by
 rcases h with ⟨_,rfl⟩|⟨g,cap,h1,hg,hc⟩
 ·exact absurd hk (by simp)
 ·cases h1;exact ⟨g,rfl,hg,hc k hk⟩
theorem told_len {s:Ps} (h:∀ x∈s,x.1.length≤1000000∧x.2.length≤1000000):(told s).length≤s.length*2000002:=by
 induction s with
 | nil=>simp [told]
 | cons p s ih =>
  have h1:=h p (by simp)
  have h2:=ih (fun x hx=>h x (by simp [hx]))
  have e:told (p :: s)=(lineText p++[10])++told s:=by simp [told]
  rw [e]
  simp only [List.length_append,lineText,List.length_cons,List.length_nil]
  omega
theorem hashT_len (y:Bs):(hashT y).length=64:=by
 unfold hashT;rw [hexL_len,digest_len]
theorem canonText_len {m p q:Bs} {s:Ps} {list:Bs} {y:Bs} (b1:m.length≤1000000) (b2:p.length≤1000000) (b3:q.length≤100000001000000) (hsl:s.length≤2000001) (hsb:∀ x∈s,x.1.length≤1000000∧x.2.length≤1000000) (b7:list.length≤2000000) :
  (canonText m p q s list (hashT y)).length≤140737488355328:=by
 rw [canon_told]
 have h1:=told_len hsb
 have h2:=(enc_len true p).2
 have h3:=hashT_len y
 simp only [List.length_append,List.length_cons,List.length_nil]
 omega
theorem co_none {m p:Bs} {q hs:Ps} {y list:Bs} (h:pickFrom hs [] (namesOf list)=none):canonOf m p q hs y list=none:=by unfold canonOf;rw [h]
theorem co_miss {m p:Bs} {q hs s:Ps} {y list:Bs} (h:pickFrom hs [] (namesOf list)=some s) (k:misses hs s=true):canonOf m p q hs y list=none:=by unfold canonOf;rw [h];simp only;rw [if_pos k]
theorem co_some {m p:Bs} {q hs s:Ps} {y list:Bs} (h:pickFrom hs [] (namesOf list)=some s) (k:misses hs s=false):canonOf m p q hs y list=some (canonText m p (canonQ q) s list (hashT y)):=by
 unfold canonOf;rw [h];simp only;rw [if_neg (by rw [k];simp)]
theorem line_take {s:Ps} {k:Nat} (h:k < s.length) (a:List Bs):a++(s.take (k+1)).map lineText=(a++(s.take k).map lineText)++[s[k].1++[58]++s[k].2]:=by
 rw [List.take_succ_eq_append_getElem h,List.map_append,← List.append_assoc];rfl
structure CSt (w0:World) (B b:Nat) (m p y:Bs) (qv:Value) (q:Ps) (sv:Value) (s:Ps) (W:World):Prop where
 d0:W.cell? ⟨b,0,none⟩=some (str m)
 d1:W.cell? ⟨b,1,none⟩=some (str p)
 d2:W.cell? ⟨b,2,none⟩=some qv
 d4:W.cell? ⟨b,4,none⟩=some (str y)
 hz:b < B
 hB:B≤W.heap.size
 E:Env W
 gE:gTop≤B
 L:Laid W
 g1:4 < B
 g2:0 < B
 hq:phold W B qv q
 hs:phold W B sv s
 hw:Below b w0 W
theorem CSt.step {w0:World} {B b:Nat} {m p y:Bs} {qv:Value} {q:Ps} {sv:Value} {s:Ps} {W W':World} (h:CSt w0 B b m p y qv q sv s W) (k:Below B W W'):CSt w0 B b m p y qv q sv s W' :=
 ⟨(k.cell (p:=⟨b,0,none⟩) h.hz).trans h.d0,(k.cell (p:=⟨b,1,none⟩) h.hz).trans h.d1,(k.cell (p:=⟨b,2,none⟩) h.hz).trans h.d2,(k.cell (p:=⟨b,4,none⟩) h.hz).trans h.d4,h.hz,Nat.le_trans h.hB k.size,
  h.E.below k h.gE,h.gE,h.L.below k h.g1 h.g2,h.g1,h.g2,h.hq.below k,h.hs.below k,h.hw.trans (k.mono (Nat.le_of_lt h.hz))⟩
theorem CSt.call {w0:World} {B b:Nat} {m p y:Bs} {qv:Value} {q:Ps} {sv:Value} {s:Ps} {W W':World} (h:CSt w0 B b m p y qv q sv s W) (k:Below W.heap.size W W'):CSt w0 B b m p y qv q sv s W':=h.step (k.mono h.hB)
theorem CSt.drew {w0:World} {B b:Nat} {m p y:Bs} {qv:Value} {q:Ps} {sv:Value} {s:Ps} {W:World} (h:CSt w0 B b m p y qv q sv s W):CSt w0 B b m p y qv q sv s W.drew:=h.step (Below.refl _ _).drew
theorem CSt.alloc {w0:World} {B b:Nat} {m p y:Bs} {qv:Value} {q:Ps} {sv:Value} {s:Ps} {W:World} (h:CSt w0 B b m p y qv q sv s W) (o:Obj):CSt w0 B b m p y qv q sv s (W.alloc o):=h.step ((Below.refl _ _).alloc h.hB _)
theorem canon_any (m p:Bs) (q hs:Ps) (qv hv:Value) (y list:Bs) (w:World) (hq:phold w w.heap.size qv q) (hh:phold w w.heap.size hv hs) (E:Env w) (L:Laid w)
  (b1:m.length≤1000000) (b2:p.length≤1000000) (b3:q.length≤1000000) (b4:∀ p∈q,p.1.length≤1000000∧p.2.length≤1000000) (b5:hs.length≤1000000) (b6:y.length≤1000000) (b7:list.length≤2000000) (b8:∀ p∈hs,p.1.length≤1000000∧p.2.length≤1000000) :
  Calls Tryz.prog 48 #[.agg #[str m,str p,qv,hv,str y],str list] w fun e w'=>e=cEnd (canonOf m p q hs y list)∧Below w.heap.size w w':=by
 have hW:Below w.heap.size w (w.alloc (.cells #[str m,str p,qv,hv,str y] 97)):=(Below.refl _ _).alloc (Nat.le_refl _) _
 have d0:(w.alloc (.cells #[str m,str p,qv,hv,str y] 97)).cell? ⟨w.heap.size,0,none⟩=some (str m):=by simp [go_sem]
 have d1:(w.alloc (.cells #[str m,str p,qv,hv,str y] 97)).cell? ⟨w.heap.size,1,none⟩=some (str p):=by simp [go_sem]
 have d2:(w.alloc (.cells #[str m,str p,qv,hv,str y] 97)).cell? ⟨w.heap.size,2,none⟩=some qv:=by simp [go_sem]
 have d3:(w.alloc (.cells #[str m,str p,qv,hv,str y] 97)).cell? ⟨w.heap.size,3,none⟩=some hv:=by simp [go_sem]
 have d4:(w.alloc (.cells #[str m,str p,qv,hv,str y] 97)).cell? ⟨w.heap.size,4,none⟩=some (str y):=by simp [go_sem]
 have hz:w.heap.size < (w.alloc (.cells #[str m,str p,qv,hv,str y] 97)).heap.size:=by simp
 replace hq:=hq.call hW
 replace hh:=hh.call hW
 replace E:=E.call hW
 replace L:=L.call hW
 go_enter Tryz.func48,Tryz.ntmps48
 go_wp2_with fail
 refine (pick_any hv hs list _ hh E b5 b7).mono ?_
 rintro e w2 ⟨hb2,hm⟩
 generalize (w.alloc (.cells #[str m,str p,qv,hv,str y] 97))=W1 at *
 obtain ⟨b,hbe⟩:∃ b,w.heap.size=b:=⟨_,rfl⟩
 have HBE:Hid (w.heap.size=b):=hbe
 rw [hbe] at hW d0 d1 d2 d3 d4 hz
 simp only [hbe]
 clear hbe
 have HF:Hid (∀ W,Below b w W→Below w.heap.size w W):=fun W k=>by rw [HBE.out];exact k
 have hw2:Below b w w2:=hW.trans (hb2.mono (Nat.le_of_lt hz))
 replace d0:=(hb2.cell (p:=⟨b,0,none⟩) hz).trans d0
 replace d1:=(hb2.cell (p:=⟨b,1,none⟩) hz).trans d1
 replace d2:=(hb2.cell (p:=⟨b,2,none⟩) hz).trans d2
 replace d3:=(hb2.cell (p:=⟨b,3,none⟩) hz).trans d3
 replace d4:=(hb2.cell (p:=⟨b,4,none⟩) hz).trans d4
 replace hq:=hq.call hb2
 replace hh:=hh.call hb2
 replace E:=E.call hb2
 replace L:=L.call hb2
 have hz2:=hb2.size
 cases hp:pickFrom hs [] (namesOf list) with
 | none =>
  have CO:Hid (canonOf m p q hs y list=none):=co_none hp
  rw [hp] at hm
  simp only at hm
  subst hm
  go_wp2
  go_ret2
  exact ⟨cEnd_no CO.out,HF.out _ hw2⟩
 | some s =>
  rw [hp] at hm
  simp only at hm
  obtain ⟨sv,rfl,hrow⟩:=hm
  have hsl:s.length≤2000001:=pick_len b7 hp
  have hsb:∀ x∈s,x.1.length≤1000000∧x.2.length≤1000000:=fun x hx=>b8 x (pick_mem _ _ _ hp x hx)
  have S2:CSt w w2.heap.size b m p y qv q sv s w2:=⟨d0,d1,d2,d4,Nat.lt_of_lt_of_le hz hz2,Nat.le_refl _,E,E.sz,L,L.gk,L.gs,hq,hrow.hold,hw2⟩
  have hh2:=hh
  clear hh hq E L hw2 d0 d1 d2 d4 hb2 hW hrow
  go_wp2_with fail
  refine (misses_any hv sv hs s w2 hh2 S2.hs b5 (by omega)).mono ?_
  rintro e w3 ⟨rfl,hb3⟩
  have S3:=S2.call hb3
  have hz3:=hb3.size
  clear hb3
  cases hmi:misses hs s with
  | true =>
   have CO:Hid (canonOf m p q hs y list=none):=co_miss hp hmi
   go_wp2
   go_ret2
   exact ⟨cEnd_no CO.out,HF.out _ S3.hw⟩
  | false =>
   have CO:Hid (canonOf m p q hs y list=some (canonText m p (canonQ q) s list (hashT y))):=co_some hp hmi
   have c0:=S3.d0
   have c1:=S3.d1
   have c2:=S3.d2
   have BB:∀ W,CSt w w2.heap.size b m p y qv q sv s W→W.cell? ⟨b,0,none⟩=some (str m)∧W.cell? ⟨b,1,none⟩=some (str p)∧W.cell? ⟨b,2,none⟩=some qv:=fun W k=>⟨k.d0,k.d1,k.d2⟩
   go_wp2_with fail
   go_region_held3 (fun w'=>w'.cell? ⟨b,0,none⟩=some (str m)∧w'.cell? ⟨b,1,none⟩=some (str p)∧w'.cell? ⟨b,2,none⟩=some qv) (first|exact BB _ S3|exact BB _ S3.drew|exact BB _ (S3.alloc _))
    (first
     | (go_at_call 30;refine (encode_r p true _ (by omega)).mono ?_;rintro e w6 ⟨rfl,hb6⟩;replace S3:CSt w w2.heap.size b m p y qv q sv s w6:=(by first|exact S3.call hb6|exact S3.drew.call hb6))
     | (go_at_call 70;refine (canonQ_any qv q _ (S3.hq.up S3.hB) b3 b4).mono ?_;rintro e w7 ⟨rfl,hb7⟩;replace S3:CSt w w2.heap.size b m p y qv q sv s w7:=(by first|exact S3.call hb7|exact S3.drew.call hb7)))
   rename_i hHeld
   clear hHeld
   have row0:=srow_three (w:=w7) (B:=w2.heap.size) m (enc true p) (canonQ q) S3.hB
   replace S3:=S3.alloc (.cells #[str m,str (enc true p),str (canonQ q)] 9)
   obtain ⟨sa,sc,rfl⟩:=S3.hs.len
   clear c0 c1 c2 BB hb6 hb7 hh2 d3 S2
   generalize w7.alloc (.cells #[str m,str (enc true p),str (canonQ q)] 9)=w8 at *
   generalize Value.slice (some ⟨w7.heap.size,0,none⟩) 3 3=lv at *
   go_wp2
   go_loopw [8,37] (fun v i wr=>∃ k:Nat,k≤s.length∧i=.int .i64 k∧srow wr w2.heap.size v ([m,enc true p,canonQ q]++(s.take k).map lineText)∧CSt w w2.heap.size b m p y qv q (.slice sa s.length sc) s wr) (fun _ i _=>s.length - (intOf i).toNat)
   case atStart=>exact ⟨0,Nat.zero_le _,rfl,row0,S3⟩
   case round =>
    clear S3 row0
    obtain ⟨k,hk,rfl,hrow,S4⟩:=hrel
    have hB4:=S4.hB
    by_cases hlt:k < s.length
    ·obtain ⟨g,e1,hg,c1,c2⟩:=S4.hs.at hlt
     cases e1
     have HS:Hid ([m,enc true p,canonQ q]++(s.take (k+1)).map lineText=([m,enc true p,canonQ q]++(s.take k).map lineText)++[s[k].1++[58]++s[k].2]):=line_take hlt _
     have hol:([m,enc true p,canonQ q]++(s.take k).map lineText).length≤2000010:=by
      simp only [List.length_append,List.length_map,List.length_take,List.length_cons,List.length_nil];omega
     obtain ⟨l1,l2⟩:=hsb s[k] (List.getElem_mem hlt)
     generalize s[k]=x at *
     obtain ⟨xn,xv⟩:=x
     simp only at c1 c2 HS l1 l2
     generalize [m,enc true p,canonQ q]++(s.take k).map lineText=o at *
     have HC2:Hid (#[Value.string ((⟨xn.toArray⟩:ByteArray)++⟨#[58]⟩++⟨xv.toArray⟩)]=#[str (xn++[58]++xv)]):=by
      show _=_
      have e3:((⟨xn.toArray⟩:ByteArray)++⟨#[58]⟩)=⟨(xn++[58]).toArray⟩:=str_app _ [58]
      rw [e3,str_app]
     go_wp2_with (at_builtin;refine sapp_law rfl _ _ rfl w2.heap.size o (xn++[58]++xv) _ rfl ((hrow.alloc _).alloc _) _ rfl _ (heap_new_at (by simp) HC2.out) (by omega) (by simp;omega) ?_;intro v' w9 row9 _ hb9)
     go_roundw
     case rel=>exact ⟨k+1,by omega,by go_num,by rw [HS.out];exact row9,((S4.alloc _).alloc _).step hb9⟩
     case measure=>simp [intOf];omega
    ·have HT:Hid (s.take k=s):=List.take_of_length_le (by omega)
     rw [HT.out] at hrow
     have hol:([m,enc true p,canonQ q]++s.map lineText).length≤2000010:=by
      simp only [List.length_append,List.length_map,List.length_cons,List.length_nil];omega
     have HCT:Hid (Lib.join (([m,enc true p,canonQ q]++s.map lineText)++[[],list,hashT y]) [10]=canonText m p (canonQ q) s list (hashT y)):=rfl
     have HCL:Hid ((canonText m p (canonQ q) s list (hashT y)).length≤140737488355328):=canonText_len b1 b2 (canonQ_len b3 b4) hsl hsb b7
     generalize [m,enc true p,canonQ q]++s.map lineText=o at *
     have d4:=S4.d4
     go_wp2_with fail
     refine (mhash_any y (by omega) _ S4.L).mono ?_
     rintro e w5 ⟨rfl,hb5⟩
     have S5:=S4.call hb5
     have row5:=hrow.below hb5
     clear hrow S4 hb5 hB4 d4
     go_wp2_with fail
     refine (digits_any (digest y) (digest_len y) _).mono ?_
     rintro e w6 ⟨rfl,hb6⟩
     rw [show hexL lowF (digest y)=hashT y from rfl]
     have S6:=S5.call hb6
     have row6:=row5.below hb6
     have hB6:=S6.hB
     clear row5 S5 hb6
     go_wp2_with (at_builtin;refine sappL_law rfl _ _ rfl w2.heap.size o [[],list,hashT y] 3 rfl (by omega) _ rfl (row6.alloc _) _ rfl _ (heap_alloc_new _ _) (by omega) (by simp;omega) ?_;intro v' w9 row9 _ hb9)
     refine (join_h _ (o++[[],list,hashT y]) [10] w2.heap.size _ row9 (by simp;omega) (by rw [HCT.out];exact HCL.out)).mono ?_
     rintro e w10 ⟨rfl,hb10⟩
     have S10:=((S6.alloc _).step hb9).call hb10
     rw [HCT.out]
     go_wp2
     go_ret2
     exact ⟨cEnd_ok CO.out,HF.out _ S10.hw⟩
section
variable {w0:World} {B b:Nat} {m p y:Bs} {qv:Value} {q:Ps} {hv:Value} {hs:Ps} {nv:Value} {N:List Bs} {W W':World}
end
theorem told_snoc (s:Ps) (x v:Bs):told (s++[(x,v)])=told s++x++[58]++v++[10]:=by simp [told,lineText]
open C (ret_bool ret_int)
theorem ba_back (k:ByteArray):(⟨k.data.toList.toArray⟩:ByteArray)=k:=by apply ByteArray.ext;simp
def dayT (n:Nat):Bs:=Lib.decDigits (n / 86400)
def keyT (secret:Bs) (n:Nat):Bs:=tagL (tagL ([76,49]++secret) (dayT n)) [108,97,114,100,101,114]
def signT (_secret:Bs) (n:Nat) (form:Bs):Bs:=[76,49,10]++Lib.decDigits n++[10]++dayT n++[10]++hashT form
def sigT (secret:Bs) (n:Nat) (form:Bs):Bs:=hexL lowF (tagL (keyT secret n) (signT secret n form))
theorem dayT_len (n:Nat) (h:n≤1000000000000):(dayT n).length≤1000000000001:=by
 have:=dd_len (n / 86400)
 have h2:n / 86400≤n:=Nat.div_le_self _ _
 unfold dayT
 omega
def signOf (secret:Bs) (t:Int) (form:Bs):Bs×Int :=
 if t < 0∨1000000000000 < t then ([],5) else if secret=[]∨40 < secret.length then ([],1) else (sigT secret t.toNat form,0)
def sgEnd (x:Bs×Int):Ending:=.returned (.tuple #[str x.1,.int .i64 x.2])
theorem sg_eq {x:Bs×Int} {a:Bs} {n:Int} (h:x=(a,n)):Ending.returned (.tuple #[str a,.int .i64 n])=sgEnd x:=by rw [h];rfl
end Go.Proofs.YtbllcgibmgbnjaaGreatDoor.R
