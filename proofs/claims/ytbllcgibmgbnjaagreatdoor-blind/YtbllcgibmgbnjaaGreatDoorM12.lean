import Derived.Test.YtbllcgibmgbnjaaGreatDoorM11
import Derived.WalkSmall
set_option maxHeartbeats 1000000
namespace Go.Proofs.YtbllcgibmgbnjaaGreatDoor.R
open Go.RowKit
open Go.Proofs.YtbllcgibmgbnjaaGreatDoor.C (ret_bool ret_int dec grown_trans grown_set grown_then grown_below)
def gTop:Nat:=max 6 2+1
structure Env (w:World):Prop where
 ml:∃ m,w.cell? ⟨6,0,none⟩=some (.int .i64 m)
 tab : Lib.TabIs Tryz.prog w "internal/strconv.uint64pow10" .u64 Lib.pow10Tab
 sz:gTop≤w.heap.size
theorem named_pow : Tryz.prog.globalNamed "internal/strconv.uint64pow10" = some 2 := by kernel_rfl
theorem Env.below {B:Nat} {w w':World} (h:Env w) (k:Below B w w') (hB:gTop≤B):Env w':=by
 obtain ⟨⟨m,hm⟩,ht,hs⟩:=h
 have:=k.size
 exact ⟨⟨m,(k.cell (p:=⟨6,0,none⟩) (show 6 < B by unfold gTop at hB;omega)).trans hm⟩,var?_below k named_pow (show 2 < B by unfold gTop at hB;omega) ht,by omega⟩
theorem Env.grown {b:Nat} {w w':World} (h:Env w) (k:w.grownBy w' (some b)) (hb:gTop≤b):Env w' :=
 h.below (B:=gTop) ⟨k.os,k.tape,k.output,k.size,fun j hj=>k.block j (Nat.lt_of_lt_of_le hj h.sz) (by simp;omega)⟩ (Nat.le_refl _)
theorem cut_r (l sep:Bs) (w:World) (E:Env w) (hl:l.length≤10000000) :
  Calls Tryz.prog 99 #[str l,str sep] w fun e w'=>e=.returned (.tuple #[str (Lib.cut l sep).1,str (Lib.cut l sep).2.1,.bool (Lib.cut l sep).2.2])∧∃ n,w'=w.drewN n:=by
 obtain ⟨⟨m,hm⟩,_,_⟩:=E
 exact Tryz.strings_Cut ⟨l.toArray⟩ ⟨sep.toArray⟩ m w (by simp [ByteArray.size];omega) hm
def rdr (w:World) (b:Nat) (l:Bs):Prop:=w.cell? ⟨b,0,none⟩=some (str l)∧w.frozen? ⟨b,0,none⟩=false
theorem rdr.below {b B:Nat} {w w':World} {l:Bs} (h:rdr w b l) (hb:b < B) (k:Below B w w'):rdr w' b l :=
 ⟨(k.cell (p:=⟨b,0,none⟩) hb).trans h.1,(k.frozen (p:=⟨b,0,none⟩) hb).trans h.2⟩
theorem rdr.lt {b:Nat} {w:World} {l:Bs} (h:rdr w b l):b < w.heap.size:=World.block_lt_of_cell? w ⟨b,0,none⟩ h.1
theorem rdr.set {b:Nat} {w:World} {l:Bs} (h:rdr w b l) (r:Bs):rdr (w.setCell ⟨b,0,none⟩ (str r)) b r:=by
 obtain ⟨h0,h1⟩:=h
 exact ⟨by simp [go_sem,h0],by simp [go_sem,h1]⟩
theorem rdr.drewN {b:Nat} {w:World} {l:Bs} (h:rdr w b l) (n:Nat):rdr (w.drewN n) b l:=h
theorem grown_drewN {a w:World} {r:Option Nat} (h:a.grownBy w r) (n:Nat):a.grownBy (w.drewN n) r:=⟨h.os,h.tape,h.output,h.size,h.block⟩
theorem grown_refl (w:World) (r:Option Nat):w.grownBy w r:=World.grownBy.refl w r
theorem readLine_ok (b:Nat) (l:Bs) (w:World) (h:rdr w b l) (E:Env w) (hl:l.length≤100000) (hf:(Lib.cut l [10]).2.2=true) :
  Calls Tryz.prog 96 #[.pointer (some ⟨b,0,none⟩)] w fun e w'=>e=.returned (str (Lib.cut l [10]).1)∧rdr w' b (Lib.cut l [10]).2.1∧w.grownBy w' (some b):=by
 have H:=h
 obtain ⟨h0,h1⟩:=h
 have HF:Hid ((Lib.cut l [10]).2.2=true):=hf
 clear hf
 have C:Hid (_):=cut_r l [10]
 go_enter Tryz.func96,Tryz.ntmps96
 go_wp2_with fail
 refine (C.out w E (by omega)).mono ?_
 rintro e w1 ⟨rfl,n,rfl⟩
 rw [HF.out]
 go_wp2_with (go_at_call 142;refine (need_ok _).mono ?_;rintro e w' ⟨rfl,rfl⟩)
 go_ret
 exact ⟨rfl,(H.drewN n).set _,grown_trans (grown_drewN (grown_refl w _) n) (grown_set _ b 0 _)⟩
theorem readLine_no (b:Nat) (l:Bs) (w:World) (h:rdr w b l) (E:Env w) (hl:l.length≤100000) (hf:(Lib.cut l [10]).2.2=false) :
  Calls Tryz.prog 96 #[.pointer (some ⟨b,0,none⟩)] w fun e w'=>e=.panicked noR∧w.grownBy w' (some b):=by
 obtain ⟨h0,h1⟩:=h
 have HF:Hid ((Lib.cut l [10]).2.2=false):=hf
 clear hf
 have C:Hid (_):=cut_r l [10]
 go_enter Tryz.func96,Tryz.ntmps96
 go_wp2_with fail
 refine (C.out w E (by omega)).mono ?_
 rintro e w1 ⟨rfl,n,rfl⟩
 rw [HF.out]
 go_wp2_with (go_at_call 142;refine (need_no _).mono ?_;rintro e w' ⟨rfl,rfl⟩)
 exact ⟨rfl,rfl,grown_drewN (grown_refl w _) n⟩
def hdEnd:Option (Bs×Bs)→Ending
 | some p=>.returned (.agg #[str p.1,str p.2])
 | none=>.panicked noR
theorem header_no1 {l:Bs} (h:(Lib.cut l [58,32]).2.2=false):headerOf l=none:=by unfold headerOf;rw [if_neg (by simp [h])]
theorem header_no2 {l:Bs} (h:hname (Lib.cut l [58,32]).1=false):headerOf l=none:=by unfold headerOf;rw [if_neg (by simp [h])]
theorem header_no3 {l:Bs} (h:(Lib.cut l [58,32]).2.1.all showB=false):headerOf l=none:=by unfold headerOf;rw [if_neg (by simp [h])]
theorem header_ok {l:Bs} (h1:(Lib.cut l [58,32]).2.2=true) (h2:hname (Lib.cut l [58,32]).1=true) (h3:(Lib.cut l [58,32]).2.1.all showB=true) :
  headerOf l=some ((Lib.cut l [58,32]).1,(Lib.cut l [58,32]).2.1):=by unfold headerOf;rw [if_pos ⟨h1,h2,h3⟩]
theorem below_of_drewN {w:World} (n:Nat):Below w.heap.size w (w.drewN n):=below_drewN (Below.refl _ w) n
theorem readHeader_any (l:Bs) (w:World) (E:Env w) (hl:l.length≤100000) :
  Calls Tryz.prog 148 #[str l] w fun e w'=>e=hdEnd (headerOf l)∧Below w.heap.size w w':=by
 have C:Hid (_):=cut_r l [58,32]
 obtain ⟨n1,n2⟩:=cut_le l [58,32]
 have N1:=header_ok (l:=l)
 have N2:=header_no1 (l:=l)
 have N3:=header_no2 (l:=l)
 have N4:=header_no3 (l:=l)
 generalize Lib.cut l [58,32]=c at *
 obtain ⟨a,v,f⟩:=c
 simp only at n1 n2 N1 N2 N3 N4
 have E1:=E.below ((Below.refl w.heap.size w).alloc (Nat.le_refl _) (.cells #[str [],str []] 109)) E.sz
 have A1:Hid (_):=isHeaderName_any a
 have A2:Hid (_):=isHeaderValue_any v
 have HH:Hid (headerOf l=headerOf l):=rfl
 generalize headerOf l=r at *
 clear HH
 go_enter Tryz.func148,Tryz.ntmps148
 cases f with
 | false =>
  cases (N2 rfl)
  clear N1 N2 N3 N4
  go_wp2_with fail
  refine (C.out _ E1 (by omega)).mono ?_
  rintro e w1 ⟨rfl,n,rfl⟩
  go_wp2_with (go_at_call 142;refine (need_no _).mono ?_;rintro e w' ⟨rfl,rfl⟩)
  exact ⟨rfl,rfl,below_drewN ((Below.refl _ w).alloc (Nat.le_refl _) _) n⟩
 | true =>
  cases h2:hname a with
  | false =>
   cases (N3 h2)
   clear N1 N2 N3 N4
   go_wp2_with fail
   refine (C.out _ E1 (by omega)).mono ?_
   rintro e w1 ⟨rfl,n,rfl⟩
   go_wp2_with (first|(go_at_call 142;refine (need_no _).mono ?_;rintro e w' ⟨rfl,rfl⟩)|(go_at_call 194;refine (A1.out _ (by omega)).mono ?_;rintro e w' ⟨rfl,rfl⟩;rw [h2]))
   exact ⟨rfl,rfl,below_drewN ((Below.refl _ w).alloc (Nat.le_refl _) _) n⟩
  | true =>
   cases h3:v.all showB with
   | false =>
    cases (N4 h3)
    clear N1 N2 N3 N4
    go_wp2_with fail
    refine (C.out _ E1 (by omega)).mono ?_
    rintro e w1 ⟨rfl,n,rfl⟩
    go_wp2_with (first|(go_at_call 142;refine (need_no _).mono ?_;rintro e w' ⟨rfl,rfl⟩)|(go_at_call 194;refine (A1.out _ (by omega)).mono ?_;rintro e w' ⟨rfl,rfl⟩;rw [h2])|(go_at_call 195;refine (A2.out _ (by omega)).mono ?_;rintro e w' ⟨rfl,rfl⟩;rw [h3]))
    exact ⟨rfl,rfl,below_drewN ((Below.refl _ w).alloc (Nat.le_refl _) _) n⟩
   | true =>
    cases (N1 rfl h2 h3)
    clear N1 N2 N3 N4
    go_wp2_with fail
    refine (C.out _ E1 (by omega)).mono ?_
    rintro e w1 ⟨rfl,n,rfl⟩
    go_wp2_with (first|(go_at_call 142;refine (need_ok _).mono ?_;rintro e w' ⟨rfl,rfl⟩)|(go_at_call 194;refine (A1.out _ (by omega)).mono ?_;rintro e w' ⟨rfl,rfl⟩;rw [h2])|(go_at_call 195;refine (A2.out _ (by omega)).mono ?_;rintro e w' ⟨rfl,rfl⟩;rw [h3]))
    refine bodyPost_ret (v:=.agg #[str a,str v]) ?_ rfl ⟨rfl,((below_drewN ((Below.refl _ w).alloc (Nat.le_refl _) _) n).setCell (p:=⟨w.heap.size,0,none⟩) (Nat.le_refl _) _).setCell (p:=⟨w.heap.size,1,none⟩) (Nat.le_refl _) _⟩
    simp [results,Tryz.results148,go_sem]
end Go.Proofs.YtbllcgibmgbnjaaGreatDoor.R
namespace Go.Proofs.YtbllcgibmgbnjaaGreatDoor.R
open Go.RowKit
open Go.Proofs.YtbllcgibmgbnjaaGreatDoor.C (ret_bool ret_int dec grown_trans grown_set grown_then grown_below)
def hstep (k:Nat) (hs:Ps) (line rest:Bs):Option (Ps×Bs) :=
 if line=[] then some (hs,rest) else match k with
  | 0=>none
  | k+1=>match headerOf line with
   | none=>none
   | some p=>match addP hs p with
    | none=>none
    | some l'=>headersFrom k l' rest
theorem headers_no {k:Nat} {hs:Ps} {l:Bs} (h:(Lib.cut l [10]).2.2=false):headersFrom k hs l=none:=by
 unfold headersFrom;rw [if_pos h]
theorem headers_go {k:Nat} {hs:Ps} {l:Bs} (h:(Lib.cut l [10]).2.2=true):headersFrom k hs l=hstep k hs (Lib.cut l [10]).1 (Lib.cut l [10]).2.1:=by
 conv=>lhs;unfold headersFrom
 rw [if_neg (by simp [h])];rfl
theorem hstep_end (k:Nat) (hs:Ps) (rest:Bs):hstep k hs [] rest=some (hs,rest):=by unfold hstep;simp
theorem hstep_full {hs:Ps} {line rest:Bs} (h:line≠[]):hstep 0 hs line rest=none:=by unfold hstep;rw [if_neg h]
theorem hstep_bad {k:Nat} {hs:Ps} {line rest:Bs} (h:line≠[]) (hh:headerOf line=none):hstep k hs line rest=none:=by
 unfold hstep;rw [if_neg h];cases k with
 | zero=>rfl
 | succ k=>simp only [hh]
theorem hstep_two {k:Nat} {hs:Ps} {line rest:Bs} {p:Bs×Bs} (h:line≠[]) (hh:headerOf line=some p) (ha:¬ findP hs p.1=none):hstep k hs line rest=none:=by
 unfold hstep;rw [if_neg h];cases k with
 | zero=>rfl
 | succ k=>simp only [hh,addP,if_neg ha]
theorem hstep_next {k:Nat} {hs:Ps} {line rest:Bs} {p:Bs×Bs} (h:line≠[]) (hh:headerOf line=some p) (ha:findP hs p.1=none):hstep (k+1) hs line rest=headersFrom k (hs++[p]) rest:=by
 unfold hstep;rw [if_neg h];simp only [hh,addP,if_pos ha]
def slLen:Value→Nat
 | .slice _ n _=>n
 | _=>0
theorem prow.len {w:World} {B:Nat} {v:Value} {l:Ps} (h:prow w B v l):slLen v=l.length∧∃ a cap,v=.slice a l.length cap:=by
 obtain ⟨_,⟨rfl,hn⟩|⟨g,cap,cur,rfl,_⟩⟩:=h
 ·exact ⟨hn.symm,none,0,by rw [hn]⟩
 ·exact ⟨rfl,_,cap,rfl⟩
theorem prow.grown {w w':World} {B b:Nat} {v:Value} {l:Ps} (h:prow w B v l) (k:w.grownBy w' (some b)) (hb:b < B):prow w' B v l :=
 World.ownsRow.kept h k (by
  cases hv:v.ownBlock with
  | none=>exact Or.inl rfl
  | some k=>right;have:=h.lt k hv;intro e;simp at e;omega)
theorem need_yes (w:World):Calls Tryz.prog 142 #[.bool true] w fun e w'=>e=.returned (.tuple #[])∧w=w':=(need_ok w).mono fun _ _ ⟨h1,h2⟩=>⟨h1,h2.symm⟩
theorem need_not (w:World):Calls Tryz.prog 142 #[.bool false] w fun e w'=>e=.panicked noR∧w=w':=(need_no w).mono fun _ _ ⟨h1,h2⟩=>⟨h1,h2.symm⟩
def headPost (w:World) (b:Nat) (o:Option (Ps×Bs)) (e:Ending) (w':World):Prop :=
 w.grownBy w' (some b)∧match o with
  | none=>e=.panicked noR
  | some x=>∃ v,e=.returned v∧prow w' w.heap.size v x.1∧rdr w' b x.2
theorem readHeaders_any (b:Nat) (l:Bs) (w:World) (h:rdr w b l) (E:Env w) (hb0:gTop≤b) (hl:l.length≤100000) :
  Calls Tryz.prog 97 #[.pointer (some ⟨b,0,none⟩)] w fun e w'=>headPost w b (headersFrom 12 [] l) e w':=by
 have hbw:=h.lt
 obtain ⟨n1,n2⟩:=cut_le l [10]
 cases hf:(Lib.cut l [10]).2.2 with
 | false =>
  rw [headers_no hf]
  go_enter Tryz.func97,Tryz.ntmps97
  go_wp2_with fail
  refine (readLine_no b l w h E hl hf).mono ?_
  rintro e w1 ⟨rfl,hg⟩
  clear h E
  go_wp2
  exact ⟨rfl,hg,rfl⟩
 | true =>
  rw [headers_go hf]
  have C:Hid (_):=readLine_ok b l
  generalize (Lib.cut l [10]).1=line0 at *
  generalize (Lib.cut l [10]).2.1=rest0 at *
  go_enter Tryz.func97,Tryz.ntmps97
  go_wp2_with fail
  refine (C.out w h E hl hf).mono ?_
  rintro e w1 ⟨rfl,hr,hg⟩
  clear C h hf
  go_wp2
  go_loopw [3,4] (fun v x wr=>∃ (k:Nat) (hs:Ps) (line rest:Bs),prow wr w.heap.size v hs∧x=str line∧rdr wr b rest∧w.grownBy wr (some b)∧hstep 12 [] line0 rest0=hstep k hs line rest∧k+hs.length=12∧line.length≤100000∧rest.length≤100000) (fun v _ _=>13 - slLen v)
  case atStart=>exact ⟨12,[],line0,rest0,prow_nil _ _,rfl,hr,hg,rfl,rfl,by omega,by omega⟩
  case round =>
   obtain ⟨k,hs,line,rest,hrow,rfl,hrd,hgr,heq,hk,hline,hrest⟩:=hrel
   clear hr hg
   have HQ:Hid (hstep 12 [] line0 rest0=hstep k hs line rest):=heq
   clear heq
   have hsz:=hgr.size
   have E2:=E.grown hgr hb0
   obtain ⟨hlen,a,cap,rfl⟩:=hrow.len
   by_cases hne:line=[]
   ·subst hne
    have HP:Hid (headPost w b (hstep 12 [] line0 rest0) (.returned (.slice a hs.length cap)) wr):=by
     show headPost _ _ _ _ _
     rw [HQ.out,hstep_end];exact ⟨hgr,_,rfl,hrow,hrd⟩
    go_wp2
    go_ret
    exact HP.out
   ·have hie:line.isEmpty=false:=by simpa using hne
    match k with
    | 0 =>
     have HP:Hid (hstep 12 [] line0 rest0=none):=by show _=_;rw [HQ.out,hstep_full hne]
     have h12:¬ ((hs.length:Int) < 12):=by omega
     go_wp2_with (go_at_call 142;refine (need_not _).mono ?_;rintro e w' ⟨rfl,rfl⟩)
     exact ⟨rfl,hgr,by rw [HP.out]⟩
    | k+1 =>
     have h12:(hs.length:Int) < 12:=by omega
     cases hh:headerOf line with
     | none =>
      have HP:Hid (hstep 12 [] line0 rest0=none):=by show _=_;rw [HQ.out,hstep_bad hne hh]
      have C:Hid (_):=readHeader_any line
      rw [hh] at C
      go_wp2_with (first|(go_at_call 142;refine (need_yes _).mono ?_;rintro e w' ⟨rfl,rfl⟩)|(go_at_call 148;refine (C.out _ E2 hline).mono ?_;rintro e w' ⟨rfl,hb5⟩;simp only [hdEnd]))
      exact ⟨rfl,grown_then hgr (hb5.mono hsz),by rw [HP.out]⟩
     | some p =>
      have C:Hid (_):=readHeader_any line
      rw [hh] at C
      by_cases ha:findP hs p.1=none
      ·obtain ⟨m1,m2⟩:=cut_le rest [10]
       have HZ:Hid (hstep 12 [] line0 rest0=headersFrom k (hs++[p]) rest):=by show _=_;rw [HQ.out,hstep_next hne hh ha]
       clear HQ
       go_wp2_with (first|(go_at_call 142;refine (need_yes _).mono ?_;rintro e w' ⟨rfl,rfl⟩)|(go_at_call 148;refine (C.out _ E2 hline).mono ?_;rintro e w5 ⟨rfl,hb5⟩;simp only [hdEnd]))
       have hrow5:=hrow.below hb5
       have hsz5:=hb5.size
       refine (addPair_ok _ hs p w.heap.size _ hrow5 (by omega) (by omega) ha).mono ?_
       rintro e w6 ⟨v6,rfl,hrow6,hb6⟩
       have hg6:=grown_then (grown_then hgr (hb5.mono hsz)) hb6
       have hrd6:=(hrd.below (show b < wr.heap.size by omega) hb5).below hbw hb6
       have E6:=E.grown hg6 hb0
       have hlen6:Hid (slLen v6=(hs++[p]).length):=hrow6.len.1
       clear hrow hrow5 hrd hgr E2 hb5 hb6 C
       cases hf:(Lib.cut rest [10]).2.2 with
       | false =>
        have HP:Hid (hstep 12 [] line0 rest0=none):=by show _=_;rw [HZ.out,headers_no hf]
        go_wp2_with (go_at_call 96;refine (readLine_no b rest _ hrd6 E6 hrest hf).mono ?_;rintro e w7 ⟨rfl,hg7⟩)
        exact ⟨rfl,grown_trans hg6 hg7,by rw [HP.out]⟩
       | true =>
        have HP:Hid (hstep 12 [] line0 rest0=hstep k (hs++[p]) (Lib.cut rest [10]).1 (Lib.cut rest [10]).2.1):=by show _=_;rw [HZ.out,headers_go hf]
        have C7:Hid (_):=readLine_ok b rest
        generalize (Lib.cut rest [10]).1=line7 at *
        generalize (Lib.cut rest [10]).2.1=rest7 at *
        go_wp2_with (go_at_call 96;refine (C7.out _ hrd6 E6 hrest hf).mono ?_;rintro e w7 ⟨rfl,hrd7,hg7⟩)
        go_roundw
        case rel=>exact ⟨k,hs++[p],line7,rest7,hrow6.grown hg7 hbw,rfl,hrd7,grown_trans hg6 hg7,HP.out,by simp;omega,by omega,by omega⟩
        case measure=>rw [hlen6.out,hlen];simp;omega
      ·have HP:Hid (hstep 12 [] line0 rest0=none):=by show _=_;rw [HQ.out,hstep_two hne hh ha]
       go_wp2_with (first|(go_at_call 142;refine (need_yes _).mono ?_;rintro e w' ⟨rfl,rfl⟩)|(go_at_call 148;refine (C.out _ E2 hline).mono ?_;rintro e w5 ⟨rfl,hb5⟩;simp only [hdEnd]))
       have hrow5:=hrow.below hb5
       refine (addPair_no _ hs p w.heap.size _ hrow5 (by omega) ha).mono ?_
       rintro e w6 ⟨rfl,hb6⟩
       have hsz5:=hb5.size
       have HG:=grown_then (grown_then hgr (hb5.mono hsz)) (hb6.mono (by omega))
       clear hrow hrow5 hrd hgr E2 hb5 hb6 C
       go_wp2
       exact ⟨rfl,HG,by rw [HP.out]⟩
end Go.Proofs.YtbllcgibmgbnjaaGreatDoor.R
namespace Go.Proofs.YtbllcgibmgbnjaaGreatDoor.R
open Go.RowKit
open Go.Proofs.YtbllcgibmgbnjaaGreatDoor.C (ret_bool ret_int dec)
theorem split_cells (l sep:Bs) (h:1≤sep.length) :
  (Lib.splitB ⟨sep.toArray⟩ 0 (Lib.countB ⟨l.toArray⟩ ⟨sep.toArray⟩) ⟨l.toArray⟩).map Value.string=(Lib.split l sep).map str∧Lib.countB ⟨l.toArray⟩ ⟨sep.toArray⟩+1=(Lib.split l sep).length:=by
 have e:=Lib.splitB_data ⟨sep.toArray⟩ 0 (Lib.countB ⟨l.toArray⟩ ⟨sep.toArray⟩) ⟨l.toArray⟩
 have e2:=Lib.splitB_all ⟨sep.toArray⟩ (by simpa [ByteArray.size] using h) 0 _ ⟨l.toArray⟩ rfl
 have e3:Lib.splitK sep 0 (Lib.countB ⟨l.toArray⟩ ⟨sep.toArray⟩) l=Lib.split l sep:=rfl
 have e4:(Lib.splitB ⟨sep.toArray⟩ 0 (Lib.countB ⟨l.toArray⟩ ⟨sep.toArray⟩) ⟨l.toArray⟩).map (·.data.toList)=Lib.split l sep:=e.trans e3
 constructor
 ·rw [← e4,List.map_map];rfl
 ·rw [← e2,← e4,List.length_map]
theorem split_r (l sep:Bs) (w:World) (E:Env w) (hl:l.length≤1000000) (h1:1≤sep.length) :
  Calls Tryz.prog 193 #[str l,str sep] w fun e w'=>e=.returned (.slice (some ⟨w.heap.size,0,none⟩) (Lib.split l sep).length (Lib.split l sep).length)∧w'=w.alloc (.cells ((Lib.split l sep).map str).toArray 9):=by
 obtain ⟨⟨m,hm⟩,_,_⟩:=E
 have:=Tryz.strings_Split ⟨l.toArray⟩ ⟨sep.toArray⟩ m w (by simp [ByteArray.size];omega) hm (by simpa [ByteArray.size] using h1)
 obtain ⟨e1,e2⟩:=split_cells l sep h1
 rw [e1,e2] at this
 exact this
theorem pair_no1 {t:Bs} (h:dec false (Lib.cut t [61]).1=none):pairOf t=none:=by unfold pairOf;rw [h]
theorem pair_no2 {t:Bs} (h:dec false (Lib.cut t [61]).2.1=none):pairOf t=none:=by unfold pairOf;rw [h];split <;> first|rfl|simp_all
theorem pair_no3 {t v:Bs} (h:dec false (Lib.cut t [61]).1=some []) (h2:dec false (Lib.cut t [61]).2.1=some v):pairOf t=none:=by unfold pairOf;rw [h,h2];rfl
theorem pair_ok {t n v:Bs} (h:dec false (Lib.cut t [61]).1=some n) (h2:dec false (Lib.cut t [61]).2.1=some v) (hn:n≠[]):pairOf t=some (n,v):=by unfold pairOf;rw [h,h2];simp [hn]
theorem q_bad {l:Ps} {t:Bs} {r:List Bs} (h:pairOf t=none):queryFrom l (t :: r)=none:=by simp [queryFrom,h]
theorem q_two {l:Ps} {t:Bs} {r:List Bs} {p:Bs×Bs} (h:pairOf t=some p) (ha:¬ findP l p.1=none):queryFrom l (t :: r)=none:=by simp [queryFrom,h,addP,ha]
theorem q_next {l:Ps} {t:Bs} {r:List Bs} {p:Bs×Bs} (h:pairOf t=some p) (ha:findP l p.1=none):queryFrom l (t :: r)=queryFrom (l++[p]) r:=by simp [queryFrom,h,addP,ha]
def qPost (w:World) (o:Option Ps) (e:Ending) (w':World):Prop :=
 Below w.heap.size w w'∧match o with
  | none=>e=.panicked noR
  | some q=>∃ v,e=.returned v∧prow w' w.heap.size v q
theorem readQuery_any (l:Bs) (w:World) (E:Env w) (hl:l.length≤100000) :
  Calls Tryz.prog 146 #[str l] w fun e w'=>qPost w (queryOf l) e w':=by
 have hps:(Lib.split l [38]).length≤l.length+1:=split_len l [38] (by simp)
 have hmem:∀ t∈Lib.split l [38],t.length≤l.length:=fun t h=>split_mem (by simp) h
 have C:Hid (_):=split_r l [38]
 unfold queryOf
 generalize Lib.split l [38]=ps at *
 have hE0:=E.sz
 go_enter Tryz.func146,Tryz.ntmps146
 go_wp2_with fail
 refine (C.out w E (by omega) (by simp)).mono ?_
 rintro e w1 ⟨rfl,rfl⟩
 clear C
 have hcell:∀ (k:Nat) (h:k < ps.length),(w.alloc (.cells (ps.map str).toArray 9)).cell? ⟨w.heap.size,k,none⟩=some (str ps[k]):=by
  intro k h;simp [go_sem,h]
 have hB:Below w.heap.size w (w.alloc (.cells (ps.map str).toArray 9)):=(Below.refl _ w).alloc (Nat.le_refl _) _
 have hz:(w.alloc (.cells (ps.map str).toArray 9)).heap.size=w.heap.size+1:=by simp
 generalize w.alloc (.cells (ps.map str).toArray 9)=w1 at *
 have E1:=E.below hB E.sz
 go_wp2
 go_loopw [3,13] (fun v i wr=>∃ (k:Nat) (q:Ps),k≤ps.length∧i=.int .i64 k∧prow wr (w.heap.size+1) v q∧Below (w.heap.size+1) w1 wr∧queryFrom [] ps=queryFrom q (ps.drop k)∧q.length≤k) (fun _ i _=>ps.length - (intOf i).toNat)
 case atStart=>exact ⟨0,[],Nat.zero_le _,rfl,prow_nil _ _,Below.refl _ _,by simp,by simp⟩
 case round =>
  obtain ⟨k,q,hk,rfl,hrow,hb,hq,hqk⟩:=hrel
  have HQ:Hid (queryFrom [] ps=queryFrom q (ps.drop k)):=hq
  clear hq
  have hsz:=hb.size
  rw [hz] at hsz
  have E2:=E1.below hb (by omega)
  have HB:Below w.heap.size w wr:=hB.trans (hb.mono (by omega))
  by_cases hlt:k < ps.length
  ·have hc:=(hb.cell (p:=⟨w.heap.size,k,none⟩) (show w.heap.size < w.heap.size+1 by omega)).trans (hcell k hlt)
   have ht:=hmem ps[k] (List.getElem_mem hlt)
   have hd:ps.drop k=ps[k] :: ps.drop (k+1):=List.drop_eq_getElem_cons hlt
   have HD:Hid (queryFrom [] ps=queryFrom q (ps[k] :: ps.drop (k+1))):=by show _=_;rw [HQ.out,hd]
   clear hd HQ hmem hcell
   generalize ps[k]=t at *
   obtain ⟨n1,n2⟩:=cut_le t [61]
   have C2:Hid (_):=cut_r t [61]
   have N1:=@pair_no1 t
   have N2:=@pair_no2 t
   have N3:=@pair_no3 t
   have N4:=@pair_ok t
   generalize Lib.cut t [61]=c at *
   obtain ⟨a,b,f⟩:=c
   simp only at n1 n2 N1 N2 N3 N4
   have D1:Hid (_):=decode_r a false
   have D2:Hid (_):=decode_r b false
   cases hd1:dec false a with
   | none =>
    have HP:Hid (queryFrom [] ps=none):=by show _=_;rw [HD.out,q_bad (N1 hd1)]
    rw [hd1] at D1
    clear N1 N2 N3 N4
    go_wp2_with (first|(go_at_call 99;refine (C2.out _ E2 (by omega)).mono ?_;rintro e w' ⟨rfl,n,rfl⟩)|(go_at_call 145;refine (D1.out _ (by omega)).mono ?_;rintro e w' ⟨rfl,hb5⟩;simp only [decR]))
    have HB5:=below_drewN (n:=n) HB |>.trans (hb5.mono (by simp;omega))
    exact ⟨rfl,HB5,by rw [HP.out]⟩
   | some na =>
    cases hd2:dec false b with
    | none =>
     have HP:Hid (queryFrom [] ps=none):=by show _=_;rw [HD.out,q_bad (N2 hd2)]
     rw [hd1] at D1
     rw [hd2] at D2
     clear N1 N2 N3 N4
     go_wp2_with (go_at_call 99;refine (C2.out _ E2 (by omega)).mono ?_;rintro e w' ⟨rfl,n,rfl⟩)
     refine (D1.out _ (by omega)).mono ?_
     rintro e w5 ⟨rfl,hb5⟩
     simp only [decR]
     go_wp2_with fail
     refine (D2.out _ (by omega)).mono ?_
     rintro e w6 ⟨rfl,hb6⟩
     simp only [decR]
     have z5:=hb5.size
     have HB6:Below w.heap.size w w6:=((below_drewN HB n).trans (hb5.mono (by simp;omega))).trans (hb6.mono (by simp at z5;omega))
     clear hb5 hb6
     go_wp2
     exact ⟨rfl,HB6,by rw [HP.out]⟩
    | some vb =>
     rw [hd1] at D1
     rw [hd2] at D2
     have hrowN:prow (wr.drewN 0) (w.heap.size+1) u3 q:=hrow
     go_wp2_with (go_at_call 99;refine (C2.out _ E2 (by omega)).mono ?_;rintro e w' ⟨rfl,n,rfl⟩)
     refine (D1.out _ (by omega)).mono ?_
     rintro e w5 ⟨rfl,hb5⟩
     simp only [decR]
     go_wp2_with fail
     refine (D2.out _ (by omega)).mono ?_
     rintro e w6 ⟨rfl,hb6⟩
     simp only [decR]
     have z5:=hb5.size
     have z6:=hb6.size
     simp only [World.heap_drewN] at z5 hb5
     have hrow6:prow w6 (w.heap.size+1) u3 q:=((show prow (wr.drewN n) (w.heap.size+1) u3 q from hrow).below hb5).below hb6
     have k6:Below (w.heap.size+1) w1 w6:=((below_drewN hb n).trans (hb5.mono (by omega))).trans (hb6.mono (by omega))
     have HB6:Below w.heap.size w w6:=hB.trans (k6.mono (by omega))
     clear hb5 hb6 hrow hrowN hb HB C2 D1 D2 E2 hc
     have BA:Below w.heap.size w (w6.alloc (.cells #[str na,str vb] 109)):=HB6.alloc (by omega) _
     have kA:Below (w.heap.size+1) w1 (w6.alloc (.cells #[str na,str vb] 109)):=k6.alloc (by omega) _
     by_cases hna:na=[]
     ·subst hna
      have HP:Hid (queryFrom [] ps=none):=by show _=_;rw [HD.out,q_bad (N3 hd1 hd2)]
      clear N1 N2 N3 N4
      go_wp2_with (go_at_call 142;refine (need_not _).mono ?_;rintro e w' ⟨rfl,rfl⟩)
      exact ⟨rfl,BA,by rw [HP.out]⟩
     ·have hie:na.isEmpty=false:=by simpa using hna
      have hpo:=N4 hd1 hd2 hna
      by_cases ha:findP q na=none
      ·have HP:Hid (queryFrom [] ps=queryFrom (q++[(na,vb)]) (ps.drop (k+1))):=by show _=_;rw [HD.out,q_next hpo ha]
       clear N1 N2 N3 N4 hpo HD
       go_wp2_with (first|(go_at_call 142;refine (need_yes _).mono ?_;rintro e w' ⟨rfl,rfl⟩)|(go_at_call 147;refine (addPair_ok u3 q (na,vb) (w.heap.size+1) _ (hrow6.alloc _) (by simp;omega) (by omega) ha).mono ?_;rintro e w7 ⟨v7,rfl,hrow7,hb7⟩))
       go_roundw
       case rel=>exact ⟨k+1,q++[(na,vb)],by omega,by go_num,hrow7,kA.trans hb7,HP.out,by simp;omega⟩
       case measure=>simp [intOf];omega
      ·have HP:Hid (queryFrom [] ps=none):=by show _=_;rw [HD.out,q_two hpo ha]
       clear N1 N2 N3 N4 hpo HD
       go_wp2_with (first|(go_at_call 142;refine (need_yes _).mono ?_;rintro e w' ⟨rfl,rfl⟩)|(go_at_call 147;refine (addPair_no u3 q (na,vb) (w.heap.size+1) _ (hrow6.alloc _) (by omega) ha).mono ?_;rintro e w7 ⟨rfl,hb7⟩))
       exact ⟨rfl,BA.trans (hb7.mono (by simp;omega)),by rw [HP.out]⟩
  ·have HX:Hid (queryFrom [] ps=some q):=by show _=_;rw [HQ.out,List.drop_eq_nil_of_le (by omega)];rfl
   have HP:Hid (qPost w (queryFrom [] ps) (.returned u3) wr):=by
    show qPost _ _ _ _
    rw [HX.out];exact ⟨HB,_,rfl,hrow.up (by omega)⟩
   go_wp2
   go_ret
   exact HP.out
open C (ret_bool ret_int dec)
theorem pre_r (l p:Bs) (w:World):Calls Tryz.prog 144 #[str l,str p] w fun e w'=>e=.returned (.bool (p.isPrefixOf l))∧w=w' :=
 (Tryz.strings_HasPrefix ⟨l.toArray⟩ ⟨p.toArray⟩ w).mono fun _ _ ⟨h1,h2⟩=>⟨h1,h2.symm⟩
theorem isMethod_r (l:Bs) (w:World):Calls Tryz.prog 143 #[str l] w fun e w'=>e=.returned (.bool (isMethod l))∧w=w' :=
 (isMethod_any l w).mono fun _ _ ⟨h1,h2⟩=>⟨h1,h2.symm⟩
theorem f_no1 {t:Bs} (h:(Lib.cut t [32]).2.2=false):firstOf t=none:=by unfold firstOf;rw [if_neg (by simp [h])]
theorem f_no2 {t:Bs} (h:isMethod (Lib.cut t [32]).1=false):firstOf t=none:=by unfold firstOf;rw [if_neg (by simp [h])]
theorem f_no3 {t:Bs} (h:([47]:Bs).isPrefixOf (Lib.cut (Lib.cut t [32]).2.1 [63]).1=false):firstOf t=none:=by unfold firstOf;rw [if_neg (fun k=>by rw [h] at k;exact absurd k.2.2 (by simp))]
theorem f_no4 {t:Bs} (h:dec true (Lib.cut (Lib.cut t [32]).2.1 [63]).1=none):firstOf t=none:=by unfold firstOf;rw [h];split <;> rfl
theorem f_q {t p:Bs} (h1:(Lib.cut t [32]).2.2=true) (h2:isMethod (Lib.cut t [32]).1=true) (h3:([47]:Bs).isPrefixOf (Lib.cut (Lib.cut t [32]).2.1 [63]).1=true) (h4:dec true (Lib.cut (Lib.cut t [32]).2.1 [63]).1=some p)
  (h5:(Lib.cut (Lib.cut t [32]).2.1 [63]).2.2=true):firstOf t=(queryOf (Lib.cut (Lib.cut t [32]).2.1 [63]).2.1).map (fun q=>{ method:=(Lib.cut t [32]).1,path:=p,query:=q }):=by
 unfold firstOf;rw [if_pos ⟨h1,h2,h3⟩,h4];simp only;rw [if_pos h5]
theorem f_p {t p:Bs} (h1:(Lib.cut t [32]).2.2=true) (h2:isMethod (Lib.cut t [32]).1=true) (h3:([47]:Bs).isPrefixOf (Lib.cut (Lib.cut t [32]).2.1 [63]).1=true) (h4:dec true (Lib.cut (Lib.cut t [32]).2.1 [63]).1=some p)
  (h5:(Lib.cut (Lib.cut t [32]).2.1 [63]).2.2=false):firstOf t=some { method:=(Lib.cut t [32]).1,path:=p }:=by
 unfold firstOf;rw [if_pos ⟨h1,h2,h3⟩,h4];simp only;rw [if_neg (by simp [h5])]
theorem Env.drewN {w:World} (E:Env w) (n:Nat):Env (w.drewN n):=E.below (below_drewN (Below.refl w.heap.size w) n) E.sz
def fPost (w:World) (o:Option First) (e:Ending) (w':World):Prop :=
 Below w.heap.size w w'∧match o with
  | none=>e=.panicked noR
  | some f=>∃ v,e=.returned (.agg #[str f.method,str f.path,v,.slice none 0 0,str []])∧prow w' w.heap.size v f.query
theorem fPost_no {w w':World} {o:Option First} (h:o=none) (hb:Below w.heap.size w w'):fPost w o (.panicked noR) w':=by subst h;exact ⟨hb,rfl⟩
theorem cell_alloc {w:World} {b j:Nat} {v:Value} (h:w.cell? ⟨b,j,none⟩=some v) (o:Obj):(w.alloc o).cell? ⟨b,j,none⟩=some v :=
 (((Below.refl w.heap.size w).alloc (Nat.le_refl _) o).cell (p:=⟨b,j,none⟩) (World.block_lt_of_cell? w _ h)).trans h
theorem frozen_alloc {w:World} {b:Nat} (hb:b < w.heap.size) (h:∀ j:Nat,w.frozen? ⟨b,j,none⟩=false) (o:Obj) (j:Nat):(w.alloc o).frozen? ⟨b,j,none⟩=false :=
 (((Below.refl w.heap.size w).alloc (Nat.le_refl _) o).frozen (p:=⟨b,j,none⟩) hb).trans (h j)
structure reqAt (w:World) (b:Nat) (m p:Bs) (q h:Value) (y:Bs):Prop where
 c0:w.cell? ⟨b,0,none⟩=some (str m)
 c1:w.cell? ⟨b,1,none⟩=some (str p)
 c2:w.cell? ⟨b,2,none⟩=some q
 c3:w.cell? ⟨b,3,none⟩=some h
 c4:w.cell? ⟨b,4,none⟩=some (str y)
 fz:∀ j:Nat,w.frozen? ⟨b,j,none⟩=false
theorem reqAt.below {w w':World} {b B:Nat} {m p:Bs} {q h:Value} {y:Bs} (H:reqAt w b m p q h y) (k:Below B w w') (hb:b < B):reqAt w' b m p q h y :=
 ⟨(k.cell (p:=⟨b,0,none⟩) hb).trans H.c0,(k.cell (p:=⟨b,1,none⟩) hb).trans H.c1,(k.cell (p:=⟨b,2,none⟩) hb).trans H.c2,(k.cell (p:=⟨b,3,none⟩) hb).trans H.c3,(k.cell (p:=⟨b,4,none⟩) hb).trans H.c4,fun j=>(k.frozen (p:=⟨b,j,none⟩) hb).trans (H.fz j)⟩
theorem reqAt_new (w:World) (m p:Bs) (q h:Value) (y:Bs):reqAt (w.alloc (.cells #[str m,str p,q,h,str y] 97)) w.heap.size m p q h y :=
 ⟨by simp [go_sem],by simp [go_sem],by simp [go_sem],by simp [go_sem],by simp [go_sem],fun j=>by simp [go_sem]⟩
theorem reqAt.alloc {w:World} {b:Nat} {m p:Bs} {q h:Value} {y:Bs} (H:reqAt w b m p q h y) (o:Obj):reqAt (w.alloc o) b m p q h y :=
 H.below ((Below.refl w.heap.size w).alloc (Nat.le_refl _) o) (World.block_lt_of_cell? w _ H.c0)
theorem reqAt.drewN {w:World} {b:Nat} {m p:Bs} {q h:Value} {y:Bs} (H:reqAt w b m p q h y) (n:Nat):reqAt (w.drewN n) b m p q h y:=⟨H.c0,H.c1,H.c2,H.c3,H.c4,H.fz⟩
abbrev set5 (w:World) (b:Nat) (v0 v1 v2 v3 v4:Value):World:=((((w.setCell ⟨b,0,none⟩ v0).setCell ⟨b,1,none⟩ v1).setCell ⟨b,2,none⟩ v2).setCell ⟨b,3,none⟩ v3).setCell ⟨b,4,none⟩ v4
theorem reqAt.set {w:World} {b:Nat} {m p:Bs} {q h:Value} {y:Bs} (H:reqAt w b m p q h y) (m' p':Bs) (q' h':Value) (y':Bs):reqAt (set5 w b (str m') (str p') q' h' (str y')) b m' p' q' h' y':=by
 obtain ⟨c0,c1,c2,c3,c4,fz⟩:=H
 exact ⟨by simp [go_sem,c0],by simp [go_sem,c1],by simp [go_sem,c2],by simp [go_sem,c3],by simp [go_sem,c4],fun j=>by simp [go_sem,fz]⟩
theorem below_set5 {B:Nat} {a w:World} {b:Nat} (h:Below B a w) (hb:B≤b) (v0 v1 v2 v3 v4:Value):Below B a (set5 w b v0 v1 v2 v3 v4) :=
 ((((h.setCell (p:=⟨b,0,none⟩) hb _).setCell (p:=⟨b,1,none⟩) hb _).setCell (p:=⟨b,2,none⟩) hb _).setCell (p:=⟨b,3,none⟩) hb _).setCell (p:=⟨b,4,none⟩) hb _
theorem prow.set {w:World} {B b:Nat} {v:Value} {l:Ps} (h:prow w B v l) (hb:b < B) (j:Nat) (x:Value):prow (w.setCell ⟨b,j,none⟩ x) B v l:=h.grown (Go.Proofs.YtbllcgibmgbnjaaGreatDoor.C.grown_set w b j x) hb
theorem prow.set5 {w:World} {B b:Nat} {v:Value} {l:Ps} (h:prow w B v l) (hb:b < B) (v0 v1 v2 v3 v4:Value):prow (set5 w b v0 v1 v2 v3 v4) B v l :=
 ((((h.set hb 0 _).set hb 1 _).set hb 2 _).set hb 3 _).set hb 4 _
theorem reqAt.far {w:World} {b g j:Nat} {m p:Bs} {q h x:Value} {y:Bs} (H:reqAt w b m p q h y) (hne:¬ b=g):reqAt (w.setCell ⟨g,j,none⟩ x) b m p q h y:=by
 obtain ⟨c0,c1,c2,c3,c4,fz⟩:=H
 exact ⟨by simp [go_sem,c0],by simp [go_sem,c1],by simp [go_sem,c2],by simp [go_sem,c3],by simp [go_sem,c4],fun j=>by simp [go_sem,fz]⟩
abbrev emptyReq:Obj:=.cells #[str [],str [],.slice none 0 0,.slice none 0 0,str []] 97
theorem readFirstLine_any (l:Bs) (w:World) (E:Env w) (hl:l.length≤100000) :
  Calls Tryz.prog 95 #[str l] w fun e w'=>fPost w (firstOf l) e w':=by
 have hE0:=E.sz
 obtain ⟨a1,a2⟩:=cut_le l [32]
 obtain ⟨b1,b2⟩:=cut_le (Lib.cut l [32]).2.1 [63]
 have N1:=@f_no1 l
 have N2:=@f_no2 l
 have N3:=@f_no3 l
 have N4:=@f_no4 l
 have N5:=@f_q l
 have N6:=@f_p l
 have C1:Hid (_):=cut_r l [32]
 have C2:Hid (_):=cut_r (Lib.cut l [32]).2.1 [63]
 generalize Lib.cut l [32]=c at *
 obtain ⟨m,tg,f1⟩:=c
 simp only at a1 a2 b1 b2 N1 N2 N3 N4 N5 N6 C2
 generalize Lib.cut tg [63]=d at *
 obtain ⟨pa,qu,f2⟩:=d
 simp only at b1 b2 N3 N4 N5 N6
 have M:Hid (_):=isMethod_r m
 have P:Hid (_):=pre_r pa [47]
 have D:Hid (_):=decode_r pa true
 have Q:Hid (_):=readQuery_any qu
 have B1:Below w.heap.size w (w.alloc emptyReq):=(Below.refl _ w).alloc (Nat.le_refl _) _
 have E1:=E.below B1 E.sz
 generalize firstOf l=o at *
 cases f1 with
 | false =>
  have HO:=N1 rfl
  clear N1 N2 N3 N4 N5 N6
  subst HO
  go_enter Tryz.func95,Tryz.ntmps95
  go_wp2_with (first|(go_at_call 99;refine (C1.out _ E1 (by omega)).mono ?_;rintro e w' ⟨rfl,n,rfl⟩)|(go_at_call 142;refine (need_not _).mono ?_;rintro e w' ⟨rfl,rfl⟩))
  exact ⟨rfl,fPost_no rfl (below_drewN B1 n)⟩
 | true =>
  cases hm:isMethod m with
  | false =>
   have HO:=N2 hm
   clear N1 N2 N3 N4 N5 N6
   subst HO
   rw [hm] at M
   go_enter Tryz.func95,Tryz.ntmps95
   go_wp2_with (first|(go_at_call 99;refine (C1.out _ E1 (by omega)).mono ?_;rintro e w' ⟨rfl,n,rfl⟩)|(go_at_call 143;refine (M.out _).mono ?_;rintro e w' ⟨rfl,rfl⟩)|(go_at_call 142;refine (need_not _).mono ?_;rintro e w' ⟨rfl,rfl⟩))
   exact ⟨rfl,fPost_no rfl (below_drewN B1 n)⟩
  | true =>
   rw [hm] at M
   cases hp:([47]:Bs).isPrefixOf pa with
   | false =>
    have HO:=N3 hp
    clear N1 N2 N3 N4 N5 N6
    subst HO
    rw [hp] at P
    go_enter Tryz.func95,Tryz.ntmps95
    go_wp2_with fail
    refine (C1.out _ E1 (by omega)).mono ?_
    rintro e w' ⟨rfl,n,rfl⟩
    go_wp2_with (first|(go_at_call 143;refine (M.out _).mono ?_;rintro e w' ⟨rfl,rfl⟩)|(go_at_call 142;refine (need_yes _).mono ?_;rintro e w' ⟨rfl,rfl⟩))
    refine (C2.out _ (E1.drewN n) (by omega)).mono ?_
    rintro e w' ⟨rfl,n2,rfl⟩
    go_wp2_with (first|(go_at_call 144;refine (P.out _).mono ?_;rintro e w' ⟨rfl,rfl⟩)|(go_at_call 142;refine (need_not _).mono ?_;rintro e w' ⟨rfl,rfl⟩))
    exact ⟨rfl,fPost_no rfl (below_drewN B1 _)⟩
   | true =>
    rw [hp] at P
    have hE2:gTop≤(w.alloc emptyReq).heap.size:=E1.sz
    cases hd:dec true pa with
    | none =>
     have HO:=N4 hd
     clear N1 N2 N3 N4 N5 N6
     subst HO
     rw [hd] at D
     go_enter Tryz.func95,Tryz.ntmps95
     go_wp2_with fail
     refine (C1.out _ E1 (by omega)).mono ?_
     rintro e w' ⟨rfl,n,rfl⟩
     go_wp2_with (first|(go_at_call 143;refine (M.out _).mono ?_;rintro e w' ⟨rfl,rfl⟩)|(go_at_call 142;refine (need_yes _).mono ?_;rintro e w' ⟨rfl,rfl⟩))
     refine (C2.out _ (E1.drewN n) (by omega)).mono ?_
     rintro e w' ⟨rfl,n2,rfl⟩
     go_wp2_with (first|(go_at_call 144;refine (P.out _).mono ?_;rintro e w' ⟨rfl,rfl⟩)|(go_at_call 142;refine (need_yes _).mono ?_;rintro e w' ⟨rfl,rfl⟩)|(go_at_call 145;refine (D.out _ (by omega)).mono ?_;rintro e w5 ⟨rfl,hb5⟩;simp only [decR]))
     exact ⟨rfl,fPost_no rfl ((below_drewN B1 _).trans (hb5.mono (by simp)))⟩
    | some pt =>
     rw [hd] at D
     cases f2 with
     | false =>
      have HO:=N6 rfl hm hp hd rfl
      clear N1 N2 N3 N4 N5 N6
      subst HO
      go_enter Tryz.func95,Tryz.ntmps95
      go_wp2_with fail
      refine (C1.out _ E1 (by omega)).mono ?_
      rintro e w' ⟨rfl,n,rfl⟩
      go_wp2_with (first|(go_at_call 143;refine (M.out _).mono ?_;rintro e w' ⟨rfl,rfl⟩)|(go_at_call 142;refine (need_yes _).mono ?_;rintro e w' ⟨rfl,rfl⟩))
      refine (C2.out _ (E1.drewN n) (by omega)).mono ?_
      rintro e w' ⟨rfl,n2,rfl⟩
      go_wp2_with (first|(go_at_call 144;refine (P.out _).mono ?_;rintro e w' ⟨rfl,rfl⟩)|(go_at_call 142;refine (need_yes _).mono ?_;rintro e w' ⟨rfl,rfl⟩))
      refine (D.out _ (by omega)).mono ?_
      rintro e w5 ⟨rfl,hb5⟩
      simp only [decR]
      have B5:Below w.heap.size w w5:=(below_drewN B1 _).trans (hb5.mono (by simp))
      have z5:w.heap.size+1≤w5.heap.size:=by have:=hb5.size;simpa using this
      have R5:reqAt w5 w.heap.size [] [] (.slice none 0 0) (.slice none 0 0) []:=((reqAt_new w [] [] (.slice none 0 0) (.slice none 0 0) []).drewN _).below hb5 (by simp)
      have q0:=fun o=>(R5.alloc o).c0
      have q1:=fun o=>(R5.alloc o).c1
      have q2:=fun o=>(R5.alloc o).c2
      have q3:=fun o=>(R5.alloc o).c3
      have q4:=fun o=>(R5.alloc o).c4
      have fz:=fun o=>(R5.alloc o).fz
      clear hb5 C1 C2 M P D Q E1 B1
      have hne5:¬ w.heap.size=w5.heap.size:=by omega
      have RX:=(R5.alloc (.cells #[str m,str pt,.slice none 0 0,.slice none 0 0,str []] 97)).set m pt (.slice none 0 0) (.slice none 0 0) []
      have BX:=below_set5 (B5.alloc (show w.heap.size≤w5.heap.size by omega) (.cells #[str m,str pt,.slice none 0 0,.slice none 0 0,str []] 97)) (Nat.le_refl _) (str m) (str pt) (.slice none 0 0) (.slice none 0 0) (str [])
      go_wp2
      refine bodyPost_ret (v:=.agg #[str m,str pt,.slice none 0 0,.slice none 0 0,str []]) ?_ rfl ⟨BX,_,rfl,prow_nil _ _⟩
      obtain ⟨x0,x1,x2,x3,x4,_⟩:=RX
      simp [results,Tryz.results95,go_sem,x0,x1,x2,x3,x4]
     | true =>
      have HO:=N5 rfl hm hp hd rfl
      clear N1 N2 N3 N4 N5 N6
      subst HO
      go_enter Tryz.func95,Tryz.ntmps95
      go_wp2_with fail
      refine (C1.out _ E1 (by omega)).mono ?_
      rintro e w' ⟨rfl,n,rfl⟩
      go_wp2_with (first|(go_at_call 143;refine (M.out _).mono ?_;rintro e w' ⟨rfl,rfl⟩)|(go_at_call 142;refine (need_yes _).mono ?_;rintro e w' ⟨rfl,rfl⟩))
      refine (C2.out _ (E1.drewN n) (by omega)).mono ?_
      rintro e w' ⟨rfl,n2,rfl⟩
      go_wp2_with (first|(go_at_call 144;refine (P.out _).mono ?_;rintro e w' ⟨rfl,rfl⟩)|(go_at_call 142;refine (need_yes _).mono ?_;rintro e w' ⟨rfl,rfl⟩))
      refine (D.out _ (by omega)).mono ?_
      rintro e w5 ⟨rfl,hb5⟩
      simp only [decR]
      have B5:Below w.heap.size w w5:=(below_drewN B1 _).trans (hb5.mono (by simp))
      have z5:w.heap.size+1≤w5.heap.size:=by have:=hb5.size;simpa using this
      have R5:reqAt w5 w.heap.size [] [] (.slice none 0 0) (.slice none 0 0) []:=((reqAt_new w [] [] (.slice none 0 0) (.slice none 0 0) []).drewN _).below hb5 (by simp)
      have B6:Below w.heap.size w (w5.alloc (.cells #[str m,str pt,.slice none 0 0,.slice none 0 0,str []] 97)):=B5.alloc (by omega) _
      have E6:=E.below B6 E.sz
      have R6:=R5.alloc (.cells #[str m,str pt,.slice none 0 0,.slice none 0 0,str []] 97)
      have S6:=reqAt_new w5 m pt (.slice none 0 0) (.slice none 0 0) []
      have z6:(w5.alloc (.cells #[str m,str pt,.slice none 0 0,.slice none 0 0,str []] 97)).heap.size=w5.heap.size+1:=by simp
      clear hb5 C1 C2 M P D E1 B1
      have hne5:¬ w.heap.size=w5.heap.size:=by omega
      go_wp2_with fail
      generalize w5.alloc (.cells #[str m,str pt,.slice none 0 0,.slice none 0 0,str []] 97)=w6 at *
      refine (Q.out w6 E6 (by omega)).mono ?_
      rintro e w7 ⟨hb7,hq7⟩
      have B7:Below w.heap.size w w7:=B6.trans (hb7.mono (by omega))
      cases hqo:queryOf qu with
      | none =>
       rw [hqo] at hq7
       simp only at hq7
       subst hq7
       clear Q hb7 R5 R6 S6 E6
       go_wp2
       exact ⟨rfl,fPost_no (by rw [hqo];rfl) B7⟩
      | some q =>
       rw [hqo] at hq7
       simp only at hq7
       obtain ⟨v,rfl,hrow⟩:=hq7
       obtain ⟨_,va,vc,hv⟩:=hrow.len
       have HV:Hid (v=.slice va q.length vc):=hv
       clear hv
       have R7:=R6.below hb7 (by omega)
       have S7:=S6.below hb7 (by omega)
       have z7:=hb7.size
       have R8:=R7.far (g:=w5.heap.size) (j:=2) (x:=v) hne5
       have RX:=R8.set m pt v (.slice none 0 0) []
       have BX:=below_set5 (B7.setCell (p:=⟨w5.heap.size,2,none⟩) (show w.heap.size≤w5.heap.size by omega) v) (Nat.le_refl _) (str m) (str pt) v (.slice none 0 0) (str [])
       have rowX:=(((hrow.set (b:=w5.heap.size) (by omega) 2 v).set5 (b:=w.heap.size) (by omega) (str m) (str pt) v (.slice none 0 0) (str [])).up (B':=w.heap.size) (by omega))
       obtain ⟨s0,s1,s2,s3,s4,sf⟩:=S7
       obtain ⟨q0,q1,q2,q3,q4,qf⟩:=R8
       clear Q hb7 R5 R6 S6 E6 R7 hrow
       have hv:=HV.out
       subst hv
       go_wp2
       refine bodyPost_ret (v:=.agg #[str m,str pt,.slice va q.length vc,.slice none 0 0,str []]) ?_ rfl ?_
       ·obtain ⟨x0,x1,x2,x3,x4,_⟩:=RX
        simp [results,Tryz.results95,go_sem,x0,x1,x2,x3,x4]
       ·rw [hqo];exact ⟨BX,_,rfl,rowX⟩
end Go.Proofs.YtbllcgibmgbnjaaGreatDoor.R
