import Derived.Test.YtbllcgibmgbnjaaGreatDoorM02
import Derived.Lib.Split
import Derived.Lib.ItoaNum
import Derived.Test.YtbllcgibmgbnjaaGreatDoorShelf
import Derived.BigRegion
set_option maxHeartbeats 400000
namespace Go.Proofs.YtbllcgibmgbnjaaGreatDoor.C
open Go.RowKit
def rdOk (b:Nat) (p:Bool) (w:World) (l:List UInt8):Prop :=
 w.cell? ⟨b,0,none⟩=some (rest l)∧w.cell? ⟨b,1,none⟩=some (.bool p)∧w.frozen? ⟨b,0,none⟩=false
theorem rdOk.set {b:Nat} {p:Bool} {w:World} {l:List UInt8} (h:rdOk b p w l) (r:List UInt8):rdOk b p (w.setCell ⟨b,0,none⟩ (rest r)) r:=by
 obtain ⟨h0,h1,h2⟩:=h
 exact ⟨by simp [go_sem,h0],by simp [go_sem,h1],by simp [go_sem,h2]⟩
theorem grown_set (w:World) (b o:Nat) (v:Value):w.grownBy (w.setCell ⟨b,o,none⟩ v) (some b) :=
 have h:=(Below.refl b w).setCell (p:=⟨b,o,none⟩) (Nat.le_refl _) v
 ⟨h.os,h.tape,h.output,h.size,fun k _ hne=>Below.heap_setCell w ⟨b,o,none⟩ v k (fun e=>hne (by simp [e]))⟩
theorem grown_trans {a b c:World} {r:Option Nat} (h:a.grownBy b r) (k:b.grownBy c r):a.grownBy c r :=
 ⟨k.os.trans h.os,k.tape.trans h.tape,k.output.trans h.output,Nat.le_trans h.size k.size,fun j hj hne=>(k.block j (Nat.lt_of_lt_of_le hj h.size) hne).trans (h.block j hj hne)⟩
theorem or_fin:∀ i j:Fin 16,bits .or .u8 ((i.val:Int)*16) (j.val:Int)=16*(i.val:Int)+j.val:=by decide +kernel
theorem or_bits (x y:Int) (hx0:0≤x) (hx:x≤15) (hy0:0≤y) (hy:y≤15):bits .or .u8 (x*16) y=16*x+y:=by
 obtain ⟨m,rfl⟩:=Int.eq_ofNat_of_zero_le hx0
 obtain ⟨n,rfl⟩:=Int.eq_ofNat_of_zero_le hy0
 exact or_fin ⟨m,by omega⟩ ⟨n,by omega⟩
theorem byte_of (v:Int) (h0:0≤v) (h1:v < 256):((UInt8.ofNat v.toNat).toNat:Int)=v:=by
 simp;omega
theorem dec1_cases {p:Bool} {l r:List UInt8} {c:UInt8} (h:dec1 p l=some (c,r)) :
  (l=c :: r∧plainB (c.toNat:Int) p=true∧¬ c.toNat=37) ∨
  (∃ x y z,l=x :: y :: z :: r∧x.toNat=37∧0≤digV (y.toNat:Int)∧0≤digV (z.toNat:Int)∧c=UInt8.ofNat (16*digV (y.toNat:Int)+digV (z.toNat:Int)).toNat):=by
 match l with
 | []=>cases h
 | x :: t =>
  by_cases hx:x.toNat=37
  ·right
   match t with
   | []=>rw [dec1_pct0 hx] at h;cases h
   | [_]=>rw [dec1_pct1 hx] at h;cases h
   | y :: z :: t =>
    by_cases hy:0≤digV (y.toNat:Int)
    ·by_cases hz:0≤digV (z.toNat:Int)
     ·rw [dec1_pct t hx hy hz] at h
      simp only [Option.some.injEq,Prod.mk.injEq] at h
      obtain ⟨rfl,rfl⟩:=h
      exact ⟨x,y,z,rfl,hx,hy,hz,rfl⟩
     ·rw [dec1_pctB t hx (by omega)] at h;cases h
    ·rw [dec1_pctA (z :: t) hx (by omega)] at h;cases h
  ·left
   cases hp:plainB (x.toNat:Int) p
   ·rw [dec1_odd t hp hx] at h;cases h
   ·rw [dec1_plain t hp] at h
    simp only [Option.some.injEq,Prod.mk.injEq] at h
    obtain ⟨rfl,rfl⟩:=h
    exact ⟨rfl,hp,hx⟩
theorem dec1_nones {p:Bool} {l:List UInt8} (h:dec1 p l=none) :
  l=[]∨(∃ x t,l=x :: t∧¬ x.toNat=37∧plainB (x.toNat:Int) p=false)∨(∃ x,l=[x]∧x.toNat=37)∨(∃ x y t,l=x :: y :: t∧x.toNat=37∧digV (y.toNat:Int) < 0) ∨
  (∃ x y,l=[x,y]∧x.toNat=37∧0≤digV (y.toNat:Int))∨(∃ x y z t,l=x :: y :: z :: t∧x.toNat=37∧0≤digV (y.toNat:Int)∧digV (z.toNat:Int) < 0):=by
 match l with
 | []=>exact Or.inl rfl
 | x :: t =>
  right
  by_cases hx:x.toNat=37
  ·right
   match t with
   | []=>exact Or.inl ⟨x,rfl,hx⟩
   | y :: t =>
    right
    by_cases hy:0≤digV (y.toNat:Int)
    ·right
     match t with
     | []=>exact Or.inl ⟨x,y,rfl,hx,hy⟩
     | z :: t =>
      right
      by_cases hz:0≤digV (z.toNat:Int)
      ·rw [dec1_pct t hx hy hz] at h;cases h
      ·exact ⟨x,y,z,t,rfl,hx,hy,by omega⟩
    ·exact Or.inl ⟨x,y,t,rfl,hx,by omega⟩
  ·left
   cases hp:plainB (x.toNat:Int) p
   ·exact ⟨x,t,rfl,hx,hp⟩
   ·rw [dec1_plain t hp] at h;cases h
theorem readByte_some (b:Nat) (p:Bool) (l r:List UInt8) (c:UInt8) (w:World) (h:rdOk b p w l) (hl:l.length≤4000000000) (hd:dec1 p l=some (c,r)) :
  Calls Tryz.prog 252 #[.pointer (some ⟨b,0,none⟩)] w fun e w'=>e=.returned (.int .u8 c.toNat)∧rdOk b p w' r∧w.grownBy w' (some b):=by
 rcases dec1_cases hd with ⟨rfl,hp,hx⟩|⟨x,y,z,rfl,hx,hy,hz,rfl⟩
 ·have s1:=h.set r
  have t37:((c.toNat:Int) == 37)=false:=by simp;omega
  have G:=grown_set w b 0 (rest r)
  have hcp:=s1.2.1
  clear hx
  go_enter Tryz.func252,Tryz.ntmps252
  go_wp2_with (first|(go_at_call 264;refine (next_ok b r c _ h.1 h.2.2 hl).mono ?_;rintro e w' ⟨rfl,rfl⟩)|(go_at_call 46;refine (isPlain_any _ _ _).mono ?_;rintro e w' ⟨rfl,rfl⟩))
  go_ret
  exact ⟨rfl,s1,G⟩
 ·have s1:=h.set (y :: z :: r)
  have s2:=s1.set (z :: r)
  have s3:=s2.set r
  have t37:((x.toNat:Int) == 37)=true:=by simp [hx]
  have bx:=digV_bd (y.toNat:Int)
  have bz:=digV_bd (z.toNat:Int)
  have ho:=or_bits _ _ hy bx.2 hz bz.2
  have G:=grown_trans (grown_trans (grown_set w b 0 (rest (y :: z :: r))) (grown_set _ b 0 (rest (z :: r)))) (grown_set _ b 0 (rest r))
  simp only [List.length_cons] at hl
  clear hx
  go_enter Tryz.func252,Tryz.ntmps252
  go_wp2_with fail
  refine (next_ok b (y :: z :: r) x _ h.1 h.2.2 hl).mono ?_
  rintro e w' ⟨rfl,rfl⟩
  go_wp2_with fail
  refine (readDigit_ok b (z :: r) y _ s1.1 s1.2.2 (by simp;omega) hy).mono ?_
  rintro e w' ⟨rfl,rfl⟩
  go_wp2_with fail
  refine (readDigit_ok b r z _ s2.1 s2.2.2 (by simp;omega) hz).mono ?_
  rintro e w' ⟨rfl,rfl⟩
  clear s1 s2 h
  go_wp2
  go_ret
  exact ⟨ret_int (byte_of _ (by omega) (by omega)).symm,s3,G⟩
theorem readByte_none (b:Nat) (p:Bool) (l:List UInt8) (w:World) (h:rdOk b p w l) (hl:l.length≤4000000000) (hd:dec1 p l=none) :
  Calls Tryz.prog 252 #[.pointer (some ⟨b,0,none⟩)] w fun e w'=>e=.panicked noC∧w.grownBy w' (some b):=by
 rcases dec1_nones hd with rfl|⟨x,t,rfl,hx,hp⟩|⟨x,rfl,hx⟩|⟨x,y,t,rfl,hx,hy⟩|⟨x,y,rfl,hx,hy⟩|⟨x,y,z,t,rfl,hx,hy,hz⟩
 ·clear hd
  go_enter Tryz.func252,Tryz.ntmps252
  go_wp2_with (go_at_call 264;refine (next_no b _ h.1).mono ?_;rintro e w' ⟨rfl,rfl⟩)
  exact ⟨rfl,rfl,World.grownBy.refl _ _⟩
 ·clear hd
  have s1:=h.set t
  have t37:((x.toNat:Int) == 37)=false:=by simp;omega
  have G:=grown_set w b 0 (rest t)
  have hcp:=s1.2.1
  clear hx
  go_enter Tryz.func252,Tryz.ntmps252
  go_wp2_with (first|(go_at_call 264;refine (next_ok b t x _ h.1 h.2.2 hl).mono ?_;rintro e w' ⟨rfl,rfl⟩)|(go_at_call 46;refine (isPlain_any _ _ _).mono ?_;rintro e w' ⟨rfl,rfl⟩))
  exact ⟨rfl,rfl,G⟩
 ·clear hd
  have s1:=h.set []
  have t37:((x.toNat:Int) == 37)=true:=by simp [hx]
  have G:=grown_set w b 0 (rest [])
  clear hx
  go_enter Tryz.func252,Tryz.ntmps252
  go_wp2_with (first|(go_at_call 264;refine (next_ok b [] x _ h.1 h.2.2 hl).mono ?_;rintro e w' ⟨rfl,rfl⟩)|(go_at_call 265;refine (readDigit_no b _ s1.1).mono ?_;rintro e w' ⟨rfl,rfl⟩))
  exact ⟨rfl,rfl,G⟩
 ·clear hd
  have s1:=h.set (y :: t)
  have t37:((x.toNat:Int) == 37)=true:=by simp [hx]
  have G:=grown_trans (grown_set w b 0 (rest (y :: t))) (grown_set _ b 0 (rest t))
  simp only [List.length_cons] at hl
  clear hx
  go_enter Tryz.func252,Tryz.ntmps252
  go_wp2_with (first|(go_at_call 264;refine (next_ok b (y :: t) x _ h.1 h.2.2 hl).mono ?_;rintro e w' ⟨rfl,rfl⟩)|(go_at_call 265;refine (readDigit_bad b t y _ s1.1 s1.2.2 (by simp;omega) hy).mono ?_;rintro e w' ⟨rfl,rfl⟩))
  exact ⟨rfl,rfl,G⟩
 ·clear hd
  have s1:=h.set [y]
  have s2:=s1.set []
  have t37:((x.toNat:Int) == 37)=true:=by simp [hx]
  have G:=grown_trans (grown_set w b 0 (rest [y])) (grown_set _ b 0 (rest []))
  clear hx
  go_enter Tryz.func252,Tryz.ntmps252
  go_wp2_with fail
  refine (next_ok b [y] x _ h.1 h.2.2 hl).mono ?_
  rintro e w' ⟨rfl,rfl⟩
  go_wp2_with fail
  refine (readDigit_ok b [] y _ s1.1 s1.2.2 (by simp) hy).mono ?_
  rintro e w' ⟨rfl,rfl⟩
  go_wp2_with fail
  refine (readDigit_no b _ s2.1).mono ?_
  rintro e w' ⟨rfl,rfl⟩
  go_wp2
  exact ⟨rfl,rfl,G⟩
 ·clear hd
  have s1:=h.set (y :: z :: t)
  have s2:=s1.set (z :: t)
  have t37:((x.toNat:Int) == 37)=true:=by simp [hx]
  have G:=grown_trans (grown_trans (grown_set w b 0 (rest (y :: z :: t))) (grown_set _ b 0 (rest (z :: t)))) (grown_set _ b 0 (rest t))
  simp only [List.length_cons] at hl
  clear hx
  go_enter Tryz.func252,Tryz.ntmps252
  go_wp2_with fail
  refine (next_ok b (y :: z :: t) x _ h.1 h.2.2 hl).mono ?_
  rintro e w' ⟨rfl,rfl⟩
  go_wp2_with fail
  refine (readDigit_ok b (z :: t) y _ s1.1 s1.2.2 (by simp;omega) hy).mono ?_
  rintro e w' ⟨rfl,rfl⟩
  go_wp2_with fail
  refine (readDigit_bad b t z _ s2.1 s2.2.2 (by simp;omega) hz).mono ?_
  rintro e w' ⟨rfl,rfl⟩
  go_wp2
  exact ⟨rfl,rfl,G⟩
end Go.Proofs.YtbllcgibmgbnjaaGreatDoor.C
namespace Go.Proofs.YtbllcgibmgbnjaaGreatDoor.C
open Go.RowKit
def left (b:Nat) (w:World):Nat:=match w.cell? ⟨b,0,none⟩ with
 | some (.string s)=>s.size
 | _=>0
theorem left_of {b:Nat} {p:Bool} {w:World} {l:List UInt8} (h:rdOk b p w l):left b w=l.length:=by
 unfold left;rw [h.1];simp [rest,ByteArray.size]
theorem rdOk.below {b B:Nat} {p:Bool} {w w':World} {l:List UInt8} (h:rdOk b p w l) (hb:b < B) (k:Below B w w'):rdOk b p w' l :=
 ⟨(k.cell (p:=⟨b,0,none⟩) hb).trans h.1,(k.cell (p:=⟨b,1,none⟩) hb).trans h.2.1,(k.frozen (p:=⟨b,0,none⟩) hb).trans h.2.2⟩
theorem grown_below {B b:Nat} {w w':World} (k:Below B w w') (hB:w.heap.size≤B):w.grownBy w' (some b) :=
 ⟨k.os,k.tape,k.output,k.size,fun j hj _=>k.block j (by omega)⟩
theorem owns.kept {w w':World} {B b:Nat} {v:Value} {l:List UInt8} (h:owns w B v l) (hg:w.grownBy w' (some b)) (hb:b < B):owns w' B v l :=
 World.ownsRow.kept h hg (by
  cases hv:v.ownBlock with
  | none=>exact Or.inl rfl
  | some k=>right;have:=h.lt k hv;intro e;simp at e;omega)
theorem grown_then {w w1 w2:World} {r:Option Nat} (h:w.grownBy w1 r) (k:Below w.heap.size w1 w2):w.grownBy w2 r :=
 ⟨k.os.trans h.os,k.tape.trans h.tape,k.output.trans h.output,Nat.le_trans h.size k.size,fun j hj hne=>(k.block j hj).trans (h.block j hj hne)⟩
def rdEnd:Option (List UInt8)→Ending
 | some t=>.returned (.string ⟨t.toArray⟩)
 | none=>.panicked noC
theorem end_ret {d:Option (List UInt8)} {o:List UInt8} (h:d=some o):Ending.returned (.string ⟨o.toArray⟩)=rdEnd d:=by rw [h];rfl
theorem end_pan {d:Option (List UInt8)} (h:d=none):Ending.panicked noC=rdEnd d:=by rw [h];rfl
theorem readAll_any (b:Nat) (p:Bool) (l:List UInt8) (w:World) (h:rdOk b p w l) (hb:b < w.heap.size) (hl:l.length≤4000000000) :
  Calls Tryz.prog 225 #[.pointer (some ⟨b,0,none⟩)] w fun e w'=>e=rdEnd (dec p l)∧w.grownBy w' (some b):=by
 obtain ⟨i0,hi,hz0,hz1,hz2⟩:=info_parts Tryz.info5
 have h00:w.cell? ⟨b,0,none⟩=some (.string ⟨l.toArray⟩):=h.1
 go_enter Tryz.func225,Tryz.ntmps225
 go_wp2_with (at_make;refine wpList_make_own _ rfl _ _ 70 rfl w.heap.size 5 i0 (.int .u8 0) 1 Tryz.underlying70 hi hz0 hz1 .i64 .i64 _ l.length rfl rfl rfl (by rw [hz2];omega) (by unfold maxLen;omega) (Nat.le_refl _) ?_;intro w1 hown1 hg1)
 go_loopw [3] (fun v wr=>∃ o r:List UInt8,owns wr w.heap.size v o∧rdOk b p wr r∧w.grownBy wr (some b)∧dec p l=(dec p r).map (o++·)∧o.length+r.length≤l.length) (fun _ wr=>left b wr)
 case atStart =>
  refine ⟨[],l,by simpa [owns] using hown1,h.below hb ((Below.refl _ _).grown hg1 (Nat.le_refl _) (by simp)),grown_below ((Below.refl w.heap.size w).grown hg1 (Nat.le_refl _) (by simp)) (Nat.le_refl _),by simp,by simp⟩
 case round =>
  obtain ⟨o,r,hown,hrd,hgr,hdec,hlen⟩:=hrel
  clear hown1 hg1 hi hz0 hz1 hz2 i0 h00
  have HX:Hid (dec p l=(dec p r).map (o++·)):=hdec
  clear hdec
  have hsz:=hgr.size
  have h00:wr.cell? ⟨b,0,none⟩=some (.string ⟨r.toArray⟩):=hrd.1
  match r with
  | [] =>
   have hcv:=hown.conv
   go_wp2
   go_ret
   exact ⟨end_ret (by rw [HX.out,dec_nil];simp),hgr⟩
  | x :: r' =>
   simp only [List.length_cons] at hlen
   cases hd1:dec1 p (x :: r') with
   | none =>
    have HN:Hid (dec p l=none):=by show _=_;rw [HX.out,dec_none (by simp) hd1];rfl
    clear HX
    go_wp2_with (go_at_call 252;refine (readByte_none b p (x :: r') _ hrd (by simp;omega) hd1).mono ?_;rintro e w' ⟨rfl,hg⟩)
    exact ⟨rfl,end_pan HN.out,grown_trans hgr hg⟩
   | some cr =>
    obtain ⟨c,r2⟩:=cr
    have hshort:=dec1_len hd1
    simp only [List.length_cons] at hshort
    have HY:Hid (dec p l=(dec p r2).map ((o++[c])++·)):=by
     show _=_
     rw [HX.out,dec_some hd1];cases dec p r2 <;> simp
    clear HX
    have HL:=left_of hrd
    have HL2:Hid (left b wr=r'.length+1):=HL
    clear HL
    go_wp2_with fail
    refine (readByte_some b p (x :: r') r2 c _ hrd (by simp;omega) hd1).mono ?_
    rintro e w2 ⟨rfl,hrd2,hg2⟩
    have hown2:=hown.kept hg2 hb
    have hsz2:=hg2.size
    have hgr2:=grown_trans hgr hg2
    clear hown hgr h00 hrd
    go_wp2_with (at_builtin;refine app_law rfl _ _ rfl w.heap.size _ [c] _ rfl (hown2.alloc _) _ 1 rfl rfl _ (heap_alloc_new _ _) (by omega) (by omega) (by simp;omega) ?_;intro v' w3 hown3 hb3)
    have k3:Below w.heap.size w2 w3:=((Below.refl w.heap.size w2).alloc (by omega) _).trans hb3
    have hrd3:=hrd2.below hb k3
    have HL3:=left_of hrd3
    go_roundw
    case rel=>exact ⟨o++[c],r2,hown3,hrd3,grown_then hgr2 k3,HY.out,by simp;omega⟩
    case measure=>have:=HL2.out;omega
end Go.Proofs.YtbllcgibmgbnjaaGreatDoor.C
namespace Go.Proofs.YtbllcgibmgbnjaaGreatDoor.C
open Go.RowKit
theorem catch_panicking (a b : Nat) (s : ByteArray) (x : Int) (u : TypeId) (pv : Value) (older : List PanicEntry) (w : World) (hc : w.cell? ⟨a, 0, none⟩ = some (.string s)) (hz : w.frozen? ⟨a, 0, none⟩ = false)
   (hc2 : w.cell? ⟨b, 0, none⟩ = some (.int .i64 x)) (hz2 : w.frozen? ⟨b, 0, none⟩ = false) (_hab : ¬ b = a) :
    CallsD Tryz.prog 224 #[.pointer (some ⟨a,0,none⟩),.pointer (some ⟨b,0,none⟩)] (.panicking ({ v:=.iface u pv,recovered:=false } :: older)) w fun e u' w' =>
      e=.returned (.tuple #[])∧u'=.panicking ({ v:=.iface u pv,recovered:=true } :: older)∧w'=(w.setCell ⟨a,0,none⟩ (.string ⟨#[]⟩)).setCell ⟨b,0,none⟩ (.int .i64 2):=by
  refine callsD_of_wpS Tryz.func224 rfl fun c₀ cs hu=>?_
  apply wpS_seq
  apply wpS_region
  simp [wpOpsS,go_sem,recoverD,hu,Tryz.ntmps224,Exit.thenS]
  refine wpS_cond (t:=true) (by simp [Act.eval,Array.replicate]) ?_
  simp only [if_true]
  apply wpS_region
  have hc3:(w.setCell ⟨a,0,none⟩ (.string ⟨#[]⟩)).cell? ⟨b,0,none⟩=some (.int .i64 x):=by rw [World.cell?_setCell_other _ _ _ _ (by simp)];exact hc2
  simp [wpOpsS,go_sem,hc,hz,hz2,hc3,bodyPostS,results,Tryz.results224]
theorem catch_idle (a b:Nat) (w:World) :
  CallsD Tryz.prog 224 #[.pointer (some ⟨a,0,none⟩),.pointer (some ⟨b,0,none⟩)] .returning w fun e u' w'=>e=.returned (.tuple #[])∧u'=.returning∧w'=w:=by
 refine callsD_of_wpS Tryz.func224 rfl fun c₀ cs hu=>?_
 apply wpS_seq
 apply wpS_region
 simp [wpOpsS,go_sem,recoverD,hu,Tryz.ntmps224,Exit.thenS]
 refine wpS_cond (t:=false) (by simp [Act.eval,Array.replicate]) ?_
 simp only [Bool.false_eq_true,if_false]
 refine wpS_of_wp (wp_skip ?_)
 cases c₀
 simp_all [bodyPostS,results,Tryz.results224]
def decEnd:Option (List UInt8)→Ending
 | some t=>.returned (.tuple #[.string ⟨t.toArray⟩,.int .i64 0])
 | none=>.returned (.tuple #[.string ⟨#[]⟩,.int .i64 2])
abbrev started (w:World) (s:ByteArray) (p:Bool):World :=
 ((w.alloc (.cells #[.string ⟨#[]⟩] 9)).alloc (.cells #[.int .i64 0] 25)).alloc (.cells #[.string s,.bool p] 322)
theorem start_rd (w:World) (s:ByteArray) (p:Bool):rdOk (w.heap.size+1+1) p (started w s p) s.data.toList:=by
 refine ⟨?_,?_,?_⟩
 ·simp [go_sem,rest]
 ·simp [go_sem]
 ·simp [go_sem]
theorem start_cells (w:World) (s:ByteArray) (p:Bool):(started w s p).cell? ⟨w.heap.size,0,none⟩=some (.string ⟨#[]⟩)∧(started w s p).cell? ⟨w.heap.size+1,0,none⟩=some (.int .i64 0) ∧
  (started w s p).frozen? ⟨w.heap.size,0,none⟩=false∧(started w s p).frozen? ⟨w.heap.size+1,0,none⟩=false∧(started w s p).heap.size=w.heap.size+1+1+1:=by
 refine ⟨?_,?_,?_,?_,?_⟩ <;> simp [go_sem]
theorem started_below (w:World) (s:ByteArray) (p:Bool):Below w.heap.size w (started w s p) :=
 (((Below.refl _ _).alloc (Nat.le_refl _) _).alloc (by simp) _).alloc (by simp;omega) _
theorem decode_any (s:ByteArray) (p:Bool) (w:World) (hs:s.size≤4000000000) :
  Calls Tryz.prog 192 #[.string s,.bool p] w fun e w'=>e=decEnd (dec p s.data.toList)∧Below w.heap.size w w':=by
 have hmf:∀ (fn:Fn) (first cap:Array Value) (w:World),(Instr.makeFunc fn first cap).run Tryz.prog w=.ok (.func fn first cap) w:=fun _ _ _ _=>rfl
 have S:=start_rd w s p
 obtain ⟨c1,c2,f1,f2,z⟩:=start_cells w s p
 have SB:=started_below w s p
 go_enter_defers Tryz.func192,Tryz.ntmps192
 go_wp2_with fail
 refine (readAll_any (w.heap.size+1+1) p s.data.toList _ S (by rw [z];omega) (by simpa using hs)).mono ?_
 rintro e w1 ⟨rfl,hg⟩
 have d1:w1.cell? ⟨w.heap.size,0,none⟩=some (.string ⟨#[]⟩):=hg.cell c1 (by first|(simp;done)|(simp;omega))
 have d2:w1.cell? ⟨w.heap.size+1,0,none⟩=some (.int .i64 0):=hg.cell c2 (by simp)
 have g1:w1.frozen? ⟨w.heap.size,0,none⟩=false:=(hg.frozen_far _ (by first|(simp;done)|(simp;omega)) (by first|(simp;done)|(simp;omega))).trans f1
 have g2:w1.frozen? ⟨w.heap.size+1,0,none⟩=false:=(hg.frozen_far _ (by first|(simp;done)|(simp;omega)) (by first|(simp;done)|(simp;omega))).trans f2
 have z1:w.heap.size+1+1+1≤w1.heap.size:=by have:=hg.size;omega
 have KB:Below w.heap.size w w1:=SB.grown hg (by omega) (by intro k hk;simp at hk;omega)
 clear S c1 c2 f1 f2 z SB hg
 cases hd:dec p s.data.toList with
 | none =>
  simp only [rdEnd]
  go_wp2
  refine leaves_cons (f:=224) (args:=#[.pointer (some ⟨w.heap.size,0,none⟩),.pointer (some ⟨w.heap.size+1,0,none⟩)]) (by simp) (by simp [go_sem]) ?_
  refine (catch_panicking w.heap.size (w.heap.size+1) ⟨#[]⟩ 0 351 _ [] _ d1 g1 d2 g2 (by omega)).mono ?_
  rintro e u' w'' ⟨rfl,rfl,rfl⟩
  have KB2:=(KB.setCell (p:=⟨w.heap.size,0,none⟩) (Nat.le_refl _) (.string ⟨#[]⟩)).setCell (p:=⟨w.heap.size+1,0,none⟩) (Nat.le_succ _) (.int .i64 2)
  rw [hd]
  simp [Leaves,settle,results,Tryz.results192,go_sem,decEnd,d1,d2,KB2]
 | some t =>
  simp only [rdEnd]
  go_wp2
  refine leaves_cons (f:=224) (args:=#[.pointer (some ⟨w.heap.size,0,none⟩),.pointer (some ⟨w.heap.size+1,0,none⟩)]) (by simp) (by simp [go_sem]) ?_
  refine (catch_idle w.heap.size (w.heap.size+1) _).mono ?_
  rintro e u' w'' ⟨rfl,rfl,rfl⟩
  have KB2:=(KB.setCell (p:=⟨w.heap.size,0,none⟩) (Nat.le_refl _) (.string ⟨t.toArray⟩)).setCell (p:=⟨w.heap.size+1,0,none⟩) (Nat.le_succ _) (.int .i64 0)
  rw [hd]
  simp [Leaves,settle,results,Tryz.results192,go_sem,decEnd,d1,d2,KB2]
end Go.Proofs.YtbllcgibmgbnjaaGreatDoor.C
namespace Go.Proofs.YtbllcgibmgbnjaaGreatDoor.C
open Go.RowKit
end Go.Proofs.YtbllcgibmgbnjaaGreatDoor.C
namespace Go.Proofs.YtbllcgibmgbnjaaGreatDoor.R
open Go.Proofs.YtbllcgibmgbnjaaGreatDoor.C (dec)
abbrev Bs:=List UInt8
abbrev Ps:=List (Bs×Bs)
theorem index_neg {s sep:Bs} (h:¬ 0≤Lib.index s sep):Lib.index s sep=-1:=by
 have:=Lib.index_ge s sep;omega
theorem cut_miss {s sep:Bs} (h:Lib.index s sep=-1):Lib.cut s sep=(s,[],false):=by
 unfold Lib.cut;rw [h];rfl
theorem cut_pre {s sep:Bs} (h:sep.isPrefixOf s=true) (hs:s≠[]∨sep=[]):Lib.cut s sep=([],s.drop sep.length,true):=by
 have e:Lib.index s sep=0:=by
  cases s with
  | nil => rcases hs with hs | hs
           · exact absurd rfl hs
           · subst hs;rfl
  | cons b l=>unfold Lib.index;rw [if_pos h]
 unfold Lib.cut;rw [e];simp
theorem cut_cons {b:UInt8} {l sep:Bs} (h:sep.isPrefixOf (b :: l)=false):Lib.cut (b :: l) sep=(b :: (Lib.cut l sep).1,(Lib.cut l sep).2.1,(Lib.cut l sep).2.2):=by
 have e:Lib.index (b :: l) sep=if Lib.index l sep == -1 then -1 else Lib.index l sep+1:=by
  rw [Lib.index];rw [h];simp
 by_cases hl:0≤Lib.index l sep
 ·have hne:(Lib.index l sep == -1)=false:=by rw [beq_eq_false_iff_ne];omega
  rw [hne] at e
  simp only [Bool.false_eq_true,if_false] at e
  have e1:(Lib.index l sep+1).toNat=(Lib.index l sep).toNat+1:=by omega
  have e2:(Lib.index l sep).toNat+1+sep.length=((Lib.index l sep).toNat+sep.length)+1:=by omega
  unfold Lib.cut
  rw [e,if_pos (by omega),if_pos hl,e1,e2]
  simp
 ·have hm:=index_neg hl
  rw [cut_miss hm]
  rw [hm] at e
  rw [cut_miss (by rw [e];rfl)]
theorem cut_nil {sep:Bs} (h:sep≠[]):Lib.cut [] sep=([],[],false):=by
 apply cut_miss
 cases sep with
 | nil=>exact absurd rfl h
 | cons a t=>rfl
theorem cut_len (sep:Bs):∀ s:Bs,(Lib.cut s sep).1.length+(Lib.cut s sep).2.1.length+(if (Lib.cut s sep).2.2 then sep.length else 0)=s.length:=by
 intro s
 induction s with
 | nil =>
  cases sep with
  | nil=>rfl
  | cons a t=>rw [cut_nil (by simp)];rfl
 | cons b l ih =>
  cases h:sep.isPrefixOf (b :: l) with
  | true =>
   rw [cut_pre h (Or.inl (by simp))]
   have hle:sep.length≤(b :: l).length:=(List.isPrefixOf_iff_prefix.1 h).length_le
   simp only [List.length_nil,List.length_drop,if_true];omega
  | false=>rw [cut_cons h];simp only [List.length_cons];omega
theorem cut_le (s sep:Bs):(Lib.cut s sep).1.length≤s.length∧(Lib.cut s sep).2.1.length≤s.length:=by
 have:=cut_len sep s;omega
theorem countFrom_more (sep:Bs) (hs:sep≠[]):∀ (n m:Nat) (s:Bs),s.length < n→s.length < m→Lib.countFrom sep n s=Lib.countFrom sep m s:=by
 intro n
 induction n with
 | zero=>intro m s h;omega
 | succ n ih =>
  intro m s hn hm
  obtain ⟨m,rfl⟩:∃ k,m=k+1:=⟨m - 1,by omega⟩
  simp only [Lib.countFrom]
  by_cases h:Lib.index s sep == -1
  ·simp only [h,if_true]
  ·simp only [h,Bool.false_eq_true,if_false]
   have hp:0 < sep.length:=List.length_pos_iff.2 hs
   by_cases h0:s=[]
   ·subst h0
    exfalso;apply h
    cases sep with
    | nil=>exact absurd rfl hs
    | cons a t=>rfl
   ·have:0 < s.length:=List.length_pos_iff.2 h0
    have hd:(s.drop ((Lib.index s sep).toNat+sep.length)).length < s.length:=by rw [List.length_drop];omega
    rw [ih m _ (by omega) (by omega)]
theorem split_rec (s sep:Bs) (hs:sep≠[]):Lib.split s sep=if (Lib.cut s sep).2.2 then (Lib.cut s sep).1 :: Lib.split (Lib.cut s sep).2.1 sep else [s]:=by
 by_cases h:0≤Lib.index s sep
 ·have hne:(Lib.index s sep == -1)=false:=by rw [beq_eq_false_iff_ne];omega
  have hp:0 < sep.length:=List.length_pos_iff.2 hs
  have h0:s≠[]:=by
   intro h0;subst h0
   cases sep with
   | nil=>exact absurd rfl hs
   | cons a t=>simp [Lib.index] at h
  have hsl:0 < s.length:=List.length_pos_iff.2 h0
  have hd:(s.drop ((Lib.index s sep).toNat+sep.length)).length < s.length:=by rw [List.length_drop];omega
  have ec:Lib.cut s sep=(s.take (Lib.index s sep).toNat,s.drop ((Lib.index s sep).toNat+sep.length),true):=by unfold Lib.cut;rw [if_pos h]
  have e1:Lib.count s sep=Lib.count (s.drop ((Lib.index s sep).toNat+sep.length)) sep+1:=by
   unfold Lib.count
   rw [show s.length+1=(s.length)+1 from rfl,Lib.countFrom,hne]
   simp only [Bool.false_eq_true,if_false]
   rw [countFrom_more sep hs s.length ((s.drop ((Lib.index s sep).toNat+sep.length)).length+1) _ (by omega) (by omega)]
   omega
  rw [ec]
  simp only [if_true]
  unfold Lib.split
  rw [e1,Lib.splitK,hne]
  simp
 ·have hm:=index_neg h
  rw [cut_miss hm]
  simp only [Bool.false_eq_true,if_false]
  unfold Lib.split Lib.count
  rw [Lib.countFrom,hm]
  rfl
theorem split_len1 (sep:Bs) (hs:sep≠[]):∀ (n:Nat) (s:Bs),s.length≤n→(Lib.split s sep).length≤s.length+1∧∀ t∈Lib.split s sep,t.length≤s.length:=by
 have hp:0 < sep.length:=List.length_pos_iff.2 hs
 intro n
 induction n with
 | zero =>
  intro s hn
  have e:=split_rec s sep hs
  have hc:=cut_len sep s
  cases hf:(Lib.cut s sep).2.2 with
  | true=>rw [hf] at hc;simp only [if_true] at hc;omega
  | false=>rw [hf] at e;simp only [Bool.false_eq_true,if_false] at e;rw [e];simp
 | succ n ih =>
  intro s hn
  have e:=split_rec s sep hs
  have hc:=cut_len sep s
  cases hf:(Lib.cut s sep).2.2 with
  | true =>
   rw [hf] at hc e
   simp only [if_true] at hc e
   obtain ⟨i1,i2⟩:=ih (Lib.cut s sep).2.1 (by omega)
   rw [e]
   refine ⟨by simp only [List.length_cons];omega,?_⟩
   intro t ht
   rcases List.mem_cons.1 ht with rfl|ht
   ·omega
   ·have:=i2 t ht;omega
  | false=>rw [hf] at e;simp only [Bool.false_eq_true,if_false] at e;rw [e];simp
theorem split_len (s sep:Bs) (hs:sep≠[]):(Lib.split s sep).length≤s.length+1:=(split_len1 sep hs s.length s (Nat.le_refl _)).1
theorem split_mem {s sep t:Bs} (hs:sep≠[]) (h:t∈Lib.split s sep):t.length≤s.length:=(split_len1 sep hs s.length s (Nat.le_refl _)).2 t h
def findP:Ps→Bs→Option Bs
 | [],_=>none
 | p :: r,k=>if p.1=k then some p.2 else findP r k
theorem findP_snoc (l:Ps) (p:Bs×Bs) (k:Bs):findP (l++[p]) k=match findP l k with
  | some v=>some v
  | none=>if p.1=k then some p.2 else none:=by
 induction l with
 | nil=>simp [findP]
 | cons q l ih=>simp only [List.cons_append,findP];split <;> simp_all
def pairOf (t:Bs):Option (Bs×Bs) :=
 match dec false (Lib.cut t [61]).1,dec false (Lib.cut t [61]).2.1 with
 | some n,some v=>if n=[] then none else some (n,v)
 | _,_=>none
def addP (l:Ps) (p:Bs×Bs):Option Ps:=if findP l p.1=none then some (l++[p]) else none
def queryFrom:Ps→List Bs→Option Ps
 | l,[]=>some l
 | l,t :: r=>match pairOf t with
  | none=>none
  | some p=>match addP l p with
   | none=>none
   | some l'=>queryFrom l' r
def queryOf (q:Bs):Option Ps:=queryFrom [] (Lib.split q [38])
def nameB (b:UInt8):Bool:=decide (97≤b.toNat∧b.toNat≤122) || decide (48≤b.toNat∧b.toNat≤57) || b.toNat == 45
def showB (b:UInt8):Bool:=decide (32≤b.toNat∧b.toNat≤126)
def hname (n:Bs):Bool:=n.all nameB && decide (1≤n.length∧n.length≤20)
def headerOf (l:Bs):Option (Bs×Bs) :=
 if (Lib.cut l [58,32]).2.2=true∧hname (Lib.cut l [58,32]).1=true∧(Lib.cut l [58,32]).2.1.all showB=true then some ((Lib.cut l [58,32]).1,(Lib.cut l [58,32]).2.1) else none
def headersFrom:Nat→Ps→Bs→Option (Ps×Bs)
 | k,l,rest =>
  if (Lib.cut rest [10]).2.2=false then none
  else if (Lib.cut rest [10]).1=[] then some (l,(Lib.cut rest [10]).2.1)
  else match k with
   | 0=>none
   | k+1=>match headerOf (Lib.cut rest [10]).1 with
    | none=>none
    | some p=>match addP l p with
     | none=>none
     | some l'=>headersFrom k l' (Lib.cut rest [10]).2.1
def isMethod (m:Bs):Bool:=m == [71,69,84] || m == [80,85,84] || m == [68,69,76,69,84,69]
structure First where
 method:Bs:=[]
 path:Bs:=[]
 query:Ps:=[]
def firstOf (top:Bs):Option First :=
 if (Lib.cut top [32]).2.2=true∧isMethod (Lib.cut top [32]).1=true∧([47]:Bs).isPrefixOf (Lib.cut (Lib.cut top [32]).2.1 [63]).1=true then
  match dec true (Lib.cut (Lib.cut top [32]).2.1 [63]).1 with
  | none=>none
  | some p=>if (Lib.cut (Lib.cut top [32]).2.1 [63]).2.2=true then (queryOf (Lib.cut (Lib.cut top [32]).2.1 [63]).2.1).map (fun q=>{ method:=(Lib.cut top [32]).1,path:=p,query:=q })
   else some { method:=(Lib.cut top [32]).1,path:=p }
 else none
structure Req extends First where
 headers:Ps:=[]
 body:Bs:=[]
def lenOk (hs:Ps) (body:Bs):Bool:=match findP hs [108,101,110,103,116,104] with
 | none=>body.isEmpty
 | some v=>v == Lib.itoa (body.length:Int)
def reqOf (s:Bs):Option Req :=
 if (Lib.cut s [10]).2.2=true then
  match firstOf (Lib.cut s [10]).1 with
  | none=>none
  | some f=>match headersFrom 12 [] (Lib.cut s [10]).2.1 with
   | none=>none
   | some (hs,body)=>if lenOk hs body=true then some { toFirst:=f,headers:=hs,body:=body } else none
 else none
def parseOf (s:Bs):Int×Req :=
 if 2000 < s.length then (1,{}) else match reqOf s with
  | none=>(2,{})
  | some r=>if 300 < r.body.length then (1,{}) else (0,r)
end Go.Proofs.YtbllcgibmgbnjaaGreatDoor.R
namespace Go.Proofs.YtbllcgibmgbnjaaGreatDoor.R
open Go.RowKit
open Go.Proofs.YtbllcgibmgbnjaaGreatDoor.C (dec ret_bool ret_int take_snoc)
abbrev str (l:Bs):Value:=.string ⟨l.toArray⟩
def noR:List PanicEntry:=[{ v:=.iface 299 (.agg #[]),recovered:=false }]
theorem need_ok (w:World):Calls Tryz.prog 142 #[.bool true] w fun e w'=>e=.returned (.tuple #[])∧w'=w:=by
 go_enter Tryz.func142,Tryz.ntmps142
 go_wp2
 go_end0
 exact ⟨rfl,rfl⟩
theorem need_no (w:World):Calls Tryz.prog 142 #[.bool false] w fun e w'=>e=.panicked noR∧w'=w:=by
 go_enter Tryz.func142,Tryz.ntmps142
 go_wp2
 exact ⟨rfl,rfl,rfl⟩
theorem isMethod_any (l:Bs) (w:World):Calls Tryz.prog 143 #[str l] w fun e w'=>e=.returned (.bool (isMethod l))∧w'=w:=by
 go_enter Tryz.func143,Tryz.ntmps143
 go_wp2
 all_goals (go_ret;exact ⟨ret_bool (by simp_all [isMethod]),rfl⟩)
theorem take_snocL {l:Bs} {k:Nat} (h:k < l.length):l.take (k+1)=l.take k++[l[k]]:=List.take_succ_eq_append_getElem h
theorem all_snoc {f:UInt8→Bool} {l:Bs} {k:Nat} (h:k < l.length):(l.take (k+1)).all f=((l.take k).all f && f l[k]):=by rw [take_snocL h,List.all_append];simp
theorem all_not {f:UInt8→Bool} {l:Bs} {k:Nat} (h:k < l.length) (hf:f l[k]=false):l.all f=false:=by
 rw [List.all_eq_false];exact ⟨l[k],List.getElem_mem h,by simp [hf]⟩
theorem isHeaderValue_any (l:Bs) (w:World) (hl:l.length≤1000000000):Calls Tryz.prog 195 #[str l] w fun e w'=>e=.returned (.bool (l.all showB))∧w'=w:=by
 go_enter Tryz.func195,Tryz.ntmps195
 go_wp2
 go_loop [6] (fun i=>∃ k:Nat,k≤l.length∧i=.int .i64 k∧(l.take k).all showB=true) (fun i=>l.length - (intOf i).toNat)
 case atStart=>exact ⟨0,Nat.zero_le _,rfl,by simp⟩
 case round =>
  obtain ⟨k,hk,rfl,hall⟩:=hrel
  have HA:Hid ((l.take k).all showB=true):=hall
  clear hall
  by_cases hlt:k < l.length
  ·have HS:Hid ((l.take (k+1)).all showB=((l.take k).all showB && showB l[k])):=all_snoc hlt
   have HN:Hid (showB l[k]=false→l.all showB=false):=all_not hlt
   obtain ⟨c,hc⟩:∃ c,l[k]=c:=⟨_,rfl⟩
   have ix:∀ h,(⟨l.toArray⟩:ByteArray)[k]'h=c:=fun _=>hc
   rw [hc] at HS HN
   clear hc
   have hb:=c.toNat_lt
   go_wp2
   ·go_ret
    exact ⟨ret_bool (HN.out (by simp [showB];omega)).symm,rfl⟩
   ·go_round
    case rel=>exact ⟨k+1,by omega,by go_num,by rw [HS.out,HA.out];simp [showB];omega⟩
    case measure=>simp [intOf];omega
   ·go_ret
    exact ⟨ret_bool (HN.out (by simp [showB];omega)).symm,rfl⟩
  ·go_wp2
   go_ret
   exact ⟨ret_bool (by rw [← HA.out,List.take_of_length_le (by omega)]),rfl⟩
theorem isHeaderName_any (l:Bs) (w:World) (hl:l.length≤1000000000):Calls Tryz.prog 194 #[str l] w fun e w'=>e=.returned (.bool (hname l))∧w'=w:=by
 go_enter Tryz.func194,Tryz.ntmps194
 go_wp2
 go_loop [7] (fun i=>∃ k:Nat,k≤l.length∧i=.int .i64 k∧(l.take k).all nameB=true) (fun i=>l.length - (intOf i).toNat)
 case atStart=>exact ⟨0,Nat.zero_le _,rfl,by simp⟩
 case round =>
  obtain ⟨k,hk,rfl,hall⟩:=hrel
  have HA:Hid ((l.take k).all nameB=true):=hall
  clear hall
  by_cases hlt:k < l.length
  ·have HS:Hid ((l.take (k+1)).all nameB=((l.take k).all nameB && nameB l[k])):=all_snoc hlt
   have HN:Hid (nameB l[k]=false→l.all nameB=false):=all_not hlt
   obtain ⟨c,hc⟩:∃ c,l[k]=c:=⟨_,rfl⟩
   have ix:∀ h,(⟨l.toArray⟩:ByteArray)[k]'h=c:=fun _=>hc
   rw [hc] at HS HN
   clear hc
   have hb:=c.toNat_lt
   rcases (by omega:(97≤(c.toNat:Int)∧(c.toNat:Int)≤122)∨(48≤(c.toNat:Int)∧(c.toNat:Int)≤57)∨(c.toNat:Int)=45∨(c.toNat:Int) < 45∨(45 < (c.toNat:Int)∧(c.toNat:Int) < 48)∨(57 < (c.toNat:Int)∧(c.toNat:Int) < 97)∨122 < (c.toNat:Int)) with ⟨h1,h2⟩|⟨h1,h2⟩|h1|h1|⟨h1,h2⟩|⟨h1,h2⟩|h1
   ·have HT:Hid (nameB c=true):=by show _=_;simp [nameB];omega
    go_wp2
    go_round
    case rel=>exact ⟨k+1,by omega,by go_num,by rw [HS.out,HA.out,HT.out];rfl⟩
    case measure=>simp [intOf];omega
   ·have HT:Hid (nameB c=true):=by show _=_;simp [nameB];omega
    go_wp2
    go_round
    case rel=>exact ⟨k+1,by omega,by go_num,by rw [HS.out,HA.out,HT.out];rfl⟩
    case measure=>simp [intOf];omega
   ·have HT:Hid (nameB c=true):=by show _=_;simp [nameB];omega
    go_wp2
    go_round
    case rel=>exact ⟨k+1,by omega,by go_num,by rw [HS.out,HA.out,HT.out];rfl⟩
    case measure=>simp [intOf];omega
   all_goals
    have HT:Hid (nameB c=false):=by show _=_;simp [nameB];omega
    have t45:((c.toNat:Int) == 45)=false:=by simp;omega
    try have d57:decide ((c.toNat:Int)≤57)=false:=by simp;omega
    try have d122:decide ((c.toNat:Int)≤122)=false:=by simp;omega
    go_wp2
    go_ret
    exact ⟨ret_bool (by rw [hname,HN.out HT.out];rfl),rfl⟩
  ·have HT:Hid (l.all nameB=true):=by have:=HA.out;rwa [List.take_of_length_le (by omega)] at this
   clear HA
   by_cases h1:1≤l.length
   ·by_cases h2:l.length≤20
    ·have HX:Hid (hname l=true):=by show _=_;rw [hname,HT.out];simp;omega
     go_wp2
     go_ret
     exact ⟨ret_bool (by rw [HX.out];simp;omega),rfl⟩
    ·have HX:Hid (hname l=false):=by show _=_;rw [hname,HT.out];simp;omega
     go_wp2
     go_ret
     exact ⟨ret_bool (by rw [HX.out];simp;omega),rfl⟩
   ·have HX:Hid (hname l=false):=by show _=_;rw [hname,HT.out];simp;omega
    go_wp2
    go_ret
    exact ⟨ret_bool HX.out.symm,rfl⟩
end Go.Proofs.YtbllcgibmgbnjaaGreatDoor.R
namespace Go.Proofs.YtbllcgibmgbnjaaGreatDoor.R
open Go.RowKit
open Go.Proofs.YtbllcgibmgbnjaaGreatDoor.C (ret_bool ret_int)
def pcells (l:Ps):List Value:=l.flatMap fun p=>[str p.1,str p.2]
theorem pcells_snoc (l:Ps) (p:Bs×Bs):pcells (l++[p])=pcells l++[str p.1,str p.2]:=by simp [pcells]
theorem pcells_at:∀ (l:Ps) (k:Nat) (h:k < l.length),(pcells l)[2*k]?=some (str l[k].1)∧(pcells l)[2*k+1]?=some (str l[k].2)
 | p :: l,0,_=>⟨rfl,rfl⟩
 | p :: l,k+1,h=>by
  have:=pcells_at l k (by simpa using h)
  exact this
def prow (w:World) (B:Nat) (v:Value) (l:Ps):Prop:=w.ownsRow B 109 2 v l.length (pcells l)
def phold (w:World) (B:Nat) (v:Value) (l:Ps):Prop :=
 (v=.slice none 0 0∧l=[])∨∃ g cap,v=.slice (some ⟨g,0,none⟩) l.length cap∧g < B∧∀ k (h:k < l.length),w.cell? ⟨g,k*2,none⟩=some (str l[k].1)∧w.cell? ⟨g,k*2+1,none⟩=some (str l[k].2)
theorem prow.hold {w:World} {B:Nat} {v:Value} {l:Ps} (h:prow w B v l):phold w w.heap.size v l:=by
 have hb:=World.ownsRow.lt h
 have hc:=fun g hv=>World.ownsRow.cells h (g:=g) hv
 obtain ⟨h1,⟨rfl,hn⟩|⟨g,cap,cur,rfl,_⟩⟩:=h
 ·exact .inl ⟨rfl,List.eq_nil_of_length_eq_zero hn⟩
 ·refine .inr ⟨g,cap,rfl,(hb g rfl).2,fun k hk=>?_⟩
  obtain ⟨e1,e2⟩:=pcells_at l k hk
  have c1:=hc g rfl (2*k) _ e1
  have c2:=hc g rfl (2*k+1) _ e2
  simp only [Addr.add_lit,Nat.zero_add] at c1 c2
  rw [Nat.mul_comm] at c1 c2
  exact ⟨c1,c2⟩
theorem phold.below {w w':World} {B:Nat} {v:Value} {l:Ps} (h:phold w B v l) (k:Below B w w'):phold w' B v l:=by
 rcases h with h|⟨g,cap,rfl,hg,hc⟩
 ·exact .inl h
 ·exact .inr ⟨g,cap,rfl,hg,fun j hj=>⟨(k.cell (p:=⟨g,j*2,none⟩) hg).trans (hc j hj).1,(k.cell (p:=⟨g,j*2+1,none⟩) hg).trans (hc j hj).2⟩⟩
theorem findP_take {l:Ps} {k:Nat} (h:k < l.length) (n:Bs) (hn:findP (l.take k) n=none):findP (l.take (k+1)) n=if l[k].1=n then some l[k].2 else none:=by
 rw [List.take_succ_eq_append_getElem h,findP_snoc,hn]
theorem findP_hit {l:Ps} {k:Nat} (n v:Bs) (h:findP (l.take k) n=some v):findP l n=some v:=by
 rw [← List.take_append_drop k l]
 generalize l.take k=a at h
 generalize l.drop k=b
 induction a with
 | nil=>cases h
 | cons p a ih=>simp only [List.cons_append,findP] at h ⊢;split <;> simp_all
def findEnd:Option Bs→Ending
 | some v=>.returned (.tuple #[str v,.bool true])
 | none=>.returned (.tuple #[str [],.bool false])
theorem findE {o:Option Bs} {v:Bs} (h:o=some v):Ending.returned (.tuple #[str v,.bool true])=findEnd o:=by rw [h];rfl
theorem findN {o:Option Bs} (h:o=none):Ending.returned (.tuple #[str [],.bool false])=findEnd o:=by rw [h];rfl
theorem find_any (v:Value) (l:Ps) (n:Bs) (B:Nat) (w:World) (h:phold w B v l) (hB:B≤w.heap.size) (hl:l.length≤1000000000) :
  Calls Tryz.prog 100 #[v,str n] w fun e w'=>e=findEnd (findP l n)∧Below w.heap.size w w':=by
 rcases h with ⟨rfl,rfl⟩|⟨g,cap,rfl,hg,hc⟩
 ·go_enter Tryz.func100,Tryz.ntmps100
  go_wp2
  go_loop [10] (fun i=>i=.int .i64 0) (fun _=>0)
  case atStart=>rfl
  case round =>
   subst hrel
   go_wp2
   go_ret2
   exact ⟨rfl,Below.refl _ _⟩
 ·go_enter Tryz.func100,Tryz.ntmps100
  go_wp2
  go_loopw [10] (fun i wr=>∃ k:Nat,k≤l.length∧i=.int .i64 k∧findP (l.take k) n=none∧Below w.heap.size w wr) (fun i _=>l.length - (intOf i).toNat)
  case atStart=>exact ⟨0,Nat.zero_le _,rfl,by simp [findP],Below.refl _ _⟩
  case round =>
   obtain ⟨k,hk,rfl,hno,hb⟩:=hrel
   have HN:Hid (findP (l.take k) n=none):=hno
   clear hno
   have hsz:=hb.size
   by_cases hlt:k < l.length
   ·obtain ⟨c1,c2⟩:=hc k hlt
    replace c1:=(hb.cell (p:=⟨g,k*2,none⟩) (show g < w.heap.size by omega)).trans c1
    replace c2:=(hb.cell (p:=⟨g,k*2+1,none⟩) (show g < w.heap.size by omega)).trans c2
    have HS:Hid (findP (l.take (k+1)) n=if l[k].1=n then some l[k].2 else none):=findP_take hlt n HN.out
    clear hc
    go_wp2
    ·rename_i he
     go_ret2
     refine ⟨findE (findP_hit (k:=k+1) _ _ ?_),hb.alloc hsz _⟩
     rw [HS.out,if_pos (eq_of_beq he)]
    ·rename_i he
     go_roundw
     case rel=>exact ⟨k+1,by omega,by go_num,by rw [HS.out,if_neg (by simpa using he)],hb.alloc hsz _⟩
     case measure=>simp [intOf];omega
   ·have HT:Hid (findP l n=none):=by have:=HN.out;rwa [List.take_of_length_le (by omega)] at this
    go_wp2
    go_ret2
    exact ⟨findN HT.out,hb⟩
end Go.Proofs.YtbllcgibmgbnjaaGreatDoor.R
namespace Go.Proofs.YtbllcgibmgbnjaaGreatDoor.R
open Go.RowKit
open Go.Proofs.YtbllcgibmgbnjaaGreatDoor.C (ret_bool ret_int dec decode_any decEnd)
theorem Tryz.infoP:(Tryz.prog.info? 109).map (fun i=>(i.zero,i.size,i.bytes))=some (some (.agg #[.string ⟨#[]⟩,.string ⟨#[]⟩]),2,32):=by kernel_rfl
theorem prow.lt {w:World} {B:Nat} {v:Value} {l:Ps} (h:prow w B v l):∀ k,v.ownBlock=some k→B≤k:=fun k hk=>(World.ownsRow.lt h k hk).1
theorem prow.alloc {w:World} {B:Nat} {v:Value} {l:Ps} (h:prow w B v l) (o:Obj):prow (w.alloc o) B v l:=World.ownsRow.alloc h o
theorem prow_nil (w:World) (B:Nat):prow w B (.slice none 0 0) []:=World.ownsRow_nil w B 109 2
theorem prow.below {w w':World} {B:Nat} {v:Value} {l:Ps} (h:prow w B v l) (k:Below w.heap.size w w'):prow w' B v l:=by
 have hb:=World.ownsRow.lt h
 obtain ⟨h1,⟨rfl,hn⟩|⟨g,cap,cur,rfl,h2,h3,h4⟩⟩:=h
 ·exact ⟨h1,.inl ⟨rfl,hn⟩⟩
 ·exact ⟨h1,.inr ⟨g,cap,cur,rfl,h2,(k.block g (hb g rfl).2).trans h3,h4⟩⟩
theorem prow.up {w:World} {B B':Nat} {v:Value} {l:Ps} (h:prow w B v l) (hB:B'≤B):prow w B' v l:=by
 obtain ⟨h1,h2|⟨g,cap,cur,rfl,h2,h3,h4⟩⟩:=h
 ·exact ⟨h1,.inl h2⟩
 ·exact ⟨h1,.inr ⟨g,cap,cur,rfl,Nat.le_trans hB h2,h3,h4⟩⟩
theorem papp_law {w:World} {ops:Array Oper} {rest:List Oper} {o:Oper} {a:Act} {Q:Exit→Act→World→Prop} (hgd:o.guard=none) (s x:Operand)
  (ho:o.op=.call { callee:=.builtin .append,args:=#[s,x],argTypes:=#[76,76] })
  (B:Nat) (l:Ps) (p:Bs×Bs) (v:Value) (hs:a.eval s=v) (hown:prow w B v l) (H:Nat) (hx:a.eval x=.slice (some ⟨H,0,none⟩) 1 1)
  (fr:Nat×Nat) (hblk:w.heap[H]?=some (.cells #[str p.1,str p.2] 109 fr)) (hlen:l.length≤1000000000) (hB:B≤w.heap.size)
  (h:∀ v' w',prow w' B v' (l++[p])→Below B w w'→wpList Tryz.prog ops Q rest (a.put o.dst v') w'):wpList Tryz.prog ops Q (o :: rest) a w:=by
 obtain ⟨i0,hi,hz0,hz1,hz2⟩:=info_parts Tryz.infoP
 refine wpList_append_lies _ hgd s x 76 ho B 109 i0 (.agg #[.string ⟨#[]⟩,.string ⟨#[]⟩]) 2 32 Tryz.underlying76 hi hz0 hz1 hz2 rfl (by omega) v l.length (pcells l) hs hown ⟨H,0,none⟩ 1 1 [str p.1,str p.2] hx (by simp)
  (fun j u hu=>World.news_of_block hblk j u (by simpa using hu)) (by intro u hu;simp at hu;rcases hu with rfl|rfl <;> rfl) (by omega) (by unfold maxLen;omega) (by omega) hB w.heap.size rfl ?_
 intro g cap w' h1 h2 _ _
 refine h _ w' ?_ ((Below.refl B w).grown h2 hB hown.lt)
 unfold prow
 rw [pcells_snoc,List.length_append]
 exact h1
theorem addPair_ok (v:Value) (l:Ps) (p:Bs×Bs) (B:Nat) (w:World) (hr:prow w B v l) (hB:B≤w.heap.size) (hl:l.length≤100000) (hn:findP l p.1=none) :
  Calls Tryz.prog 147 #[v,.agg #[str p.1,str p.2]] w fun e w'=>∃ v',e=.returned v'∧prow w' B v' (l++[p])∧Below B w w':=by
 have HN:Hid (findP l p.1=none):=hn
 clear hn
 go_enter Tryz.func147,Tryz.ntmps147
 go_wp2_with fail
 have hr1:=hr.alloc (.cells #[str p.1,str p.2] 109)
 refine (find_any v l p.1 _ _ hr1.hold (Nat.le_refl _) (by omega)).mono ?_
 rintro e w1 ⟨rfl,hb1⟩
 rw [HN.out]
 simp only [findEnd]
 have c1:w1.cell? ⟨w.heap.size,0,none⟩=some (str p.1):=(hb1.cell (p:=⟨w.heap.size,0,none⟩) (by simp)).trans (by simp [go_sem])
 have c2:w1.cell? ⟨w.heap.size,1,none⟩=some (str p.2):=(hb1.cell (p:=⟨w.heap.size,1,none⟩) (by simp)).trans (by simp [go_sem])
 have hr2:=hr1.below hb1
 have hz:=hb1.size
 have hb:Below B w w1:=((Below.refl B w).alloc hB _).trans (hb1.mono (by simp;omega))
 clear hr hr1 hb1
 simp at hz
 go_wp2_with (first|(go_at_call 142;refine (need_ok _).mono ?_;rintro e w' ⟨rfl,rfl⟩)|(at_builtin;refine papp_law rfl _ _ rfl B l p _ rfl (hr2.alloc _) _ rfl _ (heap_alloc_new _ _) (by omega) (by simp;omega) ?_;intro v' w2 hr3 hb3))
 go_ret
 exact ⟨v',rfl,hr3,hb.trans (((Below.refl B _).alloc (by omega) _).trans hb3)⟩
theorem addPair_no (v:Value) (l:Ps) (p:Bs×Bs) (B:Nat) (w:World) (hr:prow w B v l) (hl:l.length≤100000) (hn:¬ findP l p.1=none) :
  Calls Tryz.prog 147 #[v,.agg #[str p.1,str p.2]] w fun e w'=>e=.panicked noR∧Below w.heap.size w w':=by
 obtain ⟨u,hu⟩:=Option.ne_none_iff_exists'.1 hn
 have HN:Hid (findP l p.1=some u):=hu
 clear hn hu
 go_enter Tryz.func147,Tryz.ntmps147
 go_wp2_with fail
 have hr1:=hr.alloc (.cells #[str p.1,str p.2] 109)
 refine (find_any v l p.1 _ _ hr1.hold (Nat.le_refl _) (by omega)).mono ?_
 rintro e w1 ⟨rfl,hb1⟩
 rw [HN.out]
 simp only [findEnd]
 have hb:Below w.heap.size w w1:=((Below.refl _ w).alloc (Nat.le_refl _) _).trans (hb1.mono (by simp))
 clear hr hr1 hb1
 go_wp2_with (go_at_call 142;refine (need_no _).mono ?_;rintro e w' ⟨rfl,rfl⟩)
 exact ⟨rfl,rfl,hb⟩
def decR:Option Bs→Ending
 | some t=>.returned (str t)
 | none=>.panicked noR
theorem decode_r (l:Bs) (p:Bool) (w:World) (hl:l.length≤1000000) :
  Calls Tryz.prog 145 #[str l,.bool p] w fun e w'=>e=decR (dec p l)∧Below w.heap.size w w':=by
 go_enter Tryz.func145,Tryz.ntmps145
 go_wp2_with fail
 refine (decode_any ⟨l.toArray⟩ p _ (by simp [ByteArray.size];omega)).mono ?_
 rintro e w1 ⟨rfl,hb1⟩
 rw [show dec p (⟨l.toArray⟩:ByteArray).data.toList=dec p l from rfl]
 cases hd:dec p l with
 | none =>
  simp only [decEnd]
  go_wp2_with (go_at_call 142;refine (need_no _).mono ?_;rintro e w' ⟨rfl,rfl⟩)
  exact ⟨rfl,by rw [hd];rfl,hb1⟩
 | some t =>
  simp only [decEnd]
  go_wp2_with (go_at_call 142;refine (need_ok _).mono ?_;rintro e w' ⟨rfl,rfl⟩)
  go_ret
  exact ⟨by rw [hd];rfl,hb1⟩
end Go.Proofs.YtbllcgibmgbnjaaGreatDoor.R
