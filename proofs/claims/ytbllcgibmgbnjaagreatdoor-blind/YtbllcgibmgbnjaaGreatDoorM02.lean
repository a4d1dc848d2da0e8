import Derived.Test.YtbllcgibmgbnjaaGreatDoorProg
import Derived.WalkKit
import Derived.WalkSpells
import Derived.WalkLawsBesides
import Derived.Deep.AppendLies
import Derived.Deep.RegionLaw
import Derived.Laws.BitsLemmas
import Derived.Laws.BytesArg
import Derived.Laws.IdiomStrings
import Derived.Defers
import Derived.Recover
import Derived.Laws.BitsAllLaws
import Derived.WalkSmall
import Derived.Test.YtbllcgibmgbnjaaGreatDoorShelf
import Derived.Shelf.Strings.SlTrimAscii
set_option maxHeartbeats 1000000
namespace Go.Proofs.YtbllcgibmgbnjaaGreatDoor.C
def plainB (b:Int) (p:Bool):Bool :=
 decide (97≤b∧b≤122) || decide (65≤b∧b≤90) || decide (48≤b∧b≤57) || b == 45 || b == 46 || b == 95 || b == 126 || (p && b == 47)
def digV (b:Int):Int :=
 if 48≤b∧b≤57 then b - 48 else if 65≤b∧b≤70 then b - 55 else if 97≤b∧b≤102 then b - 87 else -1
def hexD (n:Nat):UInt8:=if n < 10 then UInt8.ofNat (48+n) else UInt8.ofNat (55+n)
def enc1 (p:Bool) (c:UInt8):List UInt8 :=
 if plainB (c.toNat:Int) p then [c] else [37,hexD (c.toNat / 16),hexD (c.toNat % 16)]
def enc (p:Bool) (l:List UInt8):List UInt8:=l.flatMap (enc1 p)
def dec1 (p:Bool):List UInt8→Option (UInt8×List UInt8)
 | []=>none
 | c :: r =>
  if plainB (c.toNat:Int) p then some (c,r)
  else if c.toNat=37 then
   match r with
   | a :: b :: t=>if 0≤digV (a.toNat:Int)∧0≤digV (b.toNat:Int) then some (UInt8.ofNat (16*digV (a.toNat:Int)+digV (b.toNat:Int)).toNat,t) else none
   | _=>none
  else none
theorem dec1_len {p:Bool} {l:List UInt8} {c:UInt8} {r:List UInt8} (h:dec1 p l=some (c,r)):r.length < l.length:=by
 unfold dec1 at h
 split at h
 ·simp at h
 ·split at h
  ·simp at h;obtain ⟨_,rfl⟩:=h;simp
  ·split at h
   ·split at h
    ·split at h
     ·simp at h;obtain ⟨_,rfl⟩:=h;simp;omega
     ·simp at h
    ·simp at h
   ·simp at h
def decN (p:Bool):Nat→List UInt8→Option (List UInt8)
 | 0,_=>none
 | _+1,[]=>some []
 | n+1,l@(_ :: _)=>match dec1 p l with
  | none=>none
  | some (c,r)=>(decN p n r).map (c :: ·)
def dec (p:Bool) (l:List UInt8):Option (List UInt8):=decN p (l.length+1) l
theorem decN_more (p:Bool):∀ (n m:Nat) (l:List UInt8),l.length < n→l.length < m→decN p n l=decN p m l:=by
 intro n
 induction n with
 | zero=>intro m l h;omega
 | succ n ih =>
  intro m l hn hm
  obtain ⟨m,rfl⟩:∃ k,m=k+1:=⟨m - 1,by omega⟩
  match l with
  | []=>rfl
  | x :: l' =>
   simp only [decN]
   cases hd:dec1 p (x :: l') with
   | none=>rfl
   | some cr =>
    obtain ⟨c,r⟩:=cr
    have:=dec1_len hd
    simp only
    rw [ih m r (by omega) (by omega)]
theorem dec_nil (p:Bool):dec p []=some []:=rfl
theorem dec_none {p:Bool} {l:List UInt8} (hl:l≠[]) (h:dec1 p l=none):dec p l=none:=by
 match l,hl with
 | x :: l',_=>simp only [dec,decN,h]
theorem dec_some {p:Bool} {l:List UInt8} {c:UInt8} {r:List UInt8} (h:dec1 p l=some (c,r)):dec p l=(dec p r).map (c :: ·):=by
 have hlen:=dec1_len h
 match l with
 | []=>simp [dec1] at h
 | x :: l' =>
  simp only [dec,List.length_cons,decN,h]
  rw [decN_more p (l'.length+1) (r.length+1) r (by simp at hlen;omega) (by omega)]
theorem dec1_plain {p:Bool} {c:UInt8} (r:List UInt8) (h:plainB (c.toNat:Int) p=true):dec1 p (c :: r)=some (c,r):=by
 simp [dec1,h]
theorem plain37 (p:Bool):plainB 37 p=false:=by cases p <;> decide
theorem dec1_odd {p:Bool} {c:UInt8} (r:List UInt8) (h:plainB (c.toNat:Int) p=false) (hc:¬ c.toNat=37):dec1 p (c :: r)=none:=by
 simp [dec1,h,hc]
theorem dec1_pct {p:Bool} {c a b:UInt8} (t:List UInt8) (hc:c.toNat=37) (ha:0≤digV (a.toNat:Int)) (hb:0≤digV (b.toNat:Int)) :
  dec1 p (c :: a :: b :: t)=some (UInt8.ofNat (16*digV (a.toNat:Int)+digV (b.toNat:Int)).toNat,t):=by
 simp [dec1,hc,plain37,ha,hb]
theorem dec1_pctA {p:Bool} {c a:UInt8} (t:List UInt8) (hc:c.toNat=37) (ha:digV (a.toNat:Int) < 0):dec1 p (c :: a :: t)=none:=by
 cases t with
 | nil=>simp [dec1,hc,plain37]
 | cons b t => have : ¬ 0 ≤ digV (a.toNat : Int) := by omega
               simp [dec1,hc,plain37,this]
theorem dec1_pctB {p:Bool} {c a b:UInt8} (t:List UInt8) (hc:c.toNat=37) (hb:digV (b.toNat:Int) < 0):dec1 p (c :: a :: b :: t)=none:=by
 have:¬ 0≤digV (b.toNat:Int):=by omega
 simp [dec1,hc,plain37,this]
theorem dec1_pct0 {p:Bool} {c:UInt8} (hc:c.toNat=37):dec1 p [c]=none:=by simp [dec1,hc,plain37]
theorem dec1_pct1 {p:Bool} {c a:UInt8} (hc:c.toNat=37):dec1 p [c,a]=none:=by simp [dec1,hc,plain37]
theorem digV_bd (b:Int):-1≤digV b∧digV b≤15:=by unfold digV;split <;> (try split) <;> (try split) <;> omega
theorem hexD_toNat (n:Nat) (h:n < 16):(hexD n).toNat=if n < 10 then 48+n else 55+n:=by
 unfold hexD;split <;> simp <;> omega
theorem digV_hexD (n:Nat) (h:n < 16):digV ((hexD n).toNat:Int)=n:=by
 rw [hexD_toNat n h];unfold digV;split <;> (try split) <;> (try split) <;> (try split) <;> omega
theorem enc_nil (p:Bool):enc p []=[]:=rfl
theorem enc_cons (p:Bool) (c:UInt8) (l:List UInt8):enc p (c :: l)=enc1 p c++enc p l:=by simp [enc]
theorem enc_snoc (p:Bool) (l:List UInt8) (c:UInt8):enc p (l++[c])=enc p l++enc1 p c:=by simp [enc]
theorem enc1_len (p:Bool) (c:UInt8):1≤(enc1 p c).length∧(enc1 p c).length≤3:=by unfold enc1;split <;> simp
theorem enc_len (p:Bool):∀ l:List UInt8,l.length≤(enc p l).length∧(enc p l).length≤3*l.length:=by
 intro l
 induction l with
 | nil=>simp [enc_nil]
 | cons c l ih=>have:=enc1_len p c;rw [enc_cons];simp;omega
theorem byte_div (c:UInt8):UInt8.ofNat (16*(c.toNat / 16:Nat)+(c.toNat % 16:Nat):Int).toNat=c:=by
 have e:(16*(c.toNat / 16:Nat)+(c.toNat % 16:Nat):Int).toNat=c.toNat:=by omega
 rw [e];simp
theorem dec1_enc1 (p:Bool) (c:UInt8) (r:List UInt8):dec1 p (enc1 p c++r)=some (c,r):=by
 unfold enc1
 by_cases h:plainB (c.toNat:Int) p=true
 ·simp only [h,if_true,List.cons_append,List.nil_append];exact dec1_plain r h
 ·have h':plainB (c.toNat:Int) p=false:=by simpa using h
  simp only [h',Bool.false_eq_true,if_false,List.cons_append,List.nil_append]
  have hb:=c.toNat_lt
  have e1:=digV_hexD (c.toNat / 16) (by omega)
  have e2:=digV_hexD (c.toNat % 16) (by omega)
  rw [dec1_pct r rfl (by rw [e1];omega) (by rw [e2];omega),e1,e2,byte_div]
theorem dec_enc (p:Bool):∀ l:List UInt8,dec p (enc p l)=some l:=by
 intro l
 induction l with
 | nil=>rfl
 | cons c l ih=>rw [enc_cons,dec_some (dec1_enc1 p c (enc p l)),ih];rfl
theorem dec1_short {p:Bool} {l:List UInt8} {c:UInt8} {r:List UInt8} (h:dec1 p l=some (c,r)):(enc1 p c).length+r.length≤l.length:=by
 unfold dec1 at h
 split at h
 ·simp at h
 ·split at h
  ·rename_i hp
   simp at h;obtain ⟨rfl,rfl⟩:=h;simp [enc1,hp];omega
  ·split at h
   ·split at h
    ·split at h
     ·simp at h;obtain ⟨_,rfl⟩:=h;have:=(enc1_len p c).2;simp;omega
     ·simp at h
    ·simp at h
   ·simp at h
theorem decN_short (p:Bool):∀ (n:Nat) (l t:List UInt8),decN p n l=some t→(enc p t).length≤l.length:=by
 intro n
 induction n with
 | zero=>intro l t h;simp [decN] at h
 | succ n ih =>
  intro l t h
  match l with
  | []=>simp [decN] at h;subst h;simp [enc_nil]
  | x :: l' =>
   simp only [decN] at h
   cases hd:dec1 p (x :: l') with
   | none=>simp [hd] at h
   | some cr =>
    obtain ⟨c,r⟩:=cr
    simp only [hd,Option.map_eq_some_iff] at h
    obtain ⟨t',ht',rfl⟩:=h
    have:=ih r t' ht'
    have:=dec1_short hd
    rw [enc_cons];simp at *;omega
theorem dec_short {p:Bool} {l t:List UInt8} (h:dec p l=some t):(enc p t).length≤l.length:=decN_short p _ l t h
end Go.Proofs.YtbllcgibmgbnjaaGreatDoor.C
namespace Go.Proofs.YtbllcgibmgbnjaaGreatDoor.C
open Go.RowKit
theorem ret_bool {a b:Bool} (h:a=b):Ending.returned (.bool a)=.returned (.bool b):=by rw [h]
theorem ret_int {k:IntKind} {a b:Int} (h:a=b):Ending.returned (.int k a)=.returned (.int k b):=by rw [h]
def lowA:Array UInt8:=#[48,49,50,51,52,53,54,55,56,57,97,98,99,100,101,102]
def upA:Array UInt8:=#[48,49,50,51,52,53,54,55,56,57,65,66,67,68,69,70]
theorem low_fin:∀ n:Fin 16,((⟨lowA⟩:ByteArray)[n.val]'n.isLt).toNat=if n.val < 10 then 48+n.val else 87+n.val:=by decide +kernel
theorem up_fin:∀ n:Fin 16,((⟨upA⟩:ByteArray)[n.val]'n.isLt).toNat=if n.val < 10 then 48+n.val else 55+n.val:=by decide +kernel
theorem up_at (k:Nat) (h:k < 16):((⟨#[48,49,50,51,52,53,54,55,56,57,65,66,67,68,69,70]⟩:ByteArray)[k]'h).toNat=if k < 10 then 48+k else 55+k:=up_fin ⟨k,h⟩
theorem take_snoc (s:ByteArray) (k:Nat) (h:k < s.size):s.data.toList.take (k+1)=s.data.toList.take k++[s[k]]:=by
 rw [List.take_succ_eq_append_getElem (by simpa using h)];rfl
theorem isPlain_any (b:Int) (p:Bool) (w:World) :
  Calls Tryz.prog 46 #[.int .u8 b,.bool p] w fun e w'=>e=.returned (.bool (plainB b p))∧w'=w:=by
 go_enter Tryz.func46,Tryz.ntmps46
 go_wp2
 all_goals (go_ret;refine ⟨ret_bool ?_,rfl⟩;simp_all [plainB];try omega)
end Go.Proofs.YtbllcgibmgbnjaaGreatDoor.C
namespace Go.Proofs.YtbllcgibmgbnjaaGreatDoor.C
open Go.RowKit
theorem Tryz.info5:(Tryz.prog.info? 5).map (fun i=>(i.zero,i.size,i.bytes))=some (some (.int .u8 0),1,1):=by kernel_rfl
def u8v (c:UInt8):Value:=.int .u8 (c.toNat:Int)
def owns (w:World) (B:Nat) (v:Value) (l:List UInt8):Prop:=w.ownsRow B 5 1 v l.length (l.map u8v)
theorem owns.lt {w:World} {B:Nat} {v:Value} {l:List UInt8} (h:owns w B v l):∀ k,v.ownBlock=some k→B≤k:=fun k hk=>(World.ownsRow.lt h k hk).1
theorem owns.alloc {w:World} {B:Nat} {v:Value} {l:List UInt8} (h:owns w B v l) (o:Obj):owns (w.alloc o) B v l:=World.ownsRow.alloc h o
theorem app_law {w:World} {ops:Array Oper} {rest:List Oper} {o:Oper} {a:Act} {Q:Exit→Act→World→Prop} (hgd:o.guard=none) (s x:Operand)
  (ho:o.op=.call { callee:=.builtin .append,args:=#[s,x],argTypes:=#[70,70] })
  (B:Nat) (l m:List UInt8) (v:Value) (hs:a.eval s=v) (hown:owns w B v l) (H:Nat) (n:Nat) (hn:m.length=n) (hx:a.eval x=.slice (some ⟨H,0,none⟩) n n)
  (fr:Nat×Nat) (hblk:w.heap[H]?=some (.cells (m.map u8v).toArray 5 fr)) (hm:0 < n) (hlen:l.length+n≤100000000000) (hB:B≤w.heap.size)
  (h:∀ v' w',owns w' B v' (l++m)→Below B w w'→wpList Tryz.prog ops Q rest (a.put o.dst v') w'):wpList Tryz.prog ops Q (o :: rest) a w:=by
 obtain ⟨i0,hi,hz0,hz1,hz2⟩:=info_parts Tryz.info5
 subst hn
 refine wpList_append_lies _ hgd s x 70 ho B 5 i0 (.int .u8 0) 1 1 Tryz.underlying70 hi hz0 hz1 hz2 rfl (by omega) v l.length (l.map u8v) hs hown ⟨H,0,none⟩ m.length m.length (m.map u8v) hx (by simp)
  (fun j u hu=>World.news_of_block hblk j u (by simpa using hu)) (by intro u hu;simp at hu;obtain ⟨c,_,rfl⟩:=hu;rfl) hm (by unfold maxLen;omega) (by omega) hB w.heap.size rfl ?_
 intro g cap w' h1 h2 _ _
 exact h _ w' (by simpa [owns] using h1) ((Below.refl B w).grown h2 hB hown.lt)
theorem app_step {w:World} {ops:Array Oper} {o:Oper} {a:Act} {K:Act→World→Prop} {Q:Exit→Act→World→Prop} {E:Prop} (hgd:o.guard=none) (s x:Operand)
  (ho:o.op=.call { callee:=.builtin .append,args:=#[s,x],argTypes:=#[70,70] })
  (B:Nat) (l m:List UInt8) (v:Value) (hs:a.eval s=v) (hown:owns w B v l) (H:Nat) (n:Nat) (hn:m.length=n) (hx:a.eval x=.slice (some ⟨H,0,none⟩) n n)
  (fr:Nat×Nat) (hblk:w.heap[H]?=some (.cells (m.map u8v).toArray 5 fr)) (hm:0 < n) (hlen:l.length+n≤100000000000) (hB:B≤w.heap.size)
  (h:∀ v' w',owns w' B v' (l++m)→Below B w w'→K (a.put o.dst v') w') :
  if Region.wanted o (yielded ops a.tmps)=true then Oper.wp Tryz.prog o a w K Q else E:=by
 obtain ⟨i0,hi,hz0,hz1,hz2⟩:=info_parts Tryz.info5
 subst hn
 refine step_append_lies _ hgd s x 70 ho B 5 i0 (.int .u8 0) 1 1 Tryz.underlying70 hi hz0 hz1 hz2 rfl (by omega) v l.length (l.map u8v) hs hown ⟨H,0,none⟩ m.length m.length (m.map u8v) hx (by simp)
  (fun j u hu=>World.news_of_block hblk j u (by simpa using hu)) (by intro u hu;simp at hu;obtain ⟨c,_,rfl⟩:=hu;rfl) hm (by unfold maxLen;omega) (by omega) hB w.heap.size rfl ?_
 intro g cap w' h1 h2 _ _
 exact h _ w' (by simpa [owns] using h1) ((Below.refl B w).grown h2 hB hown.lt)
theorem owns.conv {w:World} {B:Nat} {v:Value} {l:List UInt8} (h:owns w B v l):(convert 70 9 v).run Tryz.prog w=.ok (.string ⟨l.toArray⟩) w:=by
 have h':=h
 obtain ⟨_,⟨rfl,hn⟩|⟨g,cap,cur,rfl,_⟩⟩:=h'
 ·have:l=[]:=List.eq_nil_of_length_eq_zero hn
  subst this
  rw [run_convert_bytes_string w 70 9 5 none 0 0 Tryz.underlying70 Tryz.underlying5 Tryz.underlying9]
  rfl
 ·refine run_convert_bytes_back w 70 9 5 ⟨g,0,none⟩ cap l Tryz.underlying70 Tryz.underlying5 Tryz.underlying9 fun j hj=>?_
  exact World.ownsRow.cells h (g:=g) rfl j _ (by simp [u8v,hj])
theorem ret_str {a b:List UInt8} (h:a=b):Ending.returned (.string ⟨a.toArray⟩)=.returned (.string ⟨b.toArray⟩):=by rw [h]
end Go.Proofs.YtbllcgibmgbnjaaGreatDoor.C
namespace Go.Proofs.YtbllcgibmgbnjaaGreatDoor.C
open Go.RowKit
def noC:List PanicEntry:=[{ v:=.iface 351 (.agg #[]),recovered:=false }]
def rest (l:List UInt8):Value:=.string ⟨l.toArray⟩
theorem next_ok (b : Nat) (l : List UInt8) (c : UInt8) (w : World) (hc : w.cell? ⟨b, 0, none⟩ = some (rest (c :: l))) (hf : w.frozen? ⟨b, 0, none⟩ = false)
   (_hl : (c :: l).length ≤ 4000000000) :
    Calls Tryz.prog 264 #[.pointer (some ⟨b,0,none⟩)] w fun e w'=>e=.returned (.int .u8 c.toNat)∧w'=w.setCell ⟨b,0,none⟩ (rest l):=by
  unfold rest at *
  have E:(⟨(c :: l).toArray⟩:ByteArray).extract 1 (l.length+1)=⟨l.toArray⟩:=by
    apply ByteArray.ext;simp
  have HE:Hid ((⟨(c :: l).toArray⟩:ByteArray).extract 1 (l.length+1)=⟨l.toArray⟩):=E
  clear E
  go_enter Tryz.func264,Tryz.ntmps264
  go_wp2
  go_ret
  exact ⟨rfl,by rw [HE.out]⟩
theorem next_no (b:Nat) (w:World) (hc:w.cell? ⟨b,0,none⟩=some (rest [])) :
  Calls Tryz.prog 264 #[.pointer (some ⟨b,0,none⟩)] w fun e w'=>e=.panicked noC∧w'=w:=by
 unfold rest at *
 go_enter Tryz.func264,Tryz.ntmps264
 go_wp2
 exact ⟨rfl,rfl,rfl⟩
theorem digV_lo {b:Int} (h:0≤digV b):(48≤b∧b≤57)∨(65≤b∧b≤70)∨(97≤b∧b≤102):=by
 unfold digV at h;split at h <;> (try split at h) <;> (try split at h) <;> omega
theorem digV_a {b:Int} (h:48≤b∧b≤57):digV b=b - 48:=by unfold digV;rw [if_pos h]
theorem digV_b {b:Int} (h:65≤b∧b≤70):digV b=b - 55:=by unfold digV;rw [if_neg (by omega),if_pos h]
theorem digV_c {b:Int} (h:97≤b∧b≤102):digV b=b - 87:=by unfold digV;rw [if_neg (by omega),if_neg (by omega),if_pos h]
theorem readDigit_ok (b : Nat) (l : List UInt8) (c : UInt8) (w : World) (hc : w.cell? ⟨b, 0, none⟩ = some (rest (c :: l))) (hf : w.frozen? ⟨b, 0, none⟩ = false)
   (hl : (c :: l).length ≤ 4000000000) (hd : 0 ≤ digV (c.toNat : Int)) :
    Calls Tryz.prog 265 #[.pointer (some ⟨b,0,none⟩)] w fun e w'=>e=.returned (.int .u8 (digV (c.toNat:Int)))∧w'=w.setCell ⟨b,0,none⟩ (rest l):=by
  have hb:=c.toNat_lt
  rcases digV_lo hd with h|h|h
  · rw [digV_a h]
    obtain ⟨ha,hb'⟩:=h
    clear hd
    go_enter Tryz.func265,Tryz.ntmps265
    go_wp2_with (go_at_call 264;refine (next_ok b l c _ hc hf hl).mono ?_;rintro e w' ⟨rfl,rfl⟩)
    go_ret
    exact ⟨ret_int (by omega),rfl⟩
  · rw [digV_b h]
    obtain ⟨ha,hb'⟩:=h
    clear hd
    go_enter Tryz.func265,Tryz.ntmps265
    go_wp2_with (go_at_call 264;refine (next_ok b l c _ hc hf hl).mono ?_;rintro e w' ⟨rfl,rfl⟩)
    go_ret
    exact ⟨ret_int (by omega),rfl⟩
  · rw [digV_c h]
    obtain ⟨ha,hb'⟩:=h
    clear hd
    go_enter Tryz.func265,Tryz.ntmps265
    go_wp2_with (go_at_call 264;refine (next_ok b l c _ hc hf hl).mono ?_;rintro e w' ⟨rfl,rfl⟩)
    go_ret
    exact ⟨ret_int (by omega),rfl⟩
theorem digV_hi {b:Int} (h:digV b < 0):¬ (48≤b∧b≤57)∧¬ (65≤b∧b≤70)∧¬ (97≤b∧b≤102):=by
 unfold digV at h;split at h <;> (try split at h) <;> (try split at h) <;> omega
theorem readDigit_bad (b : Nat) (l : List UInt8) (c : UInt8) (w : World) (hc : w.cell? ⟨b, 0, none⟩ = some (rest (c :: l))) (hf : w.frozen? ⟨b, 0, none⟩ = false)
   (hl : (c :: l).length ≤ 4000000000) (hd : digV (c.toNat : Int) < 0) :
    Calls Tryz.prog 265 #[.pointer (some ⟨b,0,none⟩)] w fun e w'=>e=.panicked noC∧w'=w.setCell ⟨b,0,none⟩ (rest l):=by
  have hb:=c.toNat_lt
  obtain ⟨h1,h2,h3⟩:=digV_hi hd
  clear hd
  have H1:Hid (¬ (48≤(c.toNat:Int)∧(c.toNat:Int)≤57)):=h1
  have H2:Hid (¬ (65≤(c.toNat:Int)∧(c.toNat:Int)≤70)):=h2
  have H3:Hid (¬ (97≤(c.toNat:Int)∧(c.toNat:Int)≤102)):=h3
  clear h1 h2 h3
  go_enter Tryz.func265,Tryz.ntmps265
  go_wp2_with (go_at_call 264;refine (next_ok b l c _ hc hf hl).mono ?_;rintro e w' ⟨rfl,rfl⟩)
  all_goals first|exact ⟨rfl,rfl,rfl⟩|(exfalso;have k1:=H1.out;have k2:=H2.out;have k3:=H3.out;omega)
theorem readDigit_no (b:Nat) (w:World) (hc:w.cell? ⟨b,0,none⟩=some (rest [])) :
  Calls Tryz.prog 265 #[.pointer (some ⟨b,0,none⟩)] w fun e w'=>e=.panicked noC∧w'=w:=by
 go_enter Tryz.func265,Tryz.ntmps265
 go_wp2_with (go_at_call 264;refine (next_no b _ hc).mono ?_;rintro e w' ⟨rfl,rfl⟩)
 exact ⟨rfl,rfl,rfl⟩
end Go.Proofs.YtbllcgibmgbnjaaGreatDoor.C
namespace Go.Proofs.YtbllcgibmgbnjaaGreatDoor.P
inductive J where
 | obj (l:List (List UInt8×J))
 | arr (l:List J)
 | str (s:List UInt8)
 | bool (b:Bool)
 | null
def spc (c:UInt8):Bool:=c == 32 || c == 10
def skip:List UInt8→List UInt8
 | []=>[]
 | c :: r=>if spc c then skip r else c :: r
theorem skip_skip:∀ s,skip (skip s)=skip s
 | []=>rfl
 | c :: r=>by
  cases h:spc c
  ·simp [skip,h]
  ·simp only [skip,h,if_true];exact skip_skip r
theorem skip_len:∀ s,(skip s).length≤s.length
 | []=>Nat.le_refl _
 | c :: r=>by
  cases h:spc c
  ·simp [skip,h]
  ·simp only [skip,h,if_true,List.length_cons];have:=skip_len r;omega
def cutP (t s:List UInt8):Option (List UInt8):=if t.isPrefixOf s then some (s.drop t.length) else none
def tak (t s:List UInt8):Option (List UInt8):=cutP t (skip s)
theorem tak_skip (t s:List UInt8):tak t (skip s)=tak t s:=by unfold tak;rw [skip_skip]
theorem cutP_some {t s r:List UInt8} (h:cutP t s=some r):s=t++r:=by
 unfold cutP at h
 split at h
 ·rename_i hp
  rw [List.isPrefixOf_iff_prefix] at hp
  obtain ⟨z,rfl⟩:=hp
  simp at h;rw [h]
 ·cases h
theorem tak_len {t s r:List UInt8} (h:tak t s=some r):r.length+t.length≤s.length:=by
 have:=cutP_some h
 have h2:=skip_len s
 rw [this,List.length_append] at h2;omega
def taken (t s:List UInt8):List UInt8:=(tak t s).getD (skip s)
theorem taken_len (t s:List UInt8):(taken t s).length≤s.length:=by
 unfold taken
 cases h:tak t s with
 | none=>exact skip_len s
 | some r=>have:=tak_len h;simp;omega
def strOf:List UInt8→Option (List UInt8×List UInt8)
 | []=>none
 | c :: r =>
  if c.toNat=34 then some ([],r)
  else if c.toNat=92 then
   match r with
   | []=>none
   | d :: r'=>if d.toNat=34∨d.toNat=92 then (strOf r').map (fun p=>(d :: p.1,p.2)) else none
  else if 32≤c.toNat∧c.toNat≤126 then (strOf r).map (fun p=>(c :: p.1,p.2)) else none
theorem strOf_len:∀ (n:Nat) (s:List UInt8),s.length≤n→∀ t r,strOf s=some (t,r)→t.length+r.length < s.length
 | 0,[],_,t,r,h=>by simp [strOf] at h
 | n+1,[],_,t,r,h=>by simp [strOf] at h
 | n+1,c :: s,hn,t,r,h=>by
  rw [strOf.eq_def] at h;simp only at h
  split at h
  ·simp at h;obtain ⟨rfl,rfl⟩:=h;simp
  ·split at h
   ·match s,h with
    | [],h=>cases h
    | d :: s',h =>
     simp only at h
     split at h
     ·cases hs:strOf s' with
      | none=>rw [hs] at h;cases h
      | some p =>
       rw [hs] at h
       simp at h;obtain ⟨rfl,rfl⟩:=h
       have:=strOf_len n s' (by simp at hn;omega) p.1 p.2 hs
       simp;omega
     ·cases h
   ·split at h
    ·cases hs:strOf s with
     | none=>rw [hs] at h;cases h
     | some p =>
      rw [hs] at h
      simp at h;obtain ⟨rfl,rfl⟩:=h
      have:=strOf_len n s (by simp at hn;omega) p.1 p.2 hs
      simp;omega
    ·cases h
theorem strOf_nil:strOf []=none:=by simp [strOf]
theorem strOf_end {c:UInt8} (r:List UInt8) (h:c.toNat=34):strOf (c :: r)=some ([],r):=by rw [strOf.eq_def];simp [h]
theorem strOf_esc0 {c:UInt8} (h:c.toNat=92):strOf [c]=none:=by rw [strOf.eq_def];simp [h]
theorem strOf_esc {c d:UInt8} (r:List UInt8) (h:c.toNat=92) (hd:d.toNat=34∨d.toNat=92):strOf (c :: d :: r)=(strOf r).map (fun p=>(d :: p.1,p.2)):=by rw [strOf.eq_def];simp [h,hd]
theorem strOf_escx {c d:UInt8} (r:List UInt8) (h:c.toNat=92) (hd:¬ (d.toNat=34∨d.toNat=92)):strOf (c :: d :: r)=none:=by rw [strOf.eq_def];simp [h,hd]
theorem strOf_one {c:UInt8} (r:List UInt8) (h:¬ c.toNat=34) (h2:¬ c.toNat=92) (h3:32≤c.toNat∧c.toNat≤126):strOf (c :: r)=(strOf r).map (fun p=>(c :: p.1,p.2)):=by rw [strOf.eq_def];simp [h,h2,h3]
theorem strOf_bad {c:UInt8} (r:List UInt8) (h:¬ c.toNat=34) (h2:¬ c.toNat=92) (h3:¬ (32≤c.toNat∧c.toNat≤126)):strOf (c :: r)=none:=by
 rw [strOf.eq_def];simp only [h,h2,if_false];rw [if_neg h3]
def more {X:Type} (one:List UInt8→Option (X×List UInt8)) (shut:List UInt8):Nat→List UInt8→Option (List X×List UInt8)
 | 0,_=>none
 | n+1,s=>match one s with
  | none=>none
  | some (x,r)=>match tak shut r with
   | some r'=>some ([x],r')
   | none=>match tak [44] r with
    | none=>none
    | some r'=>(more one shut n r').map (fun p=>(x :: p.1,p.2))
def listOf {X:Type} (one:List UInt8→Option (X×List UInt8)) (shut:List UInt8) (s:List UInt8):Option (List X×List UInt8) :=
 match tak shut s with
 | some r=>some ([],r)
 | none=>more one shut (s.length+1) s
def shrinks {X:Type} (one:List UInt8→Option (X×List UInt8)):Prop:=∀ s x r,one s=some (x,r)→r.length < s.length
theorem more_len {X:Type} {one:List UInt8→Option (X×List UInt8)} (h1:shrinks one) (shut:List UInt8):∀ n s l r,more one shut n s=some (l,r)→r.length < s.length∧l.length≤s.length
 | 0,s,l,r,h=>by simp [more] at h
 | n+1,s,l,r,h=>by
  rw [more] at h
  cases h2:one s with
  | none=>rw [h2] at h;cases h
  | some p =>
   obtain ⟨x,r1⟩:=p
   rw [h2] at h
   have a1:=h1 _ _ _ h2
   simp only at h
   cases h3:tak shut r1 with
   | some r' =>
    rw [h3] at h
    simp at h;obtain ⟨rfl,rfl⟩:=h
    have:=tak_len h3
    simp;omega
   | none =>
    rw [h3] at h
    simp only at h
    cases h4:tak [44] r1 with
    | none=>rw [h4] at h;cases h
    | some r2 =>
     rw [h4] at h
     have a4:=tak_len h4
     simp only at h
     cases h5:more one shut n r2 with
     | none=>rw [h5] at h;cases h
     | some q =>
      rw [h5] at h
      simp at h;obtain ⟨rfl,rfl⟩:=h
      have:=more_len h1 shut n r2 q.1 q.2 h5
      simp at a4 ⊢;omega
theorem listOf_len {X:Type} {one:List UInt8→Option (X×List UInt8)} (h1:shrinks one) {shut s:List UInt8} {l:List X} {r:List UInt8} (h:listOf one shut s=some (l,r)):r.length≤s.length∧l.length≤s.length:=by
 unfold listOf at h
 cases h3:tak shut s with
 | some r'=>rw [h3] at h;simp at h;obtain ⟨rfl,rfl⟩:=h;have:=tak_len h3;simp;omega
 | none=>rw [h3] at h;have:=more_len h1 shut _ _ _ _ h;omega
def memOf {X:Type} (v:List UInt8→Option (X×List UInt8)) (s:List UInt8):Option ((List UInt8×X)×List UInt8) :=
 match tak [34] s with
 | none=>none
 | some r=>match strOf r with
  | none=>none
  | some (n,r)=>match tak [58] r with
   | none=>none
   | some r=>(v r).map (fun p=>((n,p.1),p.2))
theorem memOf_some {X:Type} {v:List UInt8→Option (X×List UInt8)} {s:List UInt8} {y:(List UInt8×X)×List UInt8} (h:memOf v s=some y) :
  ∃ r1 n r2 r3 x r4,tak [34] s=some r1∧strOf r1=some (n,r2)∧tak [58] r2=some r3∧v r3=some (x,r4)∧y=((n,x),r4):=by
 unfold memOf at h
 cases h1:tak [34] s with
 | none=>rw [h1] at h;cases h
 | some r1 =>
  rw [h1] at h;simp only at h
  cases h2:strOf r1 with
  | none=>rw [h2] at h;cases h
  | some p =>
   obtain ⟨n,r2⟩:=p
   rw [h2] at h;simp only at h
   cases h3:tak [58] r2 with
   | none=>rw [h3] at h;cases h
   | some r3 =>
    rw [h3] at h;simp only at h
    cases h4:v r3 with
    | none=>rw [h4] at h;cases h
    | some q =>
     rw [h4] at h;simp at h
     exact ⟨r1,n,r2,r3,q.1,q.2,rfl,h2,h3,h4,h.symm⟩
theorem memOf_shrinks {X:Type} {v:List UInt8→Option (X×List UInt8)} (hv:shrinks v):shrinks (memOf v):=by
 intro s x r h
 obtain ⟨r1,n,r2,r3,y,r4,a1,a2,a3,a4,a5⟩:=memOf_some h
 have:=tak_len a1
 have:=strOf_len _ r1 (Nat.le_refl _) _ _ a2
 have:=tak_len a3
 have:=hv _ _ _ a4
 simp at a5;obtain ⟨rfl,rfl⟩:=a5
 simp at *;omega
def tTrue:List UInt8:=[116,114,117,101]
def tFalse:List UInt8:=[102,97,108,115,101]
def tNull:List UInt8:=[110,117,108,108]
def val:Nat→List UInt8→Option (J×List UInt8)
 | 0,_=>none
 | k+1,s=>match tak [123] s with
  | some r=>(listOf (memOf (val k)) [125] r).map (fun p=>(.obj p.1,p.2))
  | none=>match tak [91] s with
   | some r=>(listOf (val k) [93] r).map (fun p=>(.arr p.1,p.2))
   | none=>match tak [34] s with
    | some r=>(strOf r).map (fun p=>(.str p.1,p.2))
    | none=>match tak tTrue s with
     | some r=>some (.bool true,r)
     | none=>match tak tFalse s with
      | some r=>some (.bool false,r)
      | none=>match tak tNull s with
       | some r=>some (.null,r)
       | none=>none
theorem val_shrinks:∀ k,shrinks (val k)
 | 0=>by intro s x r h;simp [val] at h
 | k+1=>by
  intro s x r h
  have ih:=val_shrinks k
  rw [val] at h
  cases h1:tak [123] s with
  | some r1 =>
   rw [h1] at h;simp only at h
   have:=tak_len h1
   cases h2:listOf (memOf (val k)) [125] r1 with
   | none=>rw [h2] at h;cases h
   | some p =>
    rw [h2] at h;simp at h
    have:=listOf_len (memOf_shrinks ih) (l:=p.1) (r:=p.2) h2
    obtain ⟨-,rfl⟩:=h;simp at *;omega
  | none =>
   rw [h1] at h;simp only at h
   cases h2:tak [91] s with
   | some r1 =>
    rw [h2] at h;simp only at h
    have:=tak_len h2
    cases h3:listOf (val k) [93] r1 with
    | none=>rw [h3] at h;cases h
    | some p =>
     rw [h3] at h;simp at h
     have:=listOf_len ih (l:=p.1) (r:=p.2) h3
     obtain ⟨-,rfl⟩:=h;simp at *;omega
   | none =>
    rw [h2] at h;simp only at h
    cases h3:tak [34] s with
    | some r1 =>
     rw [h3] at h;simp only at h
     have:=tak_len h3
     cases h4:strOf r1 with
     | none=>rw [h4] at h;cases h
     | some p =>
      rw [h4] at h;simp at h
      have:=strOf_len _ r1 (Nat.le_refl _) p.1 p.2 h4
      obtain ⟨-,rfl⟩:=h;simp at *;omega
    | none =>
     rw [h3] at h;simp only at h
     cases h4:tak tTrue s with
     | some r1 =>
      rw [h4] at h;simp at h
      have:=tak_len h4
      obtain ⟨-,rfl⟩:=h;simp [tTrue] at *;omega
     | none =>
      rw [h4] at h;simp only at h
      cases h5:tak tFalse s with
      | some r1 =>
       rw [h5] at h;simp at h
       have:=tak_len h5
       obtain ⟨-,rfl⟩:=h;simp [tFalse] at *;omega
      | none =>
       rw [h5] at h;simp only at h
       cases h6:tak tNull s with
       | some r1 =>
        rw [h6] at h;simp at h
        have:=tak_len h6
        obtain ⟨-,rfl⟩:=h;simp [tNull] at *;omega
       | none=>rw [h6] at h;cases h
def readJ (s:List UInt8):Option J:=match val 7 s with
 | none=>none
 | some (j,r)=>if skip r=[] then some j else none
open Go.RowKit
open C (ret_bool ret_int ret_str owns owns.lt owns.alloc owns.conv app_law u8v)
abbrev str (l:List UInt8):Value:=.string ⟨l.toArray⟩
theorem grown_set (w:World) (b o:Nat) (v:Value):w.grownBy (w.setCell ⟨b,o,none⟩ v) (some b) :=
 have h:=(Below.refl b w).setCell (p:=⟨b,o,none⟩) (Nat.le_refl _) v
 ⟨h.os,h.tape,h.output,h.size,fun k _ hne=>Below.heap_setCell w ⟨b,o,none⟩ v k (fun e=>hne (by simp [e]))⟩
theorem grown_trans {a b c:World} {r:Option Nat} (h:a.grownBy b r) (k:b.grownBy c r):a.grownBy c r :=
 ⟨k.os.trans h.os,k.tape.trans h.tape,k.output.trans h.output,Nat.le_trans h.size k.size,fun j hj hne=>(k.block j (Nat.lt_of_lt_of_le hj h.size) hne).trans (h.block j hj hne)⟩
theorem grown_refl (w:World) (r:Option Nat):w.grownBy w r:=World.grownBy.refl w r
theorem grown_below {B b:Nat} {w w':World} (k:Below B w w') (hB:w.heap.size≤B):w.grownBy w' (some b) :=
 ⟨k.os,k.tape,k.output,k.size,fun j hj _=>k.block j (by omega)⟩
def rdr (w:World) (b:Nat) (l:List UInt8):Prop:=w.cell? ⟨b,0,none⟩=some (str l)∧w.frozen? ⟨b,0,none⟩=false
theorem rdr.below {b B:Nat} {w w':World} {l:List UInt8} (h:rdr w b l) (hb:b < B) (k:Below B w w'):rdr w' b l :=
 ⟨(k.cell (p:=⟨b,0,none⟩) hb).trans h.1,(k.frozen (p:=⟨b,0,none⟩) hb).trans h.2⟩
theorem rdr.lt {b:Nat} {w:World} {l:List UInt8} (h:rdr w b l):b < w.heap.size:=World.block_lt_of_cell? w ⟨b,0,none⟩ h.1
theorem rdr.set {b:Nat} {w:World} {l:List UInt8} (h:rdr w b l) (r:List UInt8):rdr (w.setCell ⟨b,0,none⟩ (str r)) b r:=by
 obtain ⟨h0,h1⟩:=h
 exact ⟨by simp [go_sem,h0],by simp [go_sem,h1]⟩
def left (b:Nat) (w:World):Nat:=match w.cell? ⟨b,0,none⟩ with
 | some (.string s)=>s.size
 | _=>0
theorem left_of {b:Nat} {w:World} {l:List UInt8} (h:rdr w b l):left b w=l.length:=by
 unfold left;rw [h.1];simp [ByteArray.size]
def noJ:List PanicEntry:=[{ v:=.iface 416 (.agg #[]),recovered:=false }]
theorem need_ok (w:World):Calls Tryz.prog 322 #[.bool true] w fun e w'=>e=.returned (.tuple #[])∧w=w':=by
 go_enter Tryz.func322,Tryz.ntmps322
 go_wp2
 go_end0
 exact ⟨rfl,rfl⟩
theorem need_no (w:World):Calls Tryz.prog 322 #[.bool false] w fun e w'=>e=.panicked noJ∧w=w':=by
 go_enter Tryz.func322,Tryz.ntmps322
 go_wp2
 exact ⟨rfl,rfl,rfl⟩
theorem next_ok (b:Nat) (l:List UInt8) (c:UInt8) (w:World) (hc:rdr w b (c :: l)) (_hl:(c :: l).length≤4000000000) :
  Calls Tryz.prog 338 #[.pointer (some ⟨b,0,none⟩)] w fun e w'=>e=.returned (.int .u8 c.toNat)∧rdr w' b l∧w.grownBy w' (some b):=by
 have H2:=hc.set l
 obtain ⟨hc,hf⟩:=hc
 unfold str at *
 have HE:Hid ((⟨(c :: l).toArray⟩:ByteArray).extract 1 (l.length+1)=⟨l.toArray⟩):=by
  apply ByteArray.ext;simp
 go_enter Tryz.func338,Tryz.ntmps338
 go_wp2_with (go_at_call 322;refine (need_ok _).mono ?_;rintro e w' ⟨rfl,rfl⟩)
 go_ret
 refine ⟨rfl,?_,?_⟩
 ·rw [HE.out];exact H2
 ·exact grown_set _ _ _ _
theorem next_no (b:Nat) (w:World) (hc:rdr w b []) :
  Calls Tryz.prog 338 #[.pointer (some ⟨b,0,none⟩)] w fun e w'=>e=.panicked noJ∧w=w':=by
 obtain ⟨hc,hf⟩:=hc
 unfold str at *
 go_enter Tryz.func338,Tryz.ntmps338
 go_wp2_with (go_at_call 322;refine (need_no _).mono ?_;rintro e w' ⟨rfl,rfl⟩)
 exact ⟨rfl,rfl,rfl⟩
def strPost (w:World) (b:Nat) (o:Option (List UInt8×List UInt8)) (e:Ending) (w':World):Prop :=
 match o with
 | none=>e=.panicked noJ∧w.grownBy w' (some b)
 | some (t,r)=>e=.returned (str t)∧rdr w' b r∧w.grownBy w' (some b)
theorem strPost_no {w w':World} {b:Nat} {o:Option (List UInt8×List UInt8)} (h:o=none) (g:w.grownBy w' (some b)):strPost w b o (.panicked noJ) w':=by subst h;exact ⟨rfl,g⟩
theorem strPost_ok {w w':World} {b:Nat} {o:Option (List UInt8×List UInt8)} {t r:List UInt8} (h:o=some (t,r)) (k:rdr w' b r) (g:w.grownBy w' (some b)):strPost w b o (.returned (str t)) w':=by subst h;exact ⟨rfl,k,g⟩
theorem owns_kept {w w':World} {B b:Nat} {v:Value} {l:List UInt8} (h:owns w B v l) (hg:w.grownBy w' (some b)) (hb:b < B):owns w' B v l :=
 World.ownsRow.kept h hg (by
  cases hv:v.ownBlock with
  | none=>exact Or.inl rfl
  | some k=>right;have:=h.lt k hv;intro e;simp at e;omega)
theorem grown_up {w w1 w2:World} {b B:Nat} (h:w.grownBy w1 (some b)) (k:Below B w1 w2) (hB:w.heap.size≤B):w.grownBy w2 (some b) :=
 ⟨k.os.trans h.os,k.tape.trans h.tape,k.output.trans h.output,Nat.le_trans h.size k.size,fun j hj hne=>(k.block j (by omega)).trans (h.block j hj hne)⟩
theorem owns_nil (w:World) (B:Nat):owns w B (.slice none 0 0) []:=World.ownsRow_nil w B 5 1
theorem readString_any (b:Nat) (l:List UInt8) (w:World) (h:rdr w b l) (hl:l.length≤4000) :
  Calls Tryz.prog 331 #[.pointer (some ⟨b,0,none⟩)] w (strPost w b (strOf l)):=by
 obtain ⟨i0,hi,hz0,hz1,hz2⟩:=info_parts C.Tryz.info5
 have hb:=h.lt
 go_enter Tryz.func331,Tryz.ntmps331
 go_wp2
 go_loopw [3] (fun v wr=>∃ o r:List UInt8,owns wr w.heap.size v o∧rdr wr b r∧w.grownBy wr (some b)∧strOf l=(strOf r).map (fun p=>(o++p.1,p.2))∧o.length+r.length≤l.length) (fun _ wr=>left b wr)
 case atStart=>exact ⟨[],l,owns_nil _ _,h,grown_refl _ _,by simp,by simp⟩
 case round =>
  obtain ⟨o,r,hown,hrd,hgr,hdec,hlen⟩:=hrel
  have HX:Hid (strOf l=(strOf r).map (fun p=>(o++p.1,p.2))):=hdec
  clear hdec
  have hsz:=hgr.size
  have HL2:Hid (left b wr=r.length):=left_of hrd
  rcases r with _|⟨x,r'⟩
  ·go_wp2_with (go_at_call 338;refine (next_no b _ hrd).mono ?_;rintro e w' ⟨rfl,rfl⟩)
   exact ⟨rfl,strPost_no (by rw [HX.out,strOf_nil];rfl) hgr⟩
  ·simp only [List.length_cons] at hlen
   have hx:=x.toNat_lt
   by_cases h34:x.toNat=34
   ·have HY:Hid (strOf l=some (o,r')):=by show _=_;rw [HX.out,strOf_end r' h34];simp
    have t34:((x.toNat:Int) == 34)=true:=by simp [h34]
    clear HX h34
    go_wp2_with fail
    refine (next_ok b r' x _ hrd (by simp;omega)).mono ?_
    rintro e w1 ⟨rfl,s1,k1⟩
    have g1:=grown_trans hgr k1
    have o1:=owns_kept hown k1 hb
    have z1:=k1.size
    have hcv:=o1.conv
    go_wp2
    go_ret
    exact strPost_ok HY.out s1 g1
   ·have t34:((x.toNat:Int) == 34)=false:=by simp;omega
    by_cases h92:x.toNat=92
    ·have t92:((x.toNat:Int) == 92)=true:=by simp [h92]
     rcases r' with _|⟨d,r2⟩
     ·have HN:Hid (strOf l=none):=by show _=_;rw [HX.out,strOf_esc0 h92];rfl
      clear HX h92 h34
      go_wp2_with fail
      refine (next_ok b [] x _ hrd (by simp)).mono ?_
      rintro e w1 ⟨rfl,s1,k1⟩
      have g1:=grown_trans hgr k1
      have o1:=owns_kept hown k1 hb
      have z1:=k1.size
      go_wp2_with fail
      refine (next_no b _ s1).mono ?_
      rintro e w' ⟨rfl,rfl⟩
      go_wp2
      exact ⟨rfl,strPost_no HN.out g1⟩
     ·simp only [List.length_cons] at hlen
      have hdl:=d.toNat_lt
      have HY0:(d.toNat=34∨d.toNat=92)→strOf l=(strOf r2).map (fun p=>((o++[d])++p.1,p.2)):=fun hd=>by
       rw [HX.out,strOf_esc r2 h92 hd];cases strOf r2 <;> simp
      by_cases d34:d.toNat=34
      ·have HY:Hid (strOf l=(strOf r2).map (fun p=>((o++[d])++p.1,p.2))):=HY0 (Or.inl d34)
       have td:((d.toNat:Int) == 34)=true:=by simp [d34]
       clear HX h92 h34 HY0 d34
       go_wp2_with fail
       refine (next_ok b (d :: r2) x _ hrd (by simp;omega)).mono ?_
       rintro e w1 ⟨rfl,s1,k1⟩
       have g1:=grown_trans hgr k1
       have o1:=owns_kept hown k1 hb
       have z1:=k1.size
       go_wp2_with fail
       refine (next_ok b r2 d _ s1 (by simp;omega)).mono ?_
       rintro e w2 ⟨rfl,s2,k2⟩
       have g2:=grown_trans g1 k2
       have o2:=owns_kept o1 k2 hb
       have z2:=k2.size
       have OWN:owns _ w.heap.size _ o:=o2
       clear hown
       go_wp2_with (first|(go_at_call 322;refine (need_ok _).mono ?_;rintro e w' ⟨rfl,rfl⟩)|(at_builtin;refine app_law rfl _ _ rfl w.heap.size _ [d] _ rfl (OWN.alloc _) _ 1 rfl rfl _ (heap_alloc_new _ _) (by omega) (by omega) (by simp;omega) ?_;intro v' w3 hown3 hb3))
       have k3:Below w.heap.size _ w3:=((Below.refl w.heap.size _).alloc (by omega) _).trans hb3
       have hrd3:=s2.below hb k3
       have HL3:=left_of hrd3
       go_roundw
       case rel=>exact ⟨o++[d],r2,hown3,hrd3,grown_up g2 k3 (Nat.le_refl _),HY.out,by simp;omega⟩
       case measure=>have:=HL2.out;simp at this;omega
      ·have td:((d.toNat:Int) == 34)=false:=by simp;omega
       by_cases d92:d.toNat=92
       ·have HY:Hid (strOf l=(strOf r2).map (fun p=>((o++[d])++p.1,p.2))):=HY0 (Or.inr d92)
        have te:((d.toNat:Int) == 92)=true:=by simp [d92]
        clear HX h92 h34 HY0 d34 d92
        go_wp2_with fail
        refine (next_ok b (d :: r2) x _ hrd (by simp;omega)).mono ?_
        rintro e w1 ⟨rfl,s1,k1⟩
        have g1:=grown_trans hgr k1
        have o1:=owns_kept hown k1 hb
        have z1:=k1.size
        go_wp2_with fail
        refine (next_ok b r2 d _ s1 (by simp;omega)).mono ?_
        rintro e w2 ⟨rfl,s2,k2⟩
        have g2:=grown_trans g1 k2
        have o2:=owns_kept o1 k2 hb
        have z2:=k2.size
        have OWN:owns _ w.heap.size _ o:=o2
        clear hown
        go_wp2_with (first|(go_at_call 322;refine (need_ok _).mono ?_;rintro e w' ⟨rfl,rfl⟩)|(at_builtin;refine app_law rfl _ _ rfl w.heap.size _ [d] _ rfl (OWN.alloc _) _ 1 rfl rfl _ (heap_alloc_new _ _) (by omega) (by omega) (by simp;omega) ?_;intro v' w3 hown3 hb3))
        have k3:Below w.heap.size _ w3:=((Below.refl w.heap.size _).alloc (by omega) _).trans hb3
        have hrd3:=s2.below hb k3
        have HL3:=left_of hrd3
        go_roundw
        case rel=>exact ⟨o++[d],r2,hown3,hrd3,grown_up g2 k3 (Nat.le_refl _),HY.out,by simp;omega⟩
        case measure=>have:=HL2.out;simp at this;omega
       ·have te:((d.toNat:Int) == 92)=false:=by simp;omega
        have HN:Hid (strOf l=none):=by show _=_;rw [HX.out,strOf_escx r2 h92 (by omega)];rfl
        clear HX h92 h34 HY0 d34 d92
        go_wp2_with fail
        refine (next_ok b (d :: r2) x _ hrd (by simp;omega)).mono ?_
        rintro e w1 ⟨rfl,s1,k1⟩
        have g1:=grown_trans hgr k1
        have o1:=owns_kept hown k1 hb
        have z1:=k1.size
        go_wp2_with fail
        refine (next_ok b r2 d _ s1 (by simp;omega)).mono ?_
        rintro e w2 ⟨rfl,s2,k2⟩
        have g2:=grown_trans g1 k2
        have o2:=owns_kept o1 k2 hb
        have z2:=k2.size
        go_wp2_with (go_at_call 322;refine (need_no _).mono ?_;rintro e w' ⟨rfl,rfl⟩)
        exact ⟨rfl,strPost_no HN.out g2⟩
    ·have t92:((x.toNat:Int) == 92)=false:=by simp;omega
     by_cases hp:32≤x.toNat∧x.toNat≤126
     ·have HY:Hid (strOf l=(strOf r').map (fun p=>((o++[x])++p.1,p.2))):=by
       show _=_;rw [HX.out,strOf_one r' h34 h92 hp];cases strOf r' <;> simp
      have p1:decide (32≤(x.toNat:Int))=true:=by simp;omega
      have p2:decide ((x.toNat:Int)≤126)=true:=by simp;omega
      clear HX h92 h34 hp
      go_wp2_with fail
      refine (next_ok b r' x _ hrd (by simp;omega)).mono ?_
      rintro e w1 ⟨rfl,s1,k1⟩
      have g1:=grown_trans hgr k1
      have o1:=owns_kept hown k1 hb
      have z1:=k1.size
      have OWN:owns _ w.heap.size _ o:=o1
      clear hown
      go_wp2_with (first|(go_at_call 322;refine (need_ok _).mono ?_;rintro e w' ⟨rfl,rfl⟩)|(at_builtin;refine app_law rfl _ _ rfl w.heap.size _ [x] _ rfl (OWN.alloc _) _ 1 rfl rfl _ (heap_alloc_new _ _) (by omega) (by omega) (by simp;omega) ?_;intro v' w3 hown3 hb3))
      have k3:Below w.heap.size _ w3:=((Below.refl w.heap.size _).alloc (by omega) _).trans hb3
      have hrd3:=s1.below hb k3
      have HL3:=left_of hrd3
      go_roundw
      case rel=>exact ⟨o++[x],r',hown3,hrd3,grown_up g1 k3 (Nat.le_refl _),HY.out,by simp;omega⟩
      case measure=>have:=HL2.out;simp at this;omega
     ·have HN:Hid (strOf l=none):=by show _=_;rw [HX.out,strOf_bad r' h34 h92 hp];rfl
      clear HX h92 h34
      by_cases p1:32≤x.toNat
      ·have q1:decide (32≤(x.toNat:Int))=true:=by simp;omega
       have q2:decide ((x.toNat:Int)≤126)=false:=by simp;omega
       clear hp p1
       go_wp2_with fail
       refine (next_ok b r' x _ hrd (by simp;omega)).mono ?_
       rintro e w1 ⟨rfl,s1,k1⟩
       have g1:=grown_trans hgr k1
       have o1:=owns_kept hown k1 hb
       have z1:=k1.size
       go_wp2_with (go_at_call 322;refine (need_no _).mono ?_;rintro e w' ⟨rfl,rfl⟩)
       exact ⟨rfl,strPost_no HN.out g1⟩
      ·have q1:decide (32≤(x.toNat:Int))=false:=by simp;omega
       clear hp p1
       go_wp2_with fail
       refine (next_ok b r' x _ hrd (by simp;omega)).mono ?_
       rintro e w1 ⟨rfl,s1,k1⟩
       have g1:=grown_trans hgr k1
       have o1:=owns_kept hown k1 hb
       have z1:=k1.size
       go_wp2_with (go_at_call 322;refine (need_no _).mono ?_;rintro e w' ⟨rfl,rfl⟩)
       exact ⟨rfl,strPost_no HN.out g1⟩
structure Kept (S:Nat→Prop) (w w':World):Prop where
 os:w'.os=w.os
 tape:w'.tape=w.tape
 output:w'.output=w.output
 size:w.heap.size≤w'.heap.size
 block:∀ k,k < w.heap.size→¬ S k→w'.heap[k]?=w.heap[k]?
theorem Kept.refl (S:Nat→Prop) (w:World):Kept S w w:=⟨rfl,rfl,rfl,Nat.le_refl _,fun _ _ _=>rfl⟩
theorem Kept.trans {S T:Nat→Prop} {a b c:World} (h:Kept S a b) (k:Kept T b c) (hs:∀ j,j < a.heap.size→T j→S j):Kept S a c :=
 ⟨k.os.trans h.os,k.tape.trans h.tape,k.output.trans h.output,Nat.le_trans h.size k.size,fun j hj hn=>(k.block j (Nat.lt_of_lt_of_le hj h.size) (fun e=>hn (hs j hj e))).trans (h.block j hj hn)⟩
theorem Kept.of_grown {r:Option Nat} {w w':World} (h:w.grownBy w' r):Kept (fun k=>r=some k) w w' :=
 ⟨h.os,h.tape,h.output,h.size,fun k hk hn=>h.block k hk (fun e=>hn e.symm)⟩
theorem Kept.of_below {B:Nat} {w w':World} (h:Below B w w'):Kept (fun k=>B≤k) w w' :=
 ⟨h.os,h.tape,h.output,h.size,fun k _ hn=>h.block k (by omega)⟩
theorem Kept.below {S:Nat→Prop} {B:Nat} {w w':World} (h:Kept S w w') (hB:B≤w.heap.size) (hs:∀ k,S k→B≤k):Below B w w' :=
 ⟨h.os,h.tape,h.output,h.size,fun k hk=>h.block k (by omega) (fun e=>by have:=hs k e;omega)⟩
theorem Kept.grown {b:Nat} {w w':World} (h:Kept (·=b) w w'):w.grownBy w' (some b) :=
 ⟨h.os,h.tape,h.output,h.size,fun k hk hn=>h.block k hk (fun e=>hn (by rw [e]))⟩
theorem Kept.of_grown1 {b:Nat} {w w':World} (h:w.grownBy w' (some b)):Kept (·=b) w w' :=
 ⟨h.os,h.tape,h.output,h.size,fun k hk hn=>h.block k hk (fun e=>hn (by simpa using e))⟩
theorem Kept.mono {S T:Nat→Prop} {w w':World} (h:Kept S w w') (hs:∀ j,j < w.heap.size→S j→T j):Kept T w w' :=
 ⟨h.os,h.tape,h.output,h.size,fun j hj hn=>h.block j hj (fun e=>hn (hs j hj e))⟩
theorem Kept.alloc {S:Nat→Prop} {a w:World} (h:Kept S a w) (o:Obj):Kept S a (w.alloc o) :=
 h.trans (Kept.of_grown (World.grownBy_alloc w o none)) (fun _ _ e=>by cases e)
theorem Kept.drew {S:Nat→Prop} {a w:World} (h:Kept S a w):Kept S a w.drew:=⟨h.os,h.tape,h.output,h.size,h.block⟩
theorem Kept.setCell {S:Nat→Prop} {a w:World} (h:Kept S a w) (b o:Nat) (v:Value) (hs:b < a.heap.size→S b):Kept S a (w.setCell ⟨b,o,none⟩ v) :=
 h.trans (Kept.of_grown1 (grown_set w b o v)) (fun j hj e=>by cases e;exact hs hj)
theorem Kept.cell {S:Nat→Prop} {w w':World} (h:Kept S w w') {a:Addr} {v:Value} (hc:w.cell? a=some v) (hn:¬ S a.block):w'.cell? a=some v :=
 (World.cell?_of_block (h.block a.block (World.block_lt_of_cell? w a hc) hn)).trans hc
theorem Kept.frozen {S:Nat→Prop} {w w':World} (h:Kept S w w') {a:Addr} (hl:a.block < w.heap.size) (hf:w.frozen? a=false) (hn:¬ S a.block):w'.frozen? a=false :=
 (World.frozen?_of_block (h.block a.block hl hn)).trans hf
theorem Kept.row {S:Nat→Prop} {w w':World} (h:Kept S w w') {B:Nat} {e:TypeId} {size:Nat} {v:Value} {n:Nat} {xs:List Value} (hr:w.ownsRow B e size v n xs) (hn:∀ k,v.ownBlock=some k→¬ S k):w'.ownsRow B e size v n xs:=by
 refine ⟨hr.1,?_⟩
 rcases hr.2 with h0|⟨g,cap,cur,rfl,hb,hgg,rest⟩
 ·exact .inl h0
 ·exact .inr ⟨g,cap,cur,rfl,hb,(h.block g (Array.getElem?_eq_some_iff.1 hgg).1 (hn g rfl)).trans hgg,rest⟩
theorem Kept.rdr {S:Nat→Prop} {w w':World} (h:Kept S w w') {b:Nat} {l:List UInt8} (hr:rdr w b l) (hn:¬ S b):rdr w' b l :=
 ⟨h.cell hr.1 hn,h.frozen (a:=⟨b,0,none⟩) hr.lt hr.2 hn⟩
def all2 {α β:Type} (R:α→β→Prop):List α→List β→Prop
 | [],[]=>True
 | a :: l,b :: m=>R a b∧all2 R l m
 | _,_=>False
theorem all2_len {α β:Type} {R:α→β→Prop}:∀ {l:List α} {m:List β},all2 R l m→l.length=m.length
 | [],[],_=>rfl
 | _ :: _,_ :: _,h=>by simp [all2_len h.2]
 | [],_ :: _,h=>h.elim
 | _ :: _,[],h=>h.elim
theorem all2_mono {α β:Type} {R T:α→β→Prop} (hR:∀ a b,R a b→T a b):∀ {l:List α} {m:List β},all2 R l m→all2 T l m
 | [],[],_=>trivial
 | _ :: _,_ :: _,h=>⟨hR _ _ h.1,all2_mono hR h.2⟩
 | [],_ :: _,h=>h.elim
 | _ :: _,[],h=>h.elim
theorem all2_snoc {α β:Type} {R:α→β→Prop} {a:α} {b:β} (hr:R a b):∀ {l:List α} {m:List β},all2 R l m→all2 R (l++[a]) (m++[b])
 | [],[],_=>⟨hr,trivial⟩
 | _ :: _,_ :: _,h=>⟨h.1,all2_snoc hr h.2⟩
 | [],_ :: _,h=>h.elim
 | _ :: _,[],h=>h.elim
theorem all2_get {α β:Type} {R:α→β→Prop}:∀ {l:List α} {m:List β},all2 R l m→∀ (i:Nat) (h1:i < l.length) (h2:i < m.length),R l[i] m[i]
 | _ :: _,_ :: _,h,0,_,_=>h.1
 | _ :: _,_ :: _,h,i+1,h1,h2=>all2_get h.2 i (by simpa using h1) (by simpa using h2)
 | [],[],_,_,h1,_=>absurd h1 (by simp)
 | [],_ :: _,h,_,_,_=>h.elim
 | _ :: _,[],h,_,_,_=>h.elim
def mcells (us:List (List UInt8×Value)):List Value:=us.flatMap fun p=>[str p.1,p.2]
def repJ:Nat→World→(Nat→Prop)→Value→J→Prop
 | 0,_,_,_,_=>False
 | _+1,_,_,v,.str s=>v=.iface 413 (str s)∧s.length≤4000
 | _+1,_,_,v,.bool b=>v=.iface 414 (.bool b)
 | _+1,_,_,v,.null=>v=.iface 415 (.agg #[])
 | k+1,w,P,v,.arr l=>∃ sl us,v=.iface 397 sl∧w.ownsRow 0 389 1 sl l.length us∧(∀ g,sl.ownBlock=some g→P g) ∧
   all2 (fun u j=>repJ k w (fun g=>P g∧sl.ownBlock≠some g) u j) us l
 | k+1,w,P,v,.obj l=>∃ sl us,v=.iface 401 sl∧w.ownsRow 0 408 2 sl l.length (mcells us)∧(∀ g,sl.ownBlock=some g→P g) ∧
   all2 (fun (u:List UInt8×Value) (j:List UInt8×J)=>u.1=j.1∧repJ k w (fun g=>P g∧sl.ownBlock≠some g) u.2 j.2) us l
theorem repJ.mono:∀ (k:Nat) {w:World} {P Q:Nat→Prop} {v:Value} {j:J},repJ k w P v j→(∀ g,P g→Q g)→repJ k w Q v j
 | 0,_,_,_,_,_,h,_=>h
 | _+1,_,_,_,_,.str _,h,_=>h
 | _+1,_,_,_,_,.bool _,h,_=>h
 | _+1,_,_,_,_,.null,h,_=>h
 | k+1,_,_,_,_,.arr _,⟨sl,us,h1,h2,h3,h4⟩,hq=>⟨sl,us,h1,h2,fun g hg=>hq g (h3 g hg),all2_mono (fun _ _ hr=>repJ.mono k hr (fun g hg=>⟨hq g hg.1,hg.2⟩)) h4⟩
 | k+1,_,_,_,_,.obj _,⟨sl,us,h1,h2,h3,h4⟩,hq=>⟨sl,us,h1,h2,fun g hg=>hq g (h3 g hg),all2_mono (fun _ _ hr=>⟨hr.1,repJ.mono k hr.2 (fun g hg=>⟨hq g hg.1,hg.2⟩)⟩) h4⟩
theorem repJ.kept:∀ (k:Nat) {w w':World} {S P:Nat→Prop} {v:Value} {j:J},repJ k w P v j→Kept S w w'→(∀ g,P g→¬ S g)→repJ k w' P v j
 | 0,_,_,_,_,_,_,h,_,_=>h
 | _+1,_,_,_,_,_,.str _,h,_,_=>h
 | _+1,_,_,_,_,_,.bool _,h,_,_=>h
 | _+1,_,_,_,_,_,.null,h,_,_=>h
 | k+1,_,_,_,_,_,.arr _,⟨sl,us,h1,h2,h3,h4⟩,hk,hq=>⟨sl,us,h1,hk.row h2 (fun g hg=>hq g (h3 g hg)),h3,all2_mono (fun _ _ hr=>repJ.kept k hr hk (fun g hg=>hq g hg.1)) h4⟩
 | k+1,_,_,_,_,_,.obj _,⟨sl,us,h1,h2,h3,h4⟩,hk,hq=>⟨sl,us,h1,hk.row h2 (fun g hg=>hq g (h3 g hg)),h3,all2_mono (fun _ _ hr=>⟨hr.1,repJ.kept k hr.2 hk (fun g hg=>hq g hg.1)⟩) h4⟩
theorem repJ.inb:∀ (k:Nat) {w:World} {P:Nat→Prop} {v:Value} {j:J},repJ k w P v j→repJ k w (fun g=>P g∧g < w.heap.size) v j
 | 0,_,_,_,_,h=>h
 | _+1,_,_,_,.str _,h=>h
 | _+1,_,_,_,.bool _,h=>h
 | _+1,_,_,_,.null,h=>h
 | k+1,_,_,_,.arr _,⟨sl,us,h1,h2,h3,h4⟩=>⟨sl,us,h1,h2,fun g hg=>⟨h3 g hg,(World.ownsRow.lt h2 g hg).2⟩,all2_mono (fun _ _ hr=>repJ.mono k (repJ.inb k hr) (fun _ hg=>⟨⟨hg.1.1,hg.2⟩,hg.1.2⟩)) h4⟩
 | k+1,_,_,_,.obj _,⟨sl,us,h1,h2,h3,h4⟩=>⟨sl,us,h1,h2,fun g hg=>⟨h3 g hg,(World.ownsRow.lt h2 g hg).2⟩,all2_mono (fun _ _ hr=>⟨hr.1,repJ.mono k (repJ.inb k hr.2) (fun _ hg=>⟨⟨hg.1.1,hg.2⟩,hg.1.2⟩)⟩) h4⟩
theorem trim_skip:∀ s:List UInt8,Lib.trimLeftS s [32,10]=skip s
 | []=>rfl
 | c :: r=>by
  have ih:=trim_skip r
  unfold Lib.trimLeftS at *
  rw [List.dropWhile_cons,skip]
  have e:([32,10]:List UInt8).contains c=spc c:=by
   unfold spc
   rw [List.contains_cons,List.contains_cons];simp
  rw [e,ih]
theorem trim_any (l:List UInt8) (w:World) :
  Calls Tryz.prog 332 #[str l,.string ⟨#[32,10]⟩] w fun e w'=>e=.returned (str (skip l))∧Below w.heap.size w w':=by
 have h:=Any.strings_TrimLeft_laid Tryz.lays161 (by kernel_rfl) ⟨l.toArray⟩ ⟨#[32,10]⟩ w (by decide) (by
  intro j b hb
  match j,hb with
  | 0,hb=>simp at hb;subst hb;decide
  | 1,hb=>simp at hb;subst hb;decide
  | j+2,hb=>simp at hb)
 refine h.mono ?_
 rintro e w' ⟨rfl,hk⟩
 refine ⟨?_,hk⟩
 show Ending.returned (.string ⟨(Lib.trimLeftS l [32,10]).toArray⟩)=_
 rw [trim_skip]
theorem skip_any (b:Nat) (l:List UInt8) (w:World) (h:rdr w b l) :
  Calls Tryz.prog 321 #[.pointer (some ⟨b,0,none⟩)] w fun e w'=>e=.returned (.tuple #[])∧rdr w' b (skip l)∧w.grownBy w' (some b):=by
 have H:=h
 obtain ⟨h0,h1⟩:=h
 go_enter Tryz.func321,Tryz.ntmps321
 go_wp2_with fail
 refine (trim_any l w).mono ?_
 rintro e w1 ⟨rfl,k1⟩
 have H1:=H.below H.lt k1
 have c1:=H1.1
 have c2:=H1.2
 go_wp2
 go_end0
 exact ⟨rfl,H1.set _,grown_trans (grown_below k1 (Nat.le_refl _)) (grown_set _ _ _ _)⟩
theorem cut_any (l t:List UInt8) (w:World) :
  Calls Tryz.prog 334 #[str l,str t] w fun e w'=>e=.returned (.tuple #[str ((cutP t l).getD l),.bool (cutP t l).isSome])∧w=w':=by
 refine (Tryz.strings_CutPrefix ⟨l.toArray⟩ ⟨t.toArray⟩ w).mono ?_
 rintro e w' ⟨rfl,rfl⟩
 refine ⟨?_,rfl⟩
 have e1:Lib.hasPrefix l t=(cutP t l).isSome:=by unfold Lib.hasPrefix cutP;cases t.isPrefixOf l <;> rfl
 have e2:Lib.trimPrefix l t=(cutP t l).getD l:=by unfold Lib.trimPrefix Lib.hasPrefix cutP;cases t.isPrefixOf l <;> rfl
 show Ending.returned (.tuple #[.string ⟨(Lib.trimPrefix l t).toArray⟩,.bool (Lib.hasPrefix l t)])=_
 rw [e1,e2]
theorem take_any (b:Nat) (l t:List UInt8) (w:World) (h:rdr w b l) :
  Calls Tryz.prog 328 #[.pointer (some ⟨b,0,none⟩),str t] w fun e w'=>e=.returned (.bool (tak t l).isSome)∧rdr w' b (taken t l)∧w.grownBy w' (some b):=by
 have C:Hid (_):=cut_any (skip l) t
 go_enter Tryz.func328,Tryz.ntmps328
 go_wp2_with fail
 refine (skip_any b l w h).mono ?_
 rintro e w1 ⟨rfl,H1,k1⟩
 have c1:=H1.1
 have c2:=H1.2
 go_wp2_with fail
 refine (C.out w1).mono ?_
 rintro e w2 ⟨rfl,rfl⟩
 go_wp2
 go_ret
 exact ⟨rfl,H1.set _,grown_trans k1 (grown_set _ _ _ _)⟩
end Go.Proofs.YtbllcgibmgbnjaaGreatDoor.P
