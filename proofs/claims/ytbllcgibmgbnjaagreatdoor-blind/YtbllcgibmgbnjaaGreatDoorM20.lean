import Derived.Test.YtbllcgibmgbnjaaGreatDoorM19
import Derived.Deep.RegionWith
import Derived.Deep.RegionHeld3
import Derived.Deep.CutRange
import Derived.Test.YtbllcgibmgbnjaaGreatDoorM17
import Derived.BigQuiet
import Derived.Deep.AppendLies
set_option maxHeartbeats 4000000
set_option maxRecDepth 20000
namespace Go.Proofs.YtbllcgibmgbnjaaGreatDoor.P
open Go.RowKit
open C (ret_bool ret_int ret_str)
theorem bfield0 (a b c:Value) (w:World):(Instr.field 162 (.agg #[a,b,c]) 0).run Tryz.prog w=.ok a w:=by kernel_rfl
theorem bfield1 (a b c:Value) (w:World):(Instr.field 162 (.agg #[a,b,c]) 1).run Tryz.prog w=.ok b w:=by kernel_rfl
def Sto.policyOf (s:Sto) (n:Tx):Tx:=match s.bk n with
 | none=>[]
 | some x=>x.policy
theorem policy_any (b:Nat) (s:Sto) (r:Roles) (name:Tx) (w:World) (h:KS b s r w) :
  Calls Tryz.prog 127 #[.pointer (some ⟨b,0,none⟩),str name] w fun e w'=>(∃ v,e=.returned (.tuple #[str (s.policyOf name),v])∧errIs v (if s.policyOf name=[] then 404 else 200))∧w=w':=by
 obtain ⟨uv,lv,mb,mv,h⟩:=h
 have c3:=h.c3
 obtain ⟨f,hf,hcase⟩:=h.bk.find name
 have R404:Hid (∀ w,Calls Tryz.prog 80 #[.int .i64 404,.nilIface] w fun e w'=>e=.returned (.iface 148 (.agg #[.int .i64 404,.nilIface]))∧w=w'):=fun w=>refuse_any 404 .nilIface (.inl rfl) w
 have HP:Hid (s.policyOf name=match s.bk name with|none=>[]|some x=>x.policy):=rfl
 clear h
 obtain ⟨o,sl,HL⟩:∃ (o:Tx) (sl:Sl),Hid (lookV false (.agg #[.string ⟨#[]⟩,.string ⟨#[]⟩,.slice none 0 0]) (f (str name))=.agg #[str o,str (s.policyOf name),sl.v]):=by
  rcases hcase with ⟨hn,hfn⟩|⟨x,sl,hx,hfx,hp⟩
  ·exact ⟨[],(none,0,0),by show _=_;rw [hfn,HP.out,hn];rfl⟩
  ·exact ⟨x.owner,sl,by show _=_;rw [hfx,HP.out,hx];rfl⟩
 obtain ⟨sa,sn,sc⟩:=sl
 have B1:=bfield1
 clear hcase HP
 generalize s.policyOf name=p at *
 by_cases hp:p=[]
 ·subst hp
  go_enter Tryz.func127,Tryz.ntmps127
  go_wp2_with (first|(at_lookup;refine wpList_look _ rfl _ _ _ _ rfl 9 162 isStr strKeys Tryz.underlying122 mb f rfl hf _ (zeroB _) _ rfl ⟨_,rfl⟩ _ HL.out ?_)|(go_at_call 80;refine (R404.out _).mono ?_;rintro e w' ⟨rfl,rfl⟩))
  go_ret2
  exact ⟨⟨_,rfl,.no 404 .nilIface rfl (by decide)⟩,rfl⟩
 ·have tp:(p == [])=false:=by simpa using hp
  rw [if_neg hp]
  go_enter Tryz.func127,Tryz.ntmps127
  go_wp2_with (at_lookup;refine wpList_look _ rfl _ _ _ _ rfl 9 162 isStr strKeys Tryz.underlying122 mb f rfl hf _ (zeroB _) _ rfl ⟨_,rfl⟩ _ HL.out ?_)
  go_ret2
  exact ⟨⟨_,rfl,.ok⟩,rfl⟩
theorem VMap.find {w:World} {m:Nat} {r:Roles} {vs:Tx→Tx→List Ver} (h:VMap w m r vs) (b k:Tx):∃ f,MapIs isTwo w m f∧∃ (sl:Sl) (o:Option Sl),f (keyV b k)=o.map Sl.v∧lookV false (.slice none 0 0) (f (keyV b k))=sl.v∧vrow w sl.v (vs b k)∧(∀ g,sl.v.ownBlock=some g→r g=.ver b k)∧(vs b k≠[]→o=some sl)∧(vs b k=[]→o=none):=by
 obtain ⟨f,h1,h2,h3⟩:=h
 refine ⟨f,h1,?_⟩
 by_cases hv:vs b k=[]
 ·exact ⟨(none,0,0),none,h2 b k hv,by rw [h2 b k hv];rfl,by rw [hv];exact World.ownsRow_nil _ _ _ _,(fun g e=>nomatch e),fun e=>absurd hv e,fun _=>rfl⟩
 ·obtain ⟨sl,e1,e2,e3⟩:=h3 b k hv
  obtain ⟨a,c,e,_⟩:=vrow.sl e2
  subst e
  exact ⟨(a,_,c),some (a,_,c),e1,by rw [e1];rfl,e2,e3,fun _=>rfl,fun h=>absurd h hv⟩
def verEnd (o:Option Ver) (w:World) (e:Ending) (w':World):Prop:=Below w.heap.size w w'∧match o with
 | some v=>e=.returned (.tuple #[.int .i64 (v.num:Int),str v.body,.nilIface])
 | none=>e=.returned (.tuple #[.int .i64 0,str [],.iface 148 (.agg #[.int .i64 404,.nilIface])])
theorem verEnd_no {o:Option Ver} {w w':World} (h:o=none) (hb:Below w.heap.size w w'):verEnd o w (.returned (.tuple #[.int .i64 0,str [],.iface 148 (.agg #[.int .i64 404,.nilIface])])) w':=by subst h;exact ⟨hb,rfl⟩
theorem verEnd_ok {o:Option Ver} {v:Ver} {w w':World} (h:o=some v) (hb:Below w.heap.size w w'):verEnd o w (.returned (.tuple #[.int .i64 (v.num:Int),str v.body,.nilIface])) w':=by subst h;exact ⟨hb,rfl⟩
theorem find_idx {l:List Ver} {n i:Nat} (h:vIdx l n=some i):∃ hi:i < l.length,l.find? (fun v=>v.num == n)=some l[i]:=by
 unfold vIdx at h
 rw [List.findIdx?_eq_some_iff_getElem] at h
 obtain ⟨hi,h1,h2⟩:=h
 refine ⟨hi,?_⟩
 rw [List.find?_eq_some_iff_append]
 refine ⟨h1,l.take i,l.drop (i+1),?_,fun u hu=>?_⟩
 ·rw [← List.drop_eq_getElem_cons hi,List.take_append_drop]
 ·rw [List.mem_take_iff_getElem] at hu
  obtain ⟨j,hj,rfl⟩:=hu
  have:=h2 j (by omega)
  simpa using this
theorem find_idx_none {l:List Ver} {n:Nat} (h:vIdx l n=none):l.find? (fun v=>v.num == n)=none:=by
 rw [List.find?_eq_none];intro v hv;have:=vIdx_none.1 h v hv;simp [this]
def verAt (l:List Ver) (n:Nat):Option Nat:=if n=0 then (if l=[] then none else some (l.length - 1)) else vIdx l n
def verOf (l:List Ver):Option Nat→Option Ver
 | none=>none
 | some i=>l[i]?.bind fun v=>if v.mark=true then none else some v
theorem verOf_some (l:List Ver) (i:Nat):verOf l (some i)=l[i]?.bind fun v=>if v.mark=true then none else some v:=rfl
theorem verAt_eq (s:Sto) (b k:Tx) (n:Nat):s.version b k n=verOf (s.vs b k) (verAt (s.vs b k) n):=by
 unfold Sto.version verAt
 by_cases h0:n=0
 ·rw [if_pos h0,if_pos h0]
  by_cases hl:s.vs b k=[]
  ·rw [hl];rfl
  ·rw [if_neg hl,List.getLast?_eq_getElem?]
   rw [verOf_some]
   cases h:(s.vs b k)[(s.vs b k).length - 1]? with
   | none=>rfl
   | some v=>rfl
 ·rw [if_neg h0,if_neg h0]
  cases hv:vIdx (s.vs b k) n with
  | none=>rw [find_idx_none hv];rfl
  | some i=>obtain ⟨hi,e⟩:=find_idx hv;rw [e,verOf_some,List.getElem?_eq_getElem hi];rfl
theorem verAt_lt {l:List Ver} {n i:Nat} (h:verAt l n=some i):i < l.length:=by
 unfold verAt at h
 split at h
 ·split at h
  ·cases h
  ·cases h;rename_i h2;cases l with
   | nil=>exact absurd rfl h2
   | cons=>simp
 ·exact (find_idx h).1
theorem version_any (b:Nat) (s:Sto) (r:Roles) (name key:Tx) (n:Nat) (w:World) (h:KS b s r w) (F:Fine s) :
  Calls Tryz.prog 133 #[.pointer (some ⟨b,0,none⟩),str name,str key,.int .i64 (n:Int)] w (verEnd (s.version name key n) w):=by
 obtain ⟨uv,lv,mb,mv,h⟩:=h
 have c4:=h.c4
 obtain ⟨f,hf,sl,o,_,hlk,hrow,_⟩:=h.vs.find name key
 have hfv:=(F.vs name key).1
 have HFV:Hid (∀ v∈s.vs name key,v.body.length≤100000∧v.num≤s.last):=(F.vs name key).2
 have hflog:=F.log;have hflast:=F.last
 have HV:Hid (s.version name key n=verOf (s.vs name key) (verAt (s.vs name key) n)):=verAt_eq s name key n
 obtain ⟨sa,sn,sc⟩:=sl
 have HLK:Hid (lookV false (.slice none 0 0) (f (keyV name key))=.slice sa sn sc):=hlk
 have R404:Hid (∀ w,Calls Tryz.prog 80 #[.int .i64 404,.nilIface] w fun e w'=>e=.returned (.iface 148 (.agg #[.int .i64 404,.nilIface]))∧w=w'):=fun w=>refuse_any 404 .nilIface (.inl rfl) w
 have IX:Hid (_):=indexOf_any n (.slice sa sn sc) (s.vs name key) w hrow (by omega)
 have hsl:sn=(s.vs name key).length∧sn≤sc:=by obtain ⟨a,c,e,hc⟩:=vrow.sl hrow;cases e;exact ⟨rfl,hc⟩
 obtain ⟨rfl,hcap⟩:=hsl
 have HR:Hid (vrow w (.slice sa (s.vs name key).length sc) (s.vs name key)):=hrow
 have HAT:Hid (verAt (s.vs name key) n=if n=0 then (if s.vs name key=[] then none else some ((s.vs name key).length - 1)) else vIdx (s.vs name key) n):=rfl
 have HLT:=@verAt_lt (s.vs name key) n
 clear h hlk hrow F
 generalize s.vs name key=l at *
 have hll:l.length≤100000:=by omega
 go_enter Tryz.func133,Tryz.ntmps133
 go_wp2_with (at_lookup;refine wpList_look _ rfl _ _ _ _ rfl 289 290 isTwo placeKeys Tryz.underlying123 mv f rfl hf _ (zeroV _) _ rfl ⟨_,_,rfl⟩ _ HLK.out ?_)
 refine Calls.mono IX.out ?_
 rintro e w1 ⟨rfl,b1⟩
 clear IX HLK hf
 have hsz1:=b1.size
 have NO:Hid (verAt l n=none→s.version name key n=none):=fun h=>by rw [HV.out,h];rfl
 have YES:Hid (∀ i (hi:i < l.length),verAt l n=some i→s.version name key n=if l[i].mark=true then none else some l[i]):=fun i hi h=>by rw [HV.out,h,verOf_some,List.getElem?_eq_getElem hi];rfl
 by_cases h0:n=0
 ·subst h0
  rw [if_pos rfl] at HAT
  by_cases hl0:l=[]
  ·have HY:Hid (s.version name key 0=none):=NO.out (by rw [HAT.out,if_pos hl0])
   subst hl0
   clear HV HAT NO YES HLT HR
   go_wp2_with (go_at_call 80;refine (R404.out _).mono ?_;rintro e w' ⟨rfl,rfl⟩)
   go_ret3
   exact verEnd_no HY.out b1
  ·have hpos:0 < l.length:=List.length_pos_iff.2 hl0
   have hi:l.length - 1 < l.length:=by omega
   obtain ⟨k,hk⟩:∃ k:Nat,l.length=k+1:=⟨l.length - 1,by omega⟩
   replace hi:k < l.length:=by omega
   have HAK:Hid (verAt l 0=some k):=by show _=_;rw [HAT.out,if_neg hl0,hk];rfl
   obtain ⟨g,rfl,hg,q0,q1,q2⟩:=(vrow.below HR.out b1).at hi
   rw [hk]
   have hcap2:k+1≤sc:=by omega
   have hll2:k+1≤100000:=by omega
   have hv:=(HFV.out l[k] (List.getElem_mem hi)).2
   have HV2:Hid (s.version name key 0=if l[k].mark=true then none else some l[k]):=YES.out k hi HAK.out
   generalize l[k]=vv at *
   obtain ⟨vn,vm,vb⟩:=vv
   dsimp only at q0 q1 q2 hv HV2
   clear HV HAT NO YES HLT HR HAK
   cases vm with
   | true =>
    go_wp2_with (go_at_call 80;refine (R404.out _).mono ?_;rintro e w' ⟨rfl,rfl⟩)
    go_ret3
    exact verEnd_no (by rw [HV2.out];rfl) b1
   | false =>
    go_wp2_with fail
    go_region
    all_goals go_wp2
    all_goals go_ret3
    all_goals exact verEnd_ok (v:=⟨vn,false,vb⟩) (by rw [HV2.out];rfl) b1.drew
 ·have t0:((n:Int) == 0)=false:=by simp;omega
  rw [if_neg h0] at HAT
  cases hix:vIdx l n with
  | none =>
   have HY:Hid (s.version name key n=none):=NO.out (by rw [HAT.out,hix])
   clear HV HAT NO YES HLT HR
   dsimp only [vIdxI]
   go_wp2_with (go_at_call 80;refine (R404.out _).mono ?_;rintro e w' ⟨rfl,rfl⟩)
   go_ret3
   exact verEnd_no HY.out b1
  | some i =>
   have HAK:Hid (verAt l n=some i):=by show _=_;rw [HAT.out,hix]
   have hi:=HLT HAK.out
   obtain ⟨g,rfl,hg,q0,q1,q2⟩:=(vrow.below HR.out b1).at hi
   dsimp only [vIdxI]
   have hv:=(HFV.out l[i] (List.getElem_mem hi)).2
   have HV2:Hid (s.version name key n=if l[i].mark=true then none else some l[i]):=YES.out i hi HAK.out
   generalize l[i]=vv at *
   obtain ⟨vn,vm,vb⟩:=vv
   dsimp only at q0 q1 q2 hv HV2
   clear HV HAT NO YES HLT HR HAK
   cases vm with
   | true =>
    go_wp2_with (go_at_call 80;refine (R404.out _).mono ?_;rintro e w' ⟨rfl,rfl⟩)
    go_ret3
    exact verEnd_no (by rw [HV2.out];rfl) b1
   | false =>
    go_wp2_with fail
    go_region
    all_goals go_wp2
    all_goals go_ret3
    all_goals exact verEnd_ok (v:=⟨vn,false,vb⟩) (by rw [HV2.out];rfl) b1.drew
theorem str_inj {a b:Tx} (h:str a=str b):a=b:=by
 simp only [str,Value.string.injEq,ByteArray.mk.injEq] at h
 exact List.toArray_inj h
theorem keyV_inj {a b c d:Tx} (h:keyV a b=keyV c d):a=c∧b=d:=by
 simp only [keyV,Value.agg.injEq,Array.mk.injEq,List.cons.injEq] at h
 exact ⟨str_inj h.1,str_inj h.2.1⟩
def BF (w:World) (r:Roles) (f:Value→Option Value) (bk:Tx→Option Bkt):Prop :=
 (∀ n,bk n=none→f (str n)=none)∧(∀ n x,bk n=some x→∃ sl,f (str n)=some (bktV x sl)∧policyIn w (fun g=>r g=.ro) sl x.rules)
def VF (w:World) (r:Roles) (f:Value→Option Value) (vs:Tx→Tx→List Ver):Prop :=
 (∀ b k,vs b k=[]→f (keyV b k)=none)∧(∀ b k,vs b k≠[]→∃ sl,f (keyV b k)=some sl∧vrow w sl (vs b k)∧∀ g,sl.ownBlock=some g→r g=.ver b k)
theorem BF.kept {S:Nat→Prop} {w w':World} {r:Roles} {f:Value→Option Value} {bk:Tx→Option Bkt} (h:BF w r f bk) (k:Kept S w w') (hr:∀ g,r g=.ro→¬ S g):BF w' r f bk :=
 ⟨h.1,fun n x e=>by obtain ⟨sl,e1,e2⟩:=h.2 n x e;exact ⟨sl,e1,e2.kept k hr⟩⟩
theorem BF.roles {w:World} {r r':Roles} {f:Value→Option Value} {bk:Tx→Option Bkt} (h:BF w r f bk) (hr:∀ g,r g=.ro→r' g=.ro):BF w r' f bk :=
 ⟨h.1,fun n x e=>by obtain ⟨sl,e1,e2⟩:=h.2 n x e;exact ⟨sl,e1,e2.mono hr⟩⟩
theorem BF.put {w:World} {r:Roles} {f g:Value→Option Value} {bk:Tx→Option Bkt} (h:BF w r f bk) {n:Tx} {x:Bkt} {sl:Value} (hg:g (str n)=some (bktV x sl)) (ho:∀ v,v≠str n→g v=f v) (hp:policyIn w (fun g=>r g=.ro) sl x.rules):BF w r g (fun m=>if m=n then some x else bk m):=by
 refine ⟨fun m hm=>?_,fun m y hm=>?_⟩
 ·dsimp only at hm
  by_cases e:m=n
  ·rw [if_pos e] at hm;cases hm
  ·rw [if_neg e] at hm
   rw [ho _ (fun h=>e (str_inj h))];exact h.1 m hm
 ·dsimp only at hm
  by_cases e:m=n
  ·rw [if_pos e] at hm;cases hm;rw [e];exact ⟨sl,hg,hp⟩
  ·rw [if_neg e] at hm
   obtain ⟨sl',e1,e2⟩:=h.2 m y hm
   exact ⟨sl',by rw [ho _ (fun h=>e (str_inj h))];exact e1,e2⟩
theorem VF.kept {S:Nat→Prop} {w w':World} {r:Roles} {f:Value→Option Value} {vs:Tx→Tx→List Ver} (h:VF w r f vs) (k:Kept S w w') (hr:∀ g b j,r g=.ver b j→¬ S g):VF w' r f vs :=
 ⟨h.1,fun b j e=>by obtain ⟨sl,e1,e2,e3⟩:=h.2 b j e;exact ⟨sl,e1,k.row e2 (fun g hg=>hr g b j (e3 g hg)),e3⟩⟩
theorem VF.roles {w:World} {r r':Roles} {f:Value→Option Value} {vs:Tx→Tx→List Ver} (h:VF w r f vs) (hr:∀ g b k,r g=.ver b k→r' g=.ver b k):VF w r' f vs :=
 ⟨h.1,fun b k e=>by obtain ⟨sl,e1,e2,e3⟩:=h.2 b k e;exact ⟨sl,e1,e2,fun g hg=>hr g b k (e3 g hg)⟩⟩
def Undo (b:Nat) (s:Sto) (r:Roles) (w:World) (lo:Nat) (F:Nat) (caps:Array Value):Prop :=
 ∀ W,Kept (fun g=>g < lo∧r g=.none) w W→Calls Tryz.prog F caps W fun e W'=>e=.returned (.tuple #[])∧KS b s r W'∧Step r W r W'
def begPost (b:Nat) (s:Sto) (r:Roles) (w:World) (x:Except Nat Sto) (e:Ending) (w':World):Prop:=match x with
 | .error n=>(∃ c:Value,c.oneCell'=true∧e=.returned (.tuple #[.nilFunc,.iface 148 (.agg #[.int .i64 (n:Int),c])]))∧Below w.heap.size w w'
 | .ok t=>∃ F caps r',e=.returned (.tuple #[.func (.func F) #[] caps,.nilIface])∧(∀ args w,(callFunc F args).run Tryz.prog w=.ok (.enter F args) w)∧KS b t r' w'∧Step r w r' w'∧Undo b s r' w' w.heap.size F caps
theorem begPost_no {b:Nat} {s:Sto} {r:Roles} {w w':World} {x:Except Nat Sto} {n:Nat} {c:Value} (h:x=.error n) (hc:c.oneCell'=true) (hb:Below w.heap.size w w'):begPost b s r w x (.returned (.tuple #[.nilFunc,.iface 148 (.agg #[.int .i64 (n:Int),c])])) w':=by
 subst h;exact ⟨⟨c,hc,rfl⟩,hb⟩
theorem KSv.putB {b:Nat} {s:Sto} {r:Roles} {uv lv:Value} {mb mv:Nat} {W W':World} {f':Value→Option Value} {bk':Tx→Option Bkt} (hW:KSv b s r uv lv mb mv W) (k:Kept (·=mb) W W') (hM:MapIs isStr W' mb f') (hB:BF W' r f' bk'):KSv b { s with bk:=bk' } r uv lv mb mv W':=by
 have nb:∀ {g},r g≠.bks→¬ g=mb:=fun h e=>h (by rw [e];exact hW.rk)
 have hbb:b < W.heap.size:=hW.dom b (by rw [hW.rb];simp)
 have nbb:¬ b=mb:=nb (by rw [hW.rb];simp)
 exact { c0 := k.cell hW.c0 nbb, c1 := k.cell hW.c1 nbb, c2 := k.cell hW.c2 nbb, c3 := k.cell hW.c3 nbb, c4 := k.cell hW.c4 nbb, c5 := k.cell hW.c5 nbb, fz := fun j => k.frozen (a := ⟨b, j, none⟩) hbb (hW.fz j) nbb, rb := hW.rb, us := k.row hW.us (fun g e => nb (by rw [hW.ur g e]; simp)), ur := hW.ur, lg := k.row hW.lg (fun g e => nb (by rw [hW.lr g e]; simp)), lr := hW.lr,
         bk:=⟨f',hM,hB.1,hB.2⟩,rk:=hW.rk,vs:=hW.vs.kept k (nb (by rw [hW.rv];simp)) (fun g _ _ e=>nb (by rw [e];simp)),rv:=hW.rv,dom:=fun g e=>Nat.lt_of_lt_of_le (hW.dom g e) k.size }
theorem KSv.roles {b:Nat} {s:Sto} {r r1:Roles} {uv lv:Value} {mb mv:Nat} {w w1:World} (h:KSv b s r uv lv mb mv w) (hb1:Below w.heap.size w w1) (hr1:∀ g,r g≠.none→r1 g=r g) (hd1:∀ g,r1 g≠.none→g < w1.heap.size):KSv b s r1 uv lv mb mv w1:=by
 have h0:=h.below hb1
 have E:∀ {g},r g≠.none→r1 g=r g:=fun hn=>hr1 _ hn
 obtain ⟨f,fm,f1,f2⟩:=h0.bk
 obtain ⟨v,vm,v1,v2⟩:=h0.vs
 exact { c0 := h0.c0, c1 := h0.c1, c2 := h0.c2, c3 := h0.c3, c4 := h0.c4, c5 := h0.c5, fz := h0.fz, rb := by rw [E (by rw [h.rb]; simp)]; exact h.rb, us := h0.us, ur := fun g e => by rw [E (by rw [h.ur g e]; simp)]; exact h.ur g e, lg := h0.lg, lr := fun g e => by rw [E (by rw [h.lr g e]; simp)]; exact h.lr g e,
         bk:=⟨f,fm,BF.roles ⟨f1,f2⟩ (fun g e=>by rw [E (by rw [e];simp)];exact e)⟩,rk:=by rw [E (by rw [h.rk];simp)];exact h.rk,vs:=⟨v,vm,VF.roles ⟨v1,v2⟩ (fun g _ _ e=>by rw [E (by rw [e];simp)];exact e)⟩,rv:=by rw [E (by rw [h.rv];simp)];exact h.rv,dom:=hd1 }
theorem setB_beg {b:Nat} {s:Sto} {r:Roles} {uv lv:Value} {mb mv:Nat} {w w1 w2:World} (h:KSv b s r uv lv mb mv w) {r1:Roles} (hb1:Below w.heap.size w w1) (hr1:∀ g,r g≠.none→r1 g=r g) (hd1:∀ g,r1 g≠.none→g < w1.heap.size) (hn1:∀ g,g < w.heap.size→r1 g≠.none→r g≠.none)
  {f:Value→Option Value} (hm:MapIs isStr w mb f) (hf:BF w r f s.bk) {n:Tx} {x:Bkt} {sl:Value} (hp:policyIn w1 (fun g=>r1 g=.ro) sl x.rules) {F:Nat} (_hF:F=306) {e:Ending}
  (hs:setPost F mb (str n) (bktV x sl) isStr f w1 e w2):∃ caps,e=.returned (.func (.func F) #[] caps)∧KS b (s.setBk n x) r1 w2∧Step r w r1 w2∧Undo b s r1 w2 w.heap.size F caps:=by
 obtain ⟨caps,rfl,⟨g,hm2,hg1,hg2⟩,k2,undo⟩:=hs
 have h1:KSv b s r1 uv lv mb mv w1:=h.roles hb1 hr1 hd1
 have hf1:BF w1 r1 f s.bk:=(hf.kept (Kept.of_below hb1) (fun g e hg=>by have:=h.dom g (by rw [e];simp);omega)).roles (fun g e=>by rw [hr1 g (by rw [e];simp)];exact e)
 have ro:∀ g,r1 g=.ro→¬ g=mb:=fun g e h=>by rw [h,h1.rk] at e;cases e
 have hf2:BF w2 r1 f s.bk:=hf1.kept k2 ro
 have K2:KSv b (s.setBk n x) r1 uv lv mb mv w2:=h1.putB k2 hm2 (hf2.put hg1 hg2 (hp.kept k2 ro))
 have st:Step r w r1 w2:=⟨((Kept.of_below hb1).mono (T:=fun g=>r g≠.none) (fun g hg e=>by omega)).trans k2 (fun g hg e=>by subst e;rw [h.rk];simp),hn1⟩
 refine ⟨caps,rfl,⟨_,_,_,_,K2⟩,st,fun W hW=>?_⟩
 have nn:∀ q,r1 q≠.none→¬ (q < w.heap.size∧r1 q=.none):=fun q h1 h2=>h1 h2.2
 have K2W:=K2.kept hW nn
 refine Calls.mono (undo W g (hW.mono (fun j hj e=>by have:=e.1;have:=hb1.size;omega)) (hm2.kept hW (nn mb (by rw [h1.rk];simp)))) ?_
 rintro e W' ⟨rfl,⟨f',hm',hf1',hf2'⟩,k'⟩
 have ff:∀ v,f' v=f v:=fun v=>by
  by_cases hv:v=str n
  ·rw [hv];exact hf1'
  ·rw [hf2' v hv];exact hg2 v hv
 have hB':BF W' r1 f' s.bk:=by
  have:f'=f:=funext ff
  rw [this]
  exact ((hf2.kept hW (fun g e=>nn g (by rw [e];simp))).kept k' ro)
 have KB:KSv b { s.setBk n x with bk:=s.bk } r1 uv lv mb mv W':=K2W.putB k' hm' hB'
 exact ⟨rfl,⟨_,_,_,_,KB⟩,Step.of_kept k' (fun g e=>by rw [e,h1.rk];simp)⟩
theorem begPost_ok {b:Nat} {s t:Sto} {r r':Roles} {w w':World} {x:Except Nat Sto} {F:Nat} {caps:Array Value} (h:x=.ok t) (hF:∀ args w,(callFunc F args).run Tryz.prog w=.ok (.enter F args) w) (hk:KS b t r' w') (hs:Step r w r' w') (hu:Undo b s r' w' w.heap.size F caps):begPost b s r w x (.returned (.tuple #[.func (.func F) #[] caps,.nilIface])) w':=by
 subst h;exact ⟨F,caps,r',rfl,hF,hk,hs,hu⟩
theorem BMap.find2 {w:World} {m:Nat} {r:Roles} {bk:Tx→Option Bkt} (h:BMap w m r bk) (n:Tx):∃ f,MapIs isStr w m f∧BF w r f bk∧((bk n=none∧f (str n)=none)∨∃ x sl,bk n=some x∧f (str n)=some (.agg #[str x.owner,str x.policy,Sl.v sl])∧policyIn w (fun g=>r g=.ro) (Sl.v sl) x.rules):=by
 obtain ⟨f,h1,h2,h3⟩:=h
 refine ⟨f,h1,⟨h2,h3⟩,?_⟩
 cases hb:bk n with
 | none=>exact .inl ⟨rfl,h2 n hb⟩
 | some x =>
  obtain ⟨sl,e1,e2⟩:=h3 n x hb
  obtain ⟨us,p1,p2⟩:=e2
  obtain ⟨a,c,e,_⟩:=row_view p1
  exact .inr ⟨x,(a,_,c),rfl,by rw [e1,e];rfl,by rw [← show sl=Sl.v (a,x.rules.length,c) from e];exact ⟨us,p1,p2⟩⟩
theorem TR.of {w:World} {v:Value} {l:List Tx} (h:srow w 0 v l):∃ a c,v=.slice a l.length c∧TR a l w:=by
 obtain ⟨a,c,e,hc,hg⟩:=row_view h
 refine ⟨a,c,e,⟨fun k hk=>?_⟩⟩
 obtain ⟨g,rfl,c0,hg⟩:=hg k (str l[k]) (by simp [hk])
 exact ⟨g,0,rfl,hg,by simpa using c0⟩
theorem mkBegin_any (b:Nat) (s:Sto) (r:Roles) (n o:Tx) (w:World) (h:KS b s r w) (_F:Fine s) (hn:n.length≤1000000) (hu:s.users.length≤1000000) :
  Calls Tryz.prog 302 #[.agg #[str n,str o],.pointer (some ⟨b,0,none⟩)] w (begPost b s r w (s.begin (.mk n o))):=by
 obtain ⟨uv,lv,mb,mv,h⟩:=h
 have c0:=h.c0
 have hb:=h.blt
 have hus:=h.us
 have HBG:Hid (s.begin (.mk n o)=if bktP n=true∧s.users.contains o=true then (match s.bk n with
   | none=>.ok (s.setBk n ⟨o,[],[]⟩)
   | some _=>.error 409) else .error 400):=rfl
 have IB:Hid (_):=fun w=>isBucket_any n w hn
 have R400:Hid (∀ w,Calls Tryz.prog 80 #[.int .i64 400,.nilIface] w fun e w'=>e=.returned (.iface 148 (.agg #[.int .i64 400,.nilIface]))∧w=w'):=fun w=>refuse_any 400 .nilIface (.inl rfl) w
 have R409:Hid (∀ w,Calls Tryz.prog 80 #[.int .i64 409,.nilIface] w fun e w'=>e=.returned (.iface 148 (.agg #[.int .i64 409,.nilIface]))∧w=w'):=fun w=>refuse_any 409 .nilIface (.inl rfl) w
 obtain ⟨W0,hW0⟩:∃ W0,W0=w.alloc (.cells #[str n,str o] 167):=⟨_,rfl⟩
 have B0:Below w.heap.size w W0:=by rw [hW0];exact (Below.refl _ _).alloc (Nat.le_refl _) _
 have h0:=h.below B0
 have S0:W0.heap.size=w.heap.size+1:=by rw [hW0];simp
 have x0:=h0.c0
 have y0:W0.cell? ⟨w.heap.size,0,none⟩=some (str n):=by rw [hW0];simp [go_sem]
 have y1:W0.cell? ⟨w.heap.size,1,none⟩=some (str o):=by rw [hW0];simp [go_sem]
 have ZB:=zeroB
 obtain ⟨ua,uc,rfl,htr⟩:=TR.of h0.us
 have CT:Hid (∀ w',Below W0.heap.size W0 w'→_):=fun w' hw'=>contains_v ua uc s.users o w' (htr.below hw') hu
 have xw:W0.cell? ⟨b,0,none⟩=some (.slice ua s.users.length uc)∧W0.cell? ⟨w.heap.size,0,none⟩=some (str n)∧W0.cell? ⟨w.heap.size,1,none⟩=some (str o):=⟨x0,y0,y1⟩
 have xd:W0.drew.cell? ⟨b,0,none⟩=some (.slice ua s.users.length uc)∧W0.drew.cell? ⟨w.heap.size,0,none⟩=some (str n)∧W0.drew.cell? ⟨w.heap.size,1,none⟩=some (str o):=⟨x0,y0,y1⟩
 have HW0:Hid (W0=w.alloc (.cells #[str n,str o] 167)):=hW0
 clear hW0
 generalize bktP n=bp at *
 generalize s.users.contains o=ct at *
 have n1:¬ b=w.heap.size:=by omega
 cases bp with
 | false =>
  rw [if_neg (by simp)] at HBG
  clear h h0
  go_enter Tryz.func302,Tryz.ntmps302
  go_wp2_with fail
  rw [← HW0.out]
  go_quiet ((go_at_call 122;exact Calls.quiet_of_same ((IB.out _).mono (fun e w' h=>⟨h.1,h.2.symm⟩))))
  all_goals go_wp2_with (go_at_call 80;refine (R400.out _).mono ?_;rintro e w' ⟨rfl,rfl⟩)
  all_goals go_ret2
  all_goals exact begPost_no HBG.out rfl (below_drewN B0 _)
 | true =>
  have hmb:mb < w.heap.size:=h.dom mb (by rw [h.rk];simp)
  go_enter Tryz.func302,Tryz.ntmps302
  go_wp2_with fail
  rw [← HW0.out]
  go_cut [21] from 8 to 20 (fun v wx=>v=.bool (!ct)∧Below W0.heap.size W0 wx)
  case first =>
   go_region_with (first|(go_at_call 122;refine (IB.out _).mono ?_;rintro e w' ⟨rfl,rfl⟩)|(go_at_call 215;with_reducible refine Calls.mono (CT.out W0.drew (below_drew W0)) ?_;rintro e w1 ⟨rfl,B1⟩))
   all_goals go_wp2_with fail
   all_goals go_meet
   all_goals exact ⟨rfl,below_trans (below_drew W0) B1⟩
  case rest =>
   obtain ⟨rfl,B1⟩:=hcut
   clear CT xw xd IB
   have hc1:=h0.below B1
   have Bc:=below_trans B0 B1
   have lz:w.heap.size < W0.heap.size:=by omega
   have z0:wc.cell? ⟨w.heap.size,0,none⟩=some (str n):=(B1.cell (p:=⟨w.heap.size,0,none⟩) lz).trans y0
   have z1:wc.cell? ⟨w.heap.size,1,none⟩=some (str o):=(B1.cell (p:=⟨w.heap.size,1,none⟩) lz).trans y1
   have c3:=hc1.c3
   obtain ⟨f,hf,hbf,hcase⟩:=h.bk.find2 n
   have HF:Hid (BF w r f s.bk):=hbf
   have hfc:MapIs isStr wc mb f:=hf.below Bc
   clear y0 y1 x0 hc1 B1
   cases ct with
   | false =>
    rw [if_neg (by simp)] at HBG
    clear h h0
    go_wp2_with (go_at_call 80;refine (R400.out _).mono ?_;rintro e w' ⟨rfl,rfl⟩)
    go_ret2
    exact begPost_no HBG.out rfl Bc
   | true =>
    rw [if_pos (by simp)] at HBG
    rcases hcase with ⟨hn,hfn⟩|⟨x,sl,hx,hfx,hp⟩
    ·rw [hn] at HBG
     have LA:(Instr.lookup 122 (.map (some mb)) (str n) true).run Tryz.prog wc.drew=.ok (.tuple #[.agg #[.string ⟨#[]⟩,.string ⟨#[]⟩,.slice none 0 0],.bool false]) wc.drew:=by
      rw [hfc.drew.look strKeys Tryz.underlying122 true (zeroB _) ⟨_,rfl⟩,hfn];rfl
     have LB:∀ ob,(Instr.lookup 122 (.map (some mb)) (str n) true).run Tryz.prog (wc.alloc ob).drew=.ok (.tuple #[.agg #[.string ⟨#[]⟩,.string ⟨#[]⟩,.slice none 0 0],.bool false]) (wc.alloc ob).drew:=fun ob=>by
      rw [(hfc.alloc ob).drew.look strKeys Tryz.underlying122 true (zeroB _) ⟨_,rfl⟩,hfn];rfl
     have za:∀ ob,(wc.alloc ob).cell? ⟨w.heap.size,0,none⟩=some (str n):=fun ob=>cell_alloc z0 ob
     have zb:∀ ob,(wc.alloc ob).cell? ⟨w.heap.size,1,none⟩=some (str o):=fun ob=>cell_alloc z1 ob
     have zc:∀ ob,(wc.alloc ob).cell? ⟨b,3,none⟩=some (.map (some mb)):=fun ob=>cell_alloc c3 ob
     have SB:Hid (_):=fun w' hw=>setB_any mb n o [] (none,0,0) f none w' hw (by rw [hfn];rfl)
     have HH:Hid (KSv b s r (.slice ua s.users.length uc) lv mb mv w):=h
     have HM:Hid (MapIs isStr w mb f):=hf
     have HMC:Hid (MapIs isStr wc mb f):=hfc
     clear h h0 hf hfc hfn
     go_wp2_with fail
     go_region
     go_wp2_with fail
     have BW:Below w.heap.size w (wc.alloc (.cells #[.string ⟨#[]⟩,.string ⟨#[]⟩,.slice none 0 0] 162)).drew.drew:=((Bc.alloc Bc.size _).drew).drew
     have SB2:Hid (Calls Tryz.prog 304 #[.map (some mb),str n,.agg #[str o,.string ⟨#[]⟩,.slice none 0 0]] (wc.alloc (.cells #[.string ⟨#[]⟩,.string ⟨#[]⟩,.slice none 0 0] 162)).drew.drew _):=SB.out _ (HMC.out.alloc _).drew.drew
     clear SB
     go_region_with (go_at_call 304;with_reducible refine Calls.mono SB2.out ?_;intro e w5 hs;obtain ⟨caps,rfl,K2,st,un⟩:=setB_beg (x:=⟨o,[],[]⟩) HH.out BW (fun _ _=>rfl) (fun g e=>Nat.lt_of_lt_of_le (HH.out.dom g e) BW.size) (fun _ _ h=>h) HM.out HF.out (policyIn_nil _ _) rfl hs)
     all_goals go_wp2_with fail
     all_goals go_ret2
     all_goals exact begPost_ok HBG.out (enters_of Tryz.func306 (by kernel_rfl) rfl) K2 st un
    ·rw [hx] at HBG
     obtain ⟨sa,sn,sc⟩:=sl
     have LA:(Instr.lookup 122 (.map (some mb)) (str n) true).run Tryz.prog wc.drew=.ok (.tuple #[.agg #[str x.owner,str x.policy,.slice sa sn sc],.bool true]) wc.drew:=by
      rw [hfc.drew.look strKeys Tryz.underlying122 true (zeroB _) ⟨_,rfl⟩,hfx];rfl
     have LB:∀ ob,(Instr.lookup 122 (.map (some mb)) (str n) true).run Tryz.prog (wc.alloc ob).drew=.ok (.tuple #[.agg #[str x.owner,str x.policy,.slice sa sn sc],.bool true]) (wc.alloc ob).drew:=fun ob=>by
      rw [(hfc.alloc ob).drew.look strKeys Tryz.underlying122 true (zeroB _) ⟨_,rfl⟩,hfx];rfl
     have za:∀ ob,(wc.alloc ob).cell? ⟨w.heap.size,0,none⟩=some (str n):=fun ob=>cell_alloc z0 ob
     have zc:∀ ob,(wc.alloc ob).cell? ⟨b,3,none⟩=some (.map (some mb)):=fun ob=>cell_alloc c3 ob
     clear h h0 hf hfc hfx
     go_wp2_with fail
     go_region
     all_goals go_wp2_with (go_at_call 80;refine (R409.out _).mono ?_;rintro e w' ⟨rfl,rfl⟩)
     all_goals go_ret2
     all_goals exact begPost_no HBG.out rfl (Bc.alloc Bc.size _).drew
structure Appended (w w':World) (base:Nat) (e:TypeId) (size:Nat) (v v':Value) (n m:Nat) (xs news:List Value):Prop where
 own:w'.ownsRow base e size v' (n+m) (xs++news)
 old:w'.ownsRow base e size v n xs
 either:(∃ g,v.ownBlock=some g∧v'.ownBlock=some g∧w.grownBy w' (some g))∨(v'.ownBlock=some w.heap.size∧Below w.heap.size w w')
section
variable {P:Program} (w:World)
theorem run_append_two (t ty:TypeId) (base:Nat) (e:TypeId) (i:TypeInfo) (z:Value) (size bytes:Nat) (ht:P.underlying t=some (.slice e)) (hi:P.info? e=some i) (hz:i.zero=some z)
  (hsize:i.size=size) (hby:i.bytes=bytes) (hzs:z.cells.size=size)
  (v:Value) (n:Nat) (xs:List Value) (hown:w.ownsRow base e size v n xs)
  (a:Addr) (m c:Nat) (news:List Value) (hl:news.length=m*size) (hnews:∀ j u,news[j]?=some u→w.cell? (a.add j)=some u) (h1:∀ u∈news,u.oneCell'=true)
  (hm:0 < m) (h63:n+m≤maxLen) (hbytes:(n+m)*bytes≤140737488355328) (hbase:base≤w.heap.size) :
  ∃ v' w',(Builtin.append_ #[t,t] ty #[v,.slice (some a) m c]).run P w=.ok v' w'∧Appended w w' base e size v v' n m xs news:=by
 subst hsize
 subst hby
 have hsmall:n+m≤9223372036854775807:=by simp only [maxLen] at h63;omega
 have hlen:(xs++news).length=(n+m)*i.size:=by rw [List.length_append,hown.1,hl,Nat.add_mul]
 have grown:∀ (old:Nat),old < n+m →
   (w.drew.alloc (.cells (xs.toArray++news.toArray++Builtin.zeroCells z.cells (grownCap w (n+m) old e - (n+m))) e)).ownsRow base e i.size
    (.slice (some ⟨w.heap.size,0,none⟩) (n+m) (grownCap w (n+m) old e)) (n+m) (xs++news) ∧
   Below w.heap.size w (w.drew.alloc (.cells (xs.toArray++news.toArray++Builtin.zeroCells z.cells (grownCap w (n+m) old e - (n+m))) e)):=by
  intro old ho
  have hge:=grownCap_ge w (n+m) old e
  have hcm:grownCap w (n+m) old e≤maxLen:=grownCap_le_maxLen w (n+m) old e h63
  refine ⟨⟨hlen,.inr ⟨w.heap.size,_,_,rfl,hbase,heap_alloc_new w.drew _,hge,hcm,?_,?_⟩⟩,(Below.refl w.heap.size w).drew.alloc (Nat.le_refl _) _⟩
  ·simp only [Array.size_append,List.size_toArray,size_zeroCells,hzs,hown.1,hl,← Nat.add_mul]
   congr 1
   omega
  ·simp only [Array.toList_append,List.append_assoc]
   rw [← List.append_assoc,← hlen]
   exact List.take_left
 have kept:∀ w',Below w.heap.size w w'→w'.ownsRow base e i.size v n xs:=fun w' hb =>
  World.ownsRow.kept hown ⟨hb.os,hb.tape,hb.output,hb.size,fun k hk _=>hb.block k hk⟩ (row:=none) (by cases hv:v.ownBlock <;> simp)
 rcases hown.2 with ⟨rfl,rfl⟩|⟨g,cap,cur,rfl,hbg,hg,hnc,hcm,hcs,htake⟩
 ·have hx:xs=[]:=List.eq_nil_of_length_eq_zero (by simpa using hown.1)
  subst hx
  have hr:=run_append_nil (P:=P) w t ty e i z ht hi hz a m c news hl hnews (by omega) (by omega) (by have hb:=hbytes;simp only [Nat.zero_add] at hb;omega)
  have hgr:=grown 0 (by omega)
  simp only [Nat.zero_add,List.nil_append,Array.empty_append] at hgr hr
  refine ⟨_,_,hr,?_,kept _ hgr.2,.inr ⟨rfl,hgr.2⟩⟩
  simpa using hgr.1
 ·by_cases hroom:n+m≤cap
  ·have hfit:n*i.size+news.length≤cur.size:=by rw [hl,hcs,← Nat.add_mul];exact Nat.mul_le_mul_right _ hroom
   have hr:=run_append_room (P:=P) w t ty e i ht hi g n cap cur hg a m c news hl hnews h1 hroom hfit
   have hsz:(cur.toList.take (n*i.size)++news++cur.toList.drop (n*i.size+news.length)).toArray.size=cap*i.size:=by
    simp only [List.size_toArray,List.length_append,List.length_take,List.length_drop,Array.length_toList]
    omega
   refine ⟨_,_,hr,⟨hlen,.inr ⟨g,cap,_,rfl,hbg,setRow_heap w g cur _ e _ hg,hroom,hcm,hsz,?_⟩⟩,⟨hown.1,.inr ⟨g,cap,_,rfl,hbg,setRow_heap w g cur _ e _ hg,hnc,hcm,hsz,?_⟩⟩,
    .inl ⟨g,rfl,rfl,⟨rfl,rfl,rfl,by simp,fun k _ hk=>setRow_other w g k _ (fun e=>hk (by simp [e]))⟩⟩⟩
   ·rw [htake,← hlen]
    exact List.take_left
   ·rw [htake]
    show List.take (n*i.size) ((xs++news)++_)=xs
    rw [List.append_assoc,← hown.1]
    exact List.take_left
  ·have holds:∀ j u,xs[j]?=some u→w.cell? ((⟨g,0,none⟩:Addr).add j)=some u:=hown.cells (g:=g) rfl
   have hr:=run_append_grow (P:=P) w t ty e i z ht hi hz ⟨g,0,none⟩ n cap xs hown.1 holds a m c news hl hnews (by omega) (by omega) (growslice_fits (by omega) hbytes)
   have hgr:=grown cap (by omega)
   exact ⟨_,_,hr,hgr.1,kept _ hgr.2,.inr ⟨rfl,hgr.2⟩⟩
end
theorem Appended.kept {w w':World} {base:Nat} {e:TypeId} {size:Nat} {v v':Value} {n m:Nat} {xs news:List Value} (h:Appended w w' base e size v v' n m xs news):Kept (fun g=>v.ownBlock=some g) w w':=by
 rcases h.either with ⟨g,e1,_,k⟩|⟨_,k⟩
 ·rw [e1];exact Kept.of_grown k
 ·exact (Kept.of_below k).mono (fun g hg e=>by omega)
theorem Appended.lies {w w':World} {base:Nat} {e:TypeId} {size:Nat} {v v':Value} {n m:Nat} {xs news:List Value} (h:Appended w w' base e size v v' n m xs news):v'.ownBlock=v.ownBlock∨v'.ownBlock=some w.heap.size:=by
 rcases h.either with ⟨g,e1,e2,_⟩|⟨e,_⟩
 ·exact .inl (e2.trans e1.symm)
 ·exact .inr e
theorem KSv.putV {b:Nat} {s:Sto} {r:Roles} {uv lv:Value} {mb mv:Nat} {W W':World} {f':Value→Option Value} {vs':Tx→Tx→List Ver} (hW:KSv b s r uv lv mb mv W) (k:Kept (·=mv) W W') (hM:MapIs isTwo W' mv f') (hB:VF W' r f' vs'):KSv b { s with vs:=vs' } r uv lv mb mv W':=by
 have nb:∀ {g},r g≠.vss→¬ g=mv:=fun h e=>h (by rw [e];exact hW.rv)
 have hbb:b < W.heap.size:=hW.dom b (by rw [hW.rb];simp)
 have nbb:¬ b=mv:=nb (by rw [hW.rb];simp)
 exact { c0 := k.cell hW.c0 nbb, c1 := k.cell hW.c1 nbb, c2 := k.cell hW.c2 nbb, c3 := k.cell hW.c3 nbb, c4 := k.cell hW.c4 nbb, c5 := k.cell hW.c5 nbb, fz := fun j => k.frozen (a := ⟨b, j, none⟩) hbb (hW.fz j) nbb, rb := hW.rb, us := k.row hW.us (fun g e => nb (by rw [hW.ur g e]; simp)), ur := hW.ur, lg := k.row hW.lg (fun g e => nb (by rw [hW.lr g e]; simp)), lr := hW.lr,
         bk:=hW.bk.kept k (nb (by rw [hW.rk];simp)) (fun g e=>nb (by rw [e];simp)),rk:=hW.rk,vs:=⟨f',hM,hB.1,hB.2⟩,rv:=hW.rv,dom:=fun g e=>Nat.lt_of_lt_of_le (hW.dom g e) k.size }
theorem VF.put {w:World} {r:Roles} {f g:Value→Option Value} {vs:Tx→Tx→List Ver} (h:VF w r f vs) {b k:Tx} {l:List Ver} {sl:Value} (hg:g (keyV b k)=some sl) (ho:∀ v,v≠keyV b k→g v=f v) (hl:l≠[]) (hp:vrow w sl l) (hr:∀ q,sl.ownBlock=some q→r q=.ver b k):VF w r g (fun c j=>if c=b∧j=k then l else vs c j):=by
 refine ⟨fun c j hm=>?_,fun c j hm=>?_⟩
 ·dsimp only at hm
  by_cases e:c=b∧j=k
  ·rw [if_pos e] at hm;exact absurd hm hl
  ·rw [if_neg e] at hm
   rw [ho _ (fun h=>e (keyV_inj h))];exact h.1 c j hm
 ·dsimp only at hm ⊢
  by_cases e:c=b∧j=k
  ·rw [if_pos e,e.1,e.2];exact ⟨sl,hg,hp,hr⟩
  ·rw [if_neg e] at hm
   rw [if_neg e]
   obtain ⟨sl',e1,e2⟩:=h.2 c j hm
   exact ⟨sl',by rw [ho _ (fun h=>e (keyV_inj h))];exact e1,e2⟩
theorem VF.del {w:World} {r:Roles} {f g:Value→Option Value} {vs:Tx→Tx→List Ver} (h:VF w r f vs) {b k:Tx} (hg:g (keyV b k)=none) (ho:∀ v,v≠keyV b k→g v=f v):VF w r g (fun c j=>if c=b∧j=k then [] else vs c j):=by
 refine ⟨fun c j hm=>?_,fun c j hm=>?_⟩
 ·dsimp only at hm
  by_cases e:c=b∧j=k
  ·rw [e.1,e.2];exact hg
  ·rw [if_neg e] at hm
   rw [ho _ (fun h=>e (keyV_inj h))];exact h.1 c j hm
 ·dsimp only at hm ⊢
  by_cases e:c=b∧j=k
  ·rw [if_pos e] at hm;exact absurd rfl hm
  ·rw [if_neg e] at hm
   rw [if_neg e]
   obtain ⟨sl',e1,e2⟩:=h.2 c j hm
   exact ⟨sl',by rw [ho _ (fun h=>e (keyV_inj h))];exact e1,e2⟩
theorem VMap.find2 {w:World} {m:Nat} {r:Roles} {vs:Tx→Tx→List Ver} (h:VMap w m r vs) (b k:Tx):∃ f,MapIs isTwo w m f∧VF w r f vs∧∃ (sl:Sl) (o:Option Sl),f (keyV b k)=o.map Sl.v∧lookV false (.slice none 0 0) (f (keyV b k))=sl.v∧vrow w sl.v (vs b k)∧(∀ g,sl.v.ownBlock=some g→r g=.ver b k)∧(vs b k≠[]→o=some sl)∧(vs b k=[]→o=none):=by
 obtain ⟨f,h1,h2,h3⟩:=h
 refine ⟨f,h1,⟨h2,h3⟩,?_⟩
 by_cases hv:vs b k=[]
 ·exact ⟨(none,0,0),none,h2 b k hv,by rw [h2 b k hv];rfl,by rw [hv];exact World.ownsRow_nil _ _ _ _,(fun g e=>nomatch e),fun e=>absurd hv e,fun _=>rfl⟩
 ·obtain ⟨sl,e1,e2,e3⟩:=h3 b k hv
  obtain ⟨a,c,e,_⟩:=vrow.sl e2
  subst e
  exact ⟨(a,_,c),some (a,_,c),e1,by rw [e1];rfl,e2,e3,fun _=>rfl,fun h=>absurd h hv⟩
theorem KSv.app {b:Nat} {s:Sto} {r:Roles} {uv lv:Value} {mb mv:Nat} {X w1:World} (h:KSv b s r uv lv mb mv X) {n k:Tx} {f:Value→Option Value} (hm:MapIs isTwo X mv f) (hf:VF X r f s.vs) {sl v':Value} (hlook:s.vs n k≠[]→f (keyV n k)=some sl) (hr:∀ g,sl.ownBlock=some g→r g=.ver n k)
  {xs news:List Value} {m:Nat} (ha:Appended X w1 0 292 3 sl v' (s.vs n k).length m xs news) (hx:xs=vcells (s.vs n k)) :
  KSv b s (newR r v'.ownBlock (.ver n k)) uv lv mb mv w1∧MapIs isTwo w1 mv f∧VF w1 (newR r v'.ownBlock (.ver n k)) f s.vs∧Step r X (newR r v'.ownBlock (.ver n k)) w1:=by
 subst hx
 have kk:=ha.kept
 have hb:=h.blt
 have E:∀ {g},r g≠.none→r g≠.ver n k→newR r v'.ownBlock (.ver n k) g=r g:=fun hn hc=>newR_eq hr ha.lies h.dom hn hc
 have E2:∀ {g c j},r g=.ver c j→newR r v'.ownBlock (.ver n k) g=.ver c j:=fun {g c j} e=>by
  unfold newR
  by_cases hh:v'.ownBlock=some g
  ·rw [if_pos hh]
   rcases ha.lies with h1|h1
   ·have:=hr g (h1.symm.trans hh);rw [this] at e;exact e
   ·rw [hh] at h1;cases h1;have:=h.dom X.heap.size (by rw [e];simp);omega
  ·rw [if_neg hh];exact e
 have no:∀ g,r g≠.ver n k→¬ sl.ownBlock=some g:=fun g h2 e=>h2 (hr g e)
 have nb:¬ sl.ownBlock=some b:=no b (by rw [h.rb];simp)
 have hM1:MapIs isTwo w1 mv f:=hm.kept kk (no mv (by rw [h.rv];simp))
 have hV1:VF w1 (newR r v'.ownBlock (.ver n k)) f s.vs:=⟨hf.1,fun c j e=>by
  obtain ⟨sl',e1,e2,e3⟩:=hf.2 c j e
  by_cases hcj:c=n∧j=k
  ·obtain ⟨rfl,rfl⟩:=hcj
   have:=hlook e
   rw [e1] at this;cases this
   exact ⟨_,e1,ha.old,fun g hg=>E2 (e3 g hg)⟩
  ·exact ⟨sl',e1,kk.row e2 (fun g hg=>no g (by rw [e3 g hg];intro h;cases h;exact hcj ⟨rfl,rfl⟩)),fun g hg=>E2 (e3 g hg)⟩⟩
 refine ⟨{ c0:=kk.cell h.c0 nb,c1:=kk.cell h.c1 nb,c2:=kk.cell h.c2 nb,c3:=kk.cell h.c3 nb,c4:=kk.cell h.c4 nb,c5:=kk.cell h.c5 nb,fz:=fun j=>kk.frozen (a:=⟨b,j,none⟩) hb (h.fz j) nb,rb:=?_,us:=kk.row h.us (fun g e=>no g (by rw [h.ur g e];simp)),ur:=?_,lg:=kk.row h.lg (fun g e=>no g (by rw [h.lr g e];simp)),lr:=?_,bk:=?_,rk:=?_,vs:=⟨f,hM1,hV1⟩,rv:=?_,dom:=?_ },hM1,hV1,?_,?_⟩
 ·rw [E (by rw [h.rb];simp) (by rw [h.rb];simp)];exact h.rb
 ·intro g e;rw [E (by rw [h.ur g e];simp) (by rw [h.ur g e];simp)];exact h.ur g e
 ·intro g e;rw [E (by rw [h.lr g e];simp) (by rw [h.lr g e];simp)];exact h.lr g e
 ·exact (h.bk.kept kk (no mb (by rw [h.rk];simp)) (fun g e=>no g (by rw [e];simp))).roles (fun g e=>by rw [E (by rw [e];simp) (by rw [e];simp)];exact e)
 ·rw [E (by rw [h.rk];simp) (by rw [h.rk];simp)];exact h.rk
 ·rw [E (by rw [h.rv];simp) (by rw [h.rv];simp)];exact h.rv
 ·intro g e
  rcases newR_dom e with h1|h1
  ·exact (World.ownsRow.lt ha.own g h1).2
  ·exact Nat.lt_of_lt_of_le (h.dom g h1) kk.size
 ·exact kk.mono (fun g _ e=>by rw [hr g e];simp)
 ·intro g hg e
  rcases newR_dom e with h1|h1
  ·rcases ha.lies with h2|h2
   ·rw [hr g (h2.symm.trans h1)];simp
   ·rw [h1] at h2;cases h2;omega
  ·exact h1
theorem setV_beg {b:Nat} {s:Sto} {r:Roles} {uv lv:Value} {mb mv:Nat} {Y w5:World} (h:KSv b s r uv lv mb mv Y) {n k:Tx} {f:Value→Option Value} (_hm:MapIs isTwo Y mv f) (hf:VF Y r f s.vs) {v':Value} {l:List Ver} (hl:l≠[]) (hp:vrow Y v' l) (hr:∀ g,v'.ownBlock=some g→r g=.ver n k) {F:Nat} {e:Ending}
  (hs:setPost F mv (keyV n k) v' isTwo f Y e w5):∃ caps,e=.returned (.func (.func F) #[] caps)∧KSv b (s.setVs n k l) r uv lv mb mv w5∧Kept (·=mv) Y w5 ∧
   ∀ W,Kept (fun g=>g < Y.heap.size∧r g=.none) w5 W→Calls Tryz.prog F caps W fun e W'=>e=.returned (.tuple #[])∧KSv b s r uv lv mb mv W'∧Kept (·=mv) W W':=by
 obtain ⟨caps,rfl,⟨g,hm2,hg1,hg2⟩,k2,undo⟩:=hs
 have nv:∀ {q},r q≠.vss→¬ q=mv:=fun h1 e=>h1 (by rw [e];exact h.rv)
 have hf2:VF w5 r f s.vs:=hf.kept k2 (fun q _ _ e=>nv (by rw [e];simp))
 have K2:KSv b (s.setVs n k l) r uv lv mb mv w5:=h.putV k2 hm2 (hf2.put hg1 hg2 hl (k2.row hp (fun q e=>nv (by rw [hr q e];simp))) hr)
 refine ⟨caps,rfl,K2,k2,fun W hW=>?_⟩
 have nn:∀ q,r q≠.none→¬ (q < Y.heap.size∧r q=.none):=fun q h1 h2=>h1 h2.2
 have K2W:=K2.kept hW nn
 refine Calls.mono (undo W g (hW.mono (fun j hj e=>e.1)) (hm2.kept hW (nn mv (by rw [h.rv];simp)))) ?_
 rintro e W' ⟨rfl,⟨f',hm',hf1',hf2'⟩,k'⟩
 have ff:f'=f:=funext fun v=>by
  by_cases hv:v=keyV n k
  ·rw [hv];exact hf1'
  ·rw [hf2' v hv];exact hg2 v hv
 have hB':VF W' r f' s.vs:=by
  rw [ff]
  exact (hf2.kept hW (fun q c j e=>nn q (by rw [e];simp))).kept k' (fun q _ _ e=>nv (by rw [e];simp))
 have KB:KSv b { s.setVs n k l with vs:=s.vs } r uv lv mb mv W':=K2W.putV k' hm' hB'
 exact ⟨rfl,KB,k'⟩
end Go.Proofs.YtbllcgibmgbnjaaGreatDoor.P
