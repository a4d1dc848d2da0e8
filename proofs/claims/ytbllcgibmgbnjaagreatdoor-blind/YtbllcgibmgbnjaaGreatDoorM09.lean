import Derived.Test.YtbllcgibmgbnjaaGreatDoorM04
set_option maxHeartbeats 4000000
set_option maxRecDepth 20000
namespace Go.Proofs.YtbllcgibmgbnjaaGreatDoor.P
open Go.RowKit
theorem Tryz.infoT:(Tryz.prog.info? 9).map (fun i=>(i.zero,i.size,i.bytes))=some (some (.string ⟨#[]⟩),1,16):=by kernel_rfl
def srow (w:World) (B:Nat) (v:Value) (l:List (List UInt8)):Prop:=w.ownsRow B 9 1 v l.length (l.map str)
theorem srow_nil (w:World) (B:Nat):srow w B (.slice none 0 0) []:=World.ownsRow_nil w B 9 1
theorem srow.below {w w':World} {B:Nat} {v:Value} {l:List (List UInt8)} (h:srow w B v l) (b:Below w.heap.size w w'):srow w' B v l :=
 (Kept.of_below b).row h (fun g hg e=>by have:=(World.ownsRow.lt h g hg).2;omega)
theorem srow.alloc {w:World} {B:Nat} {v:Value} {l:List (List UInt8)} (h:srow w B v l) (o:Obj):srow (w.alloc o) B v l:=World.ownsRow.alloc h o
theorem sapp_law {w:World} {ops:Array Oper} {rest:List Oper} {o:Oper} {a:Act} {Q:Exit→Act→World→Prop} (hgd:o.guard=none) (s x:Operand)
  (ho:o.op=.call { callee:=.builtin .append,args:=#[s,x],argTypes:=#[61,61] })
  (B:Nat) (l:List (List UInt8)) (p:List UInt8) (v:Value) (hs:a.eval s=v) (hown:srow w B v l) (H:Nat) (hx:a.eval x=.slice (some ⟨H,0,none⟩) 1 1)
  (fr:Nat×Nat) (hblk:w.heap[H]?=some (.cells #[str p] 9 fr)) (hlen:l.length≤1000000000) (hB:B≤w.heap.size)
  (h:∀ g cap w',srow w' B (.slice (some ⟨g,0,none⟩) (l.length+1) cap) (l++[p])→w.grownBy w' v.ownBlock→(v.ownBlock=some g∨g=w.heap.size)→Below B w w'→wpList Tryz.prog ops Q rest (a.put o.dst (.slice (some ⟨g,0,none⟩) (l.length+1) cap)) w') :
  wpList Tryz.prog ops Q (o :: rest) a w:=by
 obtain ⟨i0,hi,hz0,hz1,hz2⟩:=info_parts Tryz.infoT
 refine wpList_append_lies _ hgd s x 61 ho B 9 i0 (.string ⟨#[]⟩) 1 16 Tryz.underlying61 hi hz0 hz1 hz2 rfl (by omega) v l.length (l.map str) hs hown ⟨H,0,none⟩ 1 1 [str p] hx (by simp)
  (fun j u hu=>World.news_of_block hblk j u (by simpa using hu)) (by intro u hu;simp at hu;subst hu;rfl) (by omega) (by unfold maxLen;omega) (by omega) hB w.heap.size rfl ?_
 intro g cap w' h1 h2 h3 _
 refine h g cap w' ?_ h2 h3 ((Below.refl B w).grown h2 hB (fun k hk=>(World.ownsRow.lt hown k hk).1))
 unfold srow
 rw [List.length_append,List.map_append]
 exact h1
theorem strsJ_snoc:∀ (l:List J) (j:J),strsJ (l++[j])=match strsJ l with
  | none=>none
  | some a=>match strJ j with
   | none=>none
   | some s=>some (a++[s])
 | [],j=>by simp only [List.nil_append,strsJ];cases strJ j <;> rfl
 | i :: l,j=>by
  simp only [List.cons_append,strsJ]
  cases strJ i with
  | none=>rfl
  | some s =>
   simp only [strsJ_snoc l j]
   cases strsJ l with
   | none=>rfl
   | some a=>simp only [Option.map];cases strJ j <;> rfl
theorem strsJ_none:∀ (l m:List J),strsJ l=none→strsJ (l++m)=none
 | [],m,h=>by simp [strsJ] at h
 | i :: l,m,h=>by
  simp only [List.cons_append,strsJ] at *
  cases hi:strJ i with
  | none=>rfl
  | some s =>
   rw [hi] at h
   simp only at h ⊢
   cases hs:strsJ l with
   | none=>rw [strsJ_none l m hs];rfl
   | some a=>rw [hs] at h;cases h
def sofarT (f:List UInt8→Bool) (l:List J) (i:Nat) (a:List (List UInt8)):Prop:=strsJ (l.take i)=some a∧a.all f=true
theorem take_snoc' {α:Type} {l:List α} {i:Nat} (h:i < l.length):l.take (i+1)=l.take i++[l[i]]:=by rw [List.take_add_one,List.getElem?_eq_getElem h];rfl
theorem textsJ_arr {l:List J} (hl:1≤l.length∧l.length≤4):textsJ (.arr l)=strsJ l:=if_pos hl
theorem textsJ_out {l:List J} (hl:¬ (1≤l.length∧l.length≤4)):textsJ (.arr l)=none:=if_neg hl
theorem sofarT.on {f:List UInt8→Bool} {l:List J} {i:Nat} {a:List (List UInt8)} (h:sofarT f l i a) (hi:i < l.length) {s:List UInt8} (hs:strJ l[i]=some s) (hf:f s=true):sofarT f l (i+1) (a++[s]):=by
 refine ⟨?_,?_⟩
 ·rw [take_snoc' hi,strsJ_snoc,h.1];simp only;rw [hs]
 ·rw [List.all_append,h.2];simp [hf]
theorem sofarT.bad {f:List UInt8→Bool} {l:List J} {i:Nat} {a:List (List UInt8)} (h:sofarT f l i a) (hi:i < l.length) (hs:strJ l[i]=none) (hl:1≤l.length∧l.length≤4):goodJ f (.arr l)=none:=by
 have:strsJ l=none:=by
  have:=strsJ_none (l.take (i+1)) (l.drop (i+1)) (by rw [take_snoc' hi,strsJ_snoc,h.1];simp only;rw [hs])
  rwa [List.take_append_drop] at this
 unfold goodJ;rw [textsJ_arr hl,this]
theorem strsJ_all:∀ (l m:List J) (a c:List (List UInt8)),strsJ l=some a→strsJ (l++m)=some c→∃ d,c=a++d
 | [],m,a,c,h,h2=>by simp [strsJ] at h;subst h;exact ⟨c,rfl⟩
 | i :: l,m,a,c,h,h2=>by
  simp only [List.cons_append,strsJ] at *
  cases hi:strJ i with
  | none=>rw [hi] at h;cases h
  | some s =>
   rw [hi] at h h2
   simp only at h h2
   cases hs:strsJ l with
   | none=>rw [hs] at h;cases h
   | some b =>
    cases hs2:strsJ (l++m) with
    | none=>rw [hs2] at h2;cases h2
    | some e =>
     rw [hs] at h;rw [hs2] at h2
     simp at h h2
     obtain ⟨d,rfl⟩:=strsJ_all l m b e hs hs2
     exact ⟨d,by rw [← h,← h2];rfl⟩
theorem sofarT.wrong {f:List UInt8→Bool} {l:List J} {i:Nat} {a:List (List UInt8)} (h:sofarT f l i a) (hi:i < l.length) {s:List UInt8} (hs:strJ l[i]=some s) (hf:f s=false) (hl:1≤l.length∧l.length≤4):goodJ f (.arr l)=none:=by
 have h1:strsJ (l.take (i+1))=some (a++[s]):=by rw [take_snoc' hi,strsJ_snoc,h.1];simp only;rw [hs]
 unfold goodJ;rw [textsJ_arr hl]
 cases hc:strsJ l with
 | none=>rfl
 | some c =>
  obtain ⟨d,rfl⟩:=strsJ_all (l.take (i+1)) (l.drop (i+1)) _ c h1 (by rw [List.take_append_drop];exact hc)
  simp only
  rw [if_neg]
  simp [hf]
theorem sofarT.done {f:List UInt8→Bool} {l:List J} {a:List (List UInt8)} (h:sofarT f l l.length a) (hl:1≤l.length∧l.length≤4):goodJ f (.arr l)=some a:=by
 obtain ⟨h1,h2⟩:=h
 rw [List.take_length] at h1
 unfold goodJ;rw [textsJ_arr hl,h1];simp only;rw [if_pos h2]
def textsPost (w:World) (o:Option (List (List UInt8))) (e:Ending) (w':World):Prop :=
 Below w.heap.size w w'∧match o with
 | none=>e=.panicked noP
 | some l=>∃ v,e=.returned v∧srow w' w.heap.size v l∧l.length≤4∧∀ y∈l,y.length≤4000
theorem textsPost_ok {w w':World} {o:Option (List (List UInt8))} {l:List (List UInt8)} {v:Value} (h:o=some l) (hb:Below w.heap.size w w') (hv:srow w' w.heap.size v l) (hl:l.length≤4) (hy:∀ y∈l,y.length≤4000):textsPost w o (.returned v) w':=by subst h;exact ⟨hb,v,rfl,hv,hl,hy⟩
theorem textsPost_no {w w':World} {o:Option (List (List UInt8))} (h:o=none) (hb:Below w.heap.size w w'):textsPost w o (.panicked noP) w':=by subst h;exact ⟨hb,rfl⟩
theorem strJ_len {k:Nat} {w:World} {v:Value} {j:J} {s:List UInt8} (h:repJ k w (inW w) v j) (hs:strJ j=some s):s.length≤4000:=by
 cases j with
 | str t=>cases hs;exact (str_val h).2
 | _=>cases hs
theorem rreadList_any (f:List UInt8→Bool) (g:Nat) (eg:∀ args w,(callFunc g args).run Tryz.prog w=.ok (.enter g args) w)
  (F:∀ s w,s.length≤4000→Calls Tryz.prog g #[str s] w fun e w'=>e=.returned (.bool (f s))∧w=w')
  (k:Nat) (v:Value) (j:J) (w:World) (h:repJ k w (inW w) v j) :
  Calls Tryz.prog 324 #[v,.func (.func g) #[] #[]] w (textsPost w (goodJ f j)):=by
 have A:=arrayOf_any k v j w h
 cases ha:arrJ j with
 | none =>
  have HN:Hid (goodJ f j=none):=by
   show _=_
   cases j with
   | arr l=>cases ha
   | _=>rfl
  rw [ha] at A
  have A2:Calls Tryz.prog 315 #[v] w fun e w'=>e=.panicked noP∧w=w':=A
  clear A
  go_enter Tryz.func324,Tryz.ntmps324
  go_wp2_with (go_at_call 315;refine A2.mono ?_;rintro e w' ⟨rfl,rfl⟩)
  exact ⟨rfl,textsPost_no HN.out (Below.refl _ _)⟩
 | some l =>
  obtain rfl:j=.arr l:=by
   cases j with
   | arr m=>cases ha;rfl
   | _=>cases ha
  rw [ha] at A
  have A2:Calls Tryz.prog 315 #[v] w fun e w'=>(∃ sl,e=.returned sl∧elems (k - 1) w sl l)∧w=w':=A
  clear A
  go_enter Tryz.func324,Tryz.ntmps324
  go_wp2_with fail
  refine A2.mono ?_
  rintro e w' ⟨⟨sl,rfl,us,hrow,hall⟩,rfl⟩
  clear A2
  have hlen:=all2_len hall
  obtain ⟨a,cap,rfl,hcap,hcells⟩:=row_view hrow
  have HC:Hid (∀ j u,us[j]?=some u→∃ g,a=some ⟨g,0,none⟩∧w.cell? ⟨g,j,none⟩=some u∧g < w.heap.size):=hcells
  have HA:Hid (all2 (repJ (k - 1) w (inW w)) us l):=hall
  clear hcells hall hrow h
  by_cases hl:1≤l.length∧l.length≤4
  ·have t1:decide (1≤(l.length:Int))=true:=by simp;omega
   have t2:decide ((l.length:Int)≤4)=true:=by simp;omega
   go_wp2_with (go_at_call 318;refine (rneed_ok _).mono ?_;rintro e w' ⟨rfl,rfl⟩)
   go_loopw [6,23] (fun tv i wr=>∃ n:Nat,∃ acc,n≤l.length∧i=.int .i64 n∧srow wr w.heap.size tv acc∧sofarT f l n acc∧acc.length≤n∧(∀ y∈acc,y.length≤4000)∧Below w.heap.size w wr) (fun _ i _=>l.length - (intOf i).toNat)
   case atStart=>exact ⟨0,[],Nat.zero_le _,rfl,srow_nil _ _,⟨rfl,rfl⟩,Nat.le_refl _,(fun y hy=>by cases hy),Below.refl _ _⟩
   case round =>
    obtain ⟨n,acc,hn,rfl,hs,hso,hacc,hys,hb⟩:=hrel
    have HS:Hid (sofarT f l n acc):=hso
    clear hso
    have hsz:=hb.size
    by_cases hlt:n < l.length
    ·have hu:n < us.length:=by omega
     obtain ⟨g',rfl,c1,hg⟩:=HC.out n us[n] (List.getElem?_eq_getElem hu)
     have hj0:=all2_get HA.out n hu hlt
     have hj:=RJ_below hj0 hb
     obtain ⟨vt,vx,hv⟩:=repJ.iface _ hj
     rw [hv] at c1 hj
     replace c1:=(hb.cell (p:=⟨g',n,none⟩) hg).trans c1
     cases hst:strJ l[n] with
     | none =>
      have HN:Hid (goodJ f (.arr l)=none):=HS.out.bad hlt hst hl
      clear HS HC HA
      go_wp2_with (go_at_call 333;refine (textOf_none _ _ _ _ hj hst).mono ?_;rintro e w' ⟨rfl,rfl⟩)
      exact ⟨rfl,textsPost_no HN.out hb⟩
     | some s =>
      have hsl:=strJ_len hj hst
      cases hf:f s with
      | false =>
       have HN:Hid (goodJ f (.arr l)=none):=HS.out.wrong hlt hst hf hl
       clear HS HC HA
       go_wp2_with (first|(go_at_call 333;refine (textOf_some _ _ _ _ _ hj hst).mono ?_;rintro e w' ⟨rfl,rfl⟩)|(go_at_fn g;refine (F s _ hsl).mono ?_;rw [hf];rintro e w' ⟨rfl,rfl⟩)|(go_at_call 318;refine (rneed_no _).mono ?_;rintro e w' ⟨rfl,rfl⟩))
       exact ⟨rfl,textsPost_no HN.out hb⟩
      | true =>
       have HY:Hid (sofarT f l (n+1) (acc++[s])):=HS.out.on hlt hst hf
       clear HS
       go_wp2_with (first|(go_at_call 333;refine (textOf_some _ _ _ _ _ hj hst).mono ?_;rintro e w' ⟨rfl,rfl⟩)|(go_at_fn g;refine (F s _ hsl).mono ?_;rw [hf];rintro e w' ⟨rfl,rfl⟩)|(go_at_call 318;refine (rneed_ok _).mono ?_;rintro e w' ⟨rfl,rfl⟩)|(at_builtin;refine sapp_law rfl _ _ rfl w.heap.size acc s _ rfl (hs.alloc _) _ rfl _ (heap_alloc_new _ _) (by omega) (by simp;omega) ?_;intro g8 cap8 w8 row8 _ _ hb8))
       have K8:Below w.heap.size w w8:=(hb.alloc hsz _).trans hb8
       go_roundw
       case rel=>exact ⟨n+1,acc++[s],by omega,by go_num,row8,HY.out,by simp;omega,(fun y hy=>(List.mem_append.1 hy).elim (hys y) (fun e=>by simp at e;subst e;exact hsl)),K8⟩
       case measure=>simp [intOf];omega
    ·obtain rfl:n=l.length:=by omega
     have HD:Hid (goodJ f (.arr l)=some acc):=HS.out.done hl
     clear HS HC HA
     go_wp2
     go_ret
     exact textsPost_ok HD.out hb hs (by omega) hys
  ·have HN:Hid (goodJ f (.arr l)=none):=by show _=_;unfold goodJ;rw [textsJ_out hl]
   by_cases h1:1≤l.length
   ·have t1:decide (1≤(l.length:Int))=true:=by simp;omega
    have t2:decide ((l.length:Int)≤4)=false:=by simp;omega
    clear hl
    go_wp2_with (go_at_call 318;refine (rneed_no _).mono ?_;rintro e w' ⟨rfl,rfl⟩)
    exact ⟨rfl,textsPost_no HN.out (Below.refl _ _)⟩
   ·have t1:decide (1≤(l.length:Int))=false:=by simp;omega
    clear hl
    go_wp2_with (go_at_call 318;refine (rneed_no _).mono ?_;rintro e w' ⟨rfl,rfl⟩)
    exact ⟨rfl,textsPost_no HN.out (Below.refl _ _)⟩
structure relR (w:World) (P:Nat→Prop) (q:Int×Value×Value×Value) (r:RuleP):Prop where
 says:q.1=if r.deny then 2 else 1
 who:srow w 0 q.2.1 r.who
 act:srow w 0 q.2.2.1 r.act
 on:srow w 0 q.2.2.2 r.on
 pw:∀ g,q.2.1.ownBlock=some g→P g
 pa:∀ g,q.2.2.1.ownBlock=some g→P g
 po:∀ g,q.2.2.2.ownBlock=some g→P g
 sz:r.who.length≤4∧r.act.length≤4∧r.on.length≤4∧∀ y∈r.on,y.length≤4000
theorem relR.mono {w:World} {P Q:Nat→Prop} {q:Int×Value×Value×Value} {r:RuleP} (h:relR w P q r) (hq:∀ g,P g→Q g):relR w Q q r :=
 ⟨h.says,h.who,h.act,h.on,fun g e=>hq g (h.pw g e),fun g e=>hq g (h.pa g e),fun g e=>hq g (h.po g e),h.sz⟩
theorem relR.kept {w w':World} {S P:Nat→Prop} {q:Int×Value×Value×Value} {r:RuleP} (h:relR w P q r) (k:Kept S w w') (hq:∀ g,P g→¬ S g):relR w' P q r :=
 ⟨h.says,k.row h.who (fun g e=>hq g (h.pw g e)),k.row h.act (fun g e=>hq g (h.pa g e)),k.row h.on (fun g e=>hq g (h.po g e)),h.pw,h.pa,h.po,h.sz⟩
theorem relR.inb {w:World} {P:Nat→Prop} {q:Int×Value×Value×Value} {r:RuleP} (h:relR w P q r):relR w (fun g=>P g∧g < w.heap.size) q r :=
 ⟨h.says,h.who,h.act,h.on,fun g e=>⟨h.pw g e,(World.ownsRow.lt h.who g e).2⟩,fun g e=>⟨h.pa g e,(World.ownsRow.lt h.act g e).2⟩,fun g e=>⟨h.po g e,(World.ownsRow.lt h.on g e).2⟩,h.sz⟩
def rulePost (w:World) (o:Option RuleP) (e:Ending) (w':World):Prop :=
 Below w.heap.size w w'∧match o with
 | none=>e=.panicked noP
 | some r=>∃ q:Int×Value×Value×Value,e=.returned (.agg #[.int .i64 q.1,q.2.1,q.2.2.1,q.2.2.2])∧relR w' (fun g=>w.heap.size≤g) q r
theorem rulePost_no {w w':World} {o:Option RuleP} (h:o=none) (hb:Below w.heap.size w w'):rulePost w o (.panicked noP) w':=by subst h;exact ⟨hb,rfl⟩
def ruleL (l : List (List UInt8 × J)) : Option RuleP := match findM l sEffect with
      | none=>none
      | some e=>match effJ e with
        | none=>none
        | some d=>match findM l sWho with
          | none=>none
          | some w=>match goodJ whoP w with
            | none=>none
            | some w=>match findM l sDo with
              | none=>none
              | some a=>match goodJ actP a with
                | none=>none
                | some a=>match findM l sOn with
                  | none=>none
                  | some o=>match goodJ (fun _=>true) o with
                    | none=>none
                    | some o=>some ⟨d,w,a,o⟩
theorem ruleJ_is (j:J):ruleJ j=match objN 4 j with
  | none=>none
  | some l=>ruleL l:=by
 cases j with
 | obj l =>
  show (if l.length=4 then ruleL l else none)=(match (if l.length=4 then some l else none:Option (List (List UInt8×J))) with|none=>none|some l=>ruleL l)
  by_cases h:l.length=4
  ·rw [if_pos h,if_pos h]
  ·rw [if_neg h,if_neg h]
 | _=>rfl
theorem srow0 {w:World} {B:Nat} {v:Value} {l:List (List UInt8)} (h:srow w B v l):srow w 0 v l:=row_mono h
theorem srow_slice {w:World} {B:Nat} {v:Value} {l:List (List UInt8)} (h:srow w B v l):∃ a n c,v=.slice a n c:=by
 obtain ⟨a,cap,rfl,_⟩:=row_view h
 exact ⟨a,_,cap,rfl⟩
theorem readEffect_some (k:Nat) (v:Value) (j:J) (d:Bool) (x:Int) (w:World) (h:repJ k w (inW w) v j) (hd:effJ j=some d) (hx:x=if d then 2 else 1) :
  Calls Tryz.prog 323 #[v] w fun e w'=>e=.returned (.int .i64 x)∧w=w':=by
 have:=readEffect_any k v j w h
 rw [hd] at this;rw [hx];exact this
theorem readEffect_none (k:Nat) (v:Value) (j:J) (w:World) (h:repJ k w (inW w) v j) (hd:effJ j=none) :
  Calls Tryz.prog 323 #[v] w fun e w'=>e=.panicked noP∧w=w':=by
 have:=readEffect_any k v j w h
 rw [hd] at this;exact this
theorem who_list (k:Nat) (v:Value) (j:J) (w:World) (h:repJ k w (inW w) v j):Calls Tryz.prog 324 #[v,.func (.func 325) #[] #[]] w (textsPost w (goodJ whoP j)) :=
 rreadList_any whoP 325 (enters_of Tryz.func325 (by kernel_rfl) rfl) (fun s w hs=>isWho_any s w (by omega)) k v j w h
theorem act_list (k:Nat) (v:Value) (j:J) (w:World) (h:repJ k w (inW w) v j):Calls Tryz.prog 324 #[v,.func (.func 326) #[] #[]] w (textsPost w (goodJ actP j)) :=
 rreadList_any actP 326 (enters_of Tryz.func326 (by kernel_rfl) rfl) (fun s w _=>isAction_any s w) k v j w h
theorem on_list (k:Nat) (v:Value) (j:J) (w:World) (h:repJ k w (inW w) v j):Calls Tryz.prog 324 #[v,.func (.func 327) #[] #[]] w (textsPost w (goodJ (fun _=>true) j)) :=
 rreadList_any (fun _=>true) 327 (enters_of Tryz.func327 (by kernel_rfl) rfl) (fun s w _=>isPattern_any s w) k v j w h
def cells4 (b:Nat) (w:World):Prop:=w.cell? ⟨b,0,none⟩=some (.int .i64 0)∧w.cell? ⟨b,1,none⟩=some (.slice none 0 0)∧w.cell? ⟨b,2,none⟩=some (.slice none 0 0)∧w.cell? ⟨b,3,none⟩=some (.slice none 0 0)∧w.frozen? ⟨b,0,none⟩=false∧w.frozen? ⟨b,1,none⟩=false∧w.frozen? ⟨b,2,none⟩=false∧w.frozen? ⟨b,3,none⟩=false
theorem keep4 {b:Nat} {w w':World} (h:cells4 b w) (k:Below w.heap.size w w'):cells4 b w':=by
 obtain ⟨h0,h1,h2,h3,h4,h5,h6,h7⟩:=h
 have hb:b < w.heap.size:=World.block_lt_of_cell? w ⟨b,0,none⟩ h0
 exact ⟨(k.cell (p:=⟨b,0,none⟩) hb).trans h0,(k.cell (p:=⟨b,1,none⟩) hb).trans h1,(k.cell (p:=⟨b,2,none⟩) hb).trans h2,(k.cell (p:=⟨b,3,none⟩) hb).trans h3,(k.frozen (p:=⟨b,0,none⟩) hb).trans h4,(k.frozen (p:=⟨b,1,none⟩) hb).trans h5,(k.frozen (p:=⟨b,2,none⟩) hb).trans h6,(k.frozen (p:=⟨b,3,none⟩) hb).trans h7⟩
abbrev zeroR:Obj:=.cells #[.int .i64 0,.slice none 0 0,.slice none 0 0,.slice none 0 0] 230
theorem readRule_any (k:Nat) (v:Value) (j:J) (w:World) (h:repJ k w (inW w) v j) :
  Calls Tryz.prog 319 #[v] w (rulePost w (ruleJ j)):=by
 have b0:Below w.heap.size w (w.alloc zeroR):=(Below.refl _ _).alloc (Nat.le_refl _) _
 have M:=membersOf_any k v j (w.alloc zeroR) 4 (RJ_alloc h _)
 have HR:Hid (ruleJ j=match objN 4 j with|none=>none|some l=>ruleL l):=ruleJ_is j
 cases ho:objN 4 j with
 | none =>
  rw [ho] at M HR
  have M2:Calls Tryz.prog 317 #[v,.int .i64 4] (w.alloc zeroR) fun e w'=>e=.panicked noP∧w.alloc zeroR=w':=M
  clear M
  go_enter Tryz.func319,Tryz.ntmps319
  go_wp2_with (go_at_call 317;refine M2.mono ?_;rintro e w' ⟨rfl,rfl⟩)
  exact ⟨rfl,rulePost_no HR.out b0⟩
 | some l =>
  rw [ho] at M HR
  have M2:Calls Tryz.prog 317 #[v,.int .i64 4] (w.alloc zeroR) fun e w'=>(∃ sl,e=.returned sl∧membs (k - 1) (w.alloc zeroR) sl l)∧w.alloc zeroR=w':=M
  have hl4:l.length≤1000000:=by
   cases j with
   | obj m=>simp only [objN] at ho;split at ho <;> simp_all
   | _=>cases ho
  clear M
  go_enter Tryz.func319,Tryz.ntmps319
  go_wp2_with fail
  refine M2.mono ?_
  rintro e w' ⟨⟨sl,rfl,hm⟩,rfl⟩
  clear M2 h
  have B0:=b0
  have cz:cells4 w.heap.size (w.alloc zeroR):=by refine ⟨?_,?_,?_,?_,?_,?_,?_,?_⟩ <;> simp [go_sem]
  clear b0
  go_wp2_with fail
  refine (find_any (k - 1) sl l sEffect _ hm hl4).mono ?_
  cases hE:findM l sEffect with
  | none =>
   rintro e w1 ⟨b1,rfl⟩
   have HN:Hid (ruleJ j=none):=by show _=_;rw [HR.out];unfold ruleL;simp only [hE]
   clear HR
   go_wp2
   exact ⟨rfl,rulePost_no HN.out (below_trans B0 b1)⟩
  | some jE =>
   rintro e w1 ⟨b1,vE,rfl,rE⟩
   replace B0:=below_trans B0 b1
   replace hm:=hm.below b1
   replace cz:=keep4 cz b1
   clear b1
   go_wp2_with fail
   cases hX:effJ jE with
   | none =>
    refine (readEffect_none (k - 1) vE jE _ rE hX).mono ?_
    rintro e w2 ⟨rfl,rfl⟩
    have HN:Hid (ruleJ j=none):=by show _=_;rw [HR.out];unfold ruleL;simp only [hE,hX]
    clear HR
    go_wp2
    exact ⟨rfl,rulePost_no HN.out B0⟩
   | some dE =>
    obtain ⟨x,HX⟩:∃ x:Int,Hid (x=if dE then 2 else 1):=⟨_,rfl⟩
    refine (readEffect_some (k - 1) vE jE dE x _ rE hX HX.out).mono ?_
    rintro e w2 ⟨rfl,rfl⟩
    go_wp2_with fail
    refine (find_any (k - 1) sl l sWho _ hm hl4).mono ?_
    cases hW:findM l sWho with
    | none =>
     rintro e w3 ⟨b3,rfl⟩
     have HN:Hid (ruleJ j=none):=by show _=_;rw [HR.out];unfold ruleL;simp only [hE,hX,hW]
     clear HR
     go_wp2
     exact ⟨rfl,rulePost_no HN.out (below_trans B0 b3)⟩
    | some jW =>
     rintro e w3 ⟨b3,vW,rfl,rW⟩
     replace B0:=below_trans B0 b3
     replace hm:=hm.below b3
     replace cz:=keep4 cz b3
     clear b3
     go_wp2_with fail
     refine (who_list (k - 1) vW jW _ rW).mono ?_
     cases hXW:goodJ whoP jW with
     | none =>
      rintro e w4 ⟨b4,rfl⟩
      have HN:Hid (ruleJ j=none):=by show _=_;rw [HR.out];unfold ruleL;simp only [hE,hX,hW,hXW]
      clear HR
      go_wp2
      exact ⟨rfl,rulePost_no HN.out (below_trans B0 b4)⟩
     | some lW =>
      rintro e w4 ⟨b4,uW,rfl,sW,mW,yW⟩
      have zW:=World.block_lt_of_cell? _ ⟨w.heap.size,0,none⟩ cz.1
      replace B0:=below_trans B0 b4
      replace hm:=hm.below b4
      replace cz:=keep4 cz b4
      have pW:∀ g,uW.ownBlock=some g→w.heap.size < g:=fun g hg=>by have:=(World.ownsRow.lt sW g hg).1;simp at zW;omega
      clear b4 zW
      go_wp2_with fail
      refine (find_any (k - 1) sl l sDo _ hm hl4).mono ?_
      cases hD:findM l sDo with
      | none =>
       rintro e w5 ⟨b5,rfl⟩
       have HN:Hid (ruleJ j=none):=by show _=_;rw [HR.out];unfold ruleL;simp only [hE,hX,hW,hXW,hD]
       clear HR
       go_wp2
       exact ⟨rfl,rulePost_no HN.out (below_trans B0 b5)⟩
      | some jD =>
       rintro e w5 ⟨b5,vD,rfl,rD⟩
       replace B0:=below_trans B0 b5
       replace hm:=hm.below b5
       replace cz:=keep4 cz b5
       replace sW:=sW.below b5
       clear b5
       go_wp2_with fail
       refine (act_list (k - 1) vD jD _ rD).mono ?_
       cases hXD:goodJ actP jD with
       | none =>
        rintro e w6 ⟨b6,rfl⟩
        have HN:Hid (ruleJ j=none):=by show _=_;rw [HR.out];unfold ruleL;simp only [hE,hX,hW,hXW,hD,hXD]
        clear HR
        go_wp2
        exact ⟨rfl,rulePost_no HN.out (below_trans B0 b6)⟩
       | some lD =>
        rintro e w6 ⟨b6,uD,rfl,sD,mD,yD⟩
        have zD:=World.block_lt_of_cell? _ ⟨w.heap.size,0,none⟩ cz.1
        replace B0:=below_trans B0 b6
        replace hm:=hm.below b6
        replace cz:=keep4 cz b6
        replace sW:=sW.below b6
        have pD:∀ g,uD.ownBlock=some g→w.heap.size < g:=fun g hg=>by have:=(World.ownsRow.lt sD g hg).1;simp at zD;omega
        clear b6 zD
        go_wp2_with fail
        refine (find_any (k - 1) sl l sOn _ hm hl4).mono ?_
        cases hO:findM l sOn with
        | none =>
         rintro e w7 ⟨b7,rfl⟩
         have HN:Hid (ruleJ j=none):=by show _=_;rw [HR.out];unfold ruleL;simp only [hE,hX,hW,hXW,hD,hXD,hO]
         clear HR
         go_wp2
         exact ⟨rfl,rulePost_no HN.out (below_trans B0 b7)⟩
        | some jO =>
         rintro e w7 ⟨b7,vO,rfl,rO⟩
         replace B0:=below_trans B0 b7
         replace hm:=hm.below b7
         replace cz:=keep4 cz b7
         replace sW:=sW.below b7
         replace sD:=sD.below b7
         clear b7
         go_wp2_with fail
         refine (on_list (k - 1) vO jO _ rO).mono ?_
         cases hXO:goodJ (fun _=>true) jO with
         | none =>
          rintro e w8 ⟨b8,rfl⟩
          have HN:Hid (ruleJ j=none):=by show _=_;rw [HR.out];unfold ruleL;simp only [hE,hX,hW,hXW,hD,hXD,hO,hXO]
          clear HR
          go_wp2
          exact ⟨rfl,rulePost_no HN.out (below_trans B0 b8)⟩
         | some lO =>
          rintro e w8 ⟨b8,uO,rfl,sO,mO,yO⟩
          have zO:=World.block_lt_of_cell? _ ⟨w.heap.size,0,none⟩ cz.1
          replace B0:=below_trans B0 b8
          replace hm:=hm.below b8
          replace cz:=keep4 cz b8
          replace sW:=sW.below b8
          replace sD:=sD.below b8
          have pO:∀ g,uO.ownBlock=some g→w.heap.size < g:=fun g hg=>by have:=(World.ownsRow.lt sO g hg).1;simp at zO;omega
          clear b8 zO
          have HY:Hid (ruleJ j=some ⟨dE,lW,lD,lO⟩):=by show _=_;rw [HR.out];unfold ruleL;simp only [hE,hX,hW,hXW,hD,hXD,hO,hXO]
          clear HR hm
          obtain ⟨aW,nW,cW,rfl⟩:=srow_slice sW
          obtain ⟨aD,nD,cD,rfl⟩:=srow_slice sD
          obtain ⟨aO,nO,cO,rfl⟩:=srow_slice sO
          obtain ⟨c0,c1,c2,c3,f0,f1,f2,f3⟩:=cz
          go_wp2
          refine bodyPost_ret (v:=.agg #[.int .i64 x,.slice aW nW cW,.slice aD nD cD,.slice aO nO cO]) ?_ rfl ?_
          ·simp [results,Tryz.results319,go_sem,c0,c1,c2,c3]
          have hb8:w.heap.size < w8.heap.size:=World.block_lt_of_cell? w8 ⟨w.heap.size,0,none⟩ c0
          have KS:Kept (·=w.heap.size) w8 ((((w8.setCell ⟨w.heap.size,0,none⟩ (.int .i64 x)).setCell ⟨w.heap.size,1,none⟩ (.slice aW nW cW)).setCell ⟨w.heap.size,2,none⟩ (.slice aD nD cD)).setCell ⟨w.heap.size,3,none⟩ (.slice aO nO cO)) :=
           ((((Kept.refl (·=w.heap.size) w8).setCell _ _ _ (fun _=>rfl)).setCell _ _ _ (fun _=>rfl)).setCell _ _ _ (fun _=>rfl)).setCell _ _ _ (fun _=>rfl)
          rw [HY.out]
          refine ⟨B0.trans (KS.below (B:=w.heap.size) (by omega) (fun k e=>by omega)),(x,.slice aW nW cW,.slice aD nD cD,.slice aO nO cO),rfl,?_⟩
          exact ⟨HX.out,srow0 (KS.row sW (fun g hg e=>by have:=pW g hg;omega)),srow0 (KS.row sD (fun g hg e=>by have:=pD g hg;omega)),srow0 (KS.row sO (fun g hg e=>by have:=pO g hg;omega)),
           fun g hg=>Nat.le_of_lt (pW g hg),fun g hg=>Nat.le_of_lt (pD g hg),fun g hg=>Nat.le_of_lt (pO g hg),mW,mD,mO,yO⟩
theorem Tryz.infoR:(Tryz.prog.info? 230).map (fun i=>(i.zero,i.size,i.bytes))=some (some (.agg #[.int .i64 0,.slice none 0 0,.slice none 0 0,.slice none 0 0]),4,80):=by kernel_rfl
abbrev Quad:=Int×Value×Value×Value
abbrev qcells (q:Quad):List Value:=[.int .i64 q.1,q.2.1,q.2.2.1,q.2.2.2]
def rcells (us:List Quad):List Value:=us.flatMap qcells
theorem rapp_step {w:World} {ops:Array Oper} {o:Oper} {a:Act} {K:Act→World→Prop} {Q:Exit→Act→World→Prop} {E:Prop} (hgd:o.guard=none) (s x:Operand)
  (ho:o.op=.call { callee:=.builtin .append,args:=#[s,x],argTypes:=#[158,158] })
  (B n:Nat) (us:List Value) (q:Quad) (h1:q.2.1.oneCell'=true) (h2:q.2.2.1.oneCell'=true) (h3:q.2.2.2.oneCell'=true) (v:Value) (hs:a.eval s=v) (hown:w.ownsRow B 230 4 v n us) (H:Nat) (hx:a.eval x=.slice (some ⟨H,0,none⟩) 1 1)
  (fr:Nat×Nat) (hblk:w.heap[H]?=some (.cells (qcells q).toArray 230 fr)) (hlen:n≤1000000000) (hB:B≤w.heap.size)
  (h:∀ g cap w',w'.ownsRow B 230 4 (.slice (some ⟨g,0,none⟩) (n+1) cap) (n+1) (us++qcells q)→w.grownBy w' v.ownBlock→(v.ownBlock=some g∨g=w.heap.size)→K (a.put o.dst (.slice (some ⟨g,0,none⟩) (n+1) cap)) w') :
  if Region.wanted o (yielded ops a.tmps)=true then Oper.wp Tryz.prog o a w K Q else E:=by
 obtain ⟨i0,hi,hz0,hz1,hz2⟩:=info_parts Tryz.infoR
 refine step_append_lies _ hgd s x 158 ho B 230 i0 (.agg #[.int .i64 0,.slice none 0 0,.slice none 0 0,.slice none 0 0]) 4 80 Tryz.underlying158 hi hz0 hz1 hz2 rfl (by omega) v n us hs hown ⟨H,0,none⟩ 1 1 (qcells q) hx (by simp)
  (fun j u hu=>World.news_of_block hblk j u (by simpa using hu)) (by intro y hy;simp at hy;rcases hy with e|e|e|e <;> rw [e] <;> first|exact h1|exact h2|exact h3|rfl) (by omega) (by unfold maxLen;omega) (by omega) hB w.heap.size rfl ?_
 intro g cap w' h1 h2 h3 _
 exact h g cap w' h1 h2 h3
structure PQ (R V B:Nat) (w0:World) (rs:List RuleP) (w:World):Prop where
 lR:R < B
 lV:V < B
 nRV:¬ R=V
 top:B≤w.heap.size
 oR:w0.heap.size≤R
 oV:w0.heap.size≤V
 oB:w0.heap.size≤B
 cR:w.cell? ⟨R,0,none⟩=some (.slice none 0 0)
 fR:w.frozen? ⟨R,0,none⟩=false
 fV:w.frozen? ⟨V,0,none⟩=false
 kept:Below w0.heap.size w0 w
 vals:∃ sl us,w.cell? ⟨V,0,none⟩=some sl∧w.ownsRow B 230 4 sl rs.length (rcells us)∧all2 (relR w (fun g=>B≤g∧sl.ownBlock≠some g)) us rs
theorem PQ.push {R V B:Nat} {w0:World} {rs:List RuleP} {w w1 wA w3:World} (q:PQ R V B w0 rs w) {sl:Value} {us:List Quad} (hsl:w.cell? ⟨V,0,none⟩=some sl)
  (hall:all2 (relR w (fun g=>B≤g∧sl.ownBlock≠some g)) us rs) (hrow:w.ownsRow B 230 4 sl rs.length (rcells us))
  {u:Quad} {r:RuleP} (h1:Below w.heap.size w w1) (hj:relR w1 (fun g=>w.heap.size≤g) u r) (hA:Below w1.heap.size w1 wA) {g cap:Nat}
  (h3:w3.ownsRow B 230 4 (.slice (some ⟨g,0,none⟩) (rs.length+1) cap) (rs.length+1) (rcells us++qcells u)) (h4:wA.grownBy w3 sl.ownBlock) (h5:sl.ownBlock=some g∨g=wA.heap.size) :
  PQ R V B w0 (rs++[r]) (w3.setCell ⟨V,0,none⟩ (.slice (some ⟨g,0,none⟩) (rs.length+1) cap)):=by
 have hV:=q.lV;have ht:=q.top;have hs1:=h1.size;have hsA:=hA.size;have hs4:=h4.size;have hR:=q.lR;have oR:=q.oR;have oV:=q.oV;have oB:=q.oB
 have nRV:=q.nRV
 have hslB:=fun g hg=>(World.ownsRow.lt hrow g hg)
 have nsl:∀ x,x < B→¬ sl.ownBlock=some x:=fun x hx e=>by have:=(hslB _ e).1;omega
 have K1:Kept (fun x=>sl.ownBlock=some x) w w3 :=
  ((Kept.of_below h1).mono (T:=fun x=>sl.ownBlock=some x) (fun x hx e=>by omega)).trans (Kept.of_below hA) (fun x hx e=>by omega) |>.trans (Kept.of_grown h4) (fun x _ e=>e)
 have KV:Kept (·=V) w3 (w3.setCell ⟨V,0,none⟩ (.slice (some ⟨g,0,none⟩) (rs.length+1) cap)):=Kept.of_grown1 (grown_set _ _ _ _)
 have cV3:w3.cell? ⟨V,0,none⟩=some sl:=K1.cell hsl (nsl V hV)
 have fV3:w3.frozen? ⟨V,0,none⟩=false:=K1.frozen (a:=⟨V,0,none⟩) (show V < _ by omega) q.fV (nsl V hV)
 refine ⟨q.lR,q.lV,q.nRV,by simp;omega,q.oR,q.oV,q.oB,?_,?_,?_,?_,.slice (some ⟨g,0,none⟩) (rs.length+1) cap,us++[u],?_,?_,?_⟩
 ·exact KV.cell (K1.cell q.cR (nsl R hR)) nRV
 ·exact KV.frozen (a:=⟨R,0,none⟩) (show R < _ by omega) (K1.frozen (a:=⟨R,0,none⟩) (show R < _ by omega) q.fR (nsl R hR)) nRV
 ·simp [go_sem,fV3]
 ·exact (((Kept.of_below q.kept).trans K1 (fun x hx e=>by have:=(hslB _ e).1;omega)).trans KV (fun x hx e=>by omega)).below (Nat.le_refl _) (fun k e=>e)
 ·simp [go_sem,cV3]
 ·rw [List.length_append,show rcells (us++[u])=rcells us++qcells u by simp [rcells]];exact KV.row h3 (fun x hx e=>by have:=(World.ownsRow.lt h3 x hx).1;omega)
 ·refine all2_snoc ?_ ?_
  ·have hj1:=hj.inb
   have K3:Kept (fun x=>x=V∨sl.ownBlock=some x∨w1.heap.size≤x) w1 (w3.setCell ⟨V,0,none⟩ (.slice (some ⟨g,0,none⟩) (rs.length+1) cap)) :=
    (((Kept.of_below hA).mono (T:=fun x=>x=V∨sl.ownBlock=some x∨w1.heap.size≤x) (fun _ _ e=>Or.inr (Or.inr e))).trans (Kept.of_grown h4) (fun x _ e=>Or.inr (Or.inl e))).trans KV (fun x _ e=>Or.inl e)
   refine (hj1.kept K3 ?_).mono ?_
   ·rintro x ⟨e1,e2⟩ (e|e|e)
    ·omega
    ·have:=(hslB _ e).2;omega
    ·omega
   ·rintro x ⟨e1,e2⟩
    refine ⟨by omega,fun e=>?_⟩
    simp [Value.ownBlock] at e
    subst e
    rcases h5 with e|e
    ·have:=(hslB _ e).2;omega
    ·omega
  ·refine all2_mono (fun u i hr=>?_) hall
   refine ((hr.inb.kept K1 ?_).kept KV ?_).mono ?_
   ·rintro x ⟨⟨e1,e2⟩,e3⟩ e
    exact e2 e
   ·rintro x ⟨⟨e1,e2⟩,e3⟩ e
    omega
   ·rintro x ⟨⟨e1,e2⟩,e3⟩
    refine ⟨e1,fun e=>?_⟩
    simp [Value.ownBlock] at e
    subst e
    rcases h5 with e|e
    ·exact e2 e
    ·omega
theorem rulesJ_snoc:∀ (l:List J) (j:J),rulesJ (l++[j])=match rulesJ l with
  | none=>none
  | some a=>match ruleJ j with
   | none=>none
   | some s=>some (a++[s])
 | [],j=>by simp only [List.nil_append,rulesJ];cases ruleJ j <;> rfl
 | i :: l,j=>by
  simp only [List.cons_append,rulesJ]
  cases ruleJ i with
  | none=>rfl
  | some s =>
   simp only [rulesJ_snoc l j]
   cases rulesJ l with
   | none=>rfl
   | some a=>simp only [Option.map];cases ruleJ j <;> rfl
theorem rulesJ_none:∀ (l m:List J),rulesJ l=none→rulesJ (l++m)=none
 | [],m,h=>by simp [rulesJ] at h
 | i :: l,m,h=>by
  simp only [List.cons_append,rulesJ] at *
  cases hi:ruleJ i with
  | none=>rfl
  | some s =>
   rw [hi] at h
   simp only at h ⊢
   cases hs:rulesJ l with
   | none=>rw [rulesJ_none l m hs];rfl
   | some a=>rw [hs] at h;cases h
theorem rulesJ_on {l:List J} {i:Nat} {a:List RuleP} (h:rulesJ (l.take i)=some a) (hi:i < l.length) {r:RuleP} (hr:ruleJ l[i]=some r):rulesJ (l.take (i+1))=some (a++[r]):=by
 rw [take_snoc' hi,rulesJ_snoc,h];simp only;rw [hr]
theorem rulesJ_bad {l:List J} {i:Nat} {a:List RuleP} (h:rulesJ (l.take i)=some a) (hi:i < l.length) (hr:ruleJ l[i]=none):rulesJ l=none:=by
 have:=rulesJ_none (l.take (i+1)) (l.drop (i+1)) (by rw [take_snoc' hi,rulesJ_snoc,h];simp only;rw [hr])
 rwa [List.take_append_drop] at this
theorem policyJ_is (j:J):policyJ j=match objN 1 j with
  | none=>none
  | some l=>match findM l sRules with
   | none=>none
   | some r=>match arrJ r with
    | none=>none
    | some k=>if k.length≤4 then rulesJ k else none:=by
 cases j with
 | obj l =>
  by_cases h:l.length=1
  ·simp only [policyJ,objN,h,if_true]
   cases findM l sRules with
   | none=>rfl
   | some r=>cases r <;> rfl
  ·simp only [policyJ,objN,h,if_false]
 | _=>rfl
def policyIn (w:World) (P:Nat→Prop) (sl:Value) (rs:List RuleP):Prop:=∃ us,w.ownsRow 0 230 4 sl rs.length (rcells us)∧(∀ g,sl.ownBlock=some g→P g)∧all2 (relR w P) us rs
abbrev policyAt (w:World) (sl:Value) (rs:List RuleP):Prop:=policyIn w (inW w) sl rs
theorem policyIn.mono {w:World} {P Q:Nat→Prop} {sl:Value} {rs:List RuleP} (h:policyIn w P sl rs) (hq:∀ g,P g→Q g):policyIn w Q sl rs:=by
 obtain ⟨us,h1,h2,h3⟩:=h
 exact ⟨us,h1,fun g e=>hq g (h2 g e),all2_mono (fun _ _ hr=>hr.mono hq) h3⟩
theorem policyIn.kept {w w':World} {S P:Nat→Prop} {sl:Value} {rs:List RuleP} (h:policyIn w P sl rs) (k:Kept S w w') (hq:∀ g,P g→¬ S g):policyIn w' P sl rs:=by
 obtain ⟨us,h1,h2,h3⟩:=h
 exact ⟨us,k.row h1 (fun g e=>hq g (h2 g e)),h2,all2_mono (fun _ _ hr=>hr.kept k hq) h3⟩
theorem policyIn.inb {w:World} {P:Nat→Prop} {sl:Value} {rs:List RuleP} (h:policyIn w P sl rs):policyIn w (fun g=>P g∧g < w.heap.size) sl rs:=by
 obtain ⟨us,h1,h2,h3⟩:=h
 exact ⟨us,h1,fun g e=>⟨h2 g e,(World.ownsRow.lt h1 g e).2⟩,all2_mono (fun _ _ hr=>hr.inb) h3⟩
def polPost (w:World) (o:Option (List RuleP)) (e:Ending) (w':World):Prop :=
 Below w.heap.size w w'∧match o with
 | none=>e=.panicked noP
 | some rs=>∃ sl,e=.returned (.agg #[sl])∧policyIn w' (fun g=>w.heap.size≤g) sl rs
theorem polPost_no {w w':World} {o:Option (List RuleP)} (h:o=none) (hb:Below w.heap.size w w'):polPost w o (.panicked noP) w':=by subst h;exact ⟨hb,rfl⟩
theorem relR.slices {w:World} {P:Nat→Prop} {q:Quad} {r:RuleP} (h:relR w P q r):∃ x a1 n1 c1 a2 n2 c2 a3 n3 c3,q=(x,.slice a1 n1 c1,.slice a2 n2 c2,.slice a3 n3 c3):=by
 obtain ⟨x,v1,v2,v3⟩:=q
 obtain ⟨a1,n1,c1,e1⟩:=srow_slice h.who
 obtain ⟨a2,n2,c2,e2⟩:=srow_slice h.act
 obtain ⟨a3,n3,c3,e3⟩:=srow_slice h.on
 simp at e1 e2 e3
 exact ⟨x,a1,n1,c1,a2,n2,c2,a3,n3,c3,by rw [e1,e2,e3]⟩
theorem below_undrew {w w':World} (h:Below w.drew.heap.size w.drew w'):Below w.heap.size w w':=⟨h.os,h.tape,h.output,h.size,h.block⟩
theorem RJ_drew {k:Nat} {w:World} {v:Value} {j:J} (h:repJ k w (inW w) v j):repJ k w.drew (inW w.drew) v j:=RJ_below h (below_drew w)
abbrev zeroP:Obj:=.cells #[.slice none 0 0] 160
theorem PQ.start {w wA:World} (b:Below (w.alloc zeroP).heap.size (w.alloc zeroP) wA):PQ w.heap.size wA.heap.size (wA.heap.size+1) w [] (wA.alloc zeroP):=by
 have hs:=b.size
 simp at hs
 have c0:(w.alloc zeroP).cell? ⟨w.heap.size,0,none⟩=some (.slice none 0 0):=by simp [go_sem]
 have f0:(w.alloc zeroP).frozen? ⟨w.heap.size,0,none⟩=false:=by simp [go_sem]
 have hl:w.heap.size < (w.alloc zeroP).heap.size:=by simp
 refine ⟨by omega,by omega,by omega,by simp,Nat.le_refl _,by omega,by omega,?_,?_,?_,?_,.slice none 0 0,[],?_,World.ownsRow_nil _ _ _ _,trivial⟩
 ·exact cell_alloc ((b.cell (p:=⟨w.heap.size,0,none⟩) hl).trans c0) _
 ·exact (Kept.of_grown (World.grownBy_alloc wA _ none)).frozen (a:=⟨w.heap.size,0,none⟩) (show w.heap.size < _ by omega) ((b.frozen (p:=⟨w.heap.size,0,none⟩) hl).trans f0) (by simp)
 ·simp [go_sem]
 ·exact (((Below.refl _ w).alloc (Nat.le_refl _) zeroP).trans (b.mono (by simp))).alloc (by omega) _
 ·simp [go_sem]
theorem readPolicy_any (k:Nat) (v:Value) (j:J) (w:World) (h:repJ k w (inW w) v j) :
  Calls Tryz.prog 312 #[v] w (polPost w (policyJ j)):=by
 have b0:Below w.heap.size w (w.alloc zeroP):=(Below.refl _ _).alloc (Nat.le_refl _) _
 have M:=membersOf_any k v j (w.alloc zeroP) 1 (RJ_alloc h _)
 have HR:Hid (policyJ j=_):=policyJ_is j
 cases ho:objN 1 j with
 | none =>
  rw [ho] at M HR
  have M2:Calls Tryz.prog 317 #[v,.int .i64 1] (w.alloc zeroP) fun e w'=>e=.panicked noP∧w.alloc zeroP=w':=M
  clear M
  go_enter Tryz.func312,Tryz.ntmps312
  go_wp2_with (go_at_call 317;refine M2.mono ?_;rintro e w' ⟨rfl,rfl⟩)
  exact ⟨rfl,polPost_no HR.out b0⟩
 | some l =>
  rw [ho] at M HR
  have M2:Calls Tryz.prog 317 #[v,.int .i64 1] (w.alloc zeroP) fun e w'=>(∃ sl,e=.returned sl∧membs (k - 1) (w.alloc zeroP) sl l)∧w.alloc zeroP=w':=M
  have hl4:l.length≤1000000:=by
   cases j with
   | obj m=>simp only [objN] at ho;split at ho <;> simp_all
   | _=>cases ho
  clear M
  go_enter Tryz.func312,Tryz.ntmps312
  go_wp2_with fail
  refine M2.mono ?_
  rintro e w' ⟨⟨sl,rfl,hm⟩,rfl⟩
  clear M2 h
  go_wp2_with fail
  refine (find_any (k - 1) sl l sRules _ hm hl4).mono ?_
  cases hF:findM l sRules with
  | none =>
   rintro e w1 ⟨b1,rfl⟩
   have HN:Hid (policyJ j=none):=by show _=_;rw [HR.out];simp only [hF]
   clear HR
   go_wp2
   exact ⟨rfl,polPost_no HN.out (below_trans b0 b1)⟩
  | some jr =>
   rintro e w1 ⟨b1,v1,rfl,r1⟩
   have A:=arrayOf_any (k - 1) v1 jr w1 r1
   cases ha:arrJ jr with
   | none =>
    have HN:Hid (policyJ j=none):=by show _=_;rw [HR.out];simp only [hF,ha]
    clear HR
    rw [ha] at A
    have A2:Calls Tryz.prog 315 #[v1] w1 fun e w'=>e=.panicked noP∧w1=w':=A
    clear A
    go_wp2_with (go_at_call 315;refine A2.mono ?_;rintro e w' ⟨rfl,rfl⟩)
    exact ⟨rfl,polPost_no HN.out (below_trans b0 b1)⟩
   | some m =>
    have HM:Hid (policyJ j=if m.length≤4 then rulesJ m else none):=by show _=_;rw [HR.out];simp only [hF,ha]
    clear HR
    rw [ha] at A
    have A2:Calls Tryz.prog 315 #[v1] w1 fun e w'=>(∃ sl,e=.returned sl∧elems (k - 1 - 1) w1 sl m)∧w1=w':=A
    clear A
    go_wp2_with fail
    refine A2.mono ?_
    rintro e w' ⟨⟨s2,rfl,us,hrow,hall⟩,rfl⟩
    clear A2
    have hlen:=all2_len hall
    obtain ⟨a,cap,rfl,hcap,hcells⟩:=row_view hrow
    have HC:Hid (∀ j u,us[j]?=some u→∃ g,a=some ⟨g,0,none⟩∧w1.cell? ⟨g,j,none⟩=some u∧g < w1.heap.size):=hcells
    have HA:Hid (all2 (repJ (k - 1 - 1) w1 (inW w1)) us m):=hall
    have Q0:=PQ.start (w:=w) b1
    have b01:=below_trans b0 b1
    clear hcells hall hrow hm r1 b0 b1
    by_cases hm4:m.length≤4
    ·have t2:decide ((m.length:Int)≤4)=true:=by simp;omega
     have HP:Hid (policyJ j=rulesJ m):=by show _=_;rw [HM.out,if_pos hm4]
     clear HM
     go_wp2_with (go_at_call 318;refine (rneed_ok _).mono ?_;rintro e w' ⟨rfl,rfl⟩)
     go_loopw [17] (fun i wr=>∃ n:Nat,∃ rs,n≤m.length∧i=.int .i64 n∧rulesJ (m.take n)=some rs∧rs.length≤n∧PQ w.heap.size w1.heap.size (w1.heap.size+1) w rs wr∧Below w1.heap.size w1 wr) (fun i _=>m.length - (intOf i).toNat)
     case atStart=>exact ⟨0,[],Nat.zero_le _,rfl,rfl,Nat.le_refl _,Q0,(Below.refl _ _).alloc (Nat.le_refl _) _⟩
     case round =>
      obtain ⟨n,rs,hn,rfl,hso,hrs,q,hb⟩:=hrel
      have HS:Hid (rulesJ (m.take n)=some rs):=hso
      clear hso
      have hsz:=hb.size
      by_cases hlt:n < m.length
      ·have hu:n < us.length:=by omega
       obtain ⟨g',rfl,c1,hg⟩:=HC.out n us[n] (List.getElem?_eq_getElem hu)
       have hj:=RJ_below (all2_get HA.out n hu hlt) hb
       obtain ⟨vt,vx,hv⟩:=repJ.iface _ hj
       rw [hv] at c1 hj
       replace c1:=(hb.cell (p:=⟨g',n,none⟩) hg).trans c1
       have fV:=q.fV
       obtain ⟨sl,uq,cV,hrow,hall⟩:=q.vals
       have RR:Hid (_):=readRule_any (k - 1 - 1) (.iface vt vx) m[n]
       go_wp2_with fail
       clear hv
       cases hr:ruleJ m[n] with
       | none =>
        have HN:Hid (policyJ j=none):=by show _=_;rw [HP.out];exact rulesJ_bad HS.out hlt hr
        rw [hr] at RR
        clear HS HP
        refine wp_region_held (S:=fun w'=>w'.cell? ⟨w1.heap.size,0,none⟩=some sl) (by kernel_rfl) ?_
        refine wpAnyH_take (i:=0) (v:=.pointer (some ⟨w1.heap.size,0,none⟩)) rfl (by kernel_rfl) (by kernel_rfl) (by kernel_rfl) (fun _ _ _ h=>h) (Or.inl ⟨by rfl,?_⟩) cV ?_
        ·intro w hSw
         go_simp
        simp only [Act.put,List.setIfInBounds_toArray]
        refine wpAnyH_take (i:=1) (v:=sl) rfl (by kernel_rfl) (by kernel_rfl) (by kernel_rfl) (fun _ _ _ h=>h) (Or.inl ⟨by rfl,?_⟩) cV ?_
        ·intro w hSw
         go_simp
        simp only [Act.put]
        refine wpAnyH_take (i:=2) (v:=.iface vt vx) rfl (by kernel_rfl) (by kernel_rfl) (by kernel_rfl) (fun _ _ _ h=>h) (Or.inl ⟨by rfl,?_⟩) cV ?_
        ·intro w hSw
         go_simp
        simp only [Act.put]
        refine wpAnyH_ready (rs:=[3]) (by kernel_rfl) (by simp) ?_
        refine AllReadyH.cons rfl (fun K hK=>?_) AllReadyH.nil
        go_simp
        refine (RR.out wr.drew (RJ_drew hj)).mono ?_
        rintro e w6 ⟨b6,rfl⟩
        exact ⟨rfl,polPost_no HN.out (below_trans q.kept (below_undrew b6))⟩
       | some r =>
        have HY:Hid (rulesJ (m.take (n+1))=some (rs++[r])):=rulesJ_on HS.out hlt hr
        rw [hr] at RR
        clear HS
        have OB:∀ x,x < w1.heap.size+1→some x≠sl.ownBlock:=fun x hx e=>by have:=(World.ownsRow.lt hrow x e.symm).1;omega
        have cV0:wr.cell? ⟨w1.heap.size,0,none⟩=some sl:=cV
        have HL:rs.length≤1000000000:=by omega
        have top:=q.top
        go_region_law
         (first
          | (go_simp;go_at_call 319;refine (RR.out _ (by first|exact hj|exact RJ_drew hj)).mono ?_;rintro e w6 ⟨b6,u6,rfl,r6⟩;obtain ⟨x,a1,n1,e1,a2,n2,e2,a3,n3,e3,rfl⟩:=relR.slices r6;replace b6:=below_undrew b6;have z6:=b6.size;replace fV:=(b6.frozen (p:=⟨w1.heap.size,0,none⟩) (show w1.heap.size < wr.heap.size by omega)).trans fV;replace cV:=(b6.cell (p:=⟨w1.heap.size,0,none⟩) (show w1.heap.size < wr.heap.size by omega)).trans cV;have cVa:=cell_alloc cV (.cells #[.int .i64 x,.slice a1 n1 e1,.slice a2 n2 e2,.slice a3 n3 e3] 230);have row6:=(Kept.of_below b6).row hrow (fun x hx e=>by have:=(World.ownsRow.lt hrow x hx).2;omega))
          | (refine rapp_step rfl _ _ rfl (w1.heap.size+1) rs.length (rcells uq) (x,.slice a1 n1 e1,.slice a2 n2 e2,.slice a3 n3 e3) rfl rfl rfl _ rfl (row6.alloc _) _ rfl _ (heap_alloc_new _ _) HL (by simp;omega) ?_;intro g cap w8 row8 g8 h8;have cV8:=g8.cell (cell_alloc cV _) (OB _ (Nat.lt_succ_self _));have fV8:=(Kept.of_grown g8).frozen (a:=⟨w1.heap.size,0,none⟩) (by simp;omega) ((Kept.of_grown (World.grownBy_alloc _ _ none)).frozen (a:=⟨w1.heap.size,0,none⟩) (show w1.heap.size < w6.heap.size by omega) fV (by simp)) (fun e=>OB _ (Nat.lt_succ_self _) e.symm)))
        all_goals go_wp2
        all_goals go_roundw
        case rel=>exact ⟨n+1,rs++[r],by omega,by go_num,HY.out,by simp;omega,q.push cV0 hall hrow b6 r6 ((Below.refl _ _).alloc (Nat.le_refl _) _) row8 g8 h8,(((hb.trans (b6.mono hsz)).alloc (by omega) _).grown g8 (by simp;omega) (fun x hx=>by have:=(World.ownsRow.lt hrow x hx).1;omega)).setCell (p:=⟨w1.heap.size,0,none⟩) (Nat.le_refl _) _⟩
        case measure=>simp [intOf];omega
        case rel=>exact ⟨n+1,rs++[r],by omega,by go_num,HY.out,by simp;omega,q.push cV0 hall hrow b6 r6 ((Below.refl _ _).alloc (Nat.le_refl _) _) row8 g8 h8,(((hb.trans (b6.mono hsz)).alloc (by omega) _).grown g8 (by simp;omega) (fun x hx=>by have:=(World.ownsRow.lt hrow x hx).1;omega)).setCell (p:=⟨w1.heap.size,0,none⟩) (Nat.le_refl _) _⟩
        case measure=>simp [intOf];omega
        case rel=>exact ⟨n+1,rs++[r],by omega,by go_num,HY.out,by simp;omega,q.push cV0 hall hrow b6 r6 ((Below.refl _ _).alloc (Nat.le_refl _) _) row8 g8 h8,(((hb.trans (b6.mono hsz)).alloc (by omega) _).grown g8 (by simp;omega) (fun x hx=>by have:=(World.ownsRow.lt hrow x hx).1;omega)).setCell (p:=⟨w1.heap.size,0,none⟩) (Nat.le_refl _) _⟩
        case measure=>simp [intOf];omega
      ·obtain rfl:n=m.length:=by omega
       have HD:Hid (policyJ j=some rs):=by show _=_;rw [HP.out];have:=HS.out;rwa [List.take_length] at this
       obtain ⟨sl,uq,cV,hrow,hall⟩:=q.vals
       have cR:=q.cR;have fR:=q.fR;have nRV:=q.nRV;have kept:=q.kept;have lR:=q.lR;have oB:=q.oB;have top:=q.top
       have HP2:Hid (policyIn (wr.setCell ⟨w.heap.size,0,none⟩ sl) (fun g=>w.heap.size≤g) sl rs):=by
        have KR:Kept (·=w.heap.size) wr (wr.setCell ⟨w.heap.size,0,none⟩ sl):=Kept.of_grown1 (grown_set _ _ _ _)
        exact ⟨uq,row_mono (KR.row hrow (fun x hx e=>by have:=(World.ownsRow.lt hrow x hx).1;omega)),(fun x hx=>by have:=(World.ownsRow.lt hrow x hx).1;omega),all2_mono (fun _ _ hr=>(hr.kept KR (fun x hx e=>by omega)).mono (fun x hx=>by omega)) hall⟩
       have KB:=kept.setCell (p:=⟨w.heap.size,0,none⟩) (Nat.le_refl _) sl
       obtain ⟨av,nv,rfl,_⟩:=row_view hrow
       clear HS HP q hrow hall HC HA
       go_wp2
       refine bodyPost_ret (v:=.agg #[.slice av rs.length nv]) ?_ rfl ?_
       ·simp [results,Tryz.results312,go_sem,cR]
       rw [HD.out]
       exact ⟨KB,_,rfl,HP2.out⟩
    ·have t2:decide ((m.length:Int)≤4)=false:=by simp;omega
     have HN:Hid (policyJ j=none):=by show _=_;rw [HM.out,if_neg hm4]
     clear HM
     go_wp2_with (go_at_call 318;refine (rneed_no _).mono ?_;rintro e w' ⟨rfl,rfl⟩)
     exact ⟨rfl,polPost_no HN.out b01⟩
end Go.Proofs.YtbllcgibmgbnjaaGreatDoor.P
