import Derived.Test.YtbllcgibmgbnjaaGreatDoorM02
import Derived.Deep.RegionHeld3
import Derived.Deep.RegionLaw
set_option maxHeartbeats 4000000
set_option maxRecDepth 20000
namespace Go.Proofs.YtbllcgibmgbnjaaGreatDoor.P
open Go.RowKit
def behind {X:Type} (one:List UInt8→Option (X×List UInt8)) (shut:List UInt8) (n:Nat) (acc:List X) (r:List UInt8):Option (List X×List UInt8) :=
 match tak shut r with
 | some r'=>some (acc,r')
 | none=>match tak [44] r with
  | none=>none
  | some r'=>(more one shut n r').map (fun p=>(acc++p.1,p.2))
theorem more_behind {X:Type} {one:List UInt8→Option (X×List UInt8)} {shut s r:List UInt8} {x:X} (n:Nat) (h:one s=some (x,r)):more one shut (n+1) s=behind one shut n [x] r:=by
 rw [more,h];unfold behind;simp only
 cases tak shut r with
 | some r'=>rfl
 | none=>simp only;cases tak [44] r <;> rfl
theorem more_none {X:Type} {one:List UInt8→Option (X×List UInt8)} {shut s:List UInt8} (n:Nat) (h:one s=none):more one shut (n+1) s=none:=by rw [more,h]
theorem behind_end {X:Type} {one:List UInt8→Option (X×List UInt8)} {shut r r':List UInt8} (n:Nat) (acc:List X) (h:tak shut r=some r'):behind one shut n acc r=some (acc,r'):=by unfold behind;rw [h]
theorem behind_no {X:Type} {one:List UInt8→Option (X×List UInt8)} {shut r:List UInt8} (n:Nat) (acc:List X) (h:tak shut r=none) (h2:tak [44] r=none):behind one shut n acc r=none:=by unfold behind;rw [h,h2]
theorem behind_bad {X:Type} {one:List UInt8→Option (X×List UInt8)} {shut r r':List UInt8} (n:Nat) (acc:List X) (h:tak shut r=none) (h2:tak [44] r=some r') (h3:one r'=none):behind one shut (n+1) acc r=none:=by
 unfold behind;rw [h,h2];simp only;rw [more_none n h3];rfl
theorem behind_on {X:Type} {one:List UInt8→Option (X×List UInt8)} {shut r r' r2:List UInt8} {x:X} (n:Nat) (acc:List X) (h:tak shut r=none) (h2:tak [44] r=some r') (h3:one r'=some (x,r2)) :
  behind one shut (n+1) acc r=behind one shut n (acc++[x]) r2:=by
 unfold behind;rw [h,h2];simp only;rw [more_behind n h3];unfold behind
 cases tak shut r2 with
 | some r3=>rfl
 | none=>simp only;cases tak [44] r2 with
  | none=>rfl
  | some r3=>simp only;cases more one shut n r3 <;> simp
def listPost {X:Type} (b:Nat) (Q:List X→World→Prop) (G:World→Prop) (o:Option (List X×List UInt8)) (e:Ending) (w':World):Prop :=
 match o with
 | none=>e=.panicked noJ∧G w'
 | some (l,r)=>e=.returned (.tuple #[])∧rdr w' b r∧Q l w'
theorem listPost_no {X:Type} {b:Nat} {Q:List X→World→Prop} {G:World→Prop} {o:Option (List X×List UInt8)} {w':World} (h:o=none) (g:G w'):listPost b Q G o (.panicked noJ) w':=by subst h;exact ⟨rfl,g⟩
theorem listPost_ok {X:Type} {b:Nat} {Q:List X→World→Prop} {G:World→Prop} {o:Option (List X×List UInt8)} {w':World} {l:List X} {r:List UInt8} (h:o=some (l,r)) (k:rdr w' b r) (q:Q l w'):listPost b Q G o (.returned (.tuple #[])) w':=by subst h;exact ⟨rfl,k,q⟩
def onePost {X:Type} (b:Nat) (Q:List X→World→Prop) (G:World→Prop) (acc:List X) (o:Option (X×List UInt8)) (e:Ending) (w':World):Prop :=
 match o with
 | none=>e=.panicked noJ∧G w'
 | some (x,r)=>e=.returned (.tuple #[])∧rdr w' b r∧Q (acc++[x]) w'
theorem taken_some {t s r:List UInt8} (h:tak t s=some r):taken t s=r:=by unfold taken;rw [h];rfl
theorem taken_none {t s:List UInt8} (h:tak t s=none):taken t s=skip s:=by unfold taken;rw [h];rfl
theorem readList_any {X:Type} (one:List UInt8→Option (X×List UInt8)) (hsh:shrinks one) (hsp:∀ s,one (skip s)=one s) (b g:Nat) (caps:Array Value) (shut:List UInt8)
  (eg:∀ args w,(callFunc g args).run Tryz.prog w=.ok (.enter g args) w)
  (Q:List X→World→Prop) (G:World→Prop) (hQ:∀ acc w w',Q acc w→w.grownBy w' (some b)→Q acc w') (hG:∀ acc w,Q acc w→G w)
  (H:∀ acc s w,Q acc w→rdr w b s→acc.length+s.length≤4000→Calls Tryz.prog g caps w (onePost b Q G acc (one s)))
  (s:List UInt8) (w:World) (h:rdr w b s) (hs:s.length≤4000) (q:Q [] w) :
  Calls Tryz.prog 335 #[.pointer (some ⟨b,0,none⟩),str shut,.func (.func g) #[] caps] w (listPost b Q G (listOf one shut s)):=by
 cases h1:tak shut s with
 | some r =>
  have HL:Hid (listOf one shut s=some ([],r)):=by show _=_;unfold listOf;rw [h1]
  go_enter Tryz.func335,Tryz.ntmps335
  go_wp2_with fail
  refine (take_any b s shut w h).mono ?_
  rintro e w1 ⟨rfl,r1,k1⟩
  rw [h1]
  rw [taken_some h1] at r1
  go_wp2
  go_end0
  exact listPost_ok HL.out r1 (hQ _ _ _ q k1)
 | none =>
  have HL:Hid (listOf one shut s=more one shut (s.length+1) s):=by show _=_;unfold listOf;rw [h1]
  have hsk:=skip_len s
  have HO:Hid (listOf one shut s=more one shut (s.length+1) s):=HL.out
  clear HL
  go_enter Tryz.func335,Tryz.ntmps335
  go_wp2_with fail
  refine (take_any b s shut w h).mono ?_
  rintro e w1 ⟨rfl,r1,k1⟩
  rw [h1]
  rw [taken_none h1] at r1
  have q1:=hQ _ _ _ q k1
  clear h q k1
  go_wp2_with fail
  refine (H [] (skip s) w1 q1 r1 (by simp;omega)).mono ?_
  rw [hsp]
  cases h2:one s with
  | none =>
   rintro e w2 ⟨rfl,g2⟩
   have HN:Hid (listOf one shut s=none):=by show _=_;rw [HO.out,more_none _ h2]
   clear HO
   go_wp2
   exact ⟨rfl,listPost_no HN.out g2⟩
  | some p =>
   obtain ⟨x,r2⟩:=p
   rintro e w2 ⟨rfl,d2,q2⟩
   have hl2:=hsh _ _ _ h2
   have HB:Hid (listOf one shut s=behind one shut s.length [x] r2):=by show _=_;rw [HO.out,more_behind _ h2]
   clear HO
   go_wp2
   go_loopw [] (fun wr=>∃ acc r n,rdr wr b r∧Q acc wr∧r.length < n∧acc.length+r.length≤4000∧listOf one shut s=behind one shut n acc r) (fun wr=>left b wr)
   case atStart=>exact ⟨[x],r2,s.length,d2,by simpa using q2,hl2,by simp;omega,HB.out⟩
   case round =>
    obtain ⟨acc,r,n,d,q,hn,hl,hB⟩:=hrel
    have HB:Hid (listOf one shut s=behind one shut n acc r):=hB
    have HL2:Hid (left b wr=r.length):=left_of d
    clear hB
    cases h3:tak shut r with
    | some r' =>
     have HE:Hid (listOf one shut s=some (acc,r')):=by show _=_;rw [HB.out,behind_end _ _ h3]
     clear HB
     go_wp2_with fail
     refine (take_any b r shut _ d).mono ?_
     rintro e w3 ⟨rfl,d3,k3⟩
     rw [h3]
     rw [taken_some h3] at d3
     go_wp2
     go_end0
     exact listPost_ok HE.out d3 (hQ _ _ _ q k3)
    | none =>
     go_wp2_with fail
     refine (take_any b r shut _ d).mono ?_
     rintro e w3 ⟨rfl,d3,k3⟩
     rw [h3]
     rw [taken_none h3] at d3
     have q3:=hQ _ _ _ q k3
     clear q k3 d
     cases h4:tak [44] r with
     | none =>
      have HN:Hid (listOf one shut s=none):=by show _=_;rw [HB.out,behind_no _ _ h3 h4]
      clear HB
      go_wp2_with fail
      refine (take_any b (skip r) [44] _ d3).mono ?_
      rintro e w4 ⟨rfl,d4,k4⟩
      rw [tak_skip,h4]
      go_wp2_with (go_at_call 322;refine (need_no _).mono ?_;rintro e w' ⟨rfl,rfl⟩)
      exact ⟨rfl,listPost_no HN.out (hG _ _ (hQ _ _ _ q3 k4))⟩
     | some r' =>
      have hl4:=tak_len h4
      simp only [List.length_cons,List.length_nil] at hl4
      obtain ⟨m,rfl⟩:∃ m,n=m+1:=⟨n - 1,by omega⟩
      go_wp2_with fail
      refine (take_any b (skip r) [44] _ d3).mono ?_
      rintro e w4 ⟨rfl,d4,k4⟩
      rw [tak_skip,h4]
      rw [show taken [44] (skip r)=r' from taken_some (by rw [tak_skip,h4])] at d4
      have q4:=hQ _ _ _ q3 k4
      clear q3 k4 d3
      go_wp2_with (go_at_call 322;refine (need_ok _).mono ?_;rintro e w' ⟨rfl,rfl⟩)
      refine (H acc r' _ q4 d4 (by omega)).mono ?_
      cases h5:one r' with
      | none =>
       rintro e w5 ⟨rfl,g5⟩
       have HN:Hid (listOf one shut s=none):=by show _=_;rw [HB.out,behind_bad _ _ h3 h4 h5]
       clear HB
       go_wp2
       exact ⟨rfl,listPost_no HN.out g5⟩
      | some p =>
       obtain ⟨y,r5⟩:=p
       rintro e w5 ⟨rfl,d5,q5⟩
       have hl5:=hsh _ _ _ h5
       have HB2:Hid (listOf one shut s=behind one shut m (acc++[y]) r5):=by show _=_;rw [HB.out,behind_on _ _ h3 h4 h5]
       clear HB
       have HL5:=left_of d5
       go_wp2
       go_roundw
       case rel=>exact ⟨acc++[y],r5,m,d5,q5,by omega,by simp;omega,HB2.out⟩
       case measure=>have:=HL2.out;omega
theorem Tryz.infoV:(Tryz.prog.info? 389).map (fun i=>(i.zero,i.size,i.bytes))=some (some .nilIface,1,16):=by kernel_rfl
theorem vapp_step {w:World} {ops:Array Oper} {o:Oper} {a:Act} {K:Act→World→Prop} {Q:Exit→Act→World→Prop} {E:Prop} (hgd:o.guard=none) (s x:Operand)
  (ho:o.op=.call { callee:=.builtin .append,args:=#[s,x],argTypes:=#[397,397] })
  (B n:Nat) (us:List Value) (u:Value) (hu:u.oneCell'=true) (v:Value) (hs:a.eval s=v) (hown:w.ownsRow B 389 1 v n us) (H:Nat) (hx:a.eval x=.slice (some ⟨H,0,none⟩) 1 1)
  (fr:Nat×Nat) (hblk:w.heap[H]?=some (.cells #[u] 389 fr)) (hlen:n≤1000000000) (hB:B≤w.heap.size)
  (h:∀ g cap w',w'.ownsRow B 389 1 (.slice (some ⟨g,0,none⟩) (n+1) cap) (n+1) (us++[u])→w.grownBy w' v.ownBlock→(v.ownBlock=some g∨g=w.heap.size)→K (a.put o.dst (.slice (some ⟨g,0,none⟩) (n+1) cap)) w') :
  if Region.wanted o (yielded ops a.tmps)=true then Oper.wp Tryz.prog o a w K Q else E:=by
 obtain ⟨i0,hi,hz0,hz1,hz2⟩:=info_parts Tryz.infoV
 refine step_append_lies _ hgd s x 397 ho B 389 i0 .nilIface 1 16 Tryz.underlying397 hi hz0 hz1 hz2 rfl (by omega) v n us hs hown ⟨H,0,none⟩ 1 1 [u] hx (by simp)
  (fun j u hu=>World.news_of_block hblk j u (by simpa using hu)) (by intro y hy;simp at hy;subst hy;exact hu) (by omega) (by unfold maxLen;omega) (by omega) hB w.heap.size rfl ?_
 intro g cap w' h1 h2 h3 _
 exact h g cap w' h1 h2 h3
def valPost (k:Nat) (w:World) (b:Nat) (o:Option (J×List UInt8)) (e:Ending) (w':World):Prop :=
 match o with
 | none=>e=.panicked noJ∧w.grownBy w' (some b)
 | some (j,r)=>∃ v,e=.returned v∧rdr w' b r∧w.grownBy w' (some b)∧repJ k w' (fun g=>w.heap.size≤g) v j
def ValAt (k:Nat):Prop:=∀ (b:Nat) (s:List UInt8) (w:World) (d:Int),rdr w b s→s.length≤4000→0≤d→d+k=7 →
 Calls Tryz.prog 320 #[.pointer (some ⟨b,0,none⟩),.int .i64 d] w (valPost k w b (val k s))
theorem repJ.iface:∀ (k:Nat) {w:World} {P:Nat→Prop} {v:Value} {j:J},repJ k w P v j→∃ t x,v=.iface t x
 | 0,_,_,_,_,h=>h.elim
 | _+1,_,_,_,.str _,h=>⟨_,_,h.1⟩
 | _+1,_,_,_,.bool _,h=>⟨_,_,h⟩
 | _+1,_,_,_,.null,h=>⟨_,_,h⟩
 | _+1,_,_,_,.arr _,⟨_,_,h1,_⟩=>⟨_,_,h1⟩
 | _+1,_,_,_,.obj _,⟨_,_,h1,_⟩=>⟨_,_,h1⟩
structure AQ (k b R O V B:Nat) (d:Int) (w0:World) (acc:List J) (w:World):Prop where
 lR:R < B
 lO:O < B
 lV:V < B
 lb:b < B
 nR:¬ R=b
 nO:¬ O=b
 nV:¬ V=b
 nRV:¬ R=V
 nOV:¬ O=V
 top:B≤w.heap.size
 old:w0.heap.size≤V
 oldB:w0.heap.size≤B
 cR:w.cell? ⟨R,0,none⟩=some (.pointer (some ⟨b,0,none⟩))
 cO:w.cell? ⟨O,0,none⟩=some (.int .i64 d)
 fV:w.frozen? ⟨V,0,none⟩=false
 kept:w0.grownBy w (some b)
 vals:∃ sl us,w.cell? ⟨V,0,none⟩=some sl∧w.ownsRow B 389 1 sl acc.length us∧all2 (repJ k w (fun g=>B≤g∧sl.ownBlock≠some g)) us acc
theorem AQ.grown {k b R O V B:Nat} {d:Int} {w0:World} {acc:List J} {w w':World} (q:AQ k b R O V B d w0 acc w) (h:w.grownBy w' (some b)):AQ k b R O V B d w0 acc w':=by
 have K:=Kept.of_grown1 h
 obtain ⟨sl,us,h1,h2,h3⟩:=q.vals
 have hV:=q.lV;have ht:=q.top;have hs:=h.size;have hb:=q.lb
 refine ⟨q.lR,q.lO,q.lV,q.lb,q.nR,q.nO,q.nV,q.nRV,q.nOV,by omega,q.old,q.oldB,K.cell q.cR q.nR,K.cell q.cO q.nO,K.frozen (a:=⟨V,0,none⟩) (show V < _ by omega) q.fV q.nV,grown_trans q.kept h,sl,us,K.cell h1 q.nV,?_,?_⟩
 ·exact K.row h2 (fun g hg e=>by have:=(World.ownsRow.lt h2 g hg).1;omega)
 ·exact all2_mono (fun _ _ hr=>repJ.kept k hr K (fun g hg e=>by omega)) h3
theorem AQ.push {k b R O V B:Nat} {d:Int} {w0:World} {acc:List J} {w w1 wA w3:World} (q:AQ k b R O V B d w0 acc w) {sl:Value} {us:List Value} (hsl:w.cell? ⟨V,0,none⟩=some sl)
  (hall:all2 (repJ k w (fun g=>B≤g∧sl.ownBlock≠some g)) us acc) (hrow:w.ownsRow B 389 1 sl acc.length us)
  {v:Value} {j:J} (h1:w.grownBy w1 (some b)) (hj:repJ k w1 (fun g=>w.heap.size≤g) v j) (hA:Below w1.heap.size w1 wA) {g cap:Nat}
  (h3:w3.ownsRow B 389 1 (.slice (some ⟨g,0,none⟩) (acc.length+1) cap) (acc.length+1) (us++[v])) (h4:wA.grownBy w3 sl.ownBlock) (h5:sl.ownBlock=some g∨g=wA.heap.size) :
  AQ k b R O V B d w0 (acc++[j]) (w3.setCell ⟨V,0,none⟩ (.slice (some ⟨g,0,none⟩) (acc.length+1) cap)):=by
 have hV:=q.lV;have ht:=q.top;have hs1:=h1.size;have hb:=q.lb;have hsA:=hA.size;have hs4:=h4.size;have hR:=q.lR;have hO:=q.lO;have ho:=q.old;have hoB:=q.oldB
 have nV:=q.nV;have nRV:=q.nRV;have nOV:=q.nOV;have nR:=q.nR;have nO:=q.nO
 have hslB:=fun g hg=>(World.ownsRow.lt hrow g hg)
 have nsl:∀ x,x < B→¬ sl.ownBlock=some x:=fun x hx e=>by have:=(hslB _ e).1;omega
 have K1:Kept (fun x=>x=b∨sl.ownBlock=some x) w w3 :=
  ((Kept.of_grown1 h1).trans (T:=fun x=>w1.heap.size≤x) (Kept.of_below hA) (S:=(·=b)) (fun x hx e=>by omega)).mono (T:=fun x=>x=b∨sl.ownBlock=some x) (fun _ _ e=>Or.inl e) |>.trans (Kept.of_grown h4) (fun x _ e=>Or.inr e)
 have KV:Kept (·=V) w3 (w3.setCell ⟨V,0,none⟩ (.slice (some ⟨g,0,none⟩) (acc.length+1) cap)):=Kept.of_grown1 (grown_set _ _ _ _)
 have cV3:w3.cell? ⟨V,0,none⟩=some sl:=K1.cell hsl (fun h=>h.elim nV (nsl V hV))
 have fV3:w3.frozen? ⟨V,0,none⟩=false:=K1.frozen (a:=⟨V,0,none⟩) (show V < _ by omega) q.fV (fun h=>h.elim nV (nsl V hV))
 have KK:Kept (fun x=>x=b∨w0.heap.size≤x) w0 (w3.setCell ⟨V,0,none⟩ (.slice (some ⟨g,0,none⟩) (acc.length+1) cap)) :=
  ((Kept.of_grown1 q.kept).mono (T:=fun x=>x=b∨w0.heap.size≤x) (fun _ _ e=>Or.inl e)).trans K1 (fun x hx e=>e.elim Or.inl (fun e=>Or.inr (by have:=(hslB _ e).1;omega))) |>.trans KV (fun x hx e=>by omega)
 refine ⟨q.lR,q.lO,q.lV,q.lb,q.nR,q.nO,q.nV,q.nRV,q.nOV,by simp;omega,q.old,q.oldB,?_,?_,?_,?_,.slice (some ⟨g,0,none⟩) (acc.length+1) cap,us++[v],?_,?_,?_⟩
 ·exact KV.cell (K1.cell q.cR (fun h=>h.elim nR (nsl R hR))) nRV
 ·exact KV.cell (K1.cell q.cO (fun h=>h.elim nO (nsl O hO))) nOV
 ·simp [go_sem,fV3]
 ·exact (KK.mono (T:=(·=b)) (fun x hx e=>by omega)).grown
 ·simp [go_sem,cV3]
 ·rw [List.length_append];exact KV.row h3 (fun x hx e=>by have:=(World.ownsRow.lt h3 x hx).1;omega)
 ·refine all2_snoc ?_ ?_
  ·have hj1:=repJ.inb k hj
   have K3:Kept (fun x=>x=V∨sl.ownBlock=some x∨w1.heap.size≤x) w1 (w3.setCell ⟨V,0,none⟩ (.slice (some ⟨g,0,none⟩) (acc.length+1) cap)) :=
    (((Kept.of_below hA).mono (T:=fun x=>x=V∨sl.ownBlock=some x∨w1.heap.size≤x) (fun _ _ e=>Or.inr (Or.inr e))).trans (Kept.of_grown h4) (fun x _ e=>Or.inr (Or.inl e))).trans KV (fun x _ e=>Or.inl e)
   refine repJ.mono k (repJ.kept k hj1 K3 ?_) ?_
   ·rintro x ⟨e1,e2⟩ (e|e|e)
    ·omega
    ·have:=(hslB _ e).2;omega
    ·omega
   ·rintro x ⟨e1,e2⟩
    refine ⟨by omega,fun e=>?_⟩
    simp [Value.ownBlock] at e
    subst e
    rcases h5 with e|e
    ·have:=(hslB _ e).2;omega
    ·omega
  ·refine all2_mono (fun u i hr=>?_) hall
   refine repJ.mono k (repJ.kept k (repJ.kept k (repJ.inb k hr) K1 ?_) KV ?_) ?_
   ·rintro x ⟨⟨e1,e2⟩,e3⟩ (e|e)
    ·omega
    ·exact e2 e
   ·rintro x ⟨⟨e1,e2⟩,e3⟩ e
    omega
   ·rintro x ⟨⟨e1,e2⟩,e3⟩
    refine ⟨e1,fun e=>?_⟩
    simp [Value.ownBlock] at e
    subst e
    rcases h5 with e|e
    ·exact e2 e
    ·omega
theorem cell_alloc {w:World} {p:Addr} {v:Value} (h:w.cell? p=some v) (o:Obj):(w.alloc o).cell? p=some v :=
 (World.grownBy_alloc w o none).cell h (by simp)
theorem heap_new_eq {w:World} {c c':Array Value} {t:TypeId} (h:c=c'):(w.alloc (.cells c t)).heap[w.heap.size]?=some (.cells c' t (0,0)):=by
 subst h;exact heap_alloc_new w _
theorem grown_drew {w w':World} {r:Option Nat} (h:w.drew.grownBy w' r):w.grownBy w' r:=⟨h.os,h.tape,h.output,h.size,h.block⟩
theorem rdr.drew {w:World} {b:Nat} {l:List UInt8} (h:rdr w b l):rdr w.drew b l:=h
theorem below_drew (w:World):Below w.heap.size w w.drew:=⟨rfl,rfl,rfl,Nat.le_refl _,fun _ _=>rfl⟩
theorem arrOne (k b R O V B:Nat) (d:Int) (w0:World) (IH:ValAt k) (hd:d+k=7) (hd0:0≤d) (acc:List J) (s:List UInt8) (w:World) (q:AQ k b R O V B d w0 acc w) (h:rdr w b s) (hs:acc.length+s.length≤4000) :
  Calls Tryz.prog 337 #[.pointer (some ⟨V,0,none⟩),.pointer (some ⟨R,0,none⟩),.pointer (some ⟨O,0,none⟩)] w
   (onePost b (AQ k b R O V B d w0) (fun w'=>w0.grownBy w' (some b)) acc (val k s)):=by
 have cR:=q.cR;have cO:=q.cO;have fV:=q.fV
 obtain ⟨sl,us,cV,hrow,hall⟩:=q.vals
 have lV:=q.lV;have nV:=q.nV;have nR:=q.nR;have nO:=q.nO;have top:=q.top
 have RV:Hid (_):=IH b s
 cases hv:val k s with
 | none =>
  rw [hv] at RV
  go_enter Tryz.func337,Tryz.ntmps337
  go_wp2_with fail
  refine wp_region_held (S:=fun w'=>w'.cell? ⟨V,0,none⟩=some sl∧w'.cell? ⟨R,0,none⟩=some (.pointer (some ⟨b,0,none⟩))∧w'.cell? ⟨O,0,none⟩=some (.int .i64 d)) (by kernel_rfl) ?_
  refine wpAnyH_take (i:=0) (v:=sl) rfl (by kernel_rfl) (by kernel_rfl) (by kernel_rfl) (fun _ _ _ h=>h) (Or.inl ⟨by rfl,?_⟩) ⟨cV,cR,cO⟩ ?_
  ·intro w hSw
   obtain ⟨s1,s2,s3⟩:=hSw
   go_simp
  simp only [Act.put,List.setIfInBounds_toArray]
  refine wpAnyH_take (i:=1) (v:=.pointer (some ⟨b,0,none⟩)) rfl (by kernel_rfl) (by kernel_rfl) (by kernel_rfl) (fun _ _ _ h=>h) (Or.inl ⟨by rfl,?_⟩) ⟨cV,cR,cO⟩ ?_
  ·intro w hSw
   obtain ⟨s1,s2,s3⟩:=hSw
   go_simp
  simp only [Act.put]
  refine wpAnyH_take (i:=2) (v:=.int .i64 d) rfl (by kernel_rfl) (by kernel_rfl) (by kernel_rfl) (fun _ _ _ h=>h) (Or.inl ⟨by rfl,?_⟩) ⟨cV,cR,cO⟩ ?_
  ·intro w hSw
   obtain ⟨s1,s2,s3⟩:=hSw
   go_simp
  simp only [Act.put]
  refine wpAnyH_ready (rs:=[3]) (by kernel_rfl) (by simp) ?_
  refine AllReadyH.cons rfl (fun K hK=>?_) AllReadyH.nil
  go_simp
  refine (RV.out w.drew d h.drew (by omega) hd0 hd).mono ?_
  rintro e w6 ⟨rfl,g6⟩
  exact ⟨rfl,rfl,grown_trans q.kept (grown_drew g6)⟩
 | some p =>
  obtain ⟨j,r⟩:=p
  rw [hv] at RV
  go_enter Tryz.func337,Tryz.ntmps337
  go_wp2_with fail
  have OB:∀ x,x < B→some x≠sl.ownBlock:=fun x hx e=>by have:=(World.ownsRow.lt hrow x e.symm).1;omega
  have lR:=q.lR;have lO:=q.lO
  have cV0:w.cell? ⟨V,0,none⟩=some sl:=cV
  have HL:acc.length≤1000000000:=by omega
  have nRV:=q.nRV;have nOV:=q.nOV
  go_region_law
   (first
    | (go_simp;go_at_call 320;refine (RV.out _ d (by first|exact h|exact h.drew) (by omega) hd0 hd).mono ?_;rintro e w6 ⟨v,rfl,r6,g6,j6⟩;obtain ⟨vt,vx,rfl⟩:=repJ.iface k j6;replace g6:=grown_drew g6;have z6:=g6.size;have k6:=Kept.of_grown1 g6;replace fV:=k6.frozen (a:=⟨V,0,none⟩) (show V < w.heap.size by omega) fV nV;replace cV:=g6.cell cV (by simp;omega);replace cR:=g6.cell cR (by simp;omega);replace cO:=g6.cell cO (by simp;omega);have cVa:=cell_alloc cV (.cells #[.iface vt vx] 389);have row6:=(Kept.of_grown1 g6).row hrow (fun x hx e=>absurd (World.ownsRow.lt hrow x hx).1 (by have:=q.lb;omega)))
    | (refine vapp_step rfl _ _ rfl B acc.length us (.iface vt vx) rfl _ rfl (row6.alloc _) _ rfl _ (heap_alloc_new _ _) HL (by simp;omega) ?_;intro g cap w8 row8 g8 h8;have cV8:=g8.cell (cell_alloc cV _) (OB V lV);have fV8:=(Kept.of_grown g8).frozen (a:=⟨V,0,none⟩) (by simp;omega) ((Kept.of_grown (World.grownBy_alloc _ _ none)).frozen (a:=⟨V,0,none⟩) (show V < w6.heap.size by omega) fV (by simp)) (fun e=>OB V lV e.symm)))
  all_goals go_end0
  all_goals exact ⟨rfl,(Kept.of_grown1 (grown_set _ _ _ _)).rdr ((Kept.of_grown g8).rdr ((Kept.of_grown (World.grownBy_alloc _ _ none)).rdr r6 (by simp)) (fun e=>OB b q.lb e.symm)) (fun e=>nV e.symm),q.push cV0 hall hrow g6 j6 ((Below.refl _ _).alloc (Nat.le_refl _) _) row8 g8 h8⟩
theorem row_mono {w:World} {B:Nat} {e:TypeId} {size:Nat} {v:Value} {n:Nat} {xs:List Value} (h:w.ownsRow B e size v n xs):w.ownsRow 0 e size v n xs:=by
 refine ⟨h.1,?_⟩
 rcases h.2 with h0|⟨g,cap,cur,hv,_,rest⟩
 ·exact .inl h0
 ·exact .inr ⟨g,cap,cur,hv,Nat.zero_le _,rest⟩
theorem val_skip:∀ (k:Nat) (s:List UInt8),val k (skip s)=val k s
 | 0,_=>rfl
 | k+1,s=>by rw [val,val];simp only [tak_skip]
theorem memOf_skip {X:Type} (v:List UInt8→Option (X×List UInt8)) (s:List UInt8):memOf v (skip s)=memOf v s:=by unfold memOf;rw [tak_skip]
def arrPost (k:Nat) (w:World) (b:Nat) (o:Option (List J×List UInt8)) (e:Ending) (w':World):Prop :=
 match o with
 | none=>e=.panicked noJ∧w.grownBy w' (some b)
 | some (l,r)=>∃ sl,e=.returned sl∧rdr w' b r∧w.grownBy w' (some b)∧repJ (k+1) w' (fun g=>w.heap.size≤g) (.iface 397 sl) (.arr l)
theorem AQ.start (k b:Nat) (d:Int) (w:World) (hb:b < w.heap.size) :
  AQ k b w.heap.size (w.heap.size+1) (w.heap.size+1+1) (w.heap.size+1+1+1) d w [] (((w.alloc (.cells #[.pointer (some ⟨b,0,none⟩)] 404)).alloc (.cells #[.int .i64 d] 3)).alloc (.cells #[.slice none 0 0] 397)):=by
 refine ⟨by omega,by omega,by omega,by omega,by omega,by omega,by omega,by omega,by omega,by simp,by omega,by omega,?_,?_,?_,?_,.slice none 0 0,[],?_,World.ownsRow_nil _ _ _ _,trivial⟩
 ·simp [go_sem]
 ·simp [go_sem]
 ·simp [go_sem]
 ·exact (((Kept.refl (·=b) w).alloc _).alloc _).alloc _ |>.grown
 ·simp [go_sem]
theorem AQ.done {k b R O V B:Nat} {d:Int} {w0:World} {acc:List J} {w:World} (q:AQ k b R O V B d w0 acc w) :
  ∃ sl,w.cell? ⟨V,0,none⟩=some sl∧repJ (k+1) w (fun g=>w0.heap.size≤g) (.iface 397 sl) (.arr acc):=by
 obtain ⟨sl,us,h1,h2,h3⟩:=q.vals
 have:=q.oldB
 refine ⟨sl,h1,sl,us,rfl,row_mono h2,fun g hg=>by have:=(World.ownsRow.lt h2 g hg).1;omega,all2_mono (fun _ _ hr=>repJ.mono k hr (fun g hg=>⟨by omega,hg.2⟩)) h3⟩
theorem readArray_any (k b:Nat) (d:Int) (s:List UInt8) (w:World) (IH:ValAt k) (hd:d+k=7) (hd0:0≤d) (h:rdr w b s) (hs:s.length≤4000) :
  Calls Tryz.prog 330 #[.pointer (some ⟨b,0,none⟩),.int .i64 d] w (arrPost k w b (listOf (val k) [93] s)):=by
 have hmf:∀ (fn:Fn) (first cap:Array Value) (w:World),(Instr.makeFunc fn first cap).run Tryz.prog w=.ok (.func fn first cap) w:=fun _ _ _ _=>rfl
 have q0:=AQ.start k b d w h.lt
 have r0:rdr (((w.alloc (.cells #[.pointer (some ⟨b,0,none⟩)] 404)).alloc (.cells #[.int .i64 d] 3)).alloc (.cells #[.slice none 0 0] 397)) b s :=
  ((((Kept.refl (fun _=>False) w).alloc _).alloc _).alloc _).rdr h (fun e=>e)
 have C:Hid (_):=readList_any (val k) (val_shrinks k) (val_skip k) b 337 #[.pointer (some ⟨w.heap.size+1+1,0,none⟩),.pointer (some ⟨w.heap.size,0,none⟩),.pointer (some ⟨w.heap.size+1,0,none⟩)] [93]
  (enters_of Tryz.func337 (by kernel_rfl) rfl)
  (AQ k b w.heap.size (w.heap.size+1) (w.heap.size+1+1) (w.heap.size+1+1+1) d w) (fun w'=>w.grownBy w' (some b)) (fun _ _ _ q h=>q.grown h) (fun _ _ q=>q.kept)
  (fun acc s w1 q r hl=>arrOne k b _ _ _ _ d w IH hd hd0 acc s w1 q r hl) s
 go_enter Tryz.func330,Tryz.ntmps330
 go_wp2_with fail
 refine (C.out _ r0 hs q0).mono ?_
 clear C
 cases hl:listOf (val k) [93] s with
 | none =>
  rintro e w1 ⟨rfl,g1⟩
  go_wp2
  exact ⟨rfl,rfl,g1⟩
 | some p =>
  obtain ⟨l,r⟩:=p
  rintro e w1 ⟨rfl,r1,q1⟩
  obtain ⟨sl,c1,j1⟩:=q1.done
  have g1:=q1.kept
  clear q1 q0 r0
  go_wp2
  go_ret
  rw [hl]
  exact ⟨sl,rfl,r1,g1,j1⟩
theorem Tryz.infoM:(Tryz.prog.info? 408).map (fun i=>(i.zero,i.size,i.bytes))=some (some (.agg #[.string ⟨#[]⟩,.nilIface]),2,32):=by kernel_rfl
theorem mapp_step {w:World} {ops:Array Oper} {o:Oper} {a:Act} {K:Act→World→Prop} {Q:Exit→Act→World→Prop} {E:Prop} (hgd:o.guard=none) (s x:Operand)
  (ho:o.op=.call { callee:=.builtin .append,args:=#[s,x],argTypes:=#[401,401] })
  (B n:Nat) (us:List Value) (nm:List UInt8) (u:Value) (hu:u.oneCell'=true) (v:Value) (hs:a.eval s=v) (hown:w.ownsRow B 408 2 v n us) (H:Nat) (hx:a.eval x=.slice (some ⟨H,0,none⟩) 1 1)
  (fr:Nat×Nat) (hblk:w.heap[H]?=some (.cells #[str nm,u] 408 fr)) (hlen:n≤1000000000) (hB:B≤w.heap.size)
  (h:∀ g cap w',w'.ownsRow B 408 2 (.slice (some ⟨g,0,none⟩) (n+1) cap) (n+1) (us++[str nm,u])→w.grownBy w' v.ownBlock→(v.ownBlock=some g∨g=w.heap.size)→K (a.put o.dst (.slice (some ⟨g,0,none⟩) (n+1) cap)) w') :
  if Region.wanted o (yielded ops a.tmps)=true then Oper.wp Tryz.prog o a w K Q else E:=by
 obtain ⟨i0,hi,hz0,hz1,hz2⟩:=info_parts Tryz.infoM
 refine step_append_lies _ hgd s x 401 ho B 408 i0 (.agg #[.string ⟨#[]⟩,.nilIface]) 2 32 Tryz.underlying401 hi hz0 hz1 hz2 rfl (by omega) v n us hs hown ⟨H,0,none⟩ 1 1 [str nm,u] hx (by simp)
  (fun j u hu=>World.news_of_block hblk j u (by simpa using hu)) (by intro y hy;simp at hy;rcases hy with rfl|rfl <;> first|rfl|exact hu) (by omega) (by unfold maxLen;omega) (by omega) hB w.heap.size rfl ?_
 intro g cap w' h1 h2 h3 _
 exact h g cap w' h1 h2 h3
structure OQ (k b R O V B:Nat) (d:Int) (w0:World) (acc:List (List UInt8×J)) (w:World):Prop where
 lR:R < B
 lO:O < B
 lV:V < B
 lb:b < B
 nR:¬ R=b
 nO:¬ O=b
 nV:¬ V=b
 nRV:¬ R=V
 nOV:¬ O=V
 top:B≤w.heap.size
 old:w0.heap.size≤V
 oldB:w0.heap.size≤B
 cR:w.cell? ⟨R,0,none⟩=some (.pointer (some ⟨b,0,none⟩))
 cO:w.cell? ⟨O,0,none⟩=some (.int .i64 d)
 fV:w.frozen? ⟨V,0,none⟩=false
 kept:w0.grownBy w (some b)
 vals:∃ sl us,w.cell? ⟨V,0,none⟩=some sl∧w.ownsRow B 408 2 sl acc.length (mcells us)∧all2 (fun (u:List UInt8×Value) (j:List UInt8×J)=>u.1=j.1∧repJ k w (fun g=>B≤g∧sl.ownBlock≠some g) u.2 j.2) us acc
theorem OQ.grown {k b R O V B:Nat} {d:Int} {w0:World} {acc:List (List UInt8×J)} {w w':World} (q:OQ k b R O V B d w0 acc w) (h:w.grownBy w' (some b)):OQ k b R O V B d w0 acc w':=by
 have K:=Kept.of_grown1 h
 obtain ⟨sl,us,h1,h2,h3⟩:=q.vals
 have hV:=q.lV;have ht:=q.top;have hs:=h.size;have hb:=q.lb
 refine ⟨q.lR,q.lO,q.lV,q.lb,q.nR,q.nO,q.nV,q.nRV,q.nOV,by omega,q.old,q.oldB,K.cell q.cR q.nR,K.cell q.cO q.nO,K.frozen (a:=⟨V,0,none⟩) (show V < _ by omega) q.fV q.nV,grown_trans q.kept h,sl,us,K.cell h1 q.nV,?_,?_⟩
 ·exact K.row h2 (fun g hg e=>by have:=(World.ownsRow.lt h2 g hg).1;omega)
 ·exact all2_mono (fun _ _ hr=>⟨hr.1,repJ.kept k hr.2 K (fun g hg e=>by omega)⟩) h3
theorem OQ.push {k b R O V B:Nat} {d:Int} {w0:World} {acc:List (List UInt8×J)} {w w1 wA w3:World} (q:OQ k b R O V B d w0 acc w) {sl:Value} {us:List (List UInt8×Value)} (hsl:w.cell? ⟨V,0,none⟩=some sl)
  (hall:all2 (fun (u:List UInt8×Value) (j:List UInt8×J)=>u.1=j.1∧repJ k w (fun g=>B≤g∧sl.ownBlock≠some g) u.2 j.2) us acc) (hrow:w.ownsRow B 408 2 sl acc.length (mcells us))
  {nm:List UInt8} {v:Value} {j:J} (h1:w.grownBy w1 (some b)) (hj:repJ k w1 (fun g=>w.heap.size≤g) v j) (hA:Below w1.heap.size w1 wA) {g cap:Nat}
  (h3:w3.ownsRow B 408 2 (.slice (some ⟨g,0,none⟩) (acc.length+1) cap) (acc.length+1) (mcells us++[str nm,v])) (h4:wA.grownBy w3 sl.ownBlock) (h5:sl.ownBlock=some g∨g=wA.heap.size) :
  OQ k b R O V B d w0 (acc++[(nm,j)]) (w3.setCell ⟨V,0,none⟩ (.slice (some ⟨g,0,none⟩) (acc.length+1) cap)):=by
 have hV:=q.lV;have ht:=q.top;have hs1:=h1.size;have hb:=q.lb;have hsA:=hA.size;have hs4:=h4.size;have hR:=q.lR;have hO:=q.lO;have ho:=q.old;have hoB:=q.oldB
 have nV:=q.nV;have nRV:=q.nRV;have nOV:=q.nOV;have nR:=q.nR;have nO:=q.nO
 have hslB:=fun g hg=>(World.ownsRow.lt hrow g hg)
 have nsl:∀ x,x < B→¬ sl.ownBlock=some x:=fun x hx e=>by have:=(hslB _ e).1;omega
 have K1:Kept (fun x=>x=b∨sl.ownBlock=some x) w w3 :=
  ((Kept.of_grown1 h1).trans (T:=fun x=>w1.heap.size≤x) (Kept.of_below hA) (S:=(·=b)) (fun x hx e=>by omega)).mono (T:=fun x=>x=b∨sl.ownBlock=some x) (fun _ _ e=>Or.inl e) |>.trans (Kept.of_grown h4) (fun x _ e=>Or.inr e)
 have KV:Kept (·=V) w3 (w3.setCell ⟨V,0,none⟩ (.slice (some ⟨g,0,none⟩) (acc.length+1) cap)):=Kept.of_grown1 (grown_set _ _ _ _)
 have cV3:w3.cell? ⟨V,0,none⟩=some sl:=K1.cell hsl (fun h=>h.elim nV (nsl V hV))
 have fV3:w3.frozen? ⟨V,0,none⟩=false:=K1.frozen (a:=⟨V,0,none⟩) (show V < _ by omega) q.fV (fun h=>h.elim nV (nsl V hV))
 have KK:Kept (fun x=>x=b∨w0.heap.size≤x) w0 (w3.setCell ⟨V,0,none⟩ (.slice (some ⟨g,0,none⟩) (acc.length+1) cap)) :=
  ((Kept.of_grown1 q.kept).mono (T:=fun x=>x=b∨w0.heap.size≤x) (fun _ _ e=>Or.inl e)).trans K1 (fun x hx e=>e.elim Or.inl (fun e=>Or.inr (by have:=(hslB _ e).1;omega))) |>.trans KV (fun x hx e=>by omega)
 refine ⟨q.lR,q.lO,q.lV,q.lb,q.nR,q.nO,q.nV,q.nRV,q.nOV,by simp;omega,q.old,q.oldB,?_,?_,?_,?_,.slice (some ⟨g,0,none⟩) (acc.length+1) cap,us++[(nm,v)],?_,?_,?_⟩
 ·exact KV.cell (K1.cell q.cR (fun h=>h.elim nR (nsl R hR))) nRV
 ·exact KV.cell (K1.cell q.cO (fun h=>h.elim nO (nsl O hO))) nOV
 ·simp [go_sem,fV3]
 ·exact (KK.mono (T:=(·=b)) (fun x hx e=>by omega)).grown
 ·simp [go_sem,cV3]
 ·rw [List.length_append,show mcells (us++[(nm,v)])=mcells us++[str nm,v] by simp [mcells]];exact KV.row h3 (fun x hx e=>by have:=(World.ownsRow.lt h3 x hx).1;omega)
 ·refine all2_snoc ?_ ?_
  ·have hj1:=repJ.inb k hj
   have K3:Kept (fun x=>x=V∨sl.ownBlock=some x∨w1.heap.size≤x) w1 (w3.setCell ⟨V,0,none⟩ (.slice (some ⟨g,0,none⟩) (acc.length+1) cap)) :=
    (((Kept.of_below hA).mono (T:=fun x=>x=V∨sl.ownBlock=some x∨w1.heap.size≤x) (fun _ _ e=>Or.inr (Or.inr e))).trans (Kept.of_grown h4) (fun x _ e=>Or.inr (Or.inl e))).trans KV (fun x _ e=>Or.inl e)
   refine ⟨rfl,repJ.mono k (repJ.kept k hj1 K3 ?_) ?_⟩
   ·rintro x ⟨e1,e2⟩ (e|e|e)
    ·omega
    ·have:=(hslB _ e).2;omega
    ·omega
   ·rintro x ⟨e1,e2⟩
    refine ⟨by omega,fun e=>?_⟩
    simp [Value.ownBlock] at e
    subst e
    rcases h5 with e|e
    ·have:=(hslB _ e).2;omega
    ·omega
  ·refine all2_mono (fun u i hr=>?_) hall
   refine ⟨hr.1,repJ.mono k (repJ.kept k (repJ.kept k (repJ.inb k hr.2) K1 ?_) KV ?_) ?_⟩
   ·rintro x ⟨⟨e1,e2⟩,e3⟩ (e|e)
    ·omega
    ·exact e2 e
   ·rintro x ⟨⟨e1,e2⟩,e3⟩ e
    omega
   ·rintro x ⟨⟨e1,e2⟩,e3⟩
    refine ⟨e1,fun e=>?_⟩
    simp [Value.ownBlock] at e
    subst e
    rcases h5 with e|e
    ·exact e2 e
    ·omega
theorem objOne (k b R O V B:Nat) (d:Int) (w0:World) (IH:ValAt k) (hd:d+k=7) (hd0:0≤d) (acc:List (List UInt8×J)) (s:List UInt8) (w:World) (q:OQ k b R O V B d w0 acc w) (h:rdr w b s) (hs:acc.length+s.length≤4000) :
  Calls Tryz.prog 336 #[.pointer (some ⟨R,0,none⟩),.pointer (some ⟨V,0,none⟩),.pointer (some ⟨O,0,none⟩)] w
   (onePost b (OQ k b R O V B d w0) (fun w'=>w0.grownBy w' (some b)) acc (memOf (val k) s)):=by
 have cR0:=q.cR
 go_enter Tryz.func336,Tryz.ntmps336
 go_wp2_with fail
 refine (take_any b s [34] w h).mono ?_
 rintro e w1 ⟨rfl,r1,g1⟩
 replace q:=q.grown g1
 clear g1 h cR0
 cases h1:tak [34] s with
 | none =>
  have HM:Hid (memOf (val k) s=none):=by show _=_;unfold memOf;rw [h1]
  go_wp2_with (go_at_call 322;refine (need_no _).mono ?_;rintro e w' ⟨rfl,rfl⟩)
  refine ⟨rfl,?_⟩
  rw [HM.out]
  exact ⟨rfl,q.kept⟩
 | some s1 =>
  have hl1:=tak_len h1
  simp only [List.length_cons,List.length_nil] at hl1
  rw [taken_some h1] at r1
  have cR1:=q.cR
  go_wp2_with (go_at_call 322;refine (need_ok _).mono ?_;rintro e w' ⟨rfl,rfl⟩)
  refine (readString_any b s1 _ r1 (by omega)).mono ?_
  cases h2:strOf s1 with
  | none =>
   rintro e w2 ⟨rfl,g2⟩
   have HM:Hid (memOf (val k) s=none):=by show _=_;unfold memOf;rw [h1];simp only;rw [h2]
   go_wp2
   refine ⟨rfl,?_⟩
   rw [HM.out]
   exact ⟨rfl,(q.grown g2).kept⟩
  | some p =>
   obtain ⟨nm,s2⟩:=p
   rintro e w2 ⟨rfl,r2,g2⟩
   have hl2:=strOf_len _ s1 (Nat.le_refl _) _ _ h2
   replace q:=q.grown g2
   clear g2 r1 cR1
   have cR2:=q.cR
   go_wp2_with fail
   refine (take_any b s2 [58] w2 r2).mono ?_
   rintro e w3 ⟨rfl,r3,g3⟩
   replace q:=q.grown g3
   clear g3 r2 cR2
   cases h3:tak [58] s2 with
   | none =>
    have HM:Hid (memOf (val k) s=none):=by show _=_;unfold memOf;rw [h1];simp only;rw [h2];simp only;rw [h3]
    go_wp2_with (go_at_call 322;refine (need_no _).mono ?_;rintro e w' ⟨rfl,rfl⟩)
    refine ⟨rfl,?_⟩
    rw [HM.out]
    exact ⟨rfl,q.kept⟩
   | some s3 =>
    have hl3:=tak_len h3
    simp only [List.length_cons,List.length_nil] at hl3
    rw [taken_some h3] at r3
    have cR:=q.cR;have cO:=q.cO;have fV:=q.fV
    obtain ⟨sl,us,cV,hrow,hall⟩:=q.vals
    have lV:=q.lV;have nV:=q.nV;have nR:=q.nR;have nO:=q.nO;have top:=q.top
    have RV:Hid (_):=IH b s3
    have HM:Hid (memOf (val k) s=(val k s3).map (fun p=>((nm,p.1),p.2))):=by show _=_;unfold memOf;rw [h1];simp only;rw [h2];simp only;rw [h3]
    go_wp2_with (go_at_call 322;refine (need_ok _).mono ?_;rintro e w' ⟨rfl,rfl⟩)
    cases hv:val k s3 with
    | none =>
     rw [hv] at RV HM
     refine wp_region_held (S:=fun w'=>w'.cell? ⟨V,0,none⟩=some sl∧w'.cell? ⟨R,0,none⟩=some (.pointer (some ⟨b,0,none⟩))∧w'.cell? ⟨O,0,none⟩=some (.int .i64 d)) (by kernel_rfl) ?_
     refine wpAnyH_take (i:=0) (v:=sl) rfl (by kernel_rfl) (by kernel_rfl) (by kernel_rfl) (fun _ _ _ h=>h) (Or.inl ⟨by rfl,?_⟩) ⟨cV,cR,cO⟩ ?_
     ·intro w hSw
      obtain ⟨s1,s2,s3⟩:=hSw
      go_simp
     simp only [Act.put,List.setIfInBounds_toArray]
     refine wpAnyH_take (i:=1) (v:=str nm) rfl (by kernel_rfl) (by kernel_rfl) (by kernel_rfl) (fun _ _ _ h=>h) (Or.inl ⟨by rfl,?_⟩) ⟨cV,cR,cO⟩ ?_
     ·intro w hSw
      obtain ⟨s1,s2,s3⟩:=hSw
      go_simp
     simp only [Act.put]
     refine wpAnyH_take (i:=2) (v:=.pointer (some ⟨b,0,none⟩)) rfl (by kernel_rfl) (by kernel_rfl) (by kernel_rfl) (fun _ _ _ h=>h) (Or.inl ⟨by rfl,?_⟩) ⟨cV,cR,cO⟩ ?_
     ·intro w hSw
      obtain ⟨s1,s2,s3⟩:=hSw
      go_simp
     simp only [Act.put]
     refine wpAnyH_take (i:=3) (v:=.int .i64 d) rfl (by kernel_rfl) (by kernel_rfl) (by kernel_rfl) (fun _ _ _ h=>h) (Or.inl ⟨by rfl,?_⟩) ⟨cV,cR,cO⟩ ?_
     ·intro w hSw
      obtain ⟨s1,s2,s3⟩:=hSw
      go_simp
     simp only [Act.put]
     refine wpAnyH_ready (rs:=[4]) (by kernel_rfl) (by simp) ?_
     refine AllReadyH.cons rfl (fun K hK=>?_) AllReadyH.nil
     go_simp
     refine (RV.out w3.drew d r3.drew (by omega) hd0 hd).mono ?_
     rintro e w6 ⟨rfl,g6⟩
     refine ⟨rfl,?_⟩
     rw [HM.out]
     exact ⟨rfl,grown_trans q.kept (grown_drew g6)⟩
    | some p =>
     obtain ⟨j,r⟩:=p
     rw [hv] at RV HM
     have OB:∀ x,x < B→some x≠sl.ownBlock:=fun x hx e=>by have:=(World.ownsRow.lt hrow x e.symm).1;omega
     have lR:=q.lR;have lO:=q.lO
     have cV0:w3.cell? ⟨V,0,none⟩=some sl:=cV
     have HL:acc.length≤1000000000:=by omega
     have nRV:=q.nRV;have nOV:=q.nOV
     go_region_law
      (first
       | (go_simp;go_at_call 320;refine (RV.out _ d (by first|exact r3|exact r3.drew) (by omega) hd0 hd).mono ?_;rintro e w6 ⟨v,rfl,r6,g6,j6⟩;obtain ⟨vt,vx,rfl⟩:=repJ.iface k j6;replace g6:=grown_drew g6;have z6:=g6.size;have k6:=Kept.of_grown1 g6;replace fV:=k6.frozen (a:=⟨V,0,none⟩) (show V < w3.heap.size by omega) fV nV;replace cV:=g6.cell cV (by simp;omega);replace cR:=g6.cell cR (by simp;omega);replace cO:=g6.cell cO (by simp;omega);have cVa:=cell_alloc cV (.cells #[str nm,.iface vt vx] 408);have row6:=(Kept.of_grown1 g6).row hrow (fun x hx e=>absurd (World.ownsRow.lt hrow x hx).1 (by have:=q.lb;omega)))
       | (refine mapp_step rfl _ _ rfl B acc.length (mcells us) nm (.iface vt vx) rfl _ rfl (row6.alloc _) _ rfl _ (heap_alloc_new _ _) HL (by simp;omega) ?_;intro g cap w8 row8 g8 h8;have cV8:=g8.cell (cell_alloc cV _) (OB V lV);have fV8:=(Kept.of_grown g8).frozen (a:=⟨V,0,none⟩) (by simp;omega) ((Kept.of_grown (World.grownBy_alloc _ _ none)).frozen (a:=⟨V,0,none⟩) (show V < w6.heap.size by omega) fV (by simp)) (fun e=>OB V lV e.symm)))
     all_goals go_end0
     all_goals rw [HM.out]
     all_goals exact ⟨rfl,(Kept.of_grown1 (grown_set _ _ _ _)).rdr ((Kept.of_grown g8).rdr ((Kept.of_grown (World.grownBy_alloc _ _ none)).rdr r6 (by simp)) (fun e=>OB b q.lb e.symm)) (fun e=>nV e.symm),q.push cV0 hall hrow g6 j6 ((Below.refl _ _).alloc (Nat.le_refl _) _) row8 g8 h8⟩
def objPost (k:Nat) (w:World) (b:Nat) (o:Option (List (List UInt8×J)×List UInt8)) (e:Ending) (w':World):Prop :=
 match o with
 | none=>e=.panicked noJ∧w.grownBy w' (some b)
 | some (l,r)=>∃ sl,e=.returned sl∧rdr w' b r∧w.grownBy w' (some b)∧repJ (k+1) w' (fun g=>w.heap.size≤g) (.iface 401 sl) (.obj l)
theorem OQ.start (k b:Nat) (d:Int) (w:World) (hb:b < w.heap.size) :
  OQ k b w.heap.size (w.heap.size+1) (w.heap.size+1+1) (w.heap.size+1+1+1) d w [] (((w.alloc (.cells #[.pointer (some ⟨b,0,none⟩)] 404)).alloc (.cells #[.int .i64 d] 3)).alloc (.cells #[.slice none 0 0] 401)):=by
 refine ⟨by omega,by omega,by omega,by omega,by omega,by omega,by omega,by omega,by omega,by simp,by omega,by omega,?_,?_,?_,?_,.slice none 0 0,[],?_,World.ownsRow_nil _ _ _ _,trivial⟩
 ·simp [go_sem]
 ·simp [go_sem]
 ·simp [go_sem]
 ·exact (((Kept.refl (·=b) w).alloc _).alloc _).alloc _ |>.grown
 ·simp [go_sem]
theorem OQ.done {k b R O V B:Nat} {d:Int} {w0:World} {acc:List (List UInt8×J)} {w:World} (q:OQ k b R O V B d w0 acc w) :
  ∃ sl,w.cell? ⟨V,0,none⟩=some sl∧repJ (k+1) w (fun g=>w0.heap.size≤g) (.iface 401 sl) (.obj acc):=by
 obtain ⟨sl,us,h1,h2,h3⟩:=q.vals
 have:=q.oldB
 refine ⟨sl,h1,sl,us,rfl,row_mono h2,fun g hg=>by have:=(World.ownsRow.lt h2 g hg).1;omega,all2_mono (fun _ _ hr=>⟨hr.1,repJ.mono k hr.2 (fun g hg=>⟨by omega,hg.2⟩)⟩) h3⟩
theorem readObject_any (k b:Nat) (d:Int) (s:List UInt8) (w:World) (IH:ValAt k) (hd:d+k=7) (hd0:0≤d) (h:rdr w b s) (hs:s.length≤4000) :
  Calls Tryz.prog 329 #[.pointer (some ⟨b,0,none⟩),.int .i64 d] w (objPost k w b (listOf (memOf (val k)) [125] s)):=by
 have hmf:∀ (fn:Fn) (first cap:Array Value) (w:World),(Instr.makeFunc fn first cap).run Tryz.prog w=.ok (.func fn first cap) w:=fun _ _ _ _=>rfl
 have q0:=OQ.start k b d w h.lt
 have r0:rdr (((w.alloc (.cells #[.pointer (some ⟨b,0,none⟩)] 404)).alloc (.cells #[.int .i64 d] 3)).alloc (.cells #[.slice none 0 0] 401)) b s :=
  ((((Kept.refl (fun _=>False) w).alloc _).alloc _).alloc _).rdr h (fun e=>e)
 have C:Hid (_):=readList_any (memOf (val k)) (memOf_shrinks (val_shrinks k)) (memOf_skip _) b 336 #[.pointer (some ⟨w.heap.size,0,none⟩),.pointer (some ⟨w.heap.size+1+1,0,none⟩),.pointer (some ⟨w.heap.size+1,0,none⟩)] [125]
  (enters_of Tryz.func336 (by kernel_rfl) rfl)
  (OQ k b w.heap.size (w.heap.size+1) (w.heap.size+1+1) (w.heap.size+1+1+1) d w) (fun w'=>w.grownBy w' (some b)) (fun _ _ _ q h=>q.grown h) (fun _ _ q=>q.kept)
  (fun acc s w1 q r hl=>objOne k b _ _ _ _ d w IH hd hd0 acc s w1 q r hl) s
 go_enter Tryz.func329,Tryz.ntmps329
 go_wp2_with fail
 refine (C.out _ r0 hs q0).mono ?_
 clear C
 cases hl:listOf (memOf (val k)) [125] s with
 | none =>
  rintro e w1 ⟨rfl,g1⟩
  go_wp2
  exact ⟨rfl,rfl,g1⟩
 | some p =>
  obtain ⟨l,r⟩:=p
  rintro e w1 ⟨rfl,r1,q1⟩
  obtain ⟨sl,c1,j1⟩:=q1.done
  have g1:=q1.kept
  clear q1 q0 r0
  go_wp2
  go_ret
  rw [hl]
  exact ⟨sl,rfl,r1,g1,j1⟩
theorem valPost_no {k:Nat} {w w':World} {b:Nat} {o:Option (J×List UInt8)} (h:o=none) (g:w.grownBy w' (some b)):valPost k w b o (.panicked noJ) w':=by subst h;exact ⟨rfl,g⟩
theorem valPost_ok {k:Nat} {w w':World} {b:Nat} {o:Option (J×List UInt8)} {j:J} {r:List UInt8} {v:Value} (h:o=some (j,r)) (h1:rdr w' b r) (h2:w.grownBy w' (some b)) (h3:repJ k w' (fun g=>w.heap.size≤g) v j):valPost k w b o (.returned v) w':=by
 subst h;exact ⟨v,rfl,h1,h2,h3⟩
theorem val_zero:ValAt 0:=by
 intro b s w d h hs hd0 hd
 obtain rfl:d=7:=by omega
 go_enter Tryz.func320,Tryz.ntmps320
 go_wp2_with (go_at_call 322;refine (need_no _).mono ?_;rintro e w' ⟨rfl,rfl⟩)
 exact ⟨rfl,valPost_no rfl (grown_refl _ _)⟩
theorem repJ_up {k:Nat} {w w' w1:World} {v:Value} {j:J} (h:repJ k w' (fun g=>w1.heap.size≤g) v j) (hs:w.heap.size≤w1.heap.size):repJ k w' (fun g=>w.heap.size≤g) v j :=
 repJ.mono k h (fun g hg=>by omega)
theorem val_succ (k:Nat) (hk:k < 7) (IH:ValAt k):ValAt (k+1):=by
 intro b s w d h hs hd0 hd
 have e7:decide (d≤6)=true:=by simp;omega
 have hd1:d+1+(k:Int)=7:=by omega
 have hd2:0≤d+1:=by omega
 go_enter Tryz.func320,Tryz.ntmps320
 go_wp2_with (go_at_call 322;refine (need_ok _).mono ?_;rintro e w' ⟨rfl,rfl⟩)
 refine (take_any b s [123] w h).mono ?_
 rintro e w1 ⟨rfl,r1,g1⟩
 clear h
 cases h1:tak [123] s with
 | some s1 =>
  rw [taken_some h1] at r1
  have hl:=tak_len h1
  simp only [List.length_cons,List.length_nil] at hl
  have HV:Hid (val (k+1) s=(listOf (memOf (val k)) [125] s1).map (fun p=>(J.obj p.1,p.2))):=by show _=_;rw [val];simp only [h1]
  go_wp2_with fail
  refine (readObject_any k b (d+1) s1 _ IH hd1 hd2 r1 (by omega)).mono ?_
  cases hx:listOf (memOf (val k)) [125] s1 with
  | none =>
   rintro e w' ⟨rfl,g'⟩
   rw [hx] at HV
   go_wp2
   exact ⟨rfl,valPost_no HV.out (grown_trans g1 g')⟩
  | some p =>
   obtain ⟨l,r⟩:=p
   rintro e w' ⟨sl,rfl,r',g',j'⟩
   rw [hx] at HV
   have z':=g1.size
   go_wp2
   go_ret
   exact valPost_ok HV.out r' (grown_trans g1 g') (repJ_up j' z')
 | none =>
  rw [taken_none h1] at r1
  go_wp2_with fail
  refine (take_any b (skip s) [91] _ r1).mono ?_
  rintro e w2 ⟨rfl,r2,k2⟩
  have g2:=grown_trans g1 k2
  rw [tak_skip]
  rw [show taken [91] (skip s)=taken [91] s by unfold taken;rw [tak_skip,skip_skip]] at r2
  clear k2 g1 r1
  cases h2:tak [91] s with
  | some s2 =>
   rw [taken_some h2] at r2
   have hl:=tak_len h2
   simp only [List.length_cons,List.length_nil] at hl
   have HV:Hid (val (k+1) s=(listOf (val k) [93] s2).map (fun p=>(J.arr p.1,p.2))):=by show _=_;rw [val];simp only [h1,h2]
   go_wp2_with fail
   refine (readArray_any k b (d+1) s2 _ IH hd1 hd2 r2 (by omega)).mono ?_
   cases hx:listOf (val k) [93] s2 with
   | none =>
    rintro e w' ⟨rfl,g'⟩
    rw [hx] at HV
    go_wp2
    exact ⟨rfl,valPost_no HV.out (grown_trans g2 g')⟩
   | some p =>
    obtain ⟨l,r⟩:=p
    rintro e w' ⟨sl,rfl,r',g',j'⟩
    rw [hx] at HV
    have z':=g2.size
    go_wp2
    go_ret
    exact valPost_ok HV.out r' (grown_trans g2 g') (repJ_up j' z')
  | none =>
   rw [taken_none h2] at r2
   go_wp2_with fail
   refine (take_any b (skip s) [34] _ r2).mono ?_
   rintro e w3 ⟨rfl,r3,k3⟩
   have g3:=grown_trans g2 k3
   rw [tak_skip]
   rw [show taken [34] (skip s)=taken [34] s by unfold taken;rw [tak_skip,skip_skip]] at r3
   clear k3 g2 r2
   cases h3:tak [34] s with
   | some s3 =>
    rw [taken_some h3] at r3
    have hl:=tak_len h3
    simp only [List.length_cons,List.length_nil] at hl
    have HV:Hid (val (k+1) s=(strOf s3).map (fun p=>(J.str p.1,p.2))):=by show _=_;rw [val];simp only [h1,h2,h3]
    go_wp2_with fail
    refine (readString_any b s3 _ r3 (by omega)).mono ?_
    cases hx:strOf s3 with
    | none =>
     rintro e w' ⟨rfl,g'⟩
     rw [hx] at HV
     go_wp2
     exact ⟨rfl,valPost_no HV.out (grown_trans g3 g')⟩
    | some p =>
     obtain ⟨l,r⟩:=p
     rintro e w' ⟨rfl,r',g'⟩
     rw [hx] at HV
     go_wp2
     go_ret
     exact valPost_ok HV.out r' (grown_trans g3 g') ⟨rfl,by have:=strOf_len _ s3 (Nat.le_refl _) l r hx;show l.length≤4000;omega⟩
   | none =>
    rw [taken_none h3] at r3
    go_wp2_with fail
    refine (take_any b (skip s) tTrue _ r3).mono ?_
    rintro e w4 ⟨rfl,r4,k4⟩
    have g4:=grown_trans g3 k4
    rw [tak_skip]
    rw [show taken tTrue (skip s)=taken tTrue s by unfold taken;rw [tak_skip,skip_skip]] at r4
    clear k4 g3 r3
    cases h4:tak tTrue s with
    | some s4 =>
     have HV:Hid (val (k+1) s=some (J.bool true,s4)):=by show _=_;rw [val];simp only [h1,h2,h3,h4]
     rw [taken_some h4] at r4
     go_wp2
     go_ret
     exact valPost_ok HV.out r4 g4 rfl
    | none =>
     rw [taken_none h4] at r4
     go_wp2_with fail
     refine (take_any b (skip s) tFalse _ r4).mono ?_
     rintro e w5 ⟨rfl,r5,k5⟩
     have g5:=grown_trans g4 k5
     rw [tak_skip]
     rw [show taken tFalse (skip s)=taken tFalse s by unfold taken;rw [tak_skip,skip_skip]] at r5
     clear k5 g4 r4
     cases h5:tak tFalse s with
     | some s5 =>
      have HV:Hid (val (k+1) s=some (J.bool false,s5)):=by show _=_;rw [val];simp only [h1,h2,h3,h4,h5]
      rw [taken_some h5] at r5
      go_wp2
      go_ret
      exact valPost_ok HV.out r5 g5 rfl
     | none =>
      rw [taken_none h5] at r5
      go_wp2_with fail
      refine (take_any b (skip s) tNull _ r5).mono ?_
      rintro e w6 ⟨rfl,r6,k6⟩
      have g6:=grown_trans g5 k6
      rw [tak_skip]
      rw [show taken tNull (skip s)=taken tNull s by unfold taken;rw [tak_skip,skip_skip]] at r6
      clear k6 g5 r5
      cases h6:tak tNull s with
      | some s6 =>
       have HV:Hid (val (k+1) s=some (J.null,s6)):=by show _=_;rw [val];simp only [h1,h2,h3,h4,h5,h6]
       rw [taken_some h6] at r6
       go_wp2
       go_ret
       exact valPost_ok HV.out r6 g6 rfl
      | none =>
       have HV:Hid (val (k+1) s=none):=by show _=_;rw [val];simp only [h1,h2,h3,h4,h5,h6]
       go_wp2
       exact ⟨rfl,valPost_no HV.out g6⟩
end Go.Proofs.YtbllcgibmgbnjaaGreatDoor.P
