import Derived.Test.YtbllcgibmgbnjaaGreatDoorM03
import Derived.WalkKit
import Derived.Test.YtbllcgibmgbnjaaGreatDoorM02
set_option maxHeartbeats 1000000
set_option maxRecDepth 20000
namespace Go.Proofs.YtbllcgibmgbnjaaGreatDoor.P
open Go.RowKit
theorem val_all:∀ k,k≤7→ValAt k
 | 0,_=>val_zero
 | k+1,h=>val_succ k (by omega) (val_all k (by omega))
def textPost (w:World) (b:Nat) (o:Option J) (e:Ending) (w':World):Prop :=
 match o with
 | none=>e=.panicked noJ∧w.grownBy w' (some b)
 | some j=>∃ v,e=.returned v∧w.grownBy w' (some b)∧repJ 7 w' (fun g=>w.heap.size≤g) v j
theorem textPost_no {w w':World} {b:Nat} {o:Option J} (h:o=none) (g:w.grownBy w' (some b)):textPost w b o (.panicked noJ) w':=by subst h;exact ⟨rfl,g⟩
theorem textPost_ok {w w':World} {b:Nat} {o:Option J} {j:J} {v:Value} (h:o=some j) (g:w.grownBy w' (some b)) (r:repJ 7 w' (fun g=>w.heap.size≤g) v j):textPost w b o (.returned v) w':=by subst h;exact ⟨v,rfl,g,r⟩
theorem readText_any (b:Nat) (s:List UInt8) (w:World) (h:rdr w b s) (hs:s.length≤4000) :
  Calls Tryz.prog 314 #[.pointer (some ⟨b,0,none⟩)] w (textPost w b (readJ s)):=by
 have hb:=h.lt
 go_enter Tryz.func314,Tryz.ntmps314
 go_wp2_with fail
 refine Calls.mono (val_all 7 (Nat.le_refl _) b s w 0 h hs (by omega) (by omega)) ?_
 cases hv:val 7 s with
 | none =>
  rintro e w1 ⟨rfl,g1⟩
  have HN:Hid (readJ s=none):=by show _=_;unfold readJ;rw [hv]
  go_wp2
  exact ⟨rfl,textPost_no HN.out g1⟩
 | some p =>
  obtain ⟨j,r⟩:=p
  rintro e w1 ⟨v,rfl,r1,g1,j1⟩
  go_wp2_with fail
  refine (skip_any b r w1 r1).mono ?_
  rintro e w2 ⟨rfl,r2,g2⟩
  have c2:=r2.1
  have G:=grown_trans g1 g2
  have z1:=g1.size
  have j2:=repJ.kept 7 j1 (Kept.of_grown1 g2) (fun g hg e=>by have:g=b:=e;omega)
  cases hr:skip r with
  | nil =>
   have HY:Hid (readJ s=some j):=by show _=_;unfold readJ;rw [hv];simp only;rw [if_pos hr]
   rw [hr] at c2
   go_wp2_with (go_at_call 322;refine (need_ok _).mono ?_;rintro e w' ⟨rfl,rfl⟩)
   go_ret
   exact textPost_ok HY.out G j2
  | cons x y =>
   have HN:Hid (readJ s=none):=by show _=_;unfold readJ;rw [hv];simp only;rw [if_neg (by rw [hr];simp)]
   rw [hr] at c2
   go_wp2_with (go_at_call 322;refine (need_no _).mono ?_;rintro e w' ⟨rfl,rfl⟩)
   exact ⟨rfl,textPost_no HN.out G⟩
theorem jcatch_panicking (a b : Nat) (v : Value) (x : Int) (u : TypeId) (pv : Value) (older : List PanicEntry) (w : World) (hc : w.cell? ⟨a, 0, none⟩ = some v) (hz : w.frozen? ⟨a, 0, none⟩ = false)
   (hc2 : w.cell? ⟨b, 0, none⟩ = some (.int .i64 x)) (hz2 : w.frozen? ⟨b, 0, none⟩ = false) (_hab : ¬ b = a) :
    CallsD Tryz.prog 313 #[.pointer (some ⟨a,0,none⟩),.pointer (some ⟨b,0,none⟩)] (.panicking ({ v:=.iface u pv,recovered:=false } :: older)) w fun e u' w' =>
      e=.returned (.tuple #[])∧u'=.panicking ({ v:=.iface u pv,recovered:=true } :: older)∧w'=(w.setCell ⟨a,0,none⟩ .nilIface).setCell ⟨b,0,none⟩ (.int .i64 2):=by
  refine callsD_of_wpS Tryz.func313 rfl fun c₀ cs hu=>?_
  apply wpS_seq
  apply wpS_region
  simp [wpOpsS,go_sem,recoverD,hu,Tryz.ntmps313,Exit.thenS]
  refine wpS_cond (t:=true) (by simp [Act.eval,Array.replicate]) ?_
  simp only [if_true]
  apply wpS_region
  have hc3:(w.setCell ⟨a,0,none⟩ .nilIface).cell? ⟨b,0,none⟩=some (.int .i64 x):=by rw [World.cell?_setCell_other _ _ _ _ (by simp)];exact hc2
  simp [wpOpsS,go_sem,hc,hz,hz2,hc3,bodyPostS,results,Tryz.results313]
theorem jcatch_idle (a b:Nat) (w:World) :
  CallsD Tryz.prog 313 #[.pointer (some ⟨a,0,none⟩),.pointer (some ⟨b,0,none⟩)] .returning w fun e u' w'=>e=.returned (.tuple #[])∧u'=.returning∧w'=w:=by
 refine callsD_of_wpS Tryz.func313 rfl fun c₀ cs hu=>?_
 apply wpS_seq
 apply wpS_region
 simp [wpOpsS,go_sem,recoverD,hu,Tryz.ntmps313,Exit.thenS]
 refine wpS_cond (t:=false) (by simp [Act.eval,Array.replicate]) ?_
 simp only [Bool.false_eq_true,if_false]
 refine wpS_of_wp (wp_skip ?_)
 cases c₀
 simp_all [bodyPostS,results,Tryz.results313]
def readPost (w:World) (o:Option J) (e:Ending) (w':World):Prop :=
 Below w.heap.size w w'∧match o with
 | none=>e=.returned (.tuple #[.nilIface,.int .i64 2])
 | some j=>∃ v,e=.returned (.tuple #[v,.int .i64 0])∧repJ 7 w' (fun g=>w.heap.size≤g) v j
abbrev jstarted (w:World) (s:List UInt8):World :=
 ((w.alloc (.cells #[.nilIface] 389)).alloc (.cells #[.int .i64 0] 25)).alloc (.cells #[str s] 394)
theorem jstart_rd (w:World) (s:List UInt8):rdr (jstarted w s) (w.heap.size+1+1) s:=by
 refine ⟨?_,?_⟩ <;> simp [go_sem]
theorem jstart_cells (w:World) (s:List UInt8):(jstarted w s).cell? ⟨w.heap.size,0,none⟩=some .nilIface∧(jstarted w s).cell? ⟨w.heap.size+1,0,none⟩=some (.int .i64 0) ∧
  (jstarted w s).frozen? ⟨w.heap.size,0,none⟩=false∧(jstarted w s).frozen? ⟨w.heap.size+1,0,none⟩=false∧(jstarted w s).heap.size=w.heap.size+1+1+1:=by
 refine ⟨?_,?_,?_,?_,?_⟩ <;> simp [go_sem]
theorem jstarted_below (w:World) (s:List UInt8):Below w.heap.size w (jstarted w s) :=
 (((Below.refl _ _).alloc (Nat.le_refl _) _).alloc (by simp) _).alloc (by simp;omega) _
theorem read_any (s:List UInt8) (w:World) (hs:s.length≤4000) :
  Calls Tryz.prog 311 #[str s] w (readPost w (readJ s)):=by
 have hmf:∀ (fn:Fn) (first cap:Array Value) (w:World),(Instr.makeFunc fn first cap).run Tryz.prog w=.ok (.func fn first cap) w:=fun _ _ _ _=>rfl
 have S:=jstart_rd w s
 obtain ⟨c1,c2,f1,f2,z⟩:=jstart_cells w s
 have SB:=jstarted_below w s
 go_enter_defers Tryz.func311,Tryz.ntmps311
 go_wp2_with fail
 refine (readText_any (w.heap.size+1+1) s _ S hs).mono ?_
 cases hd:readJ s with
 | none =>
  rintro e w1 ⟨rfl,hg⟩
  have d1:w1.cell? ⟨w.heap.size,0,none⟩=some .nilIface:=hg.cell c1 (by first|(simp;done)|(simp;omega))
  have d2:w1.cell? ⟨w.heap.size+1,0,none⟩=some (.int .i64 0):=hg.cell c2 (by simp)
  have g1:w1.frozen? ⟨w.heap.size,0,none⟩=false:=(hg.frozen_far _ (by first|(simp;done)|(simp;omega)) (by first|(simp;done)|(simp;omega))).trans f1
  have g2:w1.frozen? ⟨w.heap.size+1,0,none⟩=false:=(hg.frozen_far _ (by first|(simp;done)|(simp;omega)) (by first|(simp;done)|(simp;omega))).trans f2
  have z1:w.heap.size+1+1+1≤w1.heap.size:=by have:=hg.size;omega
  have KB:Below w.heap.size w w1:=SB.grown hg (by omega) (by intro k hk;simp at hk;omega)
  clear S c1 c2 f1 f2 z SB hg
  go_wp2
  refine leaves_cons (f:=313) (args:=#[.pointer (some ⟨w.heap.size,0,none⟩),.pointer (some ⟨w.heap.size+1,0,none⟩)]) (by simp) (by simp [go_sem]) ?_
  refine (jcatch_panicking w.heap.size (w.heap.size+1) .nilIface 0 416 _ [] _ d1 g1 d2 g2 (by omega)).mono ?_
  rintro e u' w'' ⟨rfl,rfl,rfl⟩
  have KB2:=(KB.setCell (p:=⟨w.heap.size,0,none⟩) (Nat.le_refl _) .nilIface).setCell (p:=⟨w.heap.size+1,0,none⟩) (Nat.le_succ _) (.int .i64 2)
  simp [Leaves,settle,results,Tryz.results311,go_sem,readPost,d1,d2,KB2]
 | some j =>
  rintro e w1 ⟨v,rfl,hg,hj⟩
  obtain ⟨vt,vx,rfl⟩:=repJ.iface 7 hj
  have d1:w1.cell? ⟨w.heap.size,0,none⟩=some .nilIface:=hg.cell c1 (by first|(simp;done)|(simp;omega))
  have d2:w1.cell? ⟨w.heap.size+1,0,none⟩=some (.int .i64 0):=hg.cell c2 (by simp)
  have g1:w1.frozen? ⟨w.heap.size,0,none⟩=false:=(hg.frozen_far _ (by first|(simp;done)|(simp;omega)) (by first|(simp;done)|(simp;omega))).trans f1
  have g2:w1.frozen? ⟨w.heap.size+1,0,none⟩=false:=(hg.frozen_far _ (by first|(simp;done)|(simp;omega)) (by first|(simp;done)|(simp;omega))).trans f2
  have z1:w.heap.size+1+1+1≤w1.heap.size:=by have:=hg.size;omega
  have KB:Below w.heap.size w w1:=SB.grown hg (by omega) (by intro k hk;simp at hk;omega)
  rw [z] at hj
  have hj2:repJ 7 ((w1.setCell ⟨w.heap.size,0,none⟩ (.iface vt vx)).setCell ⟨w.heap.size+1,0,none⟩ (.int .i64 0)) (fun g=>w.heap.size≤g) (.iface vt vx) j :=
   repJ.mono 7 (repJ.kept 7 (repJ.kept 7 hj (Kept.of_grown1 (grown_set _ _ _ _)) (fun g hg e=>by omega)) (Kept.of_grown1 (grown_set _ _ _ _)) (fun g hg e=>by omega)) (fun g hg=>by omega)
  clear S c1 c2 f1 f2 z SB hg hj
  go_wp2
  refine leaves_cons (f:=313) (args:=#[.pointer (some ⟨w.heap.size,0,none⟩),.pointer (some ⟨w.heap.size+1,0,none⟩)]) (by simp) (by simp [go_sem]) ?_
  refine (jcatch_idle w.heap.size (w.heap.size+1) _).mono ?_
  rintro e u' w'' ⟨rfl,rfl,rfl⟩
  have KB2:=(KB.setCell (p:=⟨w.heap.size,0,none⟩) (Nat.le_refl _) (.iface vt vx)).setCell (p:=⟨w.heap.size+1,0,none⟩) (Nat.le_succ _) (.int .i64 0)
  simp [Leaves,settle,results,Tryz.results311,go_sem,readPost,d1,d2,KB2]
  rw [hd]
  exact hj2
def like:List UInt8→List UInt8→Bool
 | [],k=>k.isEmpty
 | c :: p,k=>if c=42 then (List.range (k.length+1)).any (fun j=>like p (k.drop j))
  else match k with
   | []=>false
   | x :: k'=>(c == 63 || c == x) && like p k'
theorem like_nil (k:List UInt8):like [] k=k.isEmpty:=rfl
theorem like_star (p k:List UInt8):like (42 :: p) k=true↔∃ j,j≤k.length∧like p (k.drop j)=true:=by
 simp only [like,if_true,List.any_eq_true,List.mem_range]
 constructor
 ·rintro ⟨j,h1,h2⟩;exact ⟨j,by omega,h2⟩
 ·rintro ⟨j,h1,h2⟩;exact ⟨j,by omega,h2⟩
theorem like_one {c:UInt8} (hc:c≠42) (p:List UInt8) (x:UInt8) (k:List UInt8):like (c :: p) (x :: k)=((c == 63 || c == x) && like p k):=by
 simp [like,hc]
theorem like_one_nil {c:UInt8} (hc:c≠42) (p:List UInt8):like (c :: p) []=false:=by simp [like,hc]
theorem like_end:∀ p,like p []=p.all (· == 42)
 | []=>rfl
 | c :: p=>by
  by_cases hc:c=42
  ·subst hc
   rw [Bool.eq_iff_iff,like_star]
   have:=like_end p
   constructor
   ·rintro ⟨j,-,h⟩;simp at h;simp [this] at h;simpa using h
   ·intro h;refine ⟨0,Nat.zero_le _,?_⟩
    simp;rw [this];simpa using h
  ·rw [like_one_nil hc];simp [hc]
def sofar (p k:List UInt8) (bs t:Nat):Prop:=∃ j,t≤j∧j≤k.length∧like (p.drop bs) (k.drop j)=true
structure Way (p k:List UInt8) (i n:Nat) (bs t:Nat):Prop where
 hi:i≤p.length
 hn:n≤k.length
 hb:bs≤i
 ht:t≤n
 seg:i - bs=n - t
 take:∀ j,t≤j→j≤k.length→like (p.drop bs) (k.drop j)=true→j+(i - bs)≤k.length∧like (p.drop i) (k.drop (j+(i - bs)))=true
 here:like (p.drop i) (k.drop n)=true→like (p.drop bs) (k.drop t)=true
theorem Way.start {p k:List UInt8} {i n:Nat} (hi:i≤p.length) (hn:n≤k.length):Way p k i n i n :=
 ⟨hi,hn,Nat.le_refl _,Nat.le_refl _,by omega,fun j h1 h2 h=>⟨by omega,by simpa using h⟩,fun h=>h⟩
theorem drop_cons {p:List UInt8} {i:Nat} (h:i < p.length):p.drop i=p[i] :: p.drop (i+1):=(List.drop_eq_getElem_cons h)
theorem Way.step {p k:List UInt8} {i n bs t:Nat} (w:Way p k i n bs t) (h1:i < p.length) (h2:n < k.length) (hc:p[i]≠42) (hm:(p[i] == 63 || p[i] == k[n])=true):Way p k (i+1) (n+1) bs t:=by
 have:=w.hb;have:=w.ht;have hs:=w.seg
 refine ⟨h1,h2,by omega,by omega,by omega,?_,?_⟩
 ·intro j a b h
  obtain ⟨c,d⟩:=w.take j a b h
  rw [drop_cons h1] at d
  match hk:k.drop (j+(i - bs)) with
  | []=>rw [hk,like_one_nil hc] at d;cases d
  | x :: r =>
   rw [hk,like_one hc,Bool.and_eq_true] at d
   have hl:(k.drop (j+(i - bs))).length=r.length+1:=by rw [hk];rfl
   simp only [List.length_drop] at hl
   refine ⟨by omega,?_⟩
   have e:k.drop (j+(i+1 - bs))=r:=by
    rw [show j+(i+1 - bs)=(j+(i - bs))+1 by omega,← List.drop_drop,hk];rfl
   rw [e];exact d.2
 ·intro h
  refine w.here ?_
  rw [drop_cons h1,drop_cons h2,like_one hc,hm,h];rfl
theorem star_split (p k:List UInt8) (bs t:Nat) (ht:t≤k.length):sofar p k bs t↔(like (p.drop bs) (k.drop t)=true∨sofar p k bs (t+1)):=by
 constructor
 ·rintro ⟨j,h1,h2,h3⟩
  by_cases e:j=t
  ·subst e;exact Or.inl h3
  ·exact Or.inr ⟨j,by omega,h2,h3⟩
 ·rintro (h|⟨j,h1,h2,h3⟩)
  ·exact ⟨t,Nat.le_refl _,ht,h⟩
  ·exact ⟨j,by omega,h2,h3⟩
theorem star_is {p k:List UInt8} {i n:Nat} (h1:i < p.length) (hc:p[i]=42):like (p.drop i) (k.drop n)=true↔(∃ j,n≤j∧(j≤k.length∨j=n)∧like (p.drop (i+1)) (k.drop j)=true):=by
 rw [drop_cons h1,hc,like_star]
 constructor
 ·rintro ⟨j,a,b⟩
  simp only [List.length_drop] at a
  exact ⟨n+j,by omega,by omega,by rw [List.drop_drop] at b;exact b⟩
 ·rintro ⟨j,a,b,c⟩
  refine ⟨j - n,by simp;omega,?_⟩
  rw [List.drop_drop,show n+(j - n)=j by omega];exact c
theorem Way.star {p k:List UInt8} {i n bs t:Nat} (w:Way p k i n bs t) (h1:i < p.length) (hc:p[i]=42) :
  (like (p.drop i) (k.drop n)=true∨sofar p k bs (t+1))↔sofar p k (i+1) n:=by
 have hn:=w.hn;have hs:=w.seg;have:=w.ht;have:=w.hb
 constructor
 ·rintro (h|⟨j,a,b,h⟩)
  ·obtain ⟨j,a,b,c⟩:=(star_is h1 hc).1 h
   exact ⟨j,a,by omega,c⟩
  ·obtain ⟨c,d⟩:=w.take j (by omega) b h
   obtain ⟨m,e,f,g⟩:=(star_is h1 hc).1 d
   exact ⟨m,by omega,by omega,g⟩
 ·rintro ⟨j,a,b,h⟩
  exact Or.inl ((star_is h1 hc).2 ⟨j,a,Or.inl b,h⟩)
theorem first_star {p k:List UInt8} {i n:Nat} (hn:n≤k.length) (h1:i < p.length) (hc:p[i]=42):like (p.drop i) (k.drop n)=true↔sofar p k (i+1) n:=by
 rw [star_is h1 hc]
 constructor
 ·rintro ⟨j,a,b,h⟩;exact ⟨j,a,by omega,h⟩
 ·rintro ⟨j,a,b,h⟩;exact ⟨j,a,Or.inl b,h⟩
theorem Way.end {p k:List UInt8} {i bs t:Nat} (w:Way p k i k.length bs t):¬ sofar p k bs (t+1):=by
 rintro ⟨j,a,b,h⟩
 have:=(w.take j (by omega) b h).1
 have:=w.seg;have:=w.ht
 omega
theorem like_miss {p k:List UInt8} {i n:Nat} (h2:n < k.length) (h:i < p.length→∃ h:i < p.length,p[i]≠42∧(p[i] == 63 || p[i] == k[n])=false):¬ like (p.drop i) (k.drop n)=true:=by
 by_cases h1:i < p.length
 ·obtain ⟨_,hc,hm⟩:=h h1
  rw [drop_cons h1,drop_cons h2,like_one hc,hm];simp
 ·rw [List.drop_eq_nil_of_le (by omega),drop_cons h2,like_nil];exact Bool.false_ne_true
inductive Srch (p k:List UInt8):Nat→Nat→Option Nat→Nat→Prop
 | no (i:Nat) (h:i≤p.length) (h2:i≤k.length) (g:like p k=true↔like (p.drop i) (k.drop i)=true):Srch p k i i none 0
 | yes {i n bs t:Nat} (w:Way p k i n bs t) (g:like p k=true↔(like (p.drop i) (k.drop n)=true∨sofar p k bs (t+1))):Srch p k i n (some bs) t
theorem Srch.start (p k:List UInt8):Srch p k 0 0 none 0:=.no 0 (Nat.zero_le _) (Nat.zero_le _) (by simp)
theorem Srch.star {p k:List UInt8} {i n t:Nat} {b:Option Nat} (s:Srch p k i n b t) (h1:i < p.length) (hc:p[i]=42):Srch p k (i+1) n (some (i+1)) n:=by
 cases s with
 | no h h2 g=>exact .yes (Way.start h1 h2) (by rw [g,first_star h2 h1 hc,star_split _ _ _ _ h2])
 | yes w g=>exact .yes (Way.start h1 w.hn) (by rw [g,w.star h1 hc,star_split _ _ _ _ w.hn])
theorem Srch.step {p k:List UInt8} {i n t:Nat} {b:Option Nat} (s:Srch p k i n b t) (h1:i < p.length) (h2:n < k.length) (hc:p[i]≠42) (hm:(p[i] == 63 || p[i] == k[n])=true):Srch p k (i+1) (n+1) b t:=by
 cases s with
 | no h h3 g=>exact .no (i+1) h1 h2 (by rw [g,drop_cons h1,drop_cons h2,like_one hc,hm];simp)
 | yes w g=>exact .yes (w.step h1 h2 hc hm) (by rw [g,drop_cons h1,drop_cons h2,like_one hc,hm];simp)
theorem Srch.back {p k:List UInt8} {i n t bs:Nat} (s:Srch p k i n (some bs) t) (h2:n < k.length) (h:i < p.length→∃ h:i < p.length,p[i]≠42∧(p[i] == 63 || p[i] == k[n])=false):Srch p k bs (t+1) (some bs) (t+1):=by
 cases s with
 | yes w g =>
  have:=w.ht;have:=w.hb;have:=w.hi
  refine .yes (Way.start (by omega) (by omega)) ?_
  rw [g,star_split p k bs (t+1) (by omega)]
  simp [like_miss h2 h]
theorem Srch.fails {p k:List UInt8} {i n t:Nat} (s:Srch p k i n none t) (h2:n < k.length) (h:i < p.length→∃ h:i < p.length,p[i]≠42∧(p[i] == 63 || p[i] == k[n])=false):like p k=false:=by
 cases s with
 | no _ _ g =>
  rw [Bool.eq_false_iff];intro e
  exact like_miss h2 h (g.1 e)
theorem Srch.ends {p k:List UInt8} {i t:Nat} {b:Option Nat} (s:Srch p k i k.length b t):like p k=(p.drop i).all (· == 42):=by
 rw [← like_end,Bool.eq_iff_iff]
 cases s with
 | no h h3 g=>rw [g];simp
 | yes w g=>rw [g];simp [w.end]
theorem Srch.bd {p k:List UInt8} {i n t:Nat} {b:Option Nat} (s:Srch p k i n b t):i≤p.length∧n≤k.length∧t≤n∧(∀ x,b=some x→x≤i):=by
 cases s with
 | no h h3 g=>exact ⟨h,h3,Nat.zero_le _,fun x e=>by cases e⟩
 | yes w g=>exact ⟨w.hi,w.hn,w.ht,fun x e=>by cases e;exact w.hb⟩
structure RuleP where
 deny:Bool
 who:List (List UInt8)
 act:List (List UInt8)
 on:List (List UInt8)
def strJ:J→Option (List UInt8)
 | .str s=>some s
 | _=>none
def strsJ:List J→Option (List (List UInt8))
 | []=>some []
 | j :: l=>match strJ j with
  | none=>none
  | some s=>(strsJ l).map (s :: ·)
def textsJ:J→Option (List (List UInt8))
 | .arr l=>if 1≤l.length∧l.length≤4 then strsJ l else none
 | _=>none
def findM (l:List (List UInt8×J)) (n:List UInt8):Option J:=match l with
 | []=>none
 | (m,j) :: l=>if m=n then some j else findM l n
def lcB (b:UInt8):Bool:=decide (97≤b.toNat∧b.toNat≤122) || decide (48≤b.toNat∧b.toNat≤57)
def nameP (s:List UInt8):Bool:=s.all lcB && decide (1≤s.length∧s.length≤12)
def sEffect:List UInt8:=[101,102,102,101,99,116]
def sWho:List UInt8:=[119,104,111]
def sDo:List UInt8:=[100,111]
def sOn:List UInt8:=[111,110]
def sRules:List UInt8:=[114,117,108,101,115]
def sAllow:List UInt8:=[97,108,108,111,119]
def sDeny:List UInt8:=[100,101,110,121]
def sAll:List UInt8:=[42]
def sGet:List UInt8:=[103,101,116]
def sPut:List UInt8:=[112,117,116]
def sDelete:List UInt8:=[100,101,108,101,116,101]
def sList:List UInt8:=[108,105,115,116]
def sPolicy:List UInt8:=[112,111,108,105,99,121]
def acts:List (List UInt8):=[sGet,sPut,sDelete,sList,sPolicy,sAll]
def whoP (s:List UInt8):Bool:=s == sAll || nameP s
def actP (s:List UInt8):Bool:=acts.contains s
def effJ (j:J):Option Bool:=match strJ j with
 | none=>none
 | some s=>if s=sAllow then some false else if s=sDeny then some true else none
def goodJ (f:List UInt8→Bool) (j:J):Option (List (List UInt8)):=match textsJ j with
 | none=>none
 | some l=>if l.all f then some l else none
def ruleJ:J→Option RuleP
 | .obj l=>if l.length=4 then
   match findM l sEffect with
   | none=>none
   | some e=>match effJ e with
    | none=>none
    | some d=>match findM l sWho with
     | none=>none
     | some w=>match goodJ whoP w with
      | none=>none
      | some w=>match findM l sDo with
       | none=>none
       | some a=>match goodJ actP a with
        | none=>none
        | some a=>match findM l sOn with
         | none=>none
         | some o=>match goodJ (fun _=>true) o with
          | none=>none
          | some o=>some ⟨d,w,a,o⟩
  else none
 | _=>none
def rulesJ:List J→Option (List RuleP)
 | []=>some []
 | j :: l=>match ruleJ j with
  | none=>none
  | some r=>(rulesJ l).map (r :: ·)
def policyJ:J→Option (List RuleP)
 | .obj l=>if l.length=1 then match findM l sRules with
   | some (.arr k)=>if k.length≤4 then rulesJ k else none
   | _=>none
  else none
 | _=>none
def rulesOf (s:List UInt8):Int×List RuleP :=
 if 300 < s.length then (1,[]) else match readJ s with
  | none=>(2,[])
  | some j=>match policyJ j with
   | none=>(3,[])
   | some l=>(0,l)
def inL (l:List (List UInt8)) (s:List UInt8):Bool:=l.contains s || l.contains sAll
def speaksP (r:RuleP) (u a k:List UInt8):Bool:=inL r.who u && inL r.act a && r.on.any (like · k)
def saysP (l:List RuleP) (u a k:List UInt8):Int :=
 if l.any (fun r=>r.deny && speaksP r u a k) then 2 else if l.any (fun r=>speaksP r u a k) then 1 else 0
open C (ret_bool ret_int ret_str)
def noP:List PanicEntry:=[{ v:=.iface 406 (.agg #[]),recovered:=false }]
theorem rneed_ok (w:World):Calls Tryz.prog 318 #[.bool true] w fun e w'=>e=.returned (.tuple #[])∧w=w':=by
 go_enter Tryz.func318,Tryz.ntmps318
 go_wp2
 go_end0
 exact ⟨rfl,rfl⟩
theorem rneed_no (w:World):Calls Tryz.prog 318 #[.bool false] w fun e w'=>e=.panicked noP∧w=w':=by
 go_enter Tryz.func318,Tryz.ntmps318
 go_wp2
 exact ⟨rfl,rfl,rfl⟩
def inW (w:World):Nat→Prop:=fun g=>g < w.heap.size
theorem RJ_below {k:Nat} {w w':World} {v:Value} {j:J} (h:repJ k w (inW w) v j) (b:Below w.heap.size w w'):repJ k w' (inW w') v j :=
 repJ.mono k (repJ.kept k h (Kept.of_below b) (fun g hg e=>by unfold inW at hg;omega)) (fun g hg=>by have:=b.size;unfold inW at *;omega)
def elems (k:Nat) (w:World) (sl:Value) (l:List J):Prop:=∃ us,w.ownsRow 0 389 1 sl l.length us∧all2 (repJ k w (inW w)) us l
def membs (k:Nat) (w:World) (sl:Value) (l:List (List UInt8×J)):Prop :=
 ∃ us,w.ownsRow 0 408 2 sl l.length (mcells us)∧all2 (fun (u:List UInt8×Value) (j:List UInt8×J)=>u.1=j.1∧repJ k w (inW w) u.2 j.2) us l
theorem arr_elems {k:Nat} {w:World} {v:Value} {l:List J} (h:repJ k w (inW w) v (.arr l)):∃ sl,v=.iface 397 sl∧elems (k - 1) w sl l:=by
 match k,h with
 | k+1,⟨sl,us,h1,h2,h3,h4⟩=>exact ⟨sl,h1,us,h2,all2_mono (fun _ _ hr=>repJ.mono k hr (fun g hg=>hg.1)) h4⟩
theorem obj_membs {k:Nat} {w:World} {v:Value} {l:List (List UInt8×J)} (h:repJ k w (inW w) v (.obj l)):∃ sl,v=.iface 401 sl∧membs (k - 1) w sl l:=by
 match k,h with
 | k+1,⟨sl,us,h1,h2,h3,h4⟩=>exact ⟨sl,h1,us,h2,all2_mono (fun _ _ hr=>⟨hr.1,repJ.mono k hr.2 (fun g hg=>hg.1)⟩) h4⟩
theorem str_val {k:Nat} {w:World} {v:Value} {s:List UInt8} (h:repJ k w (inW w) v (.str s)):v=.iface 413 (str s)∧s.length≤4000:=by
 match k,h with
 | _+1,h=>exact h
theorem bool_val {k:Nat} {w:World} {v:Value} {b:Bool} (h:repJ k w (inW w) v (.bool b)):v=.iface 414 (.bool b):=by
 match k,h with
 | _+1,h=>exact h
theorem null_val {k:Nat} {w:World} {v:Value} (h:repJ k w (inW w) v .null):v=.iface 415 (.agg #[]):=by
 match k,h with
 | _+1,h=>exact h
theorem row_view {w:World} {B:Nat} {e:TypeId} {size:Nat} {v:Value} {n:Nat} {xs:List Value} (h:w.ownsRow B e size v n xs) :
  ∃ a cap,v=.slice a n cap∧n≤cap∧∀ j u,xs[j]?=some u→∃ g,a=some ⟨g,0,none⟩∧w.cell? ⟨g,j,none⟩=some u∧g < w.heap.size:=by
 have hl:=h.1
 rcases id h.2 with ⟨rfl,hn⟩|⟨g,cap,cur,rfl,hb,hg,h1,_⟩
 ·subst hn
  refine ⟨none,0,rfl,Nat.le_refl _,fun j u hu=>?_⟩
  have:xs=[]:=List.eq_nil_of_length_eq_zero (by simpa using hl)
  subst this;simp at hu
 ·refine ⟨some ⟨g,0,none⟩,cap,rfl,h1,fun j u hu=>⟨g,rfl,?_,(Array.getElem?_eq_some_iff.1 hg).1⟩⟩
  have:=World.ownsRow.cells h (g:=g) rfl j u hu
  simpa [Addr.add_lit] using this
theorem asS_yes (W:World) (v:Value):(Instr.typeAssert (.iface 413 v) 389 413 true).run Tryz.prog W=.ok (.tuple #[v,.bool true]) W:=by kernel_rfl
theorem asS_no (W:World) (u:TypeId) (v:Value) (h:u≠413):(Instr.typeAssert (.iface u v) 389 413 true).run Tryz.prog W=.ok (.tuple #[.string ⟨#[]⟩,.bool false]) W:=by
 have e:(Instr.typeAssert (.iface u v) 389 413 true).run Tryz.prog W=(if u=413 then (pure (Value.tuple #[v,.bool true]):Sem Value) else (do pure (Value.tuple #[← zeroValue 413,.bool false]))).run Tryz.prog W:=by kernel_rfl
 rw [e,if_neg h]
 exact (show (do pure (Value.tuple #[← zeroValue 413,.bool false]):Sem Value).run Tryz.prog W=.ok (.tuple #[.string ⟨#[]⟩,.bool false]) W by kernel_rfl)
theorem asAr_yes (W:World) (v:Value):(Instr.typeAssert (.iface 397 v) 389 397 true).run Tryz.prog W=.ok (.tuple #[v,.bool true]) W:=by kernel_rfl
theorem asAr_no (W:World) (u:TypeId) (v:Value) (h:u≠397):(Instr.typeAssert (.iface u v) 389 397 true).run Tryz.prog W=.ok (.tuple #[.slice none 0 0,.bool false]) W:=by
 have e:(Instr.typeAssert (.iface u v) 389 397 true).run Tryz.prog W=(if u=397 then (pure (Value.tuple #[v,.bool true]):Sem Value) else (do pure (Value.tuple #[← zeroValue 397,.bool false]))).run Tryz.prog W:=by kernel_rfl
 rw [e,if_neg h]
 exact (show (do pure (Value.tuple #[← zeroValue 397,.bool false]):Sem Value).run Tryz.prog W=.ok (.tuple #[.slice none 0 0,.bool false]) W by kernel_rfl)
theorem asOb_yes (W:World) (v:Value):(Instr.typeAssert (.iface 401 v) 389 401 true).run Tryz.prog W=.ok (.tuple #[v,.bool true]) W:=by kernel_rfl
theorem asOb_no (W:World) (u:TypeId) (v:Value) (h:u≠401):(Instr.typeAssert (.iface u v) 389 401 true).run Tryz.prog W=.ok (.tuple #[.slice none 0 0,.bool false]) W:=by
 have e:(Instr.typeAssert (.iface u v) 389 401 true).run Tryz.prog W=(if u=401 then (pure (Value.tuple #[v,.bool true]):Sem Value) else (do pure (Value.tuple #[← zeroValue 401,.bool false]))).run Tryz.prog W:=by kernel_rfl
 rw [e,if_neg h]
 exact (show (do pure (Value.tuple #[← zeroValue 401,.bool false]):Sem Value).run Tryz.prog W=.ok (.tuple #[.slice none 0 0,.bool false]) W by kernel_rfl)
def textEnd:Option (List UInt8)→Ending
 | some s=>.returned (str s)
 | none=>.panicked noP
theorem textOf_any (k:Nat) (v:Value) (j:J) (w:World) (h:repJ k w (inW w) v j) :
  Calls Tryz.prog 333 #[v] w fun e w'=>e=textEnd (strJ j)∧w=w':=by
 cases j with
 | str s =>
  obtain ⟨rfl,hsl⟩:=str_val h
  have ha:=asS_yes w (str s)
  go_enter Tryz.func333,Tryz.ntmps333
  go_wp2
  go_ret
  exact ⟨rfl,rfl⟩
 | bool b =>
  obtain rfl:=bool_val h
  have ha:=asS_no w 414 (.bool b) (by decide)
  go_enter Tryz.func333,Tryz.ntmps333
  go_wp2
  exact ⟨rfl,rfl,rfl⟩
 | null =>
  obtain rfl:=null_val h
  have ha:=asS_no w 415 (.agg #[]) (by decide)
  go_enter Tryz.func333,Tryz.ntmps333
  go_wp2
  exact ⟨rfl,rfl,rfl⟩
 | arr l =>
  obtain ⟨sl,rfl,hm⟩:=arr_elems h
  have ha:=asS_no w 397 sl (by decide)
  go_enter Tryz.func333,Tryz.ntmps333
  go_wp2
  exact ⟨rfl,rfl,rfl⟩
 | obj l =>
  obtain ⟨sl,rfl,hm⟩:=obj_membs h
  have ha:=asS_no w 401 sl (by decide)
  go_enter Tryz.func333,Tryz.ntmps333
  go_wp2
  exact ⟨rfl,rfl,rfl⟩
def arrJ:J→Option (List J)
 | .arr l=>some l
 | _=>none
def objN (n:Nat):J→Option (List (List UInt8×J))
 | .obj l=>if l.length=n then some l else none
 | _=>none
def arrsPost (k:Nat) (w:World) (o:Option (List J)) (e:Ending) (w':World):Prop :=
 match o with
 | none=>e=.panicked noP∧w=w'
 | some l=>(∃ sl,e=.returned sl∧elems k w sl l)∧w=w'
def mPost (k:Nat) (w:World) (o:Option (List (List UInt8×J))) (e:Ending) (w':World):Prop :=
 match o with
 | none=>e=.panicked noP∧w=w'
 | some l=>(∃ sl,e=.returned sl∧membs k w sl l)∧w=w'
theorem arrayOf_any (k:Nat) (v:Value) (j:J) (w:World) (h:repJ k w (inW w) v j) :
  Calls Tryz.prog 315 #[v] w (arrsPost (k - 1) w (arrJ j)):=by
 cases j with
 | str s =>
  obtain ⟨rfl,hsl⟩:=str_val h
  have ha:=asAr_no w 413 (str s) (by decide)
  go_enter Tryz.func315,Tryz.ntmps315
  go_wp2
  exact ⟨rfl,rfl,rfl⟩
 | bool b =>
  obtain rfl:=bool_val h
  have ha:=asAr_no w 414 (.bool b) (by decide)
  go_enter Tryz.func315,Tryz.ntmps315
  go_wp2
  exact ⟨rfl,rfl,rfl⟩
 | null =>
  obtain rfl:=null_val h
  have ha:=asAr_no w 415 (.agg #[]) (by decide)
  go_enter Tryz.func315,Tryz.ntmps315
  go_wp2
  exact ⟨rfl,rfl,rfl⟩
 | arr l =>
  obtain ⟨sl,rfl,hm⟩:=arr_elems h
  have ha:=asAr_yes w sl
  go_enter Tryz.func315,Tryz.ntmps315
  go_wp2
  go_ret
  exact ⟨⟨sl,rfl,hm⟩,rfl⟩
 | obj l =>
  obtain ⟨sl,rfl,hm⟩:=obj_membs h
  have ha:=asAr_no w 401 sl (by decide)
  go_enter Tryz.func315,Tryz.ntmps315
  go_wp2
  exact ⟨rfl,rfl,rfl⟩
theorem membersOf_any (k:Nat) (v:Value) (j:J) (w:World) (n:Nat) (h:repJ k w (inW w) v j) :
  Calls Tryz.prog 317 #[v,.int .i64 n] w (mPost (k - 1) w (objN n j)):=by
 cases j with
 | str s =>
  obtain ⟨rfl,hsl⟩:=str_val h
  have ha:=asOb_no w 413 (str s) (by decide)
  go_enter Tryz.func317,Tryz.ntmps317
  go_wp2
  exact ⟨rfl,rfl,rfl⟩
 | bool b =>
  obtain rfl:=bool_val h
  have ha:=asOb_no w 414 (.bool b) (by decide)
  go_enter Tryz.func317,Tryz.ntmps317
  go_wp2
  exact ⟨rfl,rfl,rfl⟩
 | null =>
  obtain rfl:=null_val h
  have ha:=asOb_no w 415 (.agg #[]) (by decide)
  go_enter Tryz.func317,Tryz.ntmps317
  go_wp2
  exact ⟨rfl,rfl,rfl⟩
 | arr l =>
  obtain ⟨sl,rfl,hm⟩:=arr_elems h
  have ha:=asOb_no w 397 sl (by decide)
  go_enter Tryz.func317,Tryz.ntmps317
  go_wp2
  exact ⟨rfl,rfl,rfl⟩
 | obj l =>
  obtain ⟨sl,rfl,hm⟩:=obj_membs h
  have ha:=asOb_yes w sl
  have HM:Hid (membs (k - 1) w sl l):=hm
  obtain ⟨us,hr,_⟩:=hm
  obtain ⟨a,cap,rfl,hcap,_⟩:=row_view hr
  by_cases hn:l.length=n
  ·have t1:((l.length:Int) == (n:Int))=true:=by simp [hn]
   have HE:Hid (objN n (.obj l)=some l):=by show _=_;simp [objN,hn]
   clear hn
   go_enter Tryz.func317,Tryz.ntmps317
   go_wp2_with (go_at_call 318;refine (rneed_ok _).mono ?_;rintro e w' ⟨rfl,rfl⟩)
   go_ret
   rw [HE.out]
   exact ⟨⟨_,rfl,HM.out⟩,rfl⟩
  ·have t1:((l.length:Int) == (n:Int))=false:=by simp;omega
   have HE:Hid (objN n (.obj l)=none):=by show _=_;simp [objN,hn]
   clear hn
   go_enter Tryz.func317,Tryz.ntmps317
   go_wp2_with (go_at_call 318;refine (rneed_no _).mono ?_;rintro e w' ⟨rfl,rfl⟩)
   rw [HE.out]
   exact ⟨rfl,rfl,rfl⟩
theorem mcells_at:∀ (l:List (List UInt8×Value)) (k:Nat) (h:k < l.length),(mcells l)[k*2]?=some (str l[k].1)∧(mcells l)[k*2+1]?=some l[k].2
 | p :: l,0,_=>⟨rfl,rfl⟩
 | p :: l,k+1,h=>by
  have:=mcells_at l k (by simpa using h)
  rw [show (k+1)*2=k*2+1+1 by omega]
  exact this
theorem findM_drop {l:List (List UInt8×J)} {k:Nat} (h:k < l.length) (n:List UInt8):findM (l.drop k) n=if l[k].1=n then some l[k].2 else findM (l.drop (k+1)) n:=by
 rw [List.drop_eq_getElem_cons h];rfl
def findPost (k:Nat) (w:World) (o:Option J) (e:Ending) (w':World):Prop :=
 Below w.heap.size w w'∧match o with
 | none=>e=.panicked noP
 | some j=>∃ v,e=.returned v∧repJ k w' (inW w') v j
theorem findPost_ok {k:Nat} {w w':World} {o:Option J} {j:J} {v:Value} (h:o=some j) (hb:Below w.heap.size w w') (hv:repJ k w' (inW w') v j):findPost k w o (.returned v) w':=by subst h;exact ⟨hb,v,rfl,hv⟩
theorem findPost_no {k:Nat} {w w':World} {o:Option J} (h:o=none) (hb:Below w.heap.size w w'):findPost k w o (.panicked noP) w':=by subst h;exact ⟨hb,rfl⟩
theorem membs.below {k:Nat} {w w':World} {sl:Value} {l:List (List UInt8×J)} (h:membs k w sl l) (b:Below w.heap.size w w'):membs k w' sl l:=by
 obtain ⟨us,h1,h2⟩:=h
 exact ⟨us,(Kept.of_below b).row h1 (fun g hg e=>by have:=(World.ownsRow.lt h1 g hg).2;omega),all2_mono (fun _ _ hr=>⟨hr.1,RJ_below hr.2 b⟩) h2⟩
theorem RJ_alloc {k:Nat} {w:World} {v:Value} {j:J} (h:repJ k w (inW w) v j) (o:Obj):repJ k (w.alloc o) (inW (w.alloc o)) v j:=RJ_below h ((Below.refl _ _).alloc (Nat.le_refl _) _)
theorem below_trans {w w1 w2:World} (h:Below w.heap.size w w1) (k:Below w1.heap.size w1 w2):Below w.heap.size w w2:=h.trans (k.mono h.size)
theorem find_any (k:Nat) (sl:Value) (l:List (List UInt8×J)) (nm:List UInt8) (w:World) (hm:membs k w sl l) (hl:l.length≤1000000) :
  Calls Tryz.prog 316 #[sl,str nm] w (findPost k w (findM l nm)):=by
 have HM:Hid (membs k w sl l):=hm
 obtain ⟨us,hrow,hall⟩:=hm
 have hlen:=all2_len hall
 obtain ⟨a,cap,rfl,hcap,hcells⟩:=row_view hrow
 have HC:Hid (∀ j u,(mcells us)[j]?=some u→∃ g,a=some ⟨g,0,none⟩∧w.cell? ⟨g,j,none⟩=some u∧g < w.heap.size):=hcells
 have HA:Hid (all2 (fun (u:List UInt8×Value) (j:List UInt8×J)=>u.1=j.1∧repJ k w (inW w) u.2 j.2) us l):=hall
 clear hcells hall hrow
 go_enter Tryz.func316,Tryz.ntmps316
 go_wp2
 go_loopw [9] (fun i wr=>∃ k:Nat,k≤l.length∧i=.int .i64 k∧findM l nm=findM (l.drop k) nm∧Below w.heap.size w wr) (fun i _=>l.length - (intOf i).toNat)
 case atStart=>exact ⟨0,Nat.zero_le _,rfl,by simp,Below.refl _ _⟩
 case round =>
  obtain ⟨i,hk,rfl,hno,hb⟩:=hrel
  have HN:Hid (findM l nm=findM (l.drop i) nm):=hno
  clear hno
  have hsz:=hb.size
  by_cases hlt:i < l.length
  ·have hu:i < us.length:=by omega
   obtain ⟨m1,m2⟩:=mcells_at us i hu
   obtain ⟨g,rfl,c1,hg⟩:=HC.out _ _ m1
   obtain ⟨g',e',c2,_⟩:=HC.out _ _ m2
   obtain rfl:g=g':=by simpa using e'
   clear e' m1 m2
   obtain ⟨hnm,hj⟩:=all2_get HA.out i hu hlt
   have HJ:Hid (repJ k wr (inW wr) us[i].2 l[i].2):=RJ_below hj hb
   obtain ⟨vt,vx,hv⟩:=repJ.iface k hj
   rw [hv] at c2 HJ
   rw [hnm] at c1
   clear hj hv hnm
   replace c1:=(hb.cell (p:=⟨g,i*2,none⟩) hg).trans c1
   replace c2:=(hb.cell (p:=⟨g,i*2+1,none⟩) hg).trans c2
   have HS:Hid (findM l nm=if l[i].1=nm then some l[i].2 else findM (l.drop (i+1)) nm):=by show _=_;rw [HN.out,findM_drop hlt]
   clear HN
   go_wp2
   ·rename_i he
    go_ret
    exact findPost_ok (by rw [HS.out,if_pos (eq_of_beq he)]) (hb.alloc hsz _) (RJ_alloc HJ.out _)
   ·rename_i he
    go_roundw
    case rel=>exact ⟨i+1,by omega,by go_num,by rw [HS.out,if_neg (by simpa using he)],hb.alloc hsz _⟩
    case measure=>simp [intOf];omega
  ·have HT:Hid (findM l nm=none):=by show _=_;rw [HN.out,List.drop_eq_nil_of_le (by omega)];rfl
   go_wp2
   exact ⟨rfl,findPost_no HT.out hb⟩
theorem textOf_some (k:Nat) (v:Value) (j:J) (s:List UInt8) (w:World) (h:repJ k w (inW w) v j) (hs:strJ j=some s) :
  Calls Tryz.prog 333 #[v] w fun e w'=>e=.returned (str s)∧w=w':=by
 have:=textOf_any k v j w h
 rw [hs] at this;exact this
theorem textOf_none (k:Nat) (v:Value) (j:J) (w:World) (h:repJ k w (inW w) v j) (hs:strJ j=none) :
  Calls Tryz.prog 333 #[v] w fun e w'=>e=.panicked noP∧w=w':=by
 have:=textOf_any k v j w h
 rw [hs] at this;exact this
def effEnd:Option Bool→Ending
 | some d=>.returned (.int .i64 (if d then 2 else 1))
 | none=>.panicked noP
theorem effE {o:Option Bool} {d:Bool} (h:o=some d):Ending.returned (.int .i64 (if d then 2 else 1))=effEnd o:=by rw [h];rfl
theorem effN {o:Option Bool} (h:o=none):Ending.panicked noP=effEnd o:=by rw [h];rfl
theorem readEffect_any (k:Nat) (v:Value) (j:J) (w:World) (h:repJ k w (inW w) v j) :
  Calls Tryz.prog 323 #[v] w fun e w'=>e=effEnd (effJ j)∧w=w':=by
 cases hs:strJ j with
 | none =>
  have HN:Hid (effJ j=none):=by show _=_;unfold effJ;rw [hs]
  go_enter Tryz.func323,Tryz.ntmps323
  go_wp2_with (go_at_call 333;refine (textOf_none k v j _ h hs).mono ?_;rintro e w' ⟨rfl,rfl⟩)
  exact ⟨rfl,effN HN.out,rfl⟩
 | some s =>
  have HE:Hid (effJ j=if s=sAllow then some false else if s=sDeny then some true else none):=by show _=_;unfold effJ;rw [hs]
  by_cases hA:s=sAllow
  ·have HR:Hid (effJ j=some false):=by show _=_;rw [HE.out,if_pos hA]
   subst hA
   unfold sAllow at *
   go_enter Tryz.func323,Tryz.ntmps323
   go_wp2_with (go_at_call 333;refine (textOf_some k v j _ _ h hs).mono ?_;rintro e w' ⟨rfl,rfl⟩)
   go_ret
   exact ⟨effE (d:=false) HR.out,rfl⟩
  ·by_cases hD:s=sDeny
   ·have HR:Hid (effJ j=some true):=by show _=_;rw [HE.out,if_neg hA,if_pos hD]
    subst hD
    unfold sDeny at *
    go_enter Tryz.func323,Tryz.ntmps323
    go_wp2_with (go_at_call 333;refine (textOf_some k v j _ _ h hs).mono ?_;rintro e w' ⟨rfl,rfl⟩)
    go_ret
    exact ⟨effE (d:=true) HR.out,rfl⟩
   ·have HR:Hid (effJ j=none):=by show _=_;rw [HE.out,if_neg hA,if_neg hD]
    have t1:(s == [97,108,108,111,119])=false:=by simpa [sAllow] using hA
    have t2:(s == [100,101,110,121])=false:=by simpa [sDeny] using hD
    clear hA hD HE
    go_enter Tryz.func323,Tryz.ntmps323
    go_wp2_with (go_at_call 333;refine (textOf_some k v j _ _ h hs).mono ?_;rintro e w' ⟨rfl,rfl⟩)
    exact ⟨rfl,effN HR.out,rfl⟩
theorem all_take_succ (f:UInt8→Bool) (l:List UInt8) (k:Nat) (h:k < l.length):(l.take (k+1)).all f=((l.take k).all f && f l[k]):=by
 have e:l.take (k+1)=l.take k++[l[k]]:=by rw [List.take_add_one,List.getElem?_eq_getElem h];rfl
 rw [e,List.all_append];simp only [List.all_cons,List.all_nil,Bool.and_true]
theorem all_false {f:UInt8→Bool} {l:List UInt8} {k:Nat} (h:k < l.length) (hf:f l[k]=false):l.all f=false:=by
 rw [List.all_eq_false];exact ⟨l[k],List.getElem_mem h,by simp [hf]⟩
theorem isLD_any (b:UInt8) (w:World) :
  Calls Tryz.prog 173 #[.int .u8 (b.toNat:Int)] w fun e w'=>e=.returned (.bool (lcB b))∧w=w':=by
 have hxl:=b.toNat_lt
 rcases (show (97≤b.toNat∧b.toNat≤122)∨(48≤b.toNat∧b.toNat≤57)∨b.toNat < 48∨(57 < b.toNat∧b.toNat < 97)∨122 < b.toNat by omega) with h|h|h|h|h
 ·have HY:Hid (lcB b=true):=by show _=_;simp [lcB];omega
  have p1:decide (97≤(b.toNat:Int))=true:=by simp;omega
  have p2:decide ((b.toNat:Int)≤122)=true:=by simp;omega
  go_enter Tryz.func173,Tryz.ntmps173
  go_wp2
  go_ret
  exact ⟨ret_bool HY.out.symm,rfl⟩
 ·have HY:Hid (lcB b=true):=by show _=_;simp [lcB];omega
  have p1:decide (97≤(b.toNat:Int))=false:=by simp;omega
  have p3:decide (48≤(b.toNat:Int))=true:=by simp;omega
  have p4:decide ((b.toNat:Int)≤57)=true:=by simp;omega
  go_enter Tryz.func173,Tryz.ntmps173
  go_wp2
  go_ret
  exact ⟨ret_bool HY.out.symm,rfl⟩
 ·have HY:Hid (lcB b=false):=by show _=_;simp [lcB];omega
  have p1:decide (97≤(b.toNat:Int))=false:=by simp;omega
  have p3:decide (48≤(b.toNat:Int))=false:=by simp;omega
  go_enter Tryz.func173,Tryz.ntmps173
  go_wp2
  go_ret
  exact ⟨ret_bool HY.out.symm,rfl⟩
 ·have HY:Hid (lcB b=false):=by show _=_;simp [lcB];omega
  have p1:decide (97≤(b.toNat:Int))=false:=by simp;omega
  have p3:decide (48≤(b.toNat:Int))=true:=by simp;omega
  have p4:decide ((b.toNat:Int)≤57)=false:=by simp;omega
  go_enter Tryz.func173,Tryz.ntmps173
  go_wp2
  go_ret
  exact ⟨ret_bool HY.out.symm,rfl⟩
 ·have HY:Hid (lcB b=false):=by show _=_;simp [lcB];omega
  have p1:decide (97≤(b.toNat:Int))=true:=by simp;omega
  have p2:decide ((b.toNat:Int)≤122)=false:=by simp;omega
  have p3:decide (48≤(b.toNat:Int))=true:=by simp;omega
  have p4:decide ((b.toNat:Int)≤57)=false:=by simp;omega
  go_enter Tryz.func173,Tryz.ntmps173
  go_wp2
  go_ret
  exact ⟨ret_bool HY.out.symm,rfl⟩
theorem isLong_any (l:List UInt8) (a b:Nat) (w:World) (_hl:l.length≤1000000) :
  Calls Tryz.prog 170 #[str l,.int .i64 (a:Int),.int .i64 (b:Int)] w fun e w'=>e=.returned (.bool (decide (a≤l.length∧l.length≤b)))∧w=w':=by
 by_cases h:a≤l.length
 ·have p1:decide ((a:Int)≤(l.length:Int))=true:=by simp;omega
  go_enter Tryz.func170,Tryz.ntmps170
  go_wp2
  go_ret
  refine ⟨ret_bool ?_,rfl⟩
  rw [decide_eq_decide];omega
 ·have p1:decide ((a:Int)≤(l.length:Int))=false:=by simp;omega
  go_enter Tryz.func170,Tryz.ntmps170
  go_wp2
  go_ret
  refine ⟨ret_bool ?_,rfl⟩
  symm;rw [decide_eq_false_iff_not];omega
theorem isOf_any (f:UInt8→Bool) (g:Nat) (eg:∀ args w,(callFunc g args).run Tryz.prog w=.ok (.enter g args) w)
  (F:∀ (b:UInt8) w,Calls Tryz.prog g #[.int .u8 (b.toNat:Int)] w fun e w'=>e=.returned (.bool (f b))∧w=w')
  (l:List UInt8) (w:World) (hl:l.length≤1000000) :
  Calls Tryz.prog 171 #[str l,.func (.func g) #[] #[]] w fun e w'=>e=.returned (.bool (l.all f))∧w=w':=by
 go_enter Tryz.func171,Tryz.ntmps171
 go_wp2
 go_loop [8] (fun i=>∃ k:Nat,k≤l.length∧i=.int .i64 k∧(l.take k).all f=true) (fun i=>l.length - (intOf i).toNat)
 case atStart=>exact ⟨0,Nat.zero_le _,rfl,by simp⟩
 case round =>
  obtain ⟨k,hk,rfl,hno⟩:=hrel
  have HN:Hid ((l.take k).all f=true):=hno
  clear hno
  by_cases hlt:k < l.length
  ·have hs:k < (⟨l.toArray⟩:ByteArray).size:=hlt
   have FB:Hid (_):=F l[k]
   cases hb:f l[k] with
   | true =>
    have HY:Hid ((l.take (k+1)).all f=true):=by show _=_;rw [all_take_succ _ _ _ hlt,HN.out,hb];rfl
    clear HN
    go_wp2_with (go_at_fn g;refine (FB.out _).mono ?_;rw [hb];rintro e w' ⟨rfl,rfl⟩)
    go_round
    case rel=>exact ⟨k+1,by omega,by go_num,HY.out⟩
    case measure=>simp [intOf];omega
   | false =>
    have HY:Hid (l.all f=false):=all_false hlt hb
    clear HN
    go_wp2_with (go_at_fn g;refine (FB.out _).mono ?_;rw [hb];rintro e w' ⟨rfl,rfl⟩)
    go_ret
    exact ⟨ret_bool HY.out.symm,rfl⟩
  ·have HT:Hid (l.all f=true):=by
    show _=_
    have:=HN.out
    rwa [List.take_of_length_le (by omega)] at this
   clear HN
   go_wp2
   go_ret
   exact ⟨ret_bool HT.out.symm,rfl⟩
theorem isUser_any (l:List UInt8) (w:World) (hl:l.length≤1000000) :
  Calls Tryz.prog 134 #[str l] w fun e w'=>e=.returned (.bool (nameP l))∧w=w':=by
 have L:Hid (_):=fun w=>isLong_any l 1 12 w hl
 have O:Hid (_):=fun w=>isOf_any lcB 173 (enters_of Tryz.func173 (by kernel_rfl) rfl) isLD_any l w hl
 by_cases h:1≤l.length∧l.length≤12
 ·have HF:Hid (nameP l=l.all lcB):=by show _=_;unfold nameP;rw [decide_eq_true h];simp
  have HD:Hid (decide (1≤l.length∧l.length≤12)=true):=decide_eq_true h
  clear h
  go_enter Tryz.func134,Tryz.ntmps134
  go_wp2_with (first|(go_at_call 170;refine (L.out _).mono ?_;rw [HD.out];rintro e w' ⟨rfl,rfl⟩)|(go_at_call 171;refine (O.out _).mono ?_;rintro e w' ⟨rfl,rfl⟩))
  go_ret
  exact ⟨ret_bool HF.out.symm,rfl⟩
 ·have HF:Hid (nameP l=false):=by show _=_;unfold nameP;rw [decide_eq_false h];simp
  have HD:Hid (decide (1≤l.length∧l.length≤12)=false):=decide_eq_false h
  clear h
  go_enter Tryz.func134,Tryz.ntmps134
  go_wp2_with (go_at_call 170;refine (L.out _).mono ?_;rw [HD.out];rintro e w' ⟨rfl,rfl⟩)
  go_ret
  exact ⟨ret_bool HF.out.symm,rfl⟩
theorem isWho_any (l:List UInt8) (w:World) (hl:l.length≤1000000) :
  Calls Tryz.prog 325 #[str l] w fun e w'=>e=.returned (.bool (whoP l))∧w=w':=by
 by_cases hA:l=sAll
 ·have HR:Hid (whoP l=true):=by show _=_;rw [hA];rfl
  subst hA
  unfold sAll at *
  go_enter Tryz.func325,Tryz.ntmps325
  go_wp2
  go_ret
  exact ⟨ret_bool HR.out.symm,rfl⟩
 ·have HR:Hid (whoP l=nameP l):=by show _=_;unfold whoP;rw [show (l == sAll)=false by simpa using hA];rfl
  have t1:(l == [42])=false:=by simpa [sAll] using hA
  clear hA
  go_enter Tryz.func325,Tryz.ntmps325
  go_wp2_with (go_at_call 134;refine (isUser_any l _ hl).mono ?_;rintro e w' ⟨rfl,rfl⟩)
  go_ret
  exact ⟨ret_bool HR.out.symm,rfl⟩
theorem isPattern_any (l:List UInt8) (w:World) :
  Calls Tryz.prog 327 #[str l] w fun e w'=>e=.returned (.bool true)∧w=w':=by
 go_enter Tryz.func327,Tryz.ntmps327
 go_wp2
 go_ret
 exact ⟨rfl,rfl⟩
theorem isAction_any (l:List UInt8) (w:World) :
  Calls Tryz.prog 326 #[str l] w fun e w'=>e=.returned (.bool (actP l))∧w=w':=by
 have HR:Hid (actP l=(l == [103,101,116] || l == [112,117,116] || l == [100,101,108,101,116,101] || l == [108,105,115,116] || l == [112,111,108,105,99,121] || l == [42])):=by
  show _=_
  unfold actP acts sGet sPut sDelete sList sPolicy sAll
  simp only [List.contains_cons,List.contains_nil,Bool.or_false,Bool.or_assoc]
 go_enter Tryz.func326,Tryz.ntmps326
 go_wp2
 all_goals go_ret
 all_goals refine ⟨ret_bool ?_,rfl⟩
 all_goals rw [HR.out]
 all_goals simp_all
end Go.Proofs.YtbllcgibmgbnjaaGreatDoor.P
