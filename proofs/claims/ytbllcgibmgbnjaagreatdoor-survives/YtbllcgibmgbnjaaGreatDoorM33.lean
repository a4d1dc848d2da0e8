import Derived.Test.YtbllcgibmgbnjaaGreatDoorM23
import Derived.Test.YtbllcgibmgbnjaaGreatDoorM26
import Derived.Deep.RegionLaw
import Derived.Test.YtbllcgibmgbnjaaGreatDoorM31
set_option maxHeartbeats 16000000
set_option maxRecDepth 20000
namespace Go.Proofs.YtbllcgibmgbnjaaGreatDoor.P
open Go.RowKit
open C (ret_bool ret_int ret_str)
theorem big_fold (n:Nat):∀ (k a:Nat),(bigL n k).foldl (fun a c=>a*256+c.toNat) a=a*256 ^ k+n % 256 ^ k
 | 0,a=>by simp [bigL,Nat.mod_one]
 | k+1,a=>by
  simp only [bigL,List.foldl_cons]
  rw [big_fold n k,Nat.mod_pow_succ,UInt8.toNat_ofNat',Nat.add_mul,Nat.mul_assoc,show (256:Nat)*256 ^ k=256 ^ (k+1) by rw [Nat.pow_succ,Nat.mul_comm],show (2:Nat) ^ 8=256 from rfl,Nat.mul_comm (n / 256 ^ k % 256) (256 ^ k)]
  omega
theorem big_num {n k:Nat} (h:n < 256 ^ k):numOf (bigL n k)=n:=by
 unfold numOf
 rw [big_fold,Nat.mod_eq_of_lt h];simp
theorem takeR_app {k:Nat} {a:Tx} (b:Tx) (s:Bool) (h:a.length=k):takeR k (a++b) s=(a,b,s):=by
 unfold takeR
 rw [if_neg (by simp;omega)]
 subst h
 simp
theorem takeR_lack {k:Nat} {l:Tx} (s:Bool) (h:l.length < k):takeR k l s=([],[],true):=by
 unfold takeR;rw [if_pos h]
theorem takeR_none (k:Nat):takeR k [] true=([],[],true):=by
 unfold takeR;split <;> simp
theorem textR_app {k:Nat} {t:Tx} (b:Tx) (h:t.length < 256 ^ k):textR k (bigL t.length k++t++b) false=(t,b,false):=by
 unfold textR numR
 rw [List.append_assoc,takeR_app (t++b) false (bigL_len _ _)]
 simp only
 rw [big_num h,takeR_app b false rfl]
theorem crc_lt (b:Tx):crcL b < 256 ^ 4:=by
 have:crcL b≤4294967295:=Nat.sub_le _ _
 omega
theorem first_frame {b:Tx} (more:Tx) (h:b.length < 65536):firstF (frameT b++more)=some (b,(frameT b).length):=by
 have e:frameT b++more=bigL b.length 2++b++(bigL (crcL b) 4++more):=by simp [frameT,longT,numT]
 unfold firstF
 simp only
 rw [e,textR_app _ (by omega)]
 simp only
 rw [takeR_app more false (bigL_len _ _)]
 simp only [Bool.false_eq_true,if_false]
 rw [big_num (crc_lt b),if_pos rfl]
 simp [frameT,longT,numT,bigL_len]
 omega
theorem first_cut {b:Tx} {c:Nat} (h:b.length < 65536) (hc:c < (frameT b).length):firstF ((frameT b).take c)=none:=by
 have hl:(frameT b).length=2+b.length+4:=by simp [frameT,longT,numT,bigL_len];omega
 have e:frameT b=bigL b.length 2++(b++bigL (crcL b) 4):=by simp [frameT,longT,numT]
 unfold firstF
 simp only
 by_cases h1:c < 2
 ·have e1:textR 2 ((frameT b).take c) false=([],[],true):=by
   unfold textR numR
   rw [takeR_lack false (by simp;omega)]
   simp only
   exact takeR_none _
  rw [e1]
  simp only
  rw [takeR_none]
  simp
 ·have e2:(frameT b).take c=bigL b.length 2++(b++bigL (crcL b) 4).take (c - 2):=by
   rw [e,List.take_append,List.take_of_length_le (by rw [bigL_len];omega),bigL_len]
  by_cases h2:c < 2+b.length
  ·have e1:textR 2 ((frameT b).take c) false=([],[],true):=by
    unfold textR numR
    rw [e2,takeR_app _ false (bigL_len _ _)]
    simp only
    rw [big_num (by omega),takeR_lack false (by simp;omega)]
   rw [e1]
   simp only
   rw [takeR_none]
   simp
  ·have e3:(b++bigL (crcL b) 4).take (c - 2)=b++(bigL (crcL b) 4).take (c - 2 - b.length):=by
    rw [List.take_append,List.take_of_length_le (by omega)]
   rw [e2,e3,← List.append_assoc,textR_app _ (by omega)]
   simp only
   rw [takeR_lack false (by simp [bigL_len];omega)]
   simp
def Chg.can:Chg→Prop
 | .mk b o=>b.length < 256∧o.length < 256
 | .pol b p=>b.length < 256∧p.length≤10000
 | .unpol b=>b.length < 256
 | .put b k y=>b.length < 256∧k.length < 256∧y.length≤10000
 | .mark b k=>b.length < 256∧k.length < 256
 | .drop b k n=>b.length < 256∧k.length < 256∧n≤1000000000
theorem Chg.can_fit {c:Chg} (h:c.can):c.fit:=by
 cases c <;> simp only [Chg.can,Chg.fit] at*<;> omega
theorem Chg.can_len {c:Chg} (h:c.can):c.text.length < 65536:=by
 cases c <;> simp only [Chg.can] at h <;> simp [Chg.text,shortT,longT,numT,bigL_len] <;> omega
theorem rd_letter (b:Nat) (c:UInt8) (more:Tx) (hl:more.length≤100000) (w:World) (h:RD b (c :: more) false w) :
  Calls Tryz.prog 139 #[.pointer (some ⟨b,0,none⟩)] w fun e w'=>e=.returned (str [c])∧RD b more false w'∧Kept (·=b) w w':=by
 have:=rletter_any b (c :: more) false (by simp;omega) w h
 rwa [show c :: more=[c]++more from rfl,takeR_app (k:=1) (a:=[c]) more false rfl] at this
theorem rd_short (b:Nat) (t more:Tx) (ht:t.length < 256) (hl:more.length≤100000) (w:World) (h:RD b (shortT t++more) false w) :
  Calls Tryz.prog 140 #[.pointer (some ⟨b,0,none⟩)] w fun e w'=>e=.returned (str t)∧RD b more false w'∧Kept (·=b) w w':=by
 have:=rshort_any b (shortT t++more) false (by simp [shortT,bigL_len];omega) w h
 rwa [show shortT t++more=bigL t.length 1++t++more from rfl,textR_app more (by omega)] at this
theorem rd_long (b:Nat) (t more:Tx) (ht:t.length≤10000) (hl:more.length≤100000) (w:World) (h:RD b (longT t++more) false w) :
  Calls Tryz.prog 136 #[.pointer (some ⟨b,0,none⟩)] w fun e w'=>e=.returned (str t)∧RD b more false w'∧Kept (·=b) w w':=by
 have:=rlong_any b (longT t++more) false (by simp [longT,bigL_len];omega) w h
 rwa [show longT t++more=bigL t.length 2++t++more from rfl,textR_app more (by omega)] at this
theorem rd_num (b n:Nat) (hn:n≤1000000000) (w:World) (h:RD b (numT n) false w) :
  Calls Tryz.prog 137 #[.pointer (some ⟨b,0,none⟩)] w fun e w'=>e=.returned (.int .i64 (n:Int))∧RD b [] false w'∧Kept (·=b) w w':=by
 have:=rnum4_any b (numT n) false (by simp [numT,bigL_len]) w h
 have e:takeR 4 (numT n) false=(numT n,[],false):=by
  have:=takeR_app (a:=numT n) [] false (bigL_len n 4)
  rwa [List.append_nil] at this
 unfold numR at this
 rw [e] at this
 simp only at this
 rwa [show numOf (numT n)=n from big_num (by omega)] at this
theorem rd_end (b:Nat) (w:World) (h:RD b [] false w) :
  Calls Tryz.prog 141 #[.pointer (some ⟨b,0,none⟩)] w fun e w'=>e=.returned (.bool true)∧w=w':=rended_any b [] false w h
def rcPost (c:Chg) (w:World) (e:Ending) (w':World):Prop:=e=.returned (.tuple #[.iface c.ty c.val,.bool true])∧Below w.heap.size w w'
theorem rc_below {w w1 w2:World} (b1:Below w.heap.size w w1) (k:Kept (·=w.heap.size) w1 w2):Below w.heap.size w w2 :=
 ((Kept.of_below b1).trans k (fun x hx e=>by omega)).below (Nat.le_refl _) (fun k e=>e)
theorem readChange_any (c:Chg) (hc:c.can) (w:World) :
  Calls Tryz.prog 94 #[str c.text] w (rcPost c w):=by
 have R:Hid (_):=fread_any c.text w
 have LE:=rd_letter w.heap.size
 have SH:=rd_short w.heap.size
 have LO:=rd_long w.heap.size
 have NU:=rd_num w.heap.size
 have EN:Hid (∀ w',RD w.heap.size [] false w'→Calls Tryz.prog 141 #[.pointer (some ⟨w.heap.size,0,none⟩)] w' fun e w''=>e=.returned (.bool true)∧w'=w''):=rd_end w.heap.size
 cases c with
 | mk b o =>
  simp only [Chg.can] at hc
  have L1:Hid (_):=LE 66 (shortT b++shortT o) (by simp [shortT,bigL_len];omega)
  have L2:Hid (_):=SH b (shortT o) hc.1 (by simp [shortT,bigL_len];omega)
  have L3:Hid (_):=SH o [] hc.2 (by simp)
  rw [List.append_nil] at L3
  clear LE SH LO NU
  go_enter Tryz.func94,Tryz.ntmps94
  go_wp2_with fail
  refine Calls.mono R.out ?_
  rintro e w1 ⟨rfl,h1,b1⟩
  go_wp2_with fail
  refine Calls.mono (L1.out w1 h1) ?_
  rintro e w2 ⟨rfl,h2,k2⟩
  go_wp2_with fail
  refine Calls.mono (L2.out w2 h2) ?_
  rintro e w3 ⟨rfl,h3,k3⟩
  go_wp2_with fail
  refine Calls.mono (L3.out w3 h3) ?_
  rintro e w4 ⟨rfl,h4,k4⟩
  go_wp2_with fail
  refine Calls.mono (EN.out w4 h4) ?_
  rintro e w5 ⟨rfl,rfl⟩
  go_wp2
  go_ret2
  exact ⟨rfl,rc_below b1 (kept_same (kept_same k2 k3) k4)⟩
 | pol b p =>
  simp only [Chg.can] at hc
  have L1:Hid (_):=LE 80 (shortT b++longT p) (by simp [shortT,longT,bigL_len];omega)
  have L2:Hid (_):=SH b (longT p) hc.1 (by simp [longT,bigL_len];omega)
  have L3:Hid (_):=LO p [] hc.2 (by simp)
  rw [List.append_nil] at L3
  clear LE SH LO NU
  go_enter Tryz.func94,Tryz.ntmps94
  go_wp2_with fail
  refine Calls.mono R.out ?_
  rintro e w1 ⟨rfl,h1,b1⟩
  go_wp2_with fail
  refine Calls.mono (L1.out w1 h1) ?_
  rintro e w2 ⟨rfl,h2,k2⟩
  go_wp2_with fail
  refine Calls.mono (L2.out w2 h2) ?_
  rintro e w3 ⟨rfl,h3,k3⟩
  go_wp2_with fail
  refine Calls.mono (L3.out w3 h3) ?_
  rintro e w4 ⟨rfl,h4,k4⟩
  go_wp2_with fail
  refine Calls.mono (EN.out w4 h4) ?_
  rintro e w5 ⟨rfl,rfl⟩
  go_wp2
  go_ret2
  exact ⟨rfl,rc_below b1 (kept_same (kept_same k2 k3) k4)⟩
 | unpol b =>
  simp only [Chg.can] at hc
  have L1:Hid (_):=LE 85 (shortT b) (by simp [shortT,bigL_len];omega)
  have L2:Hid (_):=SH b [] hc (by simp)
  rw [List.append_nil] at L2
  clear LE SH LO NU
  go_enter Tryz.func94,Tryz.ntmps94
  go_wp2_with fail
  refine Calls.mono R.out ?_
  rintro e w1 ⟨rfl,h1,b1⟩
  go_wp2_with fail
  refine Calls.mono (L1.out w1 h1) ?_
  rintro e w2 ⟨rfl,h2,k2⟩
  go_wp2_with fail
  refine Calls.mono (L2.out w2 h2) ?_
  rintro e w3 ⟨rfl,h3,k3⟩
  go_wp2_with fail
  refine Calls.mono (EN.out w3 h3) ?_
  rintro e w5 ⟨rfl,rfl⟩
  go_wp2
  go_ret2
  exact ⟨rfl,rc_below b1 (kept_same k2 k3)⟩
 | put b k y =>
  simp only [Chg.can] at hc
  have L1:Hid (_):=LE 79 (shortT b++shortT k++longT y) (by simp [shortT,longT,bigL_len];omega)
  have L2:Hid (_):=SH b (shortT k++longT y) hc.1 (by simp [shortT,longT,bigL_len];omega)
  have L3:Hid (_):=SH k (longT y) hc.2.1 (by simp [longT,bigL_len];omega)
  have L4:Hid (_):=LO y [] hc.2.2 (by simp)
  rw [List.append_nil] at L4
  rw [List.append_assoc] at L1
  have R':Hid (_):=R.out
  rw [show (Chg.put b k y).text=79 :: (shortT b++(shortT k++longT y)) by simp [Chg.text]] at R' ⊢
  clear LE SH LO NU R
  go_enter Tryz.func94,Tryz.ntmps94
  go_wp2_with fail
  refine Calls.mono R'.out ?_
  rintro e w1 ⟨rfl,h1,b1⟩
  go_wp2_with fail
  refine Calls.mono (L1.out w1 h1) ?_
  rintro e w2 ⟨rfl,h2,k2⟩
  go_wp2_with fail
  refine Calls.mono (L2.out w2 h2) ?_
  rintro e w3 ⟨rfl,h3,k3⟩
  go_wp2_with fail
  refine Calls.mono (L3.out w3 h3) ?_
  rintro e w4 ⟨rfl,h4,k4⟩
  go_wp2_with fail
  refine Calls.mono (L4.out w4 h4) ?_
  rintro e w5 ⟨rfl,h5,k5⟩
  go_wp2_with fail
  refine Calls.mono (EN.out w5 h5) ?_
  rintro e w6 ⟨rfl,rfl⟩
  go_wp2
  go_ret2
  exact ⟨rfl,rc_below b1 (kept_same (kept_same (kept_same k2 k3) k4) k5)⟩
 | mark b k =>
  simp only [Chg.can] at hc
  have L1:Hid (_):=LE 77 (shortT b++shortT k) (by simp [shortT,bigL_len];omega)
  have L2:Hid (_):=SH b (shortT k) hc.1 (by simp [shortT,bigL_len];omega)
  have L3:Hid (_):=SH k [] hc.2 (by simp)
  rw [List.append_nil] at L3
  clear LE SH LO NU
  go_enter Tryz.func94,Tryz.ntmps94
  go_wp2_with fail
  refine Calls.mono R.out ?_
  rintro e w1 ⟨rfl,h1,b1⟩
  go_wp2_with fail
  refine Calls.mono (L1.out w1 h1) ?_
  rintro e w2 ⟨rfl,h2,k2⟩
  go_wp2_with fail
  refine Calls.mono (L2.out w2 h2) ?_
  rintro e w3 ⟨rfl,h3,k3⟩
  go_wp2_with fail
  refine Calls.mono (L3.out w3 h3) ?_
  rintro e w4 ⟨rfl,h4,k4⟩
  go_wp2_with fail
  refine Calls.mono (EN.out w4 h4) ?_
  rintro e w5 ⟨rfl,rfl⟩
  go_wp2
  go_ret2
  exact ⟨rfl,rc_below b1 (kept_same (kept_same k2 k3) k4)⟩
 | drop b k n =>
  simp only [Chg.can] at hc
  have L1:Hid (_):=LE 88 (shortT b++shortT k++numT n) (by simp [shortT,numT,bigL_len];omega)
  have L2:Hid (_):=SH b (shortT k++numT n) hc.1 (by simp [shortT,numT,bigL_len];omega)
  have L3:Hid (_):=SH k (numT n) hc.2.1 (by simp [numT,bigL_len])
  have L4:Hid (_):=NU n hc.2.2
  rw [List.append_assoc] at L1
  have R':Hid (_):=R.out
  rw [show (Chg.drop b k n).text=88 :: (shortT b++(shortT k++numT n)) by simp [Chg.text]] at R' ⊢
  clear LE SH LO NU R
  go_enter Tryz.func94,Tryz.ntmps94
  go_wp2_with fail
  refine Calls.mono R'.out ?_
  rintro e w1 ⟨rfl,h1,b1⟩
  go_wp2_with fail
  refine Calls.mono (L1.out w1 h1) ?_
  rintro e w2 ⟨rfl,h2,k2⟩
  go_wp2_with fail
  refine Calls.mono (L2.out w2 h2) ?_
  rintro e w3 ⟨rfl,h3,k3⟩
  go_wp2_with fail
  refine Calls.mono (L3.out w3 h3) ?_
  rintro e w4 ⟨rfl,h4,k4⟩
  go_wp2_with fail
  refine Calls.mono (L4.out w4 h4) ?_
  rintro e w5 ⟨rfl,h5,k5⟩
  go_wp2_with fail
  refine Calls.mono (EN.out w5 h5) ?_
  rintro e w6 ⟨rfl,rfl⟩
  go_wp2
  go_ret2
  exact ⟨rfl,rc_below b1 (kept_same (kept_same (kept_same k2 k3) k4) k5)⟩
def Sto.more (s t:Sto) (c:Chg):Sto:={ t with log:=s.log++frameT c.text }
inductive Runs:Sto→List Chg→Sto→Prop
 | nil (s:Sto):Runs s [] s
 | cons {s t u:Sto} {c:Chg} {cs:List Chg}:Fine s→c.can→s.begin c=.ok t→Runs (s.more t c) cs u→Runs s (c :: cs) u
def framesT (cs:List Chg):Tx:=cs.flatMap fun c=>frameT c.text
theorem Runs.snoc {s u t:Sto} {cs:List Chg} {c:Chg} (h:Runs s cs u) (F:Fine u) (hc:c.can) (hb:u.begin c=.ok t):Runs s (cs++[c]) (u.more t c):=by
 induction h with
 | nil s=>exact .cons F hc hb (.nil _)
 | cons f k b _ ih=>exact .cons f k b (ih F hb)
theorem Runs.log {s u:Sto} {cs:List Chg} (h:Runs s cs u):u.log=s.log++framesT cs:=by
 induction h with
 | nil s=>simp [framesT]
 | cons f k b _ ih=>rw [ih];simp [framesT,Sto.more]
theorem Runs.users {s u:Sto} {cs:List Chg} (h:Runs s cs u):u.users=s.users:=by
 induction h with
 | nil s=>rfl
 | cons f k b _ ih=>exact ih.trans (begin_users b:_=_)
theorem firstC_some (c:Chg) (hc:c.can) (more:Tx) (hm:more.length≤100000) (w:World) :
  Calls Tryz.prog 65 #[str (frameT c.text++more)] w fun e w'=>e=.returned (.tuple #[.iface c.ty c.val,.int .i64 ((frameT c.text).length:Int),.bool true])∧Below w.heap.size w w':=by
 have hl:=Chg.can_len hc
 have FF:Hid (Calls Tryz.prog 93 #[str (frameT c.text++more)] w fun e w'=>e=.returned (.tuple #[str c.text,.int .i64 ((frameT c.text).length:Int),.bool true])∧Below w.heap.size w w'):=by
  have:=ffirst_any (frameT c.text++more) (by simp [frameT,longT,numT,bigL_len];omega) w
  rw [first_frame more hl] at this
  exact this
 have CL:Hid (∀ W,Calls Tryz.prog 64 #[str c.text] W fun e w'=>e=.returned (str c.text)∧Below W.heap.size W w'):=fun W=>R.clone_r c.text W (by omega)
 have RC:Hid (∀ W,Calls Tryz.prog 94 #[str c.text] W (rcPost c W)):=fun W=>readChange_any c hc W
 generalize frameT c.text++more=lg at *
 generalize (frameT c.text).length=fl at *
 unfold rcPost at RC
 generalize c.text=ct at *
 generalize c.val=cv at *
 generalize c.ty=cy at *
 go_enter Tryz.func65,Tryz.ntmps65
 go_wp2_with fail
 refine Calls.mono FF.out ?_
 rintro e w1 ⟨rfl,b1⟩
 go_wp2_with fail
 refine Calls.mono (CL.out w1) ?_
 rintro e w2 ⟨rfl,b2⟩
 go_wp2_with fail
 refine Calls.mono (RC.out w2) ?_
 rintro e w3 ⟨rfl,b3⟩
 have B3:=below_trans (below_trans b1 b2) b3
 go_wp2
 refine bodyPost_ret (v:=.tuple #[.iface cy cv,.int .i64 (fl:Int),.bool true]) ?_ rfl ⟨rfl,B3⟩
 simp [results,Tryz.results65,go_sem]
theorem firstC_none (lg:Tx) (hl:lg.length≤100000) (h:firstF lg=none) (w:World) :
  Calls Tryz.prog 65 #[str lg] w fun e w'=>e=.returned (.tuple #[.nilIface,.int .i64 0,.bool false])∧Below w.heap.size w w':=by
 have FF:Hid (Calls Tryz.prog 93 #[str lg] w fun e w'=>e=.returned (.tuple #[.string ⟨#[]⟩,.int .i64 0,.bool false])∧Below w.heap.size w w'):=by
  have:=ffirst_any lg (by omega) w
  rw [h] at this
  exact this
 go_enter Tryz.func65,Tryz.ntmps65
 go_wp2_with fail
 refine Calls.mono FF.out ?_
 rintro e w1 ⟨rfl,b1⟩
 go_wp2
 refine bodyPost_ret (v:=.tuple #[.nilIface,.int .i64 0,.bool false]) ?_ rfl ⟨rfl,b1⟩
 simp [results,Tryz.results65,go_sem]
theorem frames_cons (c:Chg) (cs:List Chg) (p:Tx):framesT (c :: cs)++p=frameT c.text++(framesT cs++p):=by simp [framesT]
theorem append_run {w:World} {v:Value} {l:Tx} (hown:owns w 0 v l) (t:Tx) (hb:l.length+t.length≤140737488355328):∃ v' w',(Builtin.append_ #[70,9] 70 #[v,str t]).run Tryz.prog w=.ok v' w'∧owns w' 0 v' (l++t)∧w.grownBy w' v.ownBlock∧(v'.ownBlock=v.ownBlock∨v'.ownBlock=some w.heap.size):=by
 obtain ⟨i0,hi,hz0,hz1,hz2⟩:=info_parts Tryz.infoByte
 obtain ⟨v',w',hr,h2,h3,h4⟩:=run_append_str (P:=Tryz.prog) w 70 9 70 5 i0 Tryz.underlying70 Tryz.underlying9 hi hz0 hz1 hz2 0 v l.length (l.map u8v) hown ⟨t.toArray⟩ (by simpa [ByteArray.size] using hb) (Nat.zero_le _)
 refine ⟨v',w',hr,?_,h3,h4⟩
 rw [strCells_l] at h2
 unfold owns
 rw [List.length_append,List.map_append]
 simpa [ByteArray.size] using h2
theorem step_append {ops:Array Oper} {o:Oper} {a:Act} {w:World} {K:Act→World→Prop} {Q:Exit→Act→World→Prop} {E:Prop} (hg:o.guard=none) (s x:Operand) (hop:o.op=Op.call { callee:=Callee.builtin Builtin.append,args:=#[s,x],argTypes:=#[70,9] }) (hty:o.type=70)
  (v u:Value) (hs:a.eval s=v) (hx:a.eval x=u) {v':Value} {w':World} (hr:(Builtin.append_ #[70,9] 70 #[v,u]).run Tryz.prog w=.ok v' w') (hK:K (a.put o.dst v') w'):if Region.wanted o (yielded ops a.tmps)=true then Oper.wp Tryz.prog o a w K Q else E:=by
 have hw:Region.wanted o (yielded ops a.tmps)=true:=by simp [Region.wanted,hg]
 rw [if_pos hw]
 unfold Oper.wp execOp
 simp only [hop,resolve,invoke,builtin,Sem.run_bind,Sem.run_pure,Result.andThen_ok,List.map_toArray,List.map_cons,List.map_nil,hs,hx,hty,hr]
 exact hK
theorem Step.from {N:Nat} {r r':Roles} {w w':World} (st:Step r w r' w') (hr:∀ g,r g≠.none→N≤g) (hN:N≤w.heap.size):(∀ g,r' g≠.none→N≤g)∧Below N w w' :=
 ⟨fun g e=>by
  rcases Nat.lt_or_ge g w.heap.size with hl|hl
  ·exact hr g (st.mine g hl e)
  ·omega,st.kept.below hN hr⟩
def strL:Value→Nat
 | .string s=>s.size
 | _=>0
theorem kopen_any (ua:Option Addr) (un uc:Nat) (users:List Tx) (hus:users.length≤1000) (room:Nat) (B N:Nat) (cs:List Chg) (part:Tx) (u:Sto) (hR:Runs (Sto.new users room) cs u) (hp:firstF part=none) (hl:(framesT cs++part).length≤90000) (w:World) (h:srow w B (.slice ua un uc) users) (hN:N≤w.heap.size) (hU:∀ g,(Value.slice ua un uc).ownBlock=some g→N≤g) :
  Calls Tryz.prog 43 #[.slice ua un uc,.int .i64 (room:Int),str (framesT cs++part)] w fun e w'=>∃ b r,e=.returned (.pointer (some ⟨b,0,none⟩))∧KS b u r w'∧Below N w w'∧(∀ g,r g≠.none→N≤g):=by
 have K0:Hid (KS (w.heap.size+1+1) (Sto.new users room) (rNew w.heap.size (.slice ua un uc)) (((w.alloc (.map #[] 0)).alloc (.map #[] 0)).alloc (.cells #[.slice ua un uc,.int .i64 (room:Int),.slice none 0 0,.map (some w.heap.size),.map (some (w.heap.size+1)),.int .i64 0] 125))):=knew_ks ua un uc users room B w h
 have HR0:Hid (∀ g,rNew w.heap.size (.slice ua un uc) g≠.none→N≤g):=fun g e=>by
  rcases knew_r e with k|k
  ·omega
  ·exact hU g k
 have B3:Below w.heap.size w (((w.alloc (.map #[] 0)).alloc (.map #[] 0)).alloc (.cells #[.slice ua un uc,.int .i64 (room:Int),.slice none 0 0,.map (some w.heap.size),.map (some (w.heap.size+1)),.int .i64 0] 125)):=(((Below.refl _ _).alloc (Nat.le_refl _) _).alloc (by simp) _).alloc (by simp;omega) _
 have HRU:Hid (Runs (Sto.new users room) cs u):=hR
 have HP:Hid (firstF part=none):=hp
 clear h hU hR hp
 have hmm:∀ (t:TypeId) (w:World),(Instr.makeMap t none).run Tryz.prog w=.ok (.map (some w.heap.size)) (w.alloc (.map #[] 0)):=fun _ _=>rfl
 go_enter Tryz.func43,Tryz.ntmps43
 go_wp2
 generalize (((w.alloc (.map #[] 0)).alloc (.map #[] 0)).alloc (.cells #[.slice ua un uc,.int .i64 (room:Int),.slice none 0 0,.map (some w.heap.size),.map (some (w.heap.size+1)),.int .i64 0] 125))=W3 at *
 go_loopw [2] (fun v wr=>∃ (cs':List Chg) (s:Sto) (r:Roles),v=str (framesT cs'++part)∧Runs s cs' u∧KS (w.heap.size+1+1) s r wr∧s.users.length≤1000∧(framesT cs'++part).length≤90000∧Below N w wr∧(∀ g,r g≠.none→N≤g)) (fun v _=>strL v)
 case atStart=>exact ⟨cs,_,_,rfl,HRU.out,K0.out,hus,hl,B3.mono hN,HR0.out⟩
 case round =>
  clear K0 HR0 B3 HRU hl hmm
  obtain ⟨cs',s,r,rfl,hR,hK,hu,hl,hb,hr⟩:=hrel
  cases cs' with
  | nil =>
   cases hR
   have e0:framesT []++part=part:=rfl
   rw [e0] at hl ⊢
   have FC:Hid (_):=firstC_none part (by omega) HP.out wr
   have HK:Hid (KS (w.heap.size+1+1) u r wr∧Below N w wr∧∀ g,r g≠.none→N≤g):=⟨hK,hb,hr⟩
   clear hK hb hr HP
   go_wp2_with fail
   refine Calls.mono FC.out ?_
   rintro e w1 ⟨rfl,b1⟩
   go_wp2
   go_ret
   exact ⟨_,r,rfl,HK.out.1.below b1,HK.out.2.1.trans (b1.mono (by have:=HK.out.2.1.size;omega)),HK.out.2.2⟩
  | cons c cs1 =>
   cases hR with
   | cons F hc hbg hR1 =>
    rename_i t
    rw [frames_cons] at hl ⊢
    have hfl:(frameT c.text).length+(framesT cs1++part).length≤90000:=by simpa using hl
    have FC:Hid (_):=firstC_some c hc (framesT cs1++part) (by omega) wr
    have HRS:Hid (Runs (s.more t c) cs1 u):=hR1
    have HTL:Hid (t.log=s.log∧t.room=s.room):=begin_log hbg
    have HTU:Hid (t.users=s.users):=begin_users hbg
    have BG:Hid (∀ W,KS (w.heap.size+1+1) s r W→Calls Tryz.prog c.begF #[c.val,.pointer (some ⟨w.heap.size+1+1,0,none⟩)] W fun e w'=>∃ F caps r',e=.returned (.tuple #[.func (.func F) #[] caps,.nilIface])∧KS (w.heap.size+1+1) t r' w'∧Step r W r' w'):=fun W hW=>Calls.mono (c.begin_any _ s r W hW F (by omega) (Chg.can_fit hc)) fun e w' hp=>by
     rw [hbg] at hp
     obtain ⟨F1,caps,r',h1,_,h2,h3,_⟩:=hp
     exact ⟨F1,caps,r',h1,h2,h3⟩
    have M1:=c.begin_method
    have N1:=c.begin_nil
    have E1:=c.begin_enters
    have hflog:=F.log
    have hfp:1≤(frameT c.text).length:=frame_pos c.text
    have EX1:Hid ((⟨(frameT c.text++(framesT cs1++part)).toArray⟩:ByteArray).extract 0 (frameT c.text).length=⟨(frameT c.text).toArray⟩):=by
     show _=_
     rw [ext_take];simp
    have EX2:Hid ((⟨(frameT c.text++(framesT cs1++part)).toArray⟩:ByteArray).extract (frameT c.text).length ((frameT c.text).length+(framesT cs1++part).length)=⟨(framesT cs1++part).toArray⟩):=by
     show _=_
     have:=ext_drop (frameT c.text++(framesT cs1++part)) (frameT c.text).length
     rw [List.length_append] at this
     rw [this];simp
    have HMORE:Hid (s.more t c={ t with log:=t.log++frameT c.text }):=by show _=_;unfold Sto.more;rw [HTL.out.1]
    have HK:Hid (KS (w.heap.size+1+1) s r wr∧Below N w wr∧∀ g,r g≠.none→N≤g):=⟨hK,hb,hr⟩
    have hll:(frameT c.text++(framesT cs1++part)).length=(frameT c.text).length+(framesT cs1++part).length:=by simp
    clear hK hb hr HP hR1 hbg hc hl F
    generalize hre:framesT cs1++part=rest at FC EX1 EX2 hfl hll ⊢
    have HRE:Hid (framesT cs1++part=rest):=hre
    clear hre
    generalize frameT c.text=fr at *
    go_wp2_with fail
    refine Calls.mono FC.out ?_
    rintro e w1 ⟨rfl,b1⟩
    have BG1:Hid (_):=BG.out w1 (HK.out.1.below b1)
    clear BG FC
    go_wp2_with fail
    refine Calls.mono BG1.out ?_
    rintro e w2 ⟨F1,caps,r',rfl,hk2,st2⟩
    obtain ⟨uv,lv,mb,mv,hk2⟩:=hk2
    have hlg:=hk2.lg
    obtain ⟨la,lc,rfl⟩:=owns.sl hlg
    have HK2:Hid (KSv (w.heap.size+1+1) t r' uv (.slice la t.log.length lc) mb mv w2):=hk2
    have c2:=hk2.c2;have f2:=hk2.fz 2
    have hbl:=hk2.blt
    have nb:¬ (Value.slice la t.log.length lc).ownBlock=some (w.heap.size+1+1):=fun e=>by have:=HK2.out.lr _ e;rw [HK2.out.rb] at this;cases this
    have htl:t.log.length≤100000:=by rw [HTL.out.1];omega
    have HST:Hid (Step r wr r' w2):=(Step.of_below b1).trans st2
    clear BG1 hk2 M1 N1 E1 b1 st2
    obtain ⟨v',w3,hap,own3,g3,l3⟩:=append_run (w:=w2.drew) (show owns w2.drew 0 (.slice la t.log.length lc) t.log from hlg) fr (by omega)
    obtain ⟨va,vc,rfl⟩:=owns.sl own3
    have e2:w3.cell? ⟨w.heap.size+1+1,2,none⟩=some (.slice la t.log.length lc):=(Kept.of_grown g3).cell (show w2.drew.cell? ⟨w.heap.size+1+1,2,none⟩=_ from c2) nb
    have ff2:w3.frozen? ⟨w.heap.size+1+1,2,none⟩=false:=(Kept.of_grown g3).frozen (a:=⟨w.heap.size+1+1,2,none⟩) hbl f2 nb
    rw [show str fr=.string ((⟨(fr++rest).toArray⟩:ByteArray).extract 0 fr.length) from congrArg Value.string EX1.out.symm] at hap
    have tle:(fr.length:Int)≤(fr.length:Int)+(rest.length:Int):=by omega
    have HAP:Hid (_=_):=hap
    clear hap
    go_wp2_with fail
    go_region_law (refine step_append rfl (.tmp 41) (.tmp 44) rfl rfl _ _ (by simp [Act.eval]) (by simp [Act.eval]) HAP.out ?_)
    go_wp2
    have g4:w2.grownBy w3 (Value.slice la t.log.length lc).ownBlock:=⟨g3.os,g3.tape,g3.output,g3.size,g3.block⟩
    obtain ⟨K1,K2⟩:=HK2.out.log g4 own3 l3
    rw [List.length_append] at K1 K2
    have ST:=HST.out.trans K2
    obtain ⟨n1,n2⟩:=ST.from HK.out.2.2 (Nat.le_trans hN HK.out.2.1.size)
    go_roundw
    case rel =>
     refine ⟨cs1,s.more t c,_,by rw [HRE.out];exact congrArg Value.string EX2.out,HRS.out,?_,?_,?_,HK.out.2.1.trans n2,n1⟩
     ·rw [HMORE.out];exact ⟨_,_,_,_,K1⟩
     ·show t.users.length≤1000;rw [HTU.out];exact hu
     ·rw [HRE.out];omega
    case measure=>simp [strL,ByteArray.size];omega
theorem lopen_any (cs:List Chg) (part:Tx) (u:Sto) (hp:firstF part=none) (hlen:(framesT cs++part).length≤20000) (Fu:Fine u) (a:Option Addr) (cap:Nat) (us:Us) (hcap:us.length≤cap) (g:GoodU us) (room clock:Nat) (h1:200≤room) (h2:room≤20000) (h3:clock≤1000000000000) (hR:Runs (Sto.new (us.map (·.1)) room) cs u) (w:World) (G:GL w) (h:UR a us w) :
  Calls Tryz.prog 23 #[.agg #[.slice a us.length cap,.int .i64 (room:Int),.int .i64 (clock:Int)],str (framesT cs++part)] w fun e w'=>∃ A b r,e=.returned (.tuple #[.pointer (some ⟨A,0,none⟩),.int .i64 (u.log.length:Int),.int .i64 0])∧LS A b us clock u r w'∧Below w.heap.size w w'∧(∀ g,r g≠.none→w.heap.size≤g):=by
 have b0:Below w.heap.size w (w.alloc (confC a us.length cap room clock)):=(Below.refl _ _).alloc (Nat.le_refl _) _
 have IC:Hid (_):=isConfig_good a cap us hcap g room clock h1 h2 h3 (w.alloc (confC a us.length cap room clock)) (h.below b0)
 have hul:=g.hi
 have HB:Hid (∀ u∈us,u.1.length≤1000∧u.2.length≤1000):=fun u hu=>by have:=userP_len (g.u u hu);omega
 have CU:Hid (∀ W,UR a us W→_):=fun W hW=>copyUsers_any a cap us HB.out W hW (by omega)
 have HKO:Hid (∀ (na:Option Addr) (nn nc:Nat) (W:World) (N:Nat),N≤W.heap.size→srow W N (.slice na nn nc) (us.map (·.1))→Calls Tryz.prog 43 #[.slice na nn nc,.int .i64 (room:Int),str (framesT cs++part)] W fun e w'=>∃ b r,e=.returned (.pointer (some ⟨b,0,none⟩))∧KS b u r w'∧Below N W w'∧(∀ g,r g≠.none→N≤g)):=fun na nn nc W N hz hW=>kopen_any na nn nc _ (by simp;omega) room N N cs part u hR hp (by omega) W hW hz (fun g e=>(srow_lt hW g e).1)
 have tlen:decide ((20000:Int) < ((framesT cs++part).length:Int))=false:=by simp only [decide_eq_false_iff_not];omega
 generalize framesT cs++part=lg at *
 have HU:Hid (UR a us w):=h
 have HG:Hid (GL w):=G
 clear h g hp
 go_enter Tryz.func23,Tryz.ntmps23
 go_wp2_with fail
 refine Calls.mono IC.out ?_
 rintro e w1 ⟨rfl,b1⟩
 have B1:=below_trans b0 b1
 have hz1:=b1.size
 have m0:w.heap.size < w1.heap.size:=by simp at hz1;omega
 have c0:w1.cell? ⟨w.heap.size,0,none⟩=some (.slice a us.length cap):=(b1.cell (p:=⟨w.heap.size,0,none⟩) (by simp)).trans (by simp [go_sem])
 have c1:w1.cell? ⟨w.heap.size,1,none⟩=some (.int .i64 (room:Int)):=(b1.cell (p:=⟨w.heap.size,1,none⟩) (by simp)).trans (by simp [go_sem])
 have c2:w1.cell? ⟨w.heap.size,2,none⟩=some (.int .i64 (clock:Int)):=(b1.cell (p:=⟨w.heap.size,2,none⟩) (by simp)).trans (by simp [go_sem])
 have CU1:Hid (_):=CU.out w1 (HU.out.below B1)
 clear IC CU hz1
 go_wp2_with fail
 refine Calls.mono CU1.out ?_
 rintro e w2 ⟨v,rfl,hrow,b2⟩
 have B2:=below_trans B1 b2
 have e1:w2.cell? ⟨w.heap.size,1,none⟩=some (.int .i64 (room:Int)):=(b2.cell (p:=⟨w.heap.size,1,none⟩) m0).trans c1
 have e2:w2.cell? ⟨w.heap.size,2,none⟩=some (.int .i64 (clock:Int)):=(b2.cell (p:=⟨w.heap.size,2,none⟩) m0).trans c2
 have m2:w.heap.size < w2.heap.size:=Nat.lt_of_lt_of_le m0 b2.size
 obtain ⟨va,vc,rfl,hvc⟩:=hrow.sl
 have hur:=hrow.UR
 have hvl:∀ g,(Value.slice va us.length vc).ownBlock=some g→g < w2.heap.size:=fun g e=>(World.ownsRow.lt hrow g e).2
 have HR2:Hid (urow w2 w1.heap.size (.slice va us.length vc) us):=hrow
 have NO:Hid (∀ W,Below w2.heap.size w2 W→Calls Tryz.prog 44 #[.slice va us.length vc] W fun e w'=>∃ na nn nc,e=.returned (.slice na nn nc)∧srow w' W.heap.size (.slice na nn nc) (us.map (·.1))∧Below W.heap.size W w'):=fun W hW=>by
  refine Calls.mono (namesOf_any va vc us W (hur.below hW) (by omega)) ?_
  rintro e w' ⟨v,rfl,h5,h6⟩
  have h50:=h5
  obtain ⟨_,⟨rfl,_⟩|⟨g,cap,cur,rfl,_⟩⟩:=h5
  ·exact ⟨_,_,_,rfl,h50,h6⟩
  ·exact ⟨_,_,_,rfl,h50,h6⟩
 have HUU:u.users.length≤1000:=by rw [hR.users];simp [Sto.new];omega
 have KO:Hid (∀ (na:Option Addr) (nn nc:Nat) (W:World),w2.heap.size≤W.heap.size→srow W w2.heap.size (.slice na nn nc) (us.map (·.1))→Calls Tryz.prog 43 #[.slice na nn nc,.int .i64 (room:Int),str lg] W fun e w'=>∃ b r,e=.returned (.pointer (some ⟨b,0,none⟩))∧KS b u r w'∧Below w2.heap.size W w'∧(∀ g,r g≠.none→w2.heap.size≤g)):=fun na nn nc W hz hW=>HKO.out na nn nc W w2.heap.size hz hW
 clear c0 c1 c2 CU1 hrow hur b1 b2 b0
 have BB:Below w2.heap.size w2 w2.drew:=below_drew w2
 have d1:w2.drew.cell? ⟨w.heap.size,1,none⟩=some (.int .i64 (room:Int)):=e1
 have d2:w2.drew.cell? ⟨w.heap.size,2,none⟩=some (.int .i64 (clock:Int)):=e2
 go_wp2_with fail
 go_region_held3 (fun w'=>w'.cell? ⟨w.heap.size,1,none⟩=some (.int .i64 (room:Int))∧w'.cell? ⟨w.heap.size,2,none⟩=some (.int .i64 (clock:Int))) (first|exact ⟨d1,d2⟩|exact ⟨cell_alloc d1 _,cell_alloc d2 _⟩)
  (first
   | (go_at_call 44;with_reducible refine Calls.mono (NO.out _ BB) ?_;rintro e w3 ⟨na,nn,nc,rfl,hsr,b3⟩;replace d1:=(b3.cell (p:=⟨w.heap.size,1,none⟩) (Nat.lt_of_lt_of_le m2 BB.size)).trans d1;replace d2:=(b3.cell (p:=⟨w.heap.size,2,none⟩) (Nat.lt_of_lt_of_le m2 BB.size)).trans d2;have hb3s:=BB.size;replace BB:=below_trans BB b3)
   | (go_at_call 43;with_reducible refine Calls.mono (KO.out na nn nc w3 BB.size (hsr.up (by first|exact hb3s|exact Nat.le_refl _))) ?_;rintro e w4 ⟨b,r,rfl,hks,b4,hr4⟩;replace d1:=(b4.cell (p:=⟨w.heap.size,1,none⟩) m2).trans d1;replace d2:=(b4.cell (p:=⟨w.heap.size,2,none⟩) m2).trans d2;have hb4s:=BB.size;replace BB:=BB.trans b4))
 rename_i hHeld
 clear hHeld
 have hall:∀ g,r g≠.none→w2.heap.size≤g:=hr4
 have hnone:∀ g,g < w2.heap.size→r g=.none:=fun g hg=>by
  cases e:r g with
  | none=>rfl
  | _=>have:=hall g (by rw [e];simp);omega
 have B5:Below w4.heap.size w4 (w4.alloc (.cells #[.slice va us.length vc,.int .i64 (clock:Int),.pointer (some ⟨b,0,none⟩)] 89)):=(Below.refl _ _).alloc (Nat.le_refl _) _
 have BE:=below_trans BB B5
 have hs2:=B2.size
 have hng:=HG.out.sz
 have hs5:=BE.size
 have hr4n:r w4.heap.size=.none:=by
  cases e:r w4.heap.size with
  | none=>rfl
  | _=>have:=hks.dom w4.heap.size (by rw [e];simp);omega
 have LSF:LS w4.heap.size b us clock u r (w4.alloc (.cells #[.slice va us.length vc,.int .i64 (clock:Int),.pointer (some ⟨b,0,none⟩)] 89)):={
  l0:=⟨va,vc,by simp [go_sem],(HR2.out.below BE).UR,fun p hp=>by
   have hq:=hvl p.block (by rw [hp];rfl)
   exact ⟨hnone _ hq,by omega⟩⟩
  l1:=by simp [go_sem]
  l2:=by simp [go_sem]
  ra:=hr4n
  al:=by simp
  K:=hks.below B5
  sz:=by omega
  rN:=fun g hg=>hnone g (by omega)
  F:=Fu
  hu:=HUU
  ul:=by omega
  un:=fun u hu=>by have:=HB.out u hu;omega
  cl:=h3 }
 have LG:Hid (_):=llog_any _ _ _ _ _ _ _ LSF
 have FIN:Hid (LS w4.heap.size b us clock u r (w4.alloc (.cells #[.slice va us.length vc,.int .i64 (clock:Int),.pointer (some ⟨b,0,none⟩)] 89))∧Below w.heap.size w (w4.alloc (.cells #[.slice va us.length vc,.int .i64 (clock:Int),.pointer (some ⟨b,0,none⟩)] 89))∧(∀ g,r g≠.none→w.heap.size≤g)):=⟨LSF,below_trans B2 BE,fun g e=>Nat.le_trans hs2 (hall g e)⟩
 have hull:=Fu.log
 clear LSF KO NO hks hr4 hsr b3 b4 hall hnone BB B5 BE HR2 hvl
 go_wp2_with fail
 refine Calls.mono LG.out ?_
 rintro e w5 ⟨rfl,rfl⟩
 go_wp2
 refine bodyPost_ret (v:=.tuple #[.pointer (some ⟨w4.heap.size,0,none⟩),.int .i64 (u.log.length:Int),.int .i64 0]) ?_ rfl ⟨_,_,_,rfl,FIN.out.1,FIN.out.2.1,FIN.out.2.2⟩
 simp [results,Tryz.results23,go_sem]
theorem done_more (s:Sto) (c:Chg):(s.done c).2=s∨∃ t,(s.begin c=.ok t∧s.log.length+(frameT c.text).length≤s.room)∧(s.done c).2=s.more t c:=by
 unfold Sto.done
 split
 ·exact .inl rfl
 ·rename_i t e
  split
  ·rename_i hl
   exact .inr ⟨t,⟨e,hl⟩,rfl⟩
  ·exact .inl rfl
def Nxt (s s':Sto):Prop:=s'=s∨∃ c t,(c.can∧s.log.length+(frameT c.text).length≤s.room)∧s.begin c=.ok t∧s'=s.more t c
theorem nxt_done {s:Sto} {c:Chg} (hc:∀ t,s.begin c=.ok t→c.can):Nxt s (s.done c).2:=by
 rcases done_more s c with e|⟨t,e1,e2⟩
 ·exact .inl e
 ·exact .inr ⟨c,t,⟨hc t e1.1,e1.2⟩,e1.1,e2⟩
theorem read_ask {us:Us} {clock:Nat} {t u:Tx} {q:AskP} (h:readP us clock t=.ok (u,q)):bktP q.bucket=true∧(q.key=[]∨keyP q.key=true)∧q.version≤999999999:=by
 unfold readP at h
 split at h
 ·cases h
 ·split at h
  ·cases h
  ·split at h
   ·cases h
   ·split at h
    ·cases h
    ·rename_i a ha
     cases h
     have:=ask_fit ha
     exact ⟨this.2.1,this.2.2.1,this.2.2.2.2⟩
theorem ask_key {q:AskP} (h:q.key=[]∨keyP q.key=true):q.key.length < 256:=by
 rcases h with h|h
 ·rw [h];simp
 ·have:=key_le h;omega
theorem serve_nxt {s:Sto} {u:Tx} {q:AskP} (hu:∀ x∈s.users,x.length < 256) (f:AskFit u q) (h:bktP q.bucket=true∧(q.key=[]∨keyP q.key=true)∧q.version≤999999999):Nxt s (serveP s u q).2.2.2:=by
 have hb:=bkt_len h.1
 have hk:=ask_key h.2.1
 have hy:=f.y
 unfold serveP
 by_cases k0:q.kind=0
 ·rw [if_pos k0]
  refine nxt_done fun t e=>⟨by omega,?_⟩
  simp only [Sto.begin] at e
  split at e
  ·rename_i hc
   exact hu u (by simpa using hc.2)
  ·cases e
 rw [if_neg k0]
 by_cases k1:q.kind=1
 ·rw [if_pos k1];exact nxt_done fun t e=>⟨by omega,by omega⟩
 rw [if_neg k1]
 by_cases k2:q.kind=2
 ·rw [if_pos k2];exact .inl rfl
 rw [if_neg k2]
 by_cases k3:q.kind=3
 ·rw [if_pos k3];exact nxt_done fun t e=>by show q.bucket.length < 256;omega
 rw [if_neg k3]
 by_cases k5:q.kind=5
 ·rw [if_pos k5];exact nxt_done fun t e=>⟨by omega,hk,by omega⟩
 rw [if_neg k5]
 by_cases k6:q.kind=6
 ·rw [if_pos k6];unfold getP;split <;> exact .inl rfl
 rw [if_neg k6]
 by_cases k7:q.kind=7
 ·rw [if_pos k7];exact nxt_done fun t e=>⟨by omega,hk⟩
 rw [if_neg k7]
 exact nxt_done fun t e=>⟨by omega,hk,by have:=h.2.2;omega⟩
theorem RespQ.nxt {us:Us} {clock:Nat} {s:Sto} {t:Tx} {X:Nat×Hs×Tx×Sto} (h:RespQ us clock s t X) (hu:∀ x∈s.users,x.length < 256) (hs:∀ x∈us,x.1.length≤1000∧x.2.length≤1000000):Nxt s X.2.2.2:=by
 cases hr:readP us clock t with
 | error n=>rw [h.err n hr];exact .inl rfl
 | ok p =>
  obtain ⟨u,q⟩:=p
  by_cases hm:mayP s u q=200
  ·have hs':=h.serves u q hr hm
   by_cases hk:q.kind=4
   ·obtain ⟨l,_,rfl⟩:=hs'.2 hk;exact .inl rfl
   ·rw [hs'.1 hk];exact serve_nxt hu (read_fit hs hr).1 (read_ask hr)
  ·rw [h.no u q hr hm];exact .inl rfl
theorem cut_runs {s0 s s':Sto} {cs:List Chg} (R:Runs s0 cs s) (h0:s0.log=[]) (F:Fine s) (h:Nxt s s') {c:Nat} (h1:s.log.length≤c) (h2:c≤s'.log.length) :
  ∃ cs' u part,Runs s0 cs' u∧s'.log.take c=framesT cs'++part∧firstF part=none∧(c=s'.log.length→u=s')∧(c≠s'.log.length→u=s):=by
 have e0:firstF []=none:=by
  have:=first_cut (b:=[]) (c:=0) (by simp) (by simp [frameT,longT,numT,bigL_len])
  simpa using this
 rcases h with rfl|⟨d,t,k1,k2,rfl⟩
 ·have hc:c=s'.log.length:=by omega
  refine ⟨cs,s',[],R,?_,e0,fun _=>rfl,fun e=>absurd hc e⟩
  rw [hc,List.take_length,R.log,h0];simp
 ·have hl:(s.more t d).log=s.log++frameT d.text:=rfl
  by_cases hc:c=(s.more t d).log.length
  ·refine ⟨_,_,[],R.snoc F k1.1 k2,?_,e0,fun _=>rfl,fun e=>absurd hc e⟩
   rw [hc,List.take_length,(R.snoc F k1.1 k2).log,h0];simp
  ·refine ⟨cs,s,(frameT d.text).take (c - s.log.length),R,?_,?_,fun e=>absurd e hc,fun _=>rfl⟩
   ·rw [hl,List.take_append,List.take_of_length_le h1]
    have:=R.log
    rw [h0,List.nil_append] at this
    rw [← this]
   ·refine first_cut (Chg.can_len k1.1) ?_
    rw [hl,List.length_append] at h2 hc
    omega
open C (ret_bool ret_int ret_str enc enc_len)
theorem PB.step {N h a b bb:Nat} {s:Sto} {l:List BV} {sl:Value} {room:Nat} {r r':Roles} {w w':World} (P:PB N h a b bb s l sl room r w) (hN:N≤w.heap.size) (st:Step r w r' w') (H:HS h a b s r' w'):PB N h a b bb s l sl room r' w' :=
 ⟨⟨H,P.P.B.step st P.P.rb P.P.rr,P.P.K,st.none P.P.B.lt P.P.rb,fun g e=>st.none (World.ownsRow.lt P.P.B.row g e).2 (P.P.rr g e)⟩,P.O.kept P.P.H.L st.kept (by simp [P.P.H.L.ra]),(st.base P.hr hN).1,P.hb⟩
abbrev Came (room:Nat) (s:Sto):Prop:=∃ cs,Runs (Sto.new [tAl,tBo] room) cs s∧s.log.length≤room
theorem came_users {room:Nat} {s:Sto} (h:Came room s):∀ x∈s.users,x.length < 256:=by
 obtain ⟨cs,h,_⟩:=h
 rw [h.users]
 intro x hx
 have:x=tAl∨x=tBo:=by simpa [Sto.new] using hx
 rcases this with rfl|rfl <;> decide
theorem came_begun (room:Nat) (h0:200≤room) (h:room≤100000):Came room (sBeg room) :=
 ⟨_,.cons (c:=.mk tBkt tAl) (t:=(Sto.new [tAl,tBo] room).setBk tBkt ⟨tAl,[],[]⟩) (fine_new _ _ h) ⟨by decide,by decide⟩ rfl (.nil _),by
  have:=frame_mk (b:=tBkt) (o:=tAl) (by decide) (by decide)
  show ([]++frameT (Chg.mk tBkt tAl).text).length≤room
  simp only [List.nil_append];omega⟩
theorem Nxt.came {room:Nat} {s s':Sto} (h:Nxt s s') (C:Came room s) (F:Fine s) (hr:s.room=room):Came room s':=by
 obtain ⟨cs,R,hl⟩:=C
 rcases h with rfl|⟨c,t,h1,h2,rfl⟩
 ·exact ⟨cs,R,hl⟩
 ·refine ⟨_,R.snoc F h1.1 h2,?_⟩
  show (s.log++frameT c.text).length≤room
  rw [List.length_append];omega
theorem drop_pre {a b:Tx} (h:a <+: b):(⟨b.toArray⟩:ByteArray).extract 0 a.length=⟨a.toArray⟩:=by
 obtain ⟨z,rfl⟩:=h
 rw [ext_take];simp
theorem nxt_log {s s':Sto} (h:Nxt s s'):s.log <+: s'.log:=by
 rcases h with rfl|⟨c,t,_,_,rfl⟩
 ·exact List.prefix_refl _
 ·exact ⟨frameT c.text,rfl⟩
theorem svlaw_any (room:Int) (hroom:i64 room) (a0:Option Addr) (c0:Nat) (l:List StP) (_hl:l.length≤9223372036854775807) (hf:∀ o∈l,StFit o) (o:StP) (ho:StFit o) (cu:Int) (hcu:i64 cu) (w:World) (G:GL w) (S:SR a0 l w) :
  Calls Tryz.prog 5 #[.int .i64 room,.slice a0 l.length c0,o.v,.int .i64 cu] w fun e w'=>e=.returned (.bool true)∧Below w.heap.size w w':=by
 have hp:=pickP_lt room (n:=19801) (by omega)
 have PK:Hid (∀ W,Calls Tryz.prog 10 #[.int .i64 room,.int .i64 19801] W fun e w'=>e=.returned (.int .i64 (pickP room 19801:Int))∧W=w'):=fun W=>pick_any room hroom 19801 (by omega) (by omega) W
 generalize pickP room 19801=pr at *
 have b0:Below w.heap.size w (w.alloc (stC o)):=(Below.refl _ _).alloc (Nat.le_refl _) _
 have d0:(w.alloc (stC o)).cell? ⟨w.heap.size,0,none⟩=some (.int .i64 o.kind):=by simp [go_sem]
 have d1:(w.alloc (stC o)).cell? ⟨w.heap.size,1,none⟩=some (.int .i64 o.key):=by simp [go_sem]
 have d2:(w.alloc (stC o)).cell? ⟨w.heap.size,2,none⟩=some (.int .i64 o.n):=by simp [go_sem]
 have d3:(w.alloc (stC o)).cell? ⟨w.heap.size,3,none⟩=some (str o.body):=by simp [go_sem]
 have z0:w.heap.size < (w.alloc (stC o)).heap.size:=by simp
 have G0:GL (w.alloc (stC o)):=G.call b0
 have S0:SR a0 l (w.alloc (stC o)):=S.below b0
 have HD:Hid (∀ W,Below (w.alloc (stC o)).heap.size (w.alloc (stC o)) W→W.cell? ⟨w.heap.size,0,none⟩=some (.int .i64 o.kind)∧W.cell? ⟨w.heap.size,1,none⟩=some (.int .i64 o.key)∧W.cell? ⟨w.heap.size,2,none⟩=some (.int .i64 o.n)∧W.cell? ⟨w.heap.size,3,none⟩=some (str o.body)):=fun W hW=>⟨(hW.cell (p:=⟨w.heap.size,0,none⟩) z0).trans d0,(hW.cell (p:=⟨w.heap.size,1,none⟩) z0).trans d1,(hW.cell (p:=⟨w.heap.size,2,none⟩) z0).trans d2,(hW.cell (p:=⟨w.heap.size,3,none⟩) z0).trans d3⟩
 clear d0 d1 d2 d3 G S
 have HFO:Hid (StFit o):=ho
 have BG:Hid (Calls Tryz.prog 19 #[.int .i64 (200+(pr:Int))] (w.alloc (stC o)) fun e w'=>∃ h a b r,e=.returned (.tuple #[.pointer (some ⟨h,0,none⟩),.bool true])∧HS h a b (sBeg (200+pr)) r w'∧Below (w.alloc (stC o)).heap.size (w.alloc (stC o)) w'∧∀ g,r g≠.none→(w.alloc (stC o)).heap.size≤g):=by
  have:=begun_any (200+pr) (by omega) (by omega) (w.alloc (stC o)) G0
  rw [beg_eq (200+pr) (by omega)] at this
  rwa [show ((200+pr:Nat):Int)=200+(pr:Int) by omega] at this
 have PL:Hid (∀ (N h a b bb:Nat) (s:Sto) (bl:List BV) (sl:Value) (r:Roles) (o:StP) W,StFit o→GL W→Came (200+pr) s→PB N h a b bb s bl sl (200+pr) r W→Calls Tryz.prog 20 #[.pointer (some ⟨bb,0,none⟩),.pointer (some ⟨h,0,none⟩),o.v,.int .i64 (200+(pr:Int))] W fun e w'=>∃ s' l' sl' r',e=.returned (.bool true)∧(PB N h a b bb s' l' sl' (200+pr) r' w'∧Nxt s s'∧Came (200+pr) s')∧Below N W w'):=fun N h a b bb s bl sl r o W ho GW C P=>by
  obtain ⟨X,hX⟩:=respQ_ex P.P.K.K two 5000 (headT tAl sAl 5000 (stAsk o s.last).1 (stAsk o s.last).2.1 (stAsk o s.last).2.2)
  have:=playK_any N h a b bb s bl sl (200+pr) r o ho X hX (by omega) W GW P
  rw [show ((200+pr:Nat):Int)=200+(pr:Int) by omega] at this
  have nx:Nxt s X.2.2.2:=hX.nxt (came_users C) P.P.H.L.un
  exact Calls.mono this fun e w' ⟨l',sl',r',h1,h2,h3⟩=>⟨_,l',sl',r',h1,⟨h2,nx,nx.came C P.P.H.L.F P.P.K.r⟩,h3⟩
 have wr1:IntKind.i64.wrap (200+(pr:Int))=200+(pr:Int):=by unfold IntKind.wrap;simp [IntKind.bits,IntKind.signed];omega
 have HS0:Hid (SR a0 l (w.alloc (stC o))):=S0
 have HG:Hid (GL (w.alloc (stC o))):=G0
 have HF:Hid (∀ o∈l,StFit o):=hf
 clear ho S0 G0 hf
 obtain ⟨kd,ky,on,bo⟩:=o
 unfold StP.v
 dsimp only at HD
 go_enter Tryz.func5,Tryz.ntmps5
 go_wp2_with (go_at_call 10;refine Calls.mono (PK.out _) ?_;rintro e w1 ⟨rfl,rfl⟩)
 generalize w.alloc (stC ⟨kd,ky,on,bo⟩)=W0 at *
 refine Calls.mono BG.out ?_
 rintro e w1 ⟨h,a,b,r,rfl,H1,b1,hr1⟩
 have PB1:Hid (PB W0.heap.size h a b w1.heap.size (sBeg (200+pr)) [] (.slice none 0 0) (200+pr) r (w1.alloc bokC)∧Came (200+pr) (sBeg (200+pr))):=⟨pb_begun (200+pr) H1 b1.size hr1,came_begun (200+pr) (by omega) (by omega)⟩
 have B1:Below W0.heap.size W0 (w1.alloc bokC):=b1.alloc b1.size _
 clear BG PK H1 hr1
 go_wp2
 go_loopw [11,13] (fun ok i wr=>∃ k:Nat,i=.int .i64 k∧k≤l.length∧k≤40∧ok=.bool true∧(∃ s bl sl r,PB W0.heap.size h a b w1.heap.size s bl sl (200+pr) r wr∧Came (200+pr) s)∧Below W0.heap.size W0 wr) (fun _ i _=>l.length - (intOf i).toNat)
 case atStart=>exact ⟨0,rfl,Nat.zero_le _,by omega,rfl,⟨_,_,_,_,PB1.out⟩,B1⟩
 case round =>
  clear PB1
  obtain ⟨k,rfl,hk,hk40,rfl,⟨s,bl,sl,r2,P2,C2⟩,hb⟩:=hrel
  by_cases hlt:k < l.length∧k < 40
  ·obtain ⟨hlt,hlt2⟩:=hlt
   obtain ⟨g,off,rfl,hg,q0,q1,q2,q3⟩:=(HS0.out.below hb).get k hlt
   have ho:=HF.out _ (List.getElem_mem hlt)
   generalize l[k]=o at *
   have P3:Hid (_):=PL.out W0.heap.size h a b w1.heap.size s bl sl r2 o wr ho (HG.out.call hb) C2 P2
   obtain ⟨kd',ky',on',bo'⟩:=o
   dsimp only at q0 q1 q2 q3
   clear P2 ho C2
   go_wp2_with (go_at_call 20;refine Calls.mono P3.out ?_;rintro e w3 ⟨s',l',sl',r',rfl,⟨P4,_,C4⟩,b4⟩)
   go_roundw
   case rel=>exact ⟨k+1,by go_num,by omega,by omega,rfl,⟨_,_,_,_,P4,C4⟩,hb.trans b4⟩
   case measure=>simp [intOf];omega
  ·have tt:(decide (k < l.length)=true∧decide ((k:Int) < 40)=false∧decide (k < 40)=false)∨decide (k < l.length)=false:=by
    by_cases h1:k < l.length
    ·exact .inl ⟨by simpa using h1,by simp;omega,by simp;omega⟩
    ·exact .inr (by simpa using h1)
   have hlast:s.last≤100000:=by have:=P2.P.H.L.F.last;have:=P2.P.H.L.F.log;omega
   have G2:=HG.out.call hb
   have LG1:Hid (_):=llog_any a b two 5000 s r2 wr P2.P.H.L
   have TE1:Hid (_):=tells_any h a b s r2 s.last hlast P2.P.K.K wr G2 P2.P.H
   have hc:=P2.P.H.c
   have cb:=P2.P.B.c1
   have HP2:Hid (PB W0.heap.size h a b w1.heap.size s bl sl (200+pr) r2 wr∧Came (200+pr) s):=⟨P2,C2⟩
   clear P2 C2 HS0 HF hlt
   rcases tt with ⟨t1,t2,t3⟩|t1
   all_goals (
    go_wp2_with (go_at_call 21;refine Calls.mono LG1.out ?_;rintro e w3 ⟨rfl,rfl⟩)
    refine Calls.mono TE1.out ?_
    rintro e w4 ⟨T1,r4,rfl,hT1,H4,st4⟩
    (try clear t2 t3)
    clear t1 LG1 TE1
    have P4:=HP2.out.1.step hb.size st4 H4
    have b4:=(st4.base HP2.out.1.hr hb.size).2
    have hb4:=hb.trans b4
    have cb4:=P4.P.B.c1
    obtain ⟨d0,d1,d2,d3⟩:=HD.out w4 hb4
    have PLA:Hid (_):=PL.out W0.heap.size h a b w1.heap.size s bl sl r4 ⟨kd,ky,on,bo⟩ w4 HFO.out (HG.out.call hb4) HP2.out.2 P4
    have HT1:Hid (Told s (tellTo 4 s.last) T1):=hT1
    clear P4 H4 st4 hT1 hc cb
    go_wp2_with fail
    refine Calls.mono PLA.out ?_
    rintro e w5 ⟨s5,l5,sl5,r5,rfl,⟨P5,nx,C5⟩,b5⟩
    have hb5:=hb4.trans b5
    have LG2:Hid (_):=llog_any a b two 5000 s5 r5 w5 P5.P.H.L
    have TE2:Hid (_):=tells_any h a b s5 r5 s.last hlast P5.P.K.K w5 (HG.out.call hb5) P5.P.H
    have hc5:=P5.P.H.c
    have HP5:Hid (PB W0.heap.size h a b w1.heap.size s5 l5 sl5 (200+pr) r5 w5∧Nxt s s5∧Came (200+pr) s5):=⟨P5,nx,C5⟩
    clear P5 nx C5 PLA d0 d1 d2 d3 cb4
    go_wp2_with (go_at_call 21;refine Calls.mono LG2.out ?_;rintro e w6 ⟨rfl,rfl⟩)
    refine Calls.mono TE2.out ?_
    rintro e w6 ⟨T2,r6,rfl,hT2,H6,st6⟩
    have HT2:Hid (Told s5 (tellTo 4 s.last) T2):=hT2
    have hb6:Below W0.heap.size W0 w6:=hb5.trans (st6.base HP5.out.1.hr hb5.size).2
    have hpre:s.log.length≤s5.log.length:=(nxt_log HP5.out.2.1).length_le
    have EXT:(⟨s5.log.toArray⟩:ByteArray).extract 0 s.log.length=⟨s.log.toArray⟩:=drop_pre (nxt_log HP5.out.2.1)
    have hl5:s5.log.length≤200+pr:=by obtain ⟨_,_,hh⟩:=HP5.out.2.2;exact hh
    clear hT2 H6 st6 LG2 TE2 hc5
    have hq:=pickP_lt cu (n:=s5.log.length - s.log.length+1) (by omega)
    have PK2:Hid (∀ W,Calls Tryz.prog 10 #[.int .i64 cu,.int .i64 ((s5.log.length:Int) - (s.log.length:Int)+1)] W fun e w'=>e=.returned (.int .i64 (pickP cu (s5.log.length - s.log.length+1):Int))∧W=w'):=fun W=>by
     have:=pick_any cu hcu (s5.log.length - s.log.length+1) (by omega) (by omega) W
     rwa [show ((s5.log.length - s.log.length+1:Nat):Int)=(s5.log.length:Int) - (s.log.length:Int)+1 by omega] at this
    generalize pickP cu (s5.log.length - s.log.length+1)=q at *
    obtain ⟨cs,hR,hsl⟩:=HP2.out.2
    obtain ⟨cs',u,part,hRu,hcut,hfst,hu1,hu2⟩:=cut_runs hR rfl HP2.out.1.P.H.L.F HP5.out.2.1 (c:=s.log.length+q) (by omega) (by omega)
    have HU:Hid ((Fine u∧Keys u)∧((s.log.length+q=s5.log.length∧u=s5)∨(s.log.length+q≠s5.log.length∧u=s))):=by
     by_cases hc:s.log.length+q=s5.log.length
     ·have:=hu1 hc
      subst this
      exact ⟨⟨HP5.out.1.P.H.L.F,HP5.out.1.P.K.K⟩,.inl ⟨hc,rfl⟩⟩
     ·have:=hu2 hc
      subst this
      exact ⟨⟨HP2.out.1.P.H.L.F,HP2.out.1.P.K.K⟩,.inr ⟨hc,rfl⟩⟩
    have hll:(framesT cs'++part).length≤20000:=by rw [← hcut];simp;omega
    have EX3:(⟨s5.log.toArray⟩:ByteArray).extract 0 (s.log.length+q)=⟨(framesT cs'++part).toArray⟩:=by rw [← hcut,ext_take]
    have OP:Hid (∀ (bc:Nat) W,GL W→UR (some ⟨bc,0,none⟩) two W→Calls Tryz.prog 23 #[.agg #[.slice (some ⟨bc,0,none⟩) 2 2,.int .i64 (200+(pr:Int)),.int .i64 5000],.string ((⟨s5.log.toArray⟩:ByteArray).extract 0 (s.log.length+q))] W fun e w'=>∃ A b r,e=.returned (.tuple #[.pointer (some ⟨A,0,none⟩),.int .i64 (u.log.length:Int),.int .i64 0])∧LS A b two 5000 u r w'∧Below W.heap.size W w'∧∀ g,r g≠.none→W.heap.size≤g):=fun bc W GW hU=>by
     rw [EX3]
     have:=lopen_any cs' part u hfst hll HU.out.1.1 (some ⟨bc,0,none⟩) 2 two (by simp) good_two (200+pr) 5000 (by omega) (by omega) (by omega) hRu W GW hU
     rw [show ((200+pr:Nat):Int)=200+(pr:Int) by omega] at this
     exact this
    have CF:Hid (∀ W,Calls Tryz.prog 24 #[.int .i64 (200+(pr:Int))] W fun e w'=>∃ b,e=.returned (.agg #[.slice (some ⟨b,0,none⟩) 2 2,.int .i64 (200+(pr:Int)),.int .i64 5000])∧UR (some ⟨b,0,none⟩) two w'∧Below W.heap.size W w'):=fun W=>by
     have:=config_any (200+pr) W
     rwa [show ((200+pr:Nat):Int)=200+(pr:Int) by omega] at this
    clear hR hRu hcut hfst hu1 hu2 EX3 hsl hll
    have tcb:(s.log.length:Int)+(q:Int)≤(s5.log.length:Int):=by omega
    have tc0:(0:Int)≤(s.log.length:Int)+(q:Int):=by omega
    have tcn:((s.log.length:Int)+(q:Int)).toNat=s.log.length+q:=by omega
    have wr2:IntKind.i64.wrap ((s.log.length:Int)+(q:Int))=(s.log.length:Int)+(q:Int):=by unfold IntKind.wrap;simp [IntKind.bits,IntKind.signed];omega
    have BD:=below_drew w6
    go_wp2_with (go_at_call 10;refine Calls.mono (PK2.out _) ?_;rintro e w7 ⟨rfl,rfl⟩)
    go_region_held3 (fun _=>True) (first|trivial)
     (first
      | (go_at_call 24;with_reducible refine Calls.mono (CF.out _) ?_;rintro e w7 ⟨bc,rfl,hU7,b7⟩;have B7:=below_trans BD b7)
      | (go_at_call 23;with_reducible refine Calls.mono (OP.out bc w7 (HG.out.call (hb6.trans (B7.mono hb6.size))) hU7) ?_;rintro e w8 ⟨A,b8,r8,rfl,L8,b8',hr8⟩;have B8:=below_trans B7 b8'))
    have hb8:Below W0.heap.size W0 w8:=hb6.trans (B8.mono hb6.size)
    have b9:Below w8.heap.size w8 (w8.alloc (.cells #[.pointer (some ⟨A,0,none⟩)] 53)):=(Below.refl _ _).alloc (Nat.le_refl _) _
    have H9:HS w8.heap.size A b8 u r8 (w8.alloc (.cells #[.pointer (some ⟨A,0,none⟩)] 53)):=⟨by simp [go_sem],L8.new,by simp,L8.below b9⟩
    have hb9:=hb8.trans (b9.mono hb8.size)
    have TE3:Hid (_):=tells_any w8.heap.size A b8 u r8 s.last hlast HU.out.1.2 (w8.alloc (.cells #[.pointer (some ⟨A,0,none⟩)] 53)) (HG.out.call hb9) H9
    have hr9:∀ g,r8 g≠.none→W0.heap.size≤g:=fun g e=>by have:=hr8 g e;have:=hb6.size;have:=B7.size;omega
    clear OP CF PK2 L8 H9 hr8
    go_wp2_with fail
    refine Calls.mono TE3.out ?_
    rintro e w10 ⟨T3,r10,rfl,hT3,H10,st10⟩
    have LG3:Hid (_):=llog_any A b8 two 5000 u r10 w10 H10.L
    have hb10:Below w.heap.size w w10:=b0.trans ((hb9.trans (st10.base hr9 hb9.size).2).mono b0.size)
    clear TE3 H10 st10
    rcases HU.out.2 with ⟨hc,rfl⟩|⟨hc,rfl⟩
    ·have e3:=told_uniq hT3 HT2.out
     subst e3
     have k1:((s.log.length:Int)+(q:Int) == (u.log.length:Int))=true:=by simp;omega
     have k2:((u.log.length:Int) == (s.log.length:Int)+(q:Int))=true:=by simp;omega
     clear hT3 HT2 HT1 HU HP5
     go_wp2_with (go_at_call 21;refine Calls.mono LG3.out ?_;rintro e w11 ⟨rfl,rfl⟩)
     go_ret
     exact ⟨rfl,hb10⟩
    ·have e3:=told_uniq hT3 HT1.out
     subst e3
     have k1:((u.log.length:Int)+(q:Int) == (s5.log.length:Int))=false:=by simp;omega
     clear hT3 HT2 HT1 HU HP5
     go_wp2_with (go_at_call 21;refine Calls.mono LG3.out ?_;rintro e w11 ⟨rfl,rfl⟩)
     go_ret
     exact ⟨rfl,hb10⟩)
end Go.Proofs.YtbllcgibmgbnjaaGreatDoor.P
