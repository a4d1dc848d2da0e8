import Derived.Test.YtbllcgibmgbnjaaGreatDoorM22
import Derived.Test.YtbllcgibmgbnjaaGreatDoorM10
import Derived.Deep.RegionHeld3
import Derived.Test.YtbllcgibmgbnjaaGreatDoorM20
import Derived.Test.YtbllcgibmgbnjaaGreatDoorM15
import Derived.Test.YtbllcgibmgbnjaaGreatDoorM18
set_option maxHeartbeats 2000000
set_option maxRecDepth 20000
namespace Go.Proofs.YtbllcgibmgbnjaaGreatDoor.P
open Go.RowKit
theorem app2 (c:UInt8) (q:List UInt8):(⟨#[c]⟩:ByteArray)++⟨q.toArray⟩=⟨(c :: q).toArray⟩:=by apply ByteArray.ext;simp
theorem app4 (c:UInt8) (q r t:List UInt8):(⟨#[c]⟩:ByteArray)++⟨q.toArray⟩++⟨r.toArray⟩++⟨t.toArray⟩=⟨(c :: (q++r++t)).toArray⟩:=by apply ByteArray.ext;simp
theorem bodyP_any (x0:Tx) (x1:Tx) (h0:x0.length≤100000) (h1:x1.length≤100000) (w:World) :
  Calls Tryz.prog 308 #[.agg #[str x0,str x1]] w fun e w'=>e=.returned (str (Chg.text (.pol x0 x1)))∧Below w.heap.size w w':=by
 have C0:Hid (_):=fshort_any x0 (by omega)
 have C1:Hid (_):=flong_any x1 (by omega)
 have l0:(shortT x0).length≤200000:=by simp [shortT,bigL_len];omega
 have l1:(longT x1).length≤200000:=by simp [longT,bigL_len];omega
 have HR:Hid (Chg.text (.pol x0 x1)=80 :: (shortT x0++longT x1)):=rfl
 have HS:Hid (_):=app3 80 (shortT x0) (longT x1)
 generalize q0_:shortT x0=q0 at *
 clear q0_
 generalize q1_:longT x1=q1 at *
 clear q1_
 have f0:¬ 9223372036854775807 < 1+q0.length:=by omega
 have f1:¬ 9223372036854775807 < 1+q0.length+q1.length:=by omega
 obtain ⟨W0,hW0⟩:∃ W0,W0=w.alloc (.cells #[str x0,str x1] 169):=⟨_,rfl⟩
 have B0:Below w.heap.size w W0:=by rw [hW0];exact (Below.refl _ _).alloc (Nat.le_refl _) _
 have S0:w.heap.size < W0.heap.size:=by rw [hW0];simp
 have y0:W0.cell? ⟨w.heap.size,0,none⟩=some (str x0):=by rw [hW0];simp [go_sem]
 have y1:W0.cell? ⟨w.heap.size,1,none⟩=some (str x1):=by rw [hW0];simp [go_sem]
 have HW0:Hid (W0=w.alloc (.cells #[str x0,str x1] 169)):=hW0
 clear hW0
 have CS:∀ X,Below W0.heap.size W0 X→X.cell? ⟨w.heap.size,0,none⟩=some (str x0)∧X.cell? ⟨w.heap.size,1,none⟩=some (str x1):=fun X h=>⟨(h.cell (p:=⟨w.heap.size,0,none⟩) S0).trans y0,(h.cell (p:=⟨w.heap.size,1,none⟩) S0).trans y1⟩
 have BB:Below W0.heap.size W0 W0.drew:=below_drew W0
 go_enter Tryz.func308,Tryz.ntmps308
 go_wp2_with fail
 rw [← HW0.out]
 go_region_held3 (fun w'=>w'.cell? ⟨w.heap.size,0,none⟩=some (str x0)∧w'.cell? ⟨w.heap.size,1,none⟩=some (str x1)) (first|exact CS _ BB) (first|(go_at_call 305;refine (C0.out _).mono ?_;rintro e w1 ⟨rfl,b1⟩;replace BB:Below W0.heap.size W0 w1:=below_trans BB b1)|(go_at_call 218;refine (C1.out _).mono ?_;rintro e w2 ⟨rfl,b2⟩;replace BB:Below W0.heap.size W0 w2:=below_trans BB b2))
 all_goals go_wp2
 all_goals go_ret
 all_goals exact ⟨by rw [HR.out];exact congrArg (fun z=>Ending.returned (Value.string z)) HS.out,below_trans B0 BB⟩
theorem bodyU_any (x0:Tx) (h0:x0.length≤100000) (w:World) :
  Calls Tryz.prog 350 #[.agg #[str x0]] w fun e w'=>e=.returned (str (Chg.text (.unpol x0)))∧Below w.heap.size w w':=by
 have C0:Hid (_):=fshort_any x0 (by omega)
 have l0:(shortT x0).length≤200000:=by simp [shortT,bigL_len];omega
 have HR:Hid (Chg.text (.unpol x0)=85 :: (shortT x0)):=rfl
 have HS:Hid (_):=app2 85 (shortT x0)
 generalize q0_:shortT x0=q0 at *
 clear q0_
 have f0:¬ 9223372036854775807 < 1+q0.length:=by omega
 obtain ⟨W0,hW0⟩:∃ W0,W0=w.alloc (.cells #[str x0] 172):=⟨_,rfl⟩
 have B0:Below w.heap.size w W0:=by rw [hW0];exact (Below.refl _ _).alloc (Nat.le_refl _) _
 have S0:w.heap.size < W0.heap.size:=by rw [hW0];simp
 have y0:W0.cell? ⟨w.heap.size,0,none⟩=some (str x0):=by rw [hW0];simp [go_sem]
 have HW0:Hid (W0=w.alloc (.cells #[str x0] 172)):=hW0
 clear hW0
 have BB:Below W0.heap.size W0 W0:=Below.refl _ _
 go_enter Tryz.func350,Tryz.ntmps350
 go_wp2_with fail
 rw [← HW0.out]
 refine (C0.out _).mono ?_
 rintro e w1 ⟨rfl,b1⟩
 replace BB:Below W0.heap.size W0 w1:=below_trans BB b1
 go_wp2
 go_ret
 exact ⟨by rw [HR.out];exact congrArg (fun z=>Ending.returned (Value.string z)) HS.out,below_trans B0 BB⟩
theorem bodyO_any (x0:Tx) (x1:Tx) (x2:Tx) (h0:x0.length≤100000) (h1:x1.length≤100000) (h2:x2.length≤100000) (w:World) :
  Calls Tryz.prog 352 #[.agg #[str x0,str x1,str x2]] w fun e w'=>e=.returned (str (Chg.text (.put x0 x1 x2)))∧Below w.heap.size w w':=by
 have C0:Hid (_):=fshort_any x0 (by omega)
 have C1:Hid (_):=fshort_any x1 (by omega)
 have C2:Hid (_):=flong_any x2 (by omega)
 have l0:(shortT x0).length≤200000:=by simp [shortT,bigL_len];omega
 have l1:(shortT x1).length≤200000:=by simp [shortT,bigL_len];omega
 have l2:(longT x2).length≤200000:=by simp [longT,bigL_len];omega
 have HR:Hid (Chg.text (.put x0 x1 x2)=79 :: (shortT x0++shortT x1++longT x2)):=rfl
 have HS:Hid (_):=app4 79 (shortT x0) (shortT x1) (longT x2)
 generalize q0_:shortT x0=q0 at *
 clear q0_
 generalize q1_:shortT x1=q1 at *
 clear q1_
 generalize q2_:longT x2=q2 at *
 clear q2_
 have f0:¬ 9223372036854775807 < 1+q0.length:=by omega
 have f1:¬ 9223372036854775807 < 1+q0.length+q1.length:=by omega
 have f2:¬ 9223372036854775807 < 1+q0.length+q1.length+q2.length:=by omega
 obtain ⟨W0,hW0⟩:∃ W0,W0=w.alloc (.cells #[str x0,str x1,str x2] 175):=⟨_,rfl⟩
 have B0:Below w.heap.size w W0:=by rw [hW0];exact (Below.refl _ _).alloc (Nat.le_refl _) _
 have S0:w.heap.size < W0.heap.size:=by rw [hW0];simp
 have y0:W0.cell? ⟨w.heap.size,0,none⟩=some (str x0):=by rw [hW0];simp [go_sem]
 have y1:W0.cell? ⟨w.heap.size,1,none⟩=some (str x1):=by rw [hW0];simp [go_sem]
 have y2:W0.cell? ⟨w.heap.size,2,none⟩=some (str x2):=by rw [hW0];simp [go_sem]
 have HW0:Hid (W0=w.alloc (.cells #[str x0,str x1,str x2] 175)):=hW0
 clear hW0
 have CS:∀ X,Below W0.heap.size W0 X→X.cell? ⟨w.heap.size,0,none⟩=some (str x0)∧X.cell? ⟨w.heap.size,1,none⟩=some (str x1)∧X.cell? ⟨w.heap.size,2,none⟩=some (str x2):=fun X h=>⟨(h.cell (p:=⟨w.heap.size,0,none⟩) S0).trans y0,(h.cell (p:=⟨w.heap.size,1,none⟩) S0).trans y1,(h.cell (p:=⟨w.heap.size,2,none⟩) S0).trans y2⟩
 have BB:Below W0.heap.size W0 W0.drew:=below_drew W0
 go_enter Tryz.func352,Tryz.ntmps352
 go_wp2_with fail
 rw [← HW0.out]
 go_region_held3 (fun w'=>w'.cell? ⟨w.heap.size,0,none⟩=some (str x0)∧w'.cell? ⟨w.heap.size,1,none⟩=some (str x1)∧w'.cell? ⟨w.heap.size,2,none⟩=some (str x2)) (first|exact CS _ BB) (first|(go_at_call 305;refine (C0.out _).mono ?_;rintro e w1 ⟨rfl,b1⟩;replace BB:Below W0.heap.size W0 w1:=below_trans BB b1)|(go_at_call 305;refine (C1.out _).mono ?_;rintro e w2 ⟨rfl,b2⟩;replace BB:Below W0.heap.size W0 w2:=below_trans BB b2)|(go_at_call 218;refine (C2.out _).mono ?_;rintro e w3 ⟨rfl,b3⟩;replace BB:Below W0.heap.size W0 w3:=below_trans BB b3))
 all_goals go_wp2
 all_goals go_ret
 all_goals exact ⟨by rw [HR.out];exact congrArg (fun z=>Ending.returned (Value.string z)) HS.out,below_trans B0 BB⟩
theorem bodyM_any (x0:Tx) (x1:Tx) (h0:x0.length≤100000) (h1:x1.length≤100000) (w:World) :
  Calls Tryz.prog 358 #[.agg #[str x0,str x1]] w fun e w'=>e=.returned (str (Chg.text (.mark x0 x1)))∧Below w.heap.size w w':=by
 have C0:Hid (_):=fshort_any x0 (by omega)
 have C1:Hid (_):=fshort_any x1 (by omega)
 have l0:(shortT x0).length≤200000:=by simp [shortT,bigL_len];omega
 have l1:(shortT x1).length≤200000:=by simp [shortT,bigL_len];omega
 have HR:Hid (Chg.text (.mark x0 x1)=77 :: (shortT x0++shortT x1)):=rfl
 have HS:Hid (_):=app3 77 (shortT x0) (shortT x1)
 generalize q0_:shortT x0=q0 at *
 clear q0_
 generalize q1_:shortT x1=q1 at *
 clear q1_
 have f0:¬ 9223372036854775807 < 1+q0.length:=by omega
 have f1:¬ 9223372036854775807 < 1+q0.length+q1.length:=by omega
 obtain ⟨W0,hW0⟩:∃ W0,W0=w.alloc (.cells #[str x0,str x1] 177):=⟨_,rfl⟩
 have B0:Below w.heap.size w W0:=by rw [hW0];exact (Below.refl _ _).alloc (Nat.le_refl _) _
 have S0:w.heap.size < W0.heap.size:=by rw [hW0];simp
 have y0:W0.cell? ⟨w.heap.size,0,none⟩=some (str x0):=by rw [hW0];simp [go_sem]
 have y1:W0.cell? ⟨w.heap.size,1,none⟩=some (str x1):=by rw [hW0];simp [go_sem]
 have HW0:Hid (W0=w.alloc (.cells #[str x0,str x1] 177)):=hW0
 clear hW0
 have CS:∀ X,Below W0.heap.size W0 X→X.cell? ⟨w.heap.size,0,none⟩=some (str x0)∧X.cell? ⟨w.heap.size,1,none⟩=some (str x1):=fun X h=>⟨(h.cell (p:=⟨w.heap.size,0,none⟩) S0).trans y0,(h.cell (p:=⟨w.heap.size,1,none⟩) S0).trans y1⟩
 have BB:Below W0.heap.size W0 W0.drew:=below_drew W0
 go_enter Tryz.func358,Tryz.ntmps358
 go_wp2_with fail
 rw [← HW0.out]
 go_region_held3 (fun w'=>w'.cell? ⟨w.heap.size,0,none⟩=some (str x0)∧w'.cell? ⟨w.heap.size,1,none⟩=some (str x1)) (first|exact CS _ BB) (first|(go_at_call 305;refine (C0.out _).mono ?_;rintro e w1 ⟨rfl,b1⟩;replace BB:Below W0.heap.size W0 w1:=below_trans BB b1)|(go_at_call 305;refine (C1.out _).mono ?_;rintro e w2 ⟨rfl,b2⟩;replace BB:Below W0.heap.size W0 w2:=below_trans BB b2))
 all_goals go_wp2
 all_goals go_ret
 all_goals exact ⟨by rw [HR.out];exact congrArg (fun z=>Ending.returned (Value.string z)) HS.out,below_trans B0 BB⟩
theorem bodyX_any (x0:Tx) (x1:Tx) (x2:Nat) (h0:x0.length≤100000) (h1:x1.length≤100000) (h2:x2≤1000000000) (w:World) :
  Calls Tryz.prog 363 #[.agg #[str x0,str x1,.int .i64 (x2:Int)]] w fun e w'=>e=.returned (str (Chg.text (.drop x0 x1 x2)))∧Below w.heap.size w w':=by
 have C0:Hid (_):=fshort_any x0 (by omega)
 have C1:Hid (_):=fshort_any x1 (by omega)
 have C2:Hid (_):=fnum_any x2 (by omega)
 have l0:(shortT x0).length≤200000:=by simp [shortT,bigL_len];omega
 have l1:(shortT x1).length≤200000:=by simp [shortT,bigL_len];omega
 have l2:(numT x2).length≤200000:=by simp [numT,bigL_len]
 have HR:Hid (Chg.text (.drop x0 x1 x2)=88 :: (shortT x0++shortT x1++numT x2)):=rfl
 have HS:Hid (_):=app4 88 (shortT x0) (shortT x1) (numT x2)
 generalize q0_:shortT x0=q0 at *
 clear q0_
 generalize q1_:shortT x1=q1 at *
 clear q1_
 generalize q2_:numT x2=q2 at *
 clear q2_
 have f0:¬ 9223372036854775807 < 1+q0.length:=by omega
 have f1:¬ 9223372036854775807 < 1+q0.length+q1.length:=by omega
 have f2:¬ 9223372036854775807 < 1+q0.length+q1.length+q2.length:=by omega
 obtain ⟨W0,hW0⟩:∃ W0,W0=w.alloc (.cells #[str x0,str x1,.int .i64 (x2:Int)] 245):=⟨_,rfl⟩
 have B0:Below w.heap.size w W0:=by rw [hW0];exact (Below.refl _ _).alloc (Nat.le_refl _) _
 have S0:w.heap.size < W0.heap.size:=by rw [hW0];simp
 have y0:W0.cell? ⟨w.heap.size,0,none⟩=some (str x0):=by rw [hW0];simp [go_sem]
 have y1:W0.cell? ⟨w.heap.size,1,none⟩=some (str x1):=by rw [hW0];simp [go_sem]
 have y2:W0.cell? ⟨w.heap.size,2,none⟩=some (.int .i64 (x2:Int)):=by rw [hW0];simp [go_sem]
 have HW0:Hid (W0=w.alloc (.cells #[str x0,str x1,.int .i64 (x2:Int)] 245)):=hW0
 clear hW0
 have CS:∀ X,Below W0.heap.size W0 X→X.cell? ⟨w.heap.size,0,none⟩=some (str x0)∧X.cell? ⟨w.heap.size,1,none⟩=some (str x1)∧X.cell? ⟨w.heap.size,2,none⟩=some (.int .i64 (x2:Int)):=fun X h=>⟨(h.cell (p:=⟨w.heap.size,0,none⟩) S0).trans y0,(h.cell (p:=⟨w.heap.size,1,none⟩) S0).trans y1,(h.cell (p:=⟨w.heap.size,2,none⟩) S0).trans y2⟩
 have BB:Below W0.heap.size W0 W0.drew:=below_drew W0
 go_enter Tryz.func363,Tryz.ntmps363
 go_wp2_with fail
 rw [← HW0.out]
 go_region_held3 (fun w'=>w'.cell? ⟨w.heap.size,0,none⟩=some (str x0)∧w'.cell? ⟨w.heap.size,1,none⟩=some (str x1)∧w'.cell? ⟨w.heap.size,2,none⟩=some (.int .i64 (x2:Int))) (first|exact CS _ BB) (first|(go_at_call 305;refine (C0.out _).mono ?_;rintro e w1 ⟨rfl,b1⟩;replace BB:Below W0.heap.size W0 w1:=below_trans BB b1)|(go_at_call 305;refine (C1.out _).mono ?_;rintro e w2 ⟨rfl,b2⟩;replace BB:Below W0.heap.size W0 w2:=below_trans BB b2)|(go_at_call 219;refine (C2.out _).mono ?_;rintro e w3 ⟨rfl,b3⟩;replace BB:Below W0.heap.size W0 w3:=below_trans BB b3))
 all_goals go_wp2
 all_goals go_ret
 all_goals exact ⟨by rw [HR.out];exact congrArg (fun z=>Ending.returned (Value.string z)) HS.out,below_trans B0 BB⟩
def Chg.val:Chg→Value
 | .mk b o=>.agg #[str b,str o]
 | .pol b p=>.agg #[str b,str p]
 | .unpol b=>.agg #[str b]
 | .put b k y=>.agg #[str b,str k,str y]
 | .mark b k=>.agg #[str b,str k]
 | .drop b k n=>.agg #[str b,str k,.int .i64 (n:Int)]
def Chg.ty:Chg→TypeId
 | .mk ..=>167
 | .pol ..=>169
 | .unpol ..=>172
 | .put ..=>175
 | .mark ..=>177
 | .drop ..=>245
def Chg.begF:Chg→Nat
 | .mk ..=>302
 | .pol ..=>307
 | .unpol ..=>349
 | .put ..=>351
 | .mark ..=>357
 | .drop ..=>362
def Chg.bodyF:Chg→Nat
 | .mk ..=>303
 | .pol ..=>308
 | .unpol ..=>350
 | .put ..=>352
 | .mark ..=>358
 | .drop ..=>363
def Chg.fit:Chg→Prop
 | .mk b o=>b.length≤10000∧o.length≤10000
 | .pol b p=>b.length≤10000∧p.length≤10000
 | .unpol b=>b.length≤10000
 | .put b k y=>b.length≤10000∧k.length≤10000∧y.length≤10000
 | .mark b k=>b.length≤10000∧k.length≤10000
 | .drop b k n=>b.length≤10000∧k.length≤10000∧n≤1000000000
theorem Chg.begin_any (c:Chg) (b:Nat) (s:Sto) (r:Roles) (w:World) (h:KS b s r w) (F:Fine s) (hu:s.users.length≤1000000) (hc:c.fit) :
  Calls Tryz.prog c.begF #[c.val,.pointer (some ⟨b,0,none⟩)] w (begPost b s r w (s.begin c)):=by
 cases c with
 | mk n o=>exact mkBegin_any b s r n o w h F (by have:=hc.1;omega) hu
 | pol n p=>exact polBegin_any b s r n p w h (by have:=hc.2;omega)
 | unpol n=>exact unpolBegin_any b s r n w h
 | put n k y=>exact putBegin_any b s r n k y w h F (by have:=hc.2.1;omega) (by have:=hc.2.2;omega)
 | mark n k=>exact markBegin_any b s r n k w h F (by have:=hc.2;omega)
 | drop n k N=>exact dropBegin_any b s r n k N w h F
theorem Chg.body_any (c:Chg) (hc:c.fit) (w:World):Calls Tryz.prog c.bodyF #[c.val] w fun e w'=>e=.returned (str c.text)∧Below w.heap.size w w':=by
 cases c with
 | mk n o=>exact bodyB_any n o (by have:=hc.1;omega) (by have:=hc.2;omega) w
 | pol n p=>exact bodyP_any n p (by have:=hc.1;omega) (by have:=hc.2;omega) w
 | unpol n=>exact bodyU_any n (by have:n.length≤10000:=hc;omega) w
 | put n k y=>exact bodyO_any n k y (by have:=hc.1;omega) (by have:=hc.2.1;omega) (by have:=hc.2.2;omega) w
 | mark n k=>exact bodyM_any n k (by have:=hc.1;omega) (by have:=hc.2;omega) w
 | drop n k N=>exact bodyX_any n k N (by have:=hc.1;omega) (by have:=hc.2.1;omega) (by have:=hc.2.2;omega) w
theorem Chg.begin_method (c : Chg) (w : World) : (method 549 c.ty c.val "larder/kept.begin").run Tryz.prog w = .ok (c.begF, c.val) w := by
 cases c <;> kernel_rfl
theorem Chg.body_method (c : Chg) (w : World) : (method 549 c.ty c.val "larder/kept.body").run Tryz.prog w = .ok (c.bodyF, c.val) w := by
 cases c <;> kernel_rfl
theorem Chg.begin_nil (c : Chg) (w : World) : (nilAhead 549 c.ty c.val "larder/kept.begin").run Tryz.prog w = .ok (some false) w := by
 cases c <;> kernel_rfl
theorem Chg.body_nil (c : Chg) (w : World) : (nilAhead 549 c.ty c.val "larder/kept.body").run Tryz.prog w = .ok (some false) w := by
 cases c <;> kernel_rfl
theorem Chg.begin_enters (c:Chg):∀ args w,(callFunc c.begF args).run Tryz.prog w=.ok (.enter c.begF args) w:=by
 cases c with
 | mk n o=>exact enters_of Tryz.func302 (by kernel_rfl) rfl
 | pol n p=>exact enters_of Tryz.func307 (by kernel_rfl) rfl
 | unpol n=>exact enters_of Tryz.func349 (by kernel_rfl) rfl
 | put n k y=>exact enters_of Tryz.func351 (by kernel_rfl) rfl
 | mark n k=>exact enters_of Tryz.func357 (by kernel_rfl) rfl
 | drop n k N=>exact enters_of Tryz.func362 (by kernel_rfl) rfl
theorem Chg.body_enters (c:Chg):∀ args w,(callFunc c.bodyF args).run Tryz.prog w=.ok (.enter c.bodyF args) w:=by
 cases c with
 | mk n o=>exact enters_of Tryz.func303 (by kernel_rfl) rfl
 | pol n p=>exact enters_of Tryz.func308 (by kernel_rfl) rfl
 | unpol n=>exact enters_of Tryz.func350 (by kernel_rfl) rfl
 | put n k y=>exact enters_of Tryz.func352 (by kernel_rfl) rfl
 | mark n k=>exact enters_of Tryz.func358 (by kernel_rfl) rfl
 | drop n k N=>exact enters_of Tryz.func363 (by kernel_rfl) rfl
theorem ddo_idle (E T:Nat) (w:World) (hc:w.cell? ⟨E,0,none⟩=some .nilIface) :
  CallsD Tryz.prog 180 #[.pointer (some ⟨E,0,none⟩),.pointer (some ⟨T,0,none⟩)] .returning w fun e u' w'=>u'=.returning∧(e=.returned (.tuple #[])∧w=w'):=by
 go_enter_d Tryz.func180,Tryz.ntmps180
 go_wp2
 go_end0
 exact ⟨rfl,rfl⟩
theorem ddo_back (E T F:Nat) (caps:Array Value) (t:TypeId) (v:Value) (w:World) (Q:World→Prop) (hen:∀ args w,(callFunc F args).run Tryz.prog w=.ok (.enter F args) w) (hc:w.cell? ⟨E,0,none⟩=some (.iface t v)) (hT:w.cell? ⟨T,0,none⟩=some (.func (.func F) #[] caps))
  (hb:Calls Tryz.prog F caps w fun e w'=>e=.returned (.tuple #[])∧Q w') :
  CallsD Tryz.prog 180 #[.pointer (some ⟨E,0,none⟩),.pointer (some ⟨T,0,none⟩)] .returning w fun e u' w'=>u'=.returning∧(e=.returned (.tuple #[])∧Q w'):=by
 have C:Hid (_):=hb
 clear hb
 go_enter_d Tryz.func180,Tryz.ntmps180
 go_wp2_with fail
 refine Calls.mono C.out ?_
 rintro e w1 ⟨rfl,hq⟩
 go_wp2
 go_end0
 exact ⟨rfl,hq⟩
open C (ret_bool ret_int ret_str)
theorem begin_log {s t:Sto} {c:Chg} (h:s.begin c=.ok t):t.log=s.log∧t.room=s.room:=by
 cases c <;> simp only [Sto.begin] at h <;> (repeat' split at h) <;> cases h <;> exact ⟨rfl,rfl⟩
theorem text_fit {c:Chg} (h:c.fit):c.text.length≤60000:=by
 cases c <;> simp only [Chg.fit] at h <;> simp [Chg.text,shortT,longT,numT,bigL_len] <;> omega
theorem begin_err {s:Sto} {c:Chg} {n:Nat} (h:s.begin c=.error n):n≠200:=by
 intro e;subst e
 cases c <;> simp only [Sto.begin] at h <;> (repeat' split at h) <;> cases h
theorem kdo_any (c:Chg) (b:Nat) (s:Sto) (r:Roles) (w:World) (G:GL w) (hr:∀ g,g < 13→r g=.none) (h:KS b s r w) (F:Fine s) (hu:s.users.length≤1000000) (hc:c.fit) :
  Calls Tryz.prog 126 #[.pointer (some ⟨b,0,none⟩),.iface c.ty c.val] w fun e w'=>∃ v r',e=.returned v∧errIs v (s.done c).1∧KS b (s.done c).2 r' w'∧Step r w r' w':=by
 have hmf:∀ (fn:Fn) (first cap:Array Value) (w:World),(Instr.makeFunc fn first cap).run Tryz.prog w=.ok (.func fn first cap) w:=fun _ _ _ _=>rfl
 have M1:=c.begin_method
 have M2:=c.body_method
 have N1:=c.begin_nil
 have N2:=c.body_nil
 have E1:=c.begin_enters
 have E2:=c.body_enters
 have b0:Below w.heap.size w (w.alloc (.cells #[.nilIface] 80)):=(Below.refl _ _).alloc (Nat.le_refl _) _
 have BG:Hid (_):=c.begin_any b s r (w.alloc (.cells #[.nilIface] 80)) (h.below b0) F hu hc
 have BO:Hid (_):=c.body_any hc
 go_enter_defers Tryz.func126,Tryz.ntmps126
 go_wp2_with fail
 refine Calls.mono BG.out ?_
 intro e w1 hp
 cases hx:s.begin c with
 | error n =>
  rw [hx] at hp
  obtain ⟨⟨cc,hcc,rfl⟩,b1⟩:=hp
  have HD:Hid (s.done c=(n,s)):=by show _=_;unfold Sto.done;rw [hx]
  have hn:=begin_err hx
  have z1:=b1.size
  have c1:w1.cell? ⟨w.heap.size,0,none⟩=some .nilIface:=(b1.cell (p:=⟨w.heap.size,0,none⟩) (by simp)).trans (by simp [go_sem])
  have f1:w1.frozen? ⟨w.heap.size,0,none⟩=false:=(b1.frozen (p:=⟨w.heap.size,0,none⟩) (by simp)).trans (by simp [go_sem])
  have K1:Below w.heap.size w w1:=below_trans b0 b1
  have HH:Hid (KS b s r w):=h
  clear BG BO h M1 M2 N1 N2 E1 E2
  have m0:w.heap.size < w1.heap.size:=by simp at z1;omega
  have ca:∀ ob,(w1.alloc ob).cell? ⟨w.heap.size,0,none⟩=some .nilIface:=fun ob=>cell_alloc c1 ob
  have fa:∀ ob,(w1.alloc ob).frozen? ⟨w.heap.size,0,none⟩=false:=fun ob=>((Kept.refl (fun _=>False) w1).alloc ob).frozen (a:=⟨w.heap.size,0,none⟩) m0 f1 (fun e=>e)
  clear z1
  go_wp2
  have KK:Hid (∀ v,Below w.heap.size w (((w1.setCell ⟨w.heap.size,0,none⟩ v).setCell ⟨w.heap.size,0,none⟩ v).alloc (.cells #[.nilFunc] 1))):=fun v=>((K1.setCell (p:=⟨w.heap.size,0,none⟩) (Nat.le_refl _) v).setCell (p:=⟨w.heap.size,0,none⟩) (Nat.le_refl _) v).alloc (by simp;omega) _
  have cz:∀ v,(((w1.setCell ⟨w.heap.size,0,none⟩ v).setCell ⟨w.heap.size,0,none⟩ v).alloc (.cells #[.nilFunc] 1)).cell? ⟨w.heap.size,0,none⟩=some v:=fun v=>cell_alloc (show ((w1.setCell ⟨w.heap.size,0,none⟩ v).setCell ⟨w.heap.size,0,none⟩ v).cell? ⟨w.heap.size,0,none⟩=some v by simp [go_sem,c1]) _
  rw [HD.out]
  simp [bodyPostD,Leaves,results,Tryz.results126,go_sem,cz]
  exact ⟨.no n cc hcc hn,r,HH.out.below (KK.out _),Step.of_below (KK.out _)⟩
 | ok t =>
  rw [hx] at hp
  obtain ⟨F1,caps,r',rfl,hen,hk,hs,un⟩:=hp
  have hw0:r w.heap.size=.none:=by
   cases e:r w.heap.size with
   | none=>rfl
   | _=>have:=h.dom w.heap.size (by rw [e];simp);omega
  have hw1:r' w.heap.size=.none:=by
   cases e:r' w.heap.size with
   | none=>rfl
   | _=>exact absurd hw0 (hs.mine w.heap.size (by simp) (by rw [e];simp))
  have z1:=hs.kept.size
  have m0:w.heap.size < w1.heap.size:=by simp at z1;omega
  have c1:w1.cell? ⟨w.heap.size,0,none⟩=some .nilIface:=hs.kept.cell (by simp [go_sem]) (by simp [hw0])
  have f1:w1.frozen? ⟨w.heap.size,0,none⟩=false:=hs.kept.frozen (a:=⟨w.heap.size,0,none⟩) (by simp) (by simp [go_sem]) (by simp [hw0])
  have ca:∀ ob,(w1.alloc ob).cell? ⟨w.heap.size,0,none⟩=some .nilIface:=fun ob=>cell_alloc c1 ob
  have fa:∀ ob,(w1.alloc ob).frozen? ⟨w.heap.size,0,none⟩=false:=fun ob=>((Kept.refl (fun _=>False) w1).alloc ob).frozen (a:=⟨w.heap.size,0,none⟩) m0 f1 (fun e=>e)
  have HS:Hid (Step r (w.alloc (.cells #[.nilIface] 80)) r' w1):=hs
  clear z1 BG hs h M1 N1 E1
  have hNG:13≤w.heap.size:=G.sz
  have hrN:∀ g,r g≠.none→13≤g:=fun g e=>by
   rcases Nat.lt_or_ge g 13 with hl|hl
   ·exact absurd (hr g hl) e
   ·exact hl
  have HL:Hid (t.log=s.log∧t.room=s.room):=begin_log hx
  have k2:Kept (·=w.heap.size) w1 ((w1.setCell ⟨w.heap.size,0,none⟩ .nilIface).alloc (.cells #[.func (.func F1) #[] caps] 1)):=(Kept.of_grown1 (grown_set _ _ _ _)).alloc _
  have hk2:=hk.kept k2 (fun g e hg=>e (by rw [hg];exact hw1))
  have G2:=((G.alloc (.cells #[.nilIface] 80)).kept HS.out.kept hrN).kept k2 (fun g e=>by rw [e];exact hNG)
  have cE:((w1.setCell ⟨w.heap.size,0,none⟩ .nilIface).alloc (.cells #[.func (.func F1) #[] caps] 1)).cell? ⟨w.heap.size,0,none⟩=some .nilIface:=cell_alloc (show (w1.setCell ⟨w.heap.size,0,none⟩ .nilIface).cell? ⟨w.heap.size,0,none⟩=some .nilIface by simp [go_sem,c1]) _
  have fE:((w1.setCell ⟨w.heap.size,0,none⟩ .nilIface).alloc (.cells #[.func (.func F1) #[] caps] 1)).frozen? ⟨w.heap.size,0,none⟩=false:=((Kept.refl (fun _=>False) (w1.setCell ⟨w.heap.size,0,none⟩ .nilIface)).alloc _).frozen (a:=⟨w.heap.size,0,none⟩) (by simpa using m0) (by simp [go_sem,f1]) (fun e=>e)
  have cT:((w1.setCell ⟨w.heap.size,0,none⟩ .nilIface).alloc (.cells #[.func (.func F1) #[] caps] 1)).cell? ⟨w1.heap.size,0,none⟩=some (.func (.func F1) #[] caps):=by simp [go_sem]
  have z2:w1.heap.size < ((w1.setCell ⟨w.heap.size,0,none⟩ .nilIface).alloc (.cells #[.func (.func F1) #[] caps] 1)).heap.size:=by simp
  have hflog:=F.log;have hfroom:=F.room
  have FO:Hid (_):=frameOf_any c.text (text_fit hc)
  have ht:(frameT c.text).length≤1000000:=by have:=text_fit hc;simp [frameT,longT,numT,bigL_len];omega
  go_wp2_with fail
  generalize (w1.setCell ⟨w.heap.size,0,none⟩ .nilIface).alloc (.cells #[.func (.func F1) #[] caps] 1)=W2 at *
  refine Calls.mono (BO.out W2) ?_
  rintro e w3 ⟨rfl,b3⟩
  clear M2 N2 E2 BO ca fa c1 f1
  go_wp2_with fail
  refine Calls.mono (FO.out w3) ?_
  rintro e w4 ⟨rfl,b4⟩
  have B4:=below_trans b3 b4
  have WR:Hid (_):=kwrite_any b t r' (frameT c.text) w4 (G2.call B4) (hk2.below B4) (by rw [HL.out.1];omega) ht (by rw [HL.out.2];omega)
  rw [HL.out.1,HL.out.2] at WR
  clear FO
  go_wp2_with fail
  refine Calls.mono WR.out ?_
  intro e w5 hw
  have HD:Hid (s.done c=if s.log.length+(frameT c.text).length≤s.room then (200,{ t with log:=s.log++frameT c.text }) else (507,s)):=by show _=_;unfold Sto.done;rw [hx]
  have ST4:Hid (Step r w r' w4):=(((Step.of_below b0).trans HS.out).then k2 (fun j e=>by omega)).trans (Step.of_below B4)
  have zz4:=B4.size
  have d4:w4.cell? ⟨w.heap.size,0,none⟩=some .nilIface:=(B4.cell (p:=⟨w.heap.size,0,none⟩) (show w.heap.size < _ by omega)).trans cE
  have g4:w4.frozen? ⟨w.heap.size,0,none⟩=false:=(B4.frozen (p:=⟨w.heap.size,0,none⟩) (show w.heap.size < _ by omega)).trans fE
  have t4:w4.cell? ⟨w1.heap.size,0,none⟩=some (.func (.func F1) #[] caps):=(B4.cell (p:=⟨w1.heap.size,0,none⟩) z2).trans cT
  clear WR cE fE cT
  by_cases hroom:s.log.length+(frameT c.text).length≤s.room
  ·rw [if_pos hroom] at hw HD
   obtain ⟨rfl,r2,k5,s5⟩:=hw
   have c5:=s5.kept.cell d4 (by simp [hw1])
   have f5:=s5.kept.frozen (a:=⟨w.heap.size,0,none⟩) (show w.heap.size < _ by omega) g4 (by simp [hw1])
   have hw2:r2 w.heap.size=.none:=by
    cases e:r2 w.heap.size with
    | none=>rfl
    | _=>exact absurd hw1 (s5.mine w.heap.size (by omega) (by rw [e];simp))
   have kF:Kept (·=w.heap.size) w5 (w5.setCell ⟨w.heap.size,0,none⟩ .nilIface):=Kept.of_grown1 (grown_set _ _ _ _)
   have EN:Hid (KS b { t with log:=s.log++frameT c.text } r2 (w5.setCell ⟨w.heap.size,0,none⟩ .nilIface)∧Step r w r2 (w5.setCell ⟨w.heap.size,0,none⟩ .nilIface)) :=
    ⟨by have:=k5.kept kF (fun g e hg=>e (by rw [hg];exact hw2));rw [← HL.out.2] at this;exact this,(ST4.out.trans s5).then kF (fun j e=>by omega)⟩
   clear k5 s5 kF
   go_wp2
   refine leaves_cons (f:=180) (args:=#[.pointer (some ⟨w.heap.size,0,none⟩),.pointer (some ⟨w1.heap.size,0,none⟩)]) (by simp) (by simp [go_sem]) ?_
   refine (ddo_idle _ _ _ (by simp [go_sem,c5])).mono ?_
   rintro e u' w'' ⟨rfl,rfl,rfl⟩
   rw [HD.out]
   simp [Leaves,settle,results,Tryz.results126,go_sem,c5]
   exact ⟨.ok,r2,EN.out.1,EN.out.2⟩
  ·rw [if_neg hroom] at hw HD
   obtain ⟨⟨cc,hcc,rfl⟩,b5⟩:=hw
   have c5:=(b5.cell (p:=⟨w.heap.size,0,none⟩) (show w.heap.size < _ by omega)).trans d4
   have f5:=(b5.frozen (p:=⟨w.heap.size,0,none⟩) (show w.heap.size < _ by omega)).trans g4
   have t5:=(b5.cell (p:=⟨w1.heap.size,0,none⟩) (show w1.heap.size < _ by omega)).trans t4
   have B5:=below_trans B4 b5
   have kF:∀ v,Kept (·=w.heap.size) w5 (w5.setCell ⟨w.heap.size,0,none⟩ v):=fun v=>Kept.of_grown1 (grown_set _ _ _ _)
   have UK:Hid (∀ v,Kept (fun g=>g < (w.alloc (.cells #[.nilIface] 80)).heap.size∧r' g=.none) w1 (w5.setCell ⟨w.heap.size,0,none⟩ v)):=fun v =>
    ((k2.mono (T:=fun g=>g < (w.alloc (.cells #[.nilIface] 80)).heap.size∧r' g=.none) (fun g _ e=>by rw [e];exact ⟨by simp,hw1⟩)).trans (Kept.of_below B5) (fun g hg e=>by omega)).trans (kF v) (fun g hg e=>by rw [e];exact ⟨by simp,hw1⟩)
   have ST6:Hid (∀ v,Step r w r' (w5.setCell ⟨w.heap.size,0,none⟩ v)):=fun v=>(ST4.out.trans (Step.of_below b5)).then (kF v) (fun j e=>by omega)
   have UN:Hid (_):=un
   clear un kF
   go_wp2
   refine leaves_cons (f:=180) (args:=#[.pointer (some ⟨w.heap.size,0,none⟩),.pointer (some ⟨w1.heap.size,0,none⟩)]) (by simp) (by simp [go_sem]) ?_
   have q6:(w5.setCell ⟨w.heap.size,0,none⟩ (.iface 148 (.agg #[.int .i64 507,cc]))).cell? ⟨w.heap.size,0,none⟩=some (.iface 148 (.agg #[.int .i64 507,cc])):=by simp [go_sem,c5]
   have q7:(w5.setCell ⟨w.heap.size,0,none⟩ (.iface 148 (.agg #[.int .i64 507,cc]))).cell? ⟨w1.heap.size,0,none⟩=some (.func (.func F1) #[] caps):=Kept.cell (Kept.of_grown1 (grown_set w5 w.heap.size 0 _)) t5 (show ¬ w1.heap.size=w.heap.size by omega)
   refine (ddo_back _ _ F1 caps _ _ _ _ hen q6 q7 (UN.out _ (UK.out _))).mono ?_
   rintro e u' w'' ⟨rfl,rfl,hk6,s6⟩
   have c6:=s6.kept.cell q6 (by simp [hw1])
   rw [HD.out]
   simp [Leaves,settle,results,Tryz.results126,go_sem,c6]
   exact ⟨.no 507 cc hcc (by decide),r',hk6,(ST6.out _).trans s6⟩
theorem rulesJ_len:∀ (l:List J) (rs:List RuleP),rulesJ l=some rs→rs.length=l.length
 | [],rs,h=>by simp [rulesJ] at h;subst h;rfl
 | j :: l,rs,h=>by
  rw [rulesJ] at h
  cases h1:ruleJ j with
  | none=>rw [h1] at h;cases h
  | some r =>
   rw [h1] at h;simp only at h
   cases h2:rulesJ l with
   | none=>rw [h2] at h;cases h
   | some x=>rw [h2] at h;simp at h;subst h;simp [rulesJ_len l x h2]
theorem rulesOf_len (s:List UInt8):(rulesOf s).2.length≤4:=by
 unfold rulesOf
 split
 ·simp
 ·split
  ·simp
  ·rename_i j _
   cases hp:policyJ j with
   | none=>simp
   | some l =>
    simp only
    rw [policyJ_is] at hp
    cases h1:objN 1 j with
    | none=>rw [h1] at hp;cases hp
    | some m =>
     rw [h1] at hp;simp only at hp
     cases h2:findM m sRules with
     | none=>rw [h2] at hp;cases hp
     | some x =>
      rw [h2] at hp;simp only at hp
      cases h3:arrJ x with
      | none=>rw [h3] at hp;cases hp
      | some k =>
       rw [h3] at hp;simp only at hp
       split at hp
       ·rw [rulesJ_len k l hp];assumption
       ·cases hp
theorem UR.kept {S:Nat→Prop} {a:Option Addr} {us:Us} {w w':World} (h:UR a us w) (k:Kept S w w') (hs:∀ p,a=some p→¬ S p.block):UR a us w' :=
 ⟨fun i hi=>by
  obtain ⟨b,o,e,hb,c0,c1⟩:=h.at_ i hi
  have:=k.size
  exact ⟨b,o,e,by omega,k.cell c0 (show ¬ S b from hs _ e),k.cell c1 (show ¬ S b from hs _ e)⟩⟩
theorem Kept.setOwn {b:Nat} {a w:World} (h:Kept (·=b) a w) (o:Nat) (v:Value):Kept (·=b) a (w.setCell ⟨b,o,none⟩ v):=h.setCell b o v (fun _=>rfl)
structure LS (a b:Nat) (us:Us) (clock:Nat) (s:Sto) (r:Roles) (w:World):Prop where
 l0:∃ ua uc,w.cell? ⟨a,0,none⟩=some (.slice ua us.length uc)∧UR ua us w∧∀ p,ua=some p→r p.block=.none∧p.block < w.heap.size
 l1:w.cell? ⟨a,1,none⟩=some (.int .i64 (clock:Int))
 l2:w.cell? ⟨a,2,none⟩=some (.pointer (some ⟨b,0,none⟩))
 ra:r a=.none
 al:a < w.heap.size
 K:KS b s r w
 sz:13≤w.heap.size
 rN:∀ g,g < 13→r g=.none
 F:Fine s
 hu:s.users.length≤1000
 ul:us.length≤1000
 un:∀ u∈us,u.1.length≤1000∧u.2.length≤1000000
 cl:clock≤1000000000000
theorem Step.none {r r':Roles} {w w':World} (h:Step r w r' w') {g:Nat} (hg:g < w.heap.size) (hr:r g=.none):r' g=.none:=by
 cases e:r' g with
 | none=>rfl
 | _=>exact absurd hr (h.mine g hg (by rw [e];simp))
theorem LS.step {a b:Nat} {us:Us} {clock:Nat} {s s':Sto} {r r':Roles} {w w':World} (h:LS a b us clock s r w) (st:Step r w r' w') (k:KS b s' r' w') (F:Fine s') (hu:s'.users=s.users):LS a b us clock s' r' w' where
 l0:=by
  obtain ⟨ua,uc,e,hU,hr⟩:=h.l0
  refine ⟨ua,uc,st.kept.cell e (by simp [h.ra]),hU.kept st.kept (fun p hp=>by simp [(hr p hp).1]),fun p hp=>⟨st.none (hr p hp).2 (hr p hp).1,Nat.lt_of_lt_of_le (hr p hp).2 st.kept.size⟩⟩
 l1:=st.kept.cell h.l1 (by simp [h.ra])
 l2:=st.kept.cell h.l2 (by simp [h.ra])
 ra:=st.none h.al h.ra
 al:=Nat.lt_of_lt_of_le h.al st.kept.size
 K:=k
 sz:=Nat.le_trans h.sz st.kept.size
 rN:=fun g hg=>st.none (Nat.lt_of_lt_of_le hg h.sz) (h.rN g hg)
 F:=F
 hu:=by rw [hu];exact h.hu
 ul:=h.ul
 un:=h.un
 cl:=h.cl
theorem LS.below {a b:Nat} {us:Us} {clock:Nat} {s:Sto} {r:Roles} {w w':World} (h:LS a b us clock s r w) (k:Below w.heap.size w w'):LS a b us clock s r w':=h.step (Step.of_below k) (h.K.below k) h.F rfl
theorem LS.glob {a b:Nat} {us:Us} {clock:Nat} {s:Sto} {r r':Roles} {w w':World} (h:LS a b us clock s r w) (G:GL w) (st:Step r w r' w'):GL w' :=
 G.kept st.kept (fun g e=>by
  rcases Nat.lt_or_ge g 13 with hl|hl
  ·exact absurd (h.rN g hl) e
  ·exact hl)
theorem LS.new {a b:Nat} {us:Us} {clock:Nat} {s:Sto} {r:Roles} {w:World} (h:LS a b us clock s r w):r w.heap.size=.none:=by
 cases e:r w.heap.size with
 | none=>rfl
 | _=>have:=h.K.dom w.heap.size (by rw [e];simp);omega
theorem frame_pos (t:Tx):1≤(frameT t).length:=by simp [frameT,longT,numT,bigL_len];omega
theorem begin_users {s t:Sto} {c:Chg} (h:s.begin c=.ok t):t.users=s.users:=by
 cases c <;> simp only [Sto.begin] at h <;> (repeat' split at h) <;> cases h <;> rfl
theorem done_users (s:Sto) (c:Chg):(s.done c).2.users=s.users:=by
 unfold Sto.done
 cases hb:s.begin c with
 | error n=>rfl
 | ok t => simp only; split
           · show t.users=_;exact begin_users hb
           · rfl
theorem fine_setBk {s:Sto} (F:Fine s) {n:Tx} {x:Bkt} (h1:x.rules.length≤4) (h2:x.owner.length≤100000) (h3:x.policy.length≤100000):Fine (s.setBk n x) where
 log:=F.log
 room:=F.room
 last:=F.last
 bk:=fun m y e=>by
  simp only [Sto.setBk] at e
  split at e
  ·cases e;exact ⟨h1,h2,h3⟩
  ·exact F.bk m y e
 vs:=F.vs
structure Near (s:Sto) (l:Nat):Prop where
 bk:∀ n x,s.bk n=some x→x.rules.length≤4∧x.owner.length≤100000∧x.policy.length≤100000
 vs:∀ b k,(s.vs b k).length≤s.last∧∀ v∈s.vs b k,v.body.length≤100000∧v.num≤s.last
 last:s.last≤l+1
theorem Fine.near {s:Sto} (F:Fine s):Near s s.log.length:=⟨F.bk,F.vs,by have:=F.last;omega⟩
theorem near_add {s:Sto} (F:Fine s) {b k:Tx} {mark:Bool} {y:Tx} (hy:y.length≤100000):Near (s.add b k mark y) s.log.length where
 bk:=F.bk
 vs:=fun c j=>by
  have hv:=F.vs c j
  have e:(s.add b k mark y).last=s.last+1:=rfl
  have e2:(s.add b k mark y).vs c j=if c=b∧j=k then s.vs b k++[⟨s.last+1,mark,y⟩] else s.vs c j:=rfl
  rw [e,e2]
  split
  ·rename_i h
   obtain ⟨rfl,rfl⟩:=h
   refine ⟨by simp;omega,fun v hm=>?_⟩
   rcases List.mem_append.1 hm with hm|hm
   ·have:=hv.2 v hm;exact ⟨this.1,by omega⟩
   ·rw [List.mem_singleton] at hm;subst hm;exact ⟨hy,Nat.le_refl _⟩
  ·exact ⟨by omega,fun v hm=>by have:=hv.2 v hm;exact ⟨this.1,by omega⟩⟩
 last:=by have:=F.last;show s.last+1≤_;omega
theorem near_begin {s t:Sto} {c:Chg} (F:Fine s) (hc:c.fit) (h:s.begin c=.ok t):Near t s.log.length:=by
 cases c with
 | mk b o =>
  simp only [Sto.begin] at h
  split at h
  ·split at h
   ·cases h;exact (fine_setBk (x:=⟨o,[],[]⟩) F (by simp) (by have:o.length≤10000:=hc.2;show o.length≤_;omega) (by simp)).near
   ·cases h
  ·cases h
 | pol b p =>
  simp only [Sto.begin] at h
  split at h
  ·cases h
  ·rename_i x hx
   split at h
   ·cases h;exact (fine_setBk (x:=⟨x.owner,p,(rulesOf p).2⟩) F (rulesOf_len p) (F.bk b x hx).2.1 (by have:p.length≤10000:=hc.2;show p.length≤_;omega)).near
   ·cases h
 | unpol b =>
  simp only [Sto.begin] at h
  split at h
  ·cases h
  ·rename_i x hx
   split at h
   ·cases h
   ·cases h;exact (fine_setBk (x:=⟨x.owner,[],[]⟩) F (by simp) (F.bk b x hx).2.1 (by simp)).near
 | put b k y =>
  simp only [Sto.begin] at h
  split at h
  ·cases h
  ·split at h
   ·cases h
   ·split at h
    ·cases h;exact near_add F (by have:y.length≤10000:=hc.2.2;omega)
    ·cases h
 | mark b k =>
  simp only [Sto.begin] at h
  split at h
  ·cases h
  ·split at h
   ·cases h;exact near_add F (by simp)
   ·cases h
 | drop b k n =>
  simp only [Sto.begin] at h
  split at h
  ·cases h
   refine ⟨F.bk,fun c j=>?_,by have:=F.last;show s.last≤_;omega⟩
   have e2:(s.setVs b k ((s.vs b k).eraseP (fun v=>v.num == n))).vs c j=if c=b∧j=k then (s.vs b k).eraseP (fun v=>v.num == n) else s.vs c j:=rfl
   have e:(s.setVs b k ((s.vs b k).eraseP (fun v=>v.num == n))).last=s.last:=rfl
   rw [e,e2]
   split
   ·exact ⟨Nat.le_trans (List.eraseP_sublist.length_le) (F.vs b k).1,fun v hv=>(F.vs b k).2 v (List.mem_of_mem_eraseP hv)⟩
   ·exact F.vs c j
  ·cases h
theorem done_fine {s:Sto} {c:Chg} (F:Fine s) (hc:c.fit):Fine (s.done c).2:=by
 unfold Sto.done
 cases hb:s.begin c with
 | error n=>exact F
 | ok t =>
  simp only
  split
  ·rename_i hr
   have N:=near_begin F hc hb
   have L:=begin_log hb
   have:=frame_pos c.text
   have hroom:=F.room
   exact { log:=by simp;omega,room:=by show t.room≤_;rw [L.2];exact F.room,last:=by have:=N.last;show t.last≤_;simp;omega,bk:=N.bk,vs:=N.vs }
  ·exact F
theorem verHead_any (n:Nat) (hn:n≤1000000000000) (w:World) (E:R.Env w) :
  Calls Tryz.prog 131 #[.int .i64 (n:Int)] w fun e w'=>e=.returned (.agg #[str tVersion,str (Lib.itoa (n:Int))])∧Below w.heap.size w w':=by
 have b0:Below w.heap.size w (w.alloc (.cells #[str [],str []] 109)):=(Below.refl _ _).alloc (Nat.le_refl _) _
 have I:Hid (_):=R.itoa_r n (w.alloc (.cells #[str [],str []] 109)) (E.below b0 E.sz) (by omega)
 generalize Lib.itoa (n:Int)=t at *
 go_enter Tryz.func131,Tryz.ntmps131
 go_wp2_with fail
 refine Calls.mono I.out ?_
 rintro e w1 ⟨rfl,b1⟩
 have hs1:=b1.size
 have m0:w.heap.size < w1.heap.size:=by simp at hs1;omega
 have c0:w1.cell? ⟨w.heap.size,0,none⟩=some (str []):=(b1.cell (p:=⟨w.heap.size,0,none⟩) (by simp)).trans (by simp [go_sem])
 have c1:w1.cell? ⟨w.heap.size,1,none⟩=some (str []):=(b1.cell (p:=⟨w.heap.size,1,none⟩) (by simp)).trans (by simp [go_sem])
 have f0:∀ j:Nat,w1.frozen? ⟨w.heap.size,j,none⟩=false:=fun j=>(b1.frozen (p:=⟨w.heap.size,j,none⟩) (by simp)).trans (by simp [go_sem])
 have BB:Hid (Below w.heap.size w ((w1.setCell ⟨w.heap.size,0,none⟩ (str tVersion)).setCell ⟨w.heap.size,1,none⟩ (str t))):=((below_trans b0 b1).setCell (p:=⟨w.heap.size,0,none⟩) (Nat.le_refl _) _).setCell (p:=⟨w.heap.size,1,none⟩) (Nat.le_refl _) _
 clear I b1 b0 hs1
 go_wp2
 refine bodyPost_ret (v:=.agg #[str tVersion,str t]) ?_ rfl ⟨rfl,BB.out⟩
 simp [results,Tryz.results131,go_sem,c0,c1,tVersion]
theorem lenHead_any (y:Tx) (hy:y.length≤1000000000000) (w:World) (E:R.Env w) :
  Calls Tryz.prog 128 #[str y] w fun e w'=>e=.returned (.agg #[str tLength,str (lenT y)])∧Below w.heap.size w w':=by
 have b0:Below w.heap.size w (w.alloc (.cells #[str [],str []] 109)):=(Below.refl _ _).alloc (Nat.le_refl _) _
 have I:Hid (_):=R.itoa_r y.length (w.alloc (.cells #[str [],str []] 109)) (E.below b0 E.sz) (by omega)
 have HT:Hid (lenT y=Lib.itoa (y.length:Int)):=rfl
 rw [HT.out]
 generalize Lib.itoa (y.length:Int)=t at *
 go_enter Tryz.func128,Tryz.ntmps128
 go_wp2_with fail
 refine Calls.mono I.out ?_
 rintro e w1 ⟨rfl,b1⟩
 have hs1:=b1.size
 have m0:w.heap.size < w1.heap.size:=by simp at hs1;omega
 have c0:w1.cell? ⟨w.heap.size,0,none⟩=some (str []):=(b1.cell (p:=⟨w.heap.size,0,none⟩) (by simp)).trans (by simp [go_sem])
 have c1:w1.cell? ⟨w.heap.size,1,none⟩=some (str []):=(b1.cell (p:=⟨w.heap.size,1,none⟩) (by simp)).trans (by simp [go_sem])
 have f0:∀ j:Nat,w1.frozen? ⟨w.heap.size,j,none⟩=false:=fun j=>(b1.frozen (p:=⟨w.heap.size,j,none⟩) (by simp)).trans (by simp [go_sem])
 have BB:Hid (Below w.heap.size w ((w1.setCell ⟨w.heap.size,0,none⟩ (str tLength)).setCell ⟨w.heap.size,1,none⟩ (str t))):=((below_trans b0 b1).setCell (p:=⟨w.heap.size,0,none⟩) (Nat.le_refl _) _).setCell (p:=⟨w.heap.size,1,none⟩) (Nat.le_refl _) _
 clear I b1 b0 hs1
 go_wp2
 refine bodyPost_ret (v:=.agg #[str tLength,str t]) ?_ rfl ⟨rfl,BB.out⟩
 simp [results,Tryz.results128,go_sem,c0,c1]
def srvPost (a b:Nat) (us:Us) (clock:Nat) (r:Roles) (w:World) (x:Nat×Hs×Tx×Sto) (e:Ending) (w':World):Prop :=
 ∃ v r' ha hm hc y,e=.returned (.tuple #[.agg #[.slice ha hm hc,str y],v])∧errIs v x.1∧(x.1=200→R.phold w' w'.heap.size (.slice ha hm hc) x.2.1∧y=x.2.2.1)∧(∀ g,(Value.slice ha hm hc).ownBlock=some g→w.heap.size≤g)∧LS a b us clock x.2.2.2 r' w'∧Step r w r' w'
abbrev zResp:Obj:=.cells #[.slice none 0 0,str []] 78
theorem change_any (c:Chg) (hc:c.fit) (a b:Nat) (us:Us) (clock:Nat) (s:Sto) (r:Roles) (w:World) (G:GL w) (L:LS a b us clock s r w) :
  Calls Tryz.prog 84 #[.pointer (some ⟨a,0,none⟩),.iface c.ty c.val] w (srvPost a b us clock r w ((s.done c).1,[],[],(s.done c).2)):=by
 have b0:Below w.heap.size w (w.alloc zResp):=(Below.refl _ _).alloc (Nat.le_refl _) _
 have L0:=L.below b0
 have hn0:=L.new
 have c2:=L0.l2
 have D:Hid (_):=kdo_any c b s r (w.alloc zResp) (G.call b0) L0.rN L0.K L0.F (by have:=L.hu;omega) hc
 have HF:Hid (Fine (s.done c).2):=done_fine L.F hc
 have HU:Hid ((s.done c).2.users=s.users):=done_users s c
 generalize s.done c=d at *
 clear L0
 go_enter Tryz.func84,Tryz.ntmps84
 go_wp2_with fail
 refine Calls.mono D.out ?_
 rintro e w1 ⟨v,r',rfl,hv,hk,hs⟩
 have z:=hs.kept.size
 have q0:w1.cell? ⟨w.heap.size,0,none⟩=some (.slice none 0 0):=hs.kept.cell (by simp [go_sem]) (by simp [hn0])
 have q1:w1.cell? ⟨w.heap.size,1,none⟩=some (str []):=hs.kept.cell (by simp [go_sem]) (by simp [hn0])
 have f0:∀ j:Nat,w1.frozen? ⟨w.heap.size,j,none⟩=false:=fun j=>hs.kept.frozen (a:=⟨w.heap.size,j,none⟩) (by simp) (by simp [go_sem]) (by simp [hn0])
 have hn1:r' w.heap.size=.none:=hs.none (by simp) hn0
 have kS:Kept (·=w.heap.size) w1 ((w1.setCell ⟨w.heap.size,0,none⟩ (.slice none 0 0)).setCell ⟨w.heap.size,1,none⟩ (str [])):=((Kept.refl _ _).setOwn 0 _).setOwn 1 _
 have ST:Hid (_):=((Step.of_below b0).trans hs).then kS (fun j e=>by omega)
 have LF:Hid (_):=L.step ST.out (hk.kept kS (fun g e hg=>e (by rw [hg];exact hn1))) HF.out HU.out
 clear D hs hk kS
 go_wp2
 refine bodyPost_ret (v:=.tuple #[.agg #[.slice none 0 0,str []],v]) ?_ rfl ?_
 ·simp [results,Tryz.results84,go_sem,q0,q1]
 ·exact ⟨v,r',none,0,0,[],rfl,hv,fun _=>⟨.inl ⟨rfl,rfl⟩,rfl⟩,(fun g e=>by cases e),LF.out,ST.out⟩
theorem phold_one (w:World) (n v:Tx) (ty:TypeId):R.phold (w.alloc (.cells #[str n,str v] ty)) (w.alloc (.cells #[str n,str v] ty)).heap.size (.slice (some ⟨w.heap.size,0,none⟩) 1 1) [(n,v)] :=
 .inr ⟨w.heap.size,1,rfl,by simp,fun k hk=>by
  obtain rfl:k=0:=by simp at hk;omega
  exact ⟨by simp [go_sem],by simp [go_sem]⟩⟩
theorem phold_two (w:World) (n v n2 v2:Tx) (ty:TypeId):R.phold (w.alloc (.cells #[str n,str v,str n2,str v2] ty)) (w.alloc (.cells #[str n,str v,str n2,str v2] ty)).heap.size (.slice (some ⟨w.heap.size,0,none⟩) 2 2) [(n,v),(n2,v2)] :=
 .inr ⟨w.heap.size,2,rfl,by simp,fun k hk=>by
  have:k=0∨k=1:=by simp at hk;omega
  rcases this with rfl|rfl
  ·exact ⟨by simp [go_sem],by simp [go_sem]⟩
  ·exact ⟨by simp [go_sem],by simp [go_sem]⟩⟩
theorem phold.kept {S:Nat→Prop} {w w':World} {B:Nat} {v:Value} {l:Hs} (h:R.phold w B v l) (k:Kept S w w') (hs:∀ g,v.ownBlock=some g→¬ S g) (hB:B≤w'.heap.size):R.phold w' w'.heap.size v l:=by
 rcases h with h|⟨g,cap,rfl,hg,h⟩
 ·exact .inl h
 ·exact .inr ⟨g,cap,rfl,Nat.lt_of_lt_of_le hg hB,fun i hi=>⟨k.cell (h i hi).1 (hs g rfl),k.cell (h i hi).2 (hs g rfl)⟩⟩
theorem addVersion_any (c:Chg) (hc:c.fit) (a b:Nat) (us:Us) (clock:Nat) (s:Sto) (r:Roles) (w:World) (G:GL w) (L:LS a b us clock s r w) :
  Calls Tryz.prog 87 #[.pointer (some ⟨a,0,none⟩),.iface c.ty c.val] w (srvPost a b us clock r w ((s.done c).1,[(tVersion,Lib.itoa ((s.done c).2.last:Int))],[],(s.done c).2)):=by
 have b0:Below w.heap.size w (w.alloc zResp):=(Below.refl _ _).alloc (Nat.le_refl _) _
 have L0:=L.below b0
 have hn0:=L.new
 have c2:=L0.l2
 have D:Hid (_):=kdo_any c b s r (w.alloc zResp) (G.call b0) L0.rN L0.K L0.F (by have:=L.hu;omega) hc
 have HF:Hid (Fine (s.done c).2):=done_fine L.F hc
 have HU:Hid ((s.done c).2.users=s.users):=done_users s c
 generalize s.done c=d at *
 clear L0
 go_enter Tryz.func87,Tryz.ntmps87
 go_wp2_with fail
 refine Calls.mono D.out ?_
 rintro e w1 ⟨v,r',rfl,hv,hk,hs⟩
 have S1:Step r w r' w1:=(Step.of_below b0).trans hs
 have L1:=L.step S1 hk HF.out HU.out
 have G1:=L.glob G S1
 have z:=hs.kept.size
 have q0:w1.cell? ⟨w.heap.size,0,none⟩=some (.slice none 0 0):=hs.kept.cell (by simp [go_sem]) (by simp [hn0])
 have q1:w1.cell? ⟨w.heap.size,1,none⟩=some (str []):=hs.kept.cell (by simp [go_sem]) (by simp [hn0])
 have f0:∀ j:Nat,w1.frozen? ⟨w.heap.size,j,none⟩=false:=fun j=>hs.kept.frozen (a:=⟨w.heap.size,j,none⟩) (by simp) (by simp [go_sem]) (by simp [hn0])
 have hn1:r' w.heap.size=.none:=hs.none (by simp) hn0
 have d2:=L1.l2
 have KL:Hid (_):=klast_any b d.2 r' w1 hk
 have hl:=HF.out.last;have hl2:=HF.out.log
 have VH:Hid (_):=verHead_any d.2.last (by omega) w1 G1.env
 have HL1:Hid (LS a b us clock d.2 r' w1):=L1
 clear D hs hk L1 c2 hl hl2
 have m0:w.heap.size < w1.heap.size:=by simp at z;omega
 clear z
 generalize Lib.itoa (d.2.last:Int)=t at *
 go_wp2_with fail
 refine Calls.mono KL.out ?_
 rintro e w2 ⟨rfl,rfl⟩
 go_wp2_with fail
 refine Calls.mono VH.out ?_
 rintro e w2 ⟨rfl,b2⟩
 have hs2:=b2.size
 have p0:w2.cell? ⟨w.heap.size,0,none⟩=some (.slice none 0 0):=(b2.cell (p:=⟨w.heap.size,0,none⟩) m0).trans q0
 have p1:w2.cell? ⟨w.heap.size,1,none⟩=some (str []):=(b2.cell (p:=⟨w.heap.size,1,none⟩) m0).trans q1
 have g0:∀ j:Nat,w2.frozen? ⟨w.heap.size,j,none⟩=false:=fun j=>(b2.frozen (p:=⟨w.heap.size,j,none⟩) m0).trans (f0 j)
 have pa0:∀ ob,(w2.alloc ob).cell? ⟨w.heap.size,0,none⟩=some (.slice none 0 0):=fun ob=>cell_alloc p0 ob
 have pa1:∀ ob,(w2.alloc ob).cell? ⟨w.heap.size,1,none⟩=some (str []):=fun ob=>cell_alloc p1 ob
 have ga:∀ ob,∀ j:Nat,(w2.alloc ob).frozen? ⟨w.heap.size,j,none⟩=false:=fun ob j=>((Kept.refl (fun _=>False) w2).alloc ob).frozen (a:=⟨w.heap.size,j,none⟩) (by show w.heap.size < _;omega) (g0 j) (fun e=>e)
 have kS:∀ ob x y,Kept (·=w.heap.size) w2 (((w2.alloc ob).setCell ⟨w.heap.size,0,none⟩ x).setCell ⟨w.heap.size,1,none⟩ y):=fun ob x y=>(((Kept.refl _ _).alloc ob).setOwn 0 _).setOwn 1 _
 have ST:Hid (∀ ob x y,Step r w r' (((w2.alloc ob).setCell ⟨w.heap.size,0,none⟩ x).setCell ⟨w.heap.size,1,none⟩ y)):=fun ob x y=>(S1.trans (Step.of_below b2)).then (kS ob x y) (fun j e=>by omega)
 have LF:Hid (∀ ob x y,LS a b us clock d.2 r' (((w2.alloc ob).setCell ⟨w.heap.size,0,none⟩ x).setCell ⟨w.heap.size,1,none⟩ y)):=fun ob x y=>L.step (ST.out ob x y) ((HL1.out.K.below b2).kept (kS ob x y) (fun g e hg=>e (by rw [hg];exact hn1))) HF.out HU.out
 clear kS b2 q0 q1 f0 KL VH S1
 go_wp2
 refine bodyPost_ret (v:=.tuple #[.agg #[.slice (some ⟨w2.heap.size,0,none⟩) 1 1,str []],v]) ?_ rfl ?_
 ·simp [results,Tryz.results87,go_sem,pa0,pa1]
 ·refine ⟨v,r',_,_,_,[],rfl,hv,fun _=>⟨?_,rfl⟩,(fun g e=>by simp [Value.ownBlock] at e;omega),LF.out _ _ _,ST.out _ _ _⟩
  exact phold.kept (phold_one w2 tVersion t _) (((Kept.refl (·=w.heap.size) _).setOwn 0 _).setOwn 1 _) (fun g e=>by simp [Value.ownBlock] at e;omega) (by simp)
end Go.Proofs.YtbllcgibmgbnjaaGreatDoor.P
