import Derived.Test.YtbllcgibmgbnjaaGreatDoorM04
import Derived.LaidEql
import Derived.Stop.Asserts
import Derived.RowKitTokens
import Derived.Laws.BitsAllLaws
import Derived.IntWalk
import Derived.Test.YtbllcgibmgbnjaaGreatDoorProg
import Derived.WalkKit
import Derived.WalkSpells
import Derived.WalkLawsBesides
import Derived.Deep.QuietTactic
import Derived.BigQuiet
import Derived.Laws.IdiomStrings
import Derived.Deep.RegionHeld3
import Derived.Deep.AppendLies
import Derived.Deep.RegionLaw
import Derived.BigRegion
import Derived.Deep.MidRow
import Derived.Laws.ResultCell
set_option maxHeartbeats 4000000
set_option maxRecDepth 100000
namespace Go.Proofs.YtbllcgibmgbnjaaGreatDoor.P
open Go.RowKit Go.Extern.Stop Go.Stop Go.Extern
theorem valueOfP (t:Addr) (w:World):(ReflectliteValue.unpack (.iface 150 (.pointer (some t)))).run Tryz.prog w
  = .ok (.agg #[.pointer (some ⟨13,150,none⟩),.pointer (some ⟨w.heap.size,0,none⟩),.int .u64 150]) (w.alloc (.cells #[.pointer (some t)] 150)):=by kernel_rfl
theorem typeP (a : Addr) (w : World) : (ReflectliteValue.methodAny (ReflectliteValue.valueError "reflectlite.Value.Type" 0) (fun t _ _ _ => ReflectliteType.toType t) #[.agg #[.pointer (some ⟨13, 150, none⟩), .pointer (some a), .int .u64 150]]).run Tryz.prog w
  = .ok (.iface 264 (.agg #[.pointer (some ⟨13,150,none⟩)])) w:=by kernel_rfl
theorem methodKind (h : Value) (w : World) : (Go.method 549 264 (.agg #[h]) "Kind").run Tryz.prog w = .ok (294, h) w := by kernel_rfl
theorem kindP (w:World):((ReflectliteType.abiMethod fun t=>(fun a:Nat=>Value.int IntKind.u8 (a:Int)) <$> Rtype.kind t) #[.pointer (some ⟨13,150,none⟩)]).run Tryz.prog w=.ok (.int .u8 22) w:=by kernel_rfl
theorem kindR (w:World):((ReflectliteType.abiMethod fun t=>(fun a:Nat=>Value.int IntKind.u8 (a:Int)) <$> Rtype.kind t) #[.pointer (some ⟨13,148,none⟩)]).run Tryz.prog w=.ok (.int .u8 25) w:=by kernel_rfl
theorem rlm (z:Sem Value) (f:TypeId→Addr→Nat→Nat→Sem Value) (v:Value) :
  ReflectliteValue.method z f #[v]=(do match ← ReflectliteValue.parts v with|none=>z|some (t,a,fl)=>f t a fl (fl % 32)):=rfl
theorem partsP (a:Addr) (w:World):(ReflectliteValue.parts (.agg #[.pointer (some ⟨13,150,none⟩),.pointer (some a),.int .u64 150])).run Tryz.prog w=.ok (some (150,a,150)) w:=by kernel_rfl
theorem isNilP (a p:Addr) (W:World) (ha:W.cell? a=some (.pointer (some p))) :
  (ReflectliteValue.method (ReflectliteValue.valueError "reflectlite.Value.IsNil" 0) ReflectliteValue.isNil #[.agg #[.pointer (some ⟨13, 150, none⟩), .pointer (some a), .int .u64 150]]).run Tryz.prog W = .ok (.bool false) W := by
 rw [rlm]
 simp only [Sem.run_bind,partsP,Result.andThen]
 simp [ReflectliteValue.isNil,loadVar,isAgg,underlying,Tryz.underlying150,ha,Result.andThen]
theorem methodElem (h : Value) (w : World) : (Go.method 549 264 (.agg #[h]) "Elem").run Tryz.prog w = .ok (370, .agg #[h]) w := by kernel_rfl
theorem methodImplements (h : Value) (w : World) : (Go.method 549 264 (.agg #[h]) "Implements").run Tryz.prog w = .ok (371, .agg #[h]) w := by kernel_rfl
theorem methodAssignableTo (h : Value) (w : World) : (Go.method 549 264 (.agg #[h]) "AssignableTo").run Tryz.prog w = .ok (368, .agg #[h]) w := by kernel_rfl
theorem elemP (w:World):(ReflectliteType.method ReflectliteType.elem #[.agg #[.pointer (some ⟨13,150,none⟩)]]).run Tryz.prog w=.ok (.iface 264 (.agg #[.pointer (some ⟨13,148,none⟩)])) w:=by kernel_rfl
theorem implementsR (w : World) : (ReflectliteType.relation "Implements" ReflectliteType.implements_ #[.agg #[.pointer (some ⟨13, 148, none⟩)], .iface 264 (.agg #[.pointer (some ⟨13, 80, none⟩)])]).run Tryz.prog w = .ok (.bool true) w := by kernel_rfl
theorem typeOfR (v:Value) (w:World):(ReflectliteType.typeOf #[.iface 148 v]).run Tryz.prog w=.ok (.iface 264 (.agg #[.pointer (some ⟨13,148,none⟩)])) w:=by kernel_rfl
theorem assignableR (w : World) : (ReflectliteType.relation "AssignableTo" ReflectliteType.assignableTo #[.agg #[.pointer (some ⟨13, 148, none⟩)], .iface 264 (.agg #[.pointer (some ⟨13, 148, none⟩)])]).run Tryz.prog w = .ok (.bool true) w := by kernel_rfl
theorem valueOfR (n c:Value) (w:World):(ReflectliteValue.unpack (.iface 148 (.agg #[n,c]))).run Tryz.prog w
  = .ok (.agg #[.pointer (some ⟨13,148,none⟩),.pointer (some ⟨w.heap.size,0,none⟩),.int .u64 153]) (w.alloc (.cells #[n,c] 148)):=by kernel_rfl
theorem elemOfP (w:World):(Rtype.elem? 150).run Tryz.prog w=.ok (some 148) w:=by kernel_rfl
theorem mkR (p:Addr) (w:World):(ReflectliteValue.mk 148 p ReflectliteValue.flagAddr).run Tryz.prog w=.ok (.agg #[.pointer (some ⟨13,148,none⟩),.pointer (some p),.int .u64 409]) w:=by kernel_rfl
theorem elemVP (a p:Addr) (W:World) (ha:W.cell? a=some (.pointer (some p))) :
  (ReflectliteValue.method (ReflectliteValue.valueError "reflectlite.Value.Elem" 0) ReflectliteValue.elem #[.agg #[.pointer (some ⟨13, 150, none⟩), .pointer (some a), .int .u64 150]]).run Tryz.prog W
   = .ok (.agg #[.pointer (some ⟨13,148,none⟩),.pointer (some p),.int .u64 409]) W:=by
 rw [rlm]
 simp only [Sem.run_bind,partsP,Result.andThen]
 simp [ReflectliteValue.elem,loadVar,isAgg,underlying,Tryz.underlying150,ha,Result.andThen,elemOfP,mkR]
theorem partsRa (a:Addr) (w:World):(ReflectliteValue.parts (.agg #[.pointer (some ⟨13,148,none⟩),.pointer (some a),.int .u64 409])).run Tryz.prog w=.ok (some (148,a,409)) w:=by kernel_rfl
theorem partsR (a:Addr) (w:World):(ReflectliteValue.parts (.agg #[.pointer (some ⟨13,148,none⟩),.pointer (some a),.int .u64 153])).run Tryz.prog w=.ok (some (148,a,153)) w:=by kernel_rfl
theorem directR (w:World):(Rtype.directlyAssignable 148 148).run Tryz.prog w=.ok true w:=by kernel_rfl
theorem rls (v x:Value):ReflectliteValue.set #[v,x]=(do
  let (some (dst,a,fl),some (src,b,_)):=(← ReflectliteValue.parts v,← ReflectliteValue.parts x)
   | unsupported (.noEntry "extern/(internal/reflectlite.Value).Set.zeroValue")
  if fl / ReflectliteValue.flagAddr % 2 == 0 then unsupported (.noEntry "extern/(internal/reflectlite.Value).Set.unaddressable")
  let val ← loadVar src b
  if ← Rtype.directlyAssignable dst src then storeVar dst a val
  else if ← Rtype.implements dst src then
   if (← Rtype.kind src) == 20 then
    match val with
    | .nilIface => unsupported (.noEntry "extern/reflectlite: a nil value of one interface type handed on as a value of another")
    | _=>storeVar dst a val
   else storeVar dst a (.iface src val)
  else panicString ("reflectlite.Set: value of type " ++ (← Rtype.spelt src) ++ " is not assignable to type " ++ (← Rtype.spelt dst))
  pure (.tuple #[])):=rfl
theorem setR (t b:Nat) (n c o1 o2:Value) (W:World) (hb0:W.cell? ⟨b,0,none⟩=some n) (hb1:W.cell? ⟨b,1,none⟩=some c) (h1:n.oneCell'=true) (h2:c.oneCell'=true)
  (ht0:W.cell? ⟨t,0,none⟩=some o1) (hf0:W.frozen? ⟨t,0,none⟩=false) (ht1:W.cell? ⟨t,1,none⟩=some o2) (hf1:W.frozen? ⟨t,1,none⟩=false) :
  (ReflectliteValue.set #[.agg #[.pointer (some ⟨13,148,none⟩),.pointer (some ⟨t,0,none⟩),.int .u64 409],.agg #[.pointer (some ⟨13,148,none⟩),.pointer (some ⟨b,0,none⟩),.int .u64 153]]).run Tryz.prog W
   = .ok (.tuple #[]) ((W.setCell ⟨t,0,none⟩ n).setCell ⟨t,1,none⟩ c):=by
 rw [rls]
 simp only [Sem.run_bind,partsRa,partsR,Result.andThen]
 simp [ReflectliteValue.flagAddr,loadVar,isAgg,underlying,Tryz.underlying148,Result.andThen,directR,storeVar,Value.cells]
 have hl:(loadCells ⟨b,0,none⟩ 2).run Tryz.prog W=.ok #[n,c] W:=by
  simp [loadCells,loadCellsFrom,hb0,hb1,Addr.add,Result.andThen]
 have s1:=run_store Tryz.prog W ⟨t,0,none⟩ n .plain h1
 rw [ht0] at s1;simp only [hf0] at s1
 have g1:(W.setCell ⟨t,0,none⟩ n).cell? ⟨t,1,none⟩=some o2:=by simp [go_sem,ht1]
 have g2:(W.setCell ⟨t,0,none⟩ n).frozen? ⟨t,1,none⟩=false:=by simp [go_sem,hf1]
 have s2:=run_store Tryz.prog (W.setCell ⟨t,0,none⟩ n) ⟨t,1,none⟩ c .plain h2
 rw [g1] at s2;simp only [g2] at s2
 rw [hl]
 simp [storeCells,Addr.add,Result.andThen,s1,s2]
abbrev asA (t:Nat):Obj:=.cells #[.pointer (some ⟨t,0,none⟩)] 150
abbrev asB (z:Nat):Obj:=.cells #[.pointer (some ⟨13,150,none⟩),.pointer (some ⟨z,0,none⟩),.int .u64 150] 207
abbrev asC (n c:Value):Obj:=.cells #[n,c] 148
theorem as_hit (n:Int) (c:Value) (t:Nat) (o1 o2:Value) (w:World) (hg:w.cell? ⟨1,0,none⟩=some (.iface 264 (.agg #[.pointer (some ⟨13,80,none⟩)]))) (h2:c.oneCell'=true)
  (ht0:w.cell? ⟨t,0,none⟩=some o1) (hf0:w.frozen? ⟨t,0,none⟩=false) (ht1:w.cell? ⟨t,1,none⟩=some o2) (hf1:w.frozen? ⟨t,1,none⟩=false) :
  Calls Tryz.prog 77 #[.iface 148 (.agg #[.int .i64 n,c]),.iface 150 (.pointer (some ⟨t,0,none⟩))] w fun ev w'=>ev=.returned (.bool true) ∧
   w'=(((((w.alloc (asA t)).alloc (asB w.heap.size)).alloc (asB w.heap.size)).alloc (asC (.int .i64 n) c)).setCell ⟨t,0,none⟩ (.int .i64 n)).setCell ⟨t,1,none⟩ c:=by
 have hA:=@run_callFunc_extern Tryz.prog 112 _ (fun args=>ReflectliteValue.unpack (args.getD 0 (.tuple #[]))) Tryz.func112 (by kernel_rfl) (by kernel_rfl) (by kernel_rfl) (by kernel_rfl)
 have hB := @run_callFunc_extern Tryz.prog 113 _ (ReflectliteValue.methodAny (ReflectliteValue.valueError "reflectlite.Value.Type" 0) (fun t _ _ _ => ReflectliteType.toType t)) Tryz.func113 (by kernel_rfl) (by kernel_rfl) (by kernel_rfl) (by kernel_rfl)
 have hC := @run_callFunc_extern Tryz.prog 114 _ (ReflectliteValue.method (ReflectliteValue.valueError "reflectlite.Value.IsNil" 0) ReflectliteValue.isNil) Tryz.func114 (by kernel_rfl) (by kernel_rfl) (by kernel_rfl) (by kernel_rfl)
 have hD:=@run_callFunc_extern Tryz.prog 294 _ (ReflectliteType.abiMethod fun t=>do pure (.int .u8 (← Rtype.kind t))) Tryz.func294 (by kernel_rfl) (by kernel_rfl) (by kernel_rfl) (by kernel_rfl)
 have hE:=@run_callFunc_extern Tryz.prog 370 _ (ReflectliteType.method ReflectliteType.elem) Tryz.func370 (by kernel_rfl) (by kernel_rfl) (by kernel_rfl) (by kernel_rfl)
 have hF := @run_callFunc_extern Tryz.prog 371 _ (ReflectliteType.relation "Implements" ReflectliteType.implements_) Tryz.func371 (by kernel_rfl) (by kernel_rfl) (by kernel_rfl) (by kernel_rfl)
 have hG:=@run_callFunc_extern Tryz.prog 162 _ ReflectliteType.typeOf Tryz.func162 (by kernel_rfl) (by kernel_rfl) (by kernel_rfl) (by kernel_rfl)
 have hH := @run_callFunc_extern Tryz.prog 368 _ (ReflectliteType.relation "AssignableTo" ReflectliteType.assignableTo) Tryz.func368 (by kernel_rfl) (by kernel_rfl) (by kernel_rfl) (by kernel_rfl)
 have hI := @run_callFunc_extern Tryz.prog 163 _ (ReflectliteValue.method (ReflectliteValue.valueError "reflectlite.Value.Elem" 0) ReflectliteValue.elem) Tryz.func163 (by kernel_rfl) (by kernel_rfl) (by kernel_rfl) (by kernel_rfl)
 have hJ:=@run_callFunc_extern Tryz.prog 164 _ ReflectliteValue.set Tryz.func164 (by kernel_rfl) (by kernel_rfl) (by kernel_rfl) (by kernel_rfl)
 have tO:=typeOfR
 have mA:=methodAssignableTo
 have aR:=assignableR
 have vR:=valueOfR
 have fP:=valueOfP
 have gP:=typeP
 have mK:=methodKind
 have mE:=methodElem
 have mI:=methodImplements
 have kP:=kindP
 have kR:=kindR
 have eP:=elemP
 have iR:=implementsR
 have n8:=isNilP ⟨w.heap.size,0,none⟩ ⟨t,0,none⟩ ((w.alloc (asA t)).alloc (asB w.heap.size)) (by simp)
 have hlt:1 < w.heap.size:=World.block_lt_of_cell? w ⟨1,0,none⟩ hg
 have htl:t < w.heap.size:=World.block_lt_of_cell? w ⟨t,0,none⟩ ht0
 have hg2:((w.alloc (asA t)).alloc (asB w.heap.size)).cell? ⟨1,0,none⟩=some (.iface 264 (.agg #[.pointer (some ⟨13,80,none⟩)])):=by
  rw [World.cell?_alloc_lt _ _ ⟨1,0,none⟩ (by simp;omega),World.cell?_alloc_lt _ _ ⟨1,0,none⟩ hlt];exact hg
 have el:=elemVP ⟨w.heap.size,0,none⟩ ⟨t,0,none⟩ (((w.alloc (asA t)).alloc (asB w.heap.size)).alloc (asB w.heap.size)) (by rw [World.cell?_alloc_lt _ _ ⟨w.heap.size,0,none⟩ (by simp;omega)];simp)
 have up:∀ {a:Addr} {v:Value},a.block < w.heap.size→w.cell? a=some v→((((w.alloc (asA t)).alloc (asB w.heap.size)).alloc (asB w.heap.size)).alloc (asC (.int .i64 n) c)).cell? a=some v:=fun {a} {v} hl h=>by
  rw [World.cell?_alloc_lt _ _ a (by simp;omega),World.cell?_alloc_lt _ _ a (by simp;omega),World.cell?_alloc_lt _ _ a (by simp;omega),World.cell?_alloc_lt _ _ a hl];exact h
 have fup:∀ {a:Addr},a.block < w.heap.size→w.frozen? a=false→((((w.alloc (asA t)).alloc (asB w.heap.size)).alloc (asB w.heap.size)).alloc (asC (.int .i64 n) c)).frozen? a=false:=fun {a} hl h=>by
  rw [World.frozen?_alloc_old _ _ a (by simp;omega),World.frozen?_alloc_old _ _ a (by simp;omega),World.frozen?_alloc_old _ _ a (by simp;omega),World.frozen?_alloc_old _ _ a (Nat.ne_of_lt hl)];exact h
 have st:=setR t (w.heap.size+1+1+1) (.int .i64 n) c o1 o2 ((((w.alloc (asA t)).alloc (asB w.heap.size)).alloc (asB w.heap.size)).alloc (asC (.int .i64 n) c))
  (by rw [World.cell?_alloc_at _ _ _ _ (by simp)];rfl) (by rw [World.cell?_alloc_at _ _ _ _ (by simp)];rfl) rfl h2
  (up (a:=⟨t,0,none⟩) htl ht0) (fup (a:=⟨t,0,none⟩) htl hf0) (up (a:=⟨t,1,none⟩) htl ht1) (fup (a:=⟨t,1,none⟩) htl hf1)
 clear up fup
 go_enter Tryz.func77,Tryz.ntmps77
 go_wp2
 refine wp_loop_rounds 1 ?_
 rw [rounds_succ]
 go_wp2
 go_ret
 exact ⟨rfl,rfl⟩
open Go.RowKit
open C (ret_bool ret_int ret_str)
def wordT (n:Nat):List UInt8:=if n=200 then [79,75] else if n=403 then [78,111] else if n=404 then [78,111,110,101] else if n=409 then [84,104,101,114,101] else if n=413 then [76,111,110,103] else if n=507 then [70,117,108,108] else [66,97,100]
def isNum (n:Nat):Prop:=n=200∨n=400∨n=403∨n=404∨n=409∨n=413∨n=507
theorem word_any (n:Nat) (hn:isNum n) (w:World) :
  Calls Tryz.prog 79 #[.int .i64 (n:Int)] w fun e w'=>e=.returned (str (wordT n))∧w=w':=by
 rcases hn with rfl|rfl|rfl|rfl|rfl|rfl|rfl
 all_goals
  go_enter Tryz.func79,Tryz.ntmps79
  go_wp2
  go_ret
  exact ⟨rfl,rfl⟩
theorem refuse_any (n:Nat) (c:Value) (hc:c=.nilIface∨∃ d u,c=.iface d u) (w:World) :
  Calls Tryz.prog 80 #[.int .i64 (n:Int),c] w fun e w'=>e=.returned (.iface 148 (.agg #[.int .i64 (n:Int),c]))∧w=w':=by
 rcases hc with rfl|⟨d,u,rfl⟩
 all_goals
  go_enter Tryz.func80,Tryz.ntmps80
  go_wp2
  go_ret
  exact ⟨rfl,rfl⟩
inductive errIs:Value→Nat→Prop where
 | ok:errIs .nilIface 200
 | no (n:Nat) (c:Value) (hc:c.oneCell'=true) (h2:n≠200):errIs (.iface 148 (.agg #[.int .i64 (n:Int),c])) n
def errT (w:World):Prop:=w.cell? ⟨1,0,none⟩=some (.iface 264 (.agg #[.pointer (some ⟨13,80,none⟩)]))
theorem errT.below {w w':World} (h:errT w) (k:Below w.heap.size w w'):errT w' :=
 (k.cell (p:=⟨1,0,none⟩) (World.block_lt_of_cell? w ⟨1,0,none⟩ h)).trans h
theorem numberOf_any (v:Value) (n:Nat) (h:errIs v n) (w:World) (he:errT w) :
  Calls Tryz.prog 51 #[v] w fun e w'=>e=.returned (.int .i64 (n:Int))∧Below w.heap.size w w':=by
 cases h with
 | ok =>
  go_enter Tryz.func51,Tryz.ntmps51
  go_wp2
  go_ret
  exact ⟨rfl,Below.refl _ _⟩
 | no n c hc h2 =>
  have b0:Below w.heap.size w (w.alloc (.cells #[.int .i64 0,.nilIface] 148)):=(Below.refl _ _).alloc (Nat.le_refl _) _
  have AS:Hid (_):=as_hit (n:Int) c w.heap.size (.int .i64 0) .nilIface (w.alloc (.cells #[.int .i64 0,.nilIface] 148)) (he.below b0) hc (by simp [go_sem]) (by simp [go_sem]) (by simp [go_sem]) (by simp [go_sem])
  go_enter Tryz.func51,Tryz.ntmps51
  go_wp2_with fail
  refine Calls.mono AS.out ?_
  rintro e w1 ⟨rfl,rfl⟩
  clear AS
  have c0:(((((((w.alloc (.cells #[.int .i64 0,.nilIface] 148)).alloc (asA w.heap.size)).alloc (asB (w.heap.size+1))).alloc (asB (w.heap.size+1))).alloc (asC (.int .i64 n) c)).setCell ⟨w.heap.size,0,none⟩ (.int .i64 n)).setCell ⟨w.heap.size,1,none⟩ c).cell? ⟨w.heap.size,0,none⟩=some (.int .i64 n):=by simp [go_sem]
  go_wp2
  go_ret
  refine ⟨rfl,?_⟩
  exact (((((Below.refl _ _).alloc (Nat.le_refl _) _).alloc (by simp) _).alloc (by simp;omega) _).alloc (by simp;omega) _).alloc (by simp;omega) _
end Go.Proofs.YtbllcgibmgbnjaaGreatDoor.P
namespace Go.Proofs.YtbllcgibmgbnjaaGreatDoor
theorem i64_and_nat (a b:Nat) (ha:a < 9223372036854775808) (hb:b < 9223372036854775808):bits .and .i64 (a:Int) (b:Int)=((a &&& b:Nat):Int):=by
 have hx:a &&& b < 2 ^ 63:=Nat.and_lt_two_pow _ (by omega)
 show IntKind.i64.wrap ((BitVec.ofInt 64 (a:Int) &&& BitVec.ofInt 64 (b:Int)).toNat:Int)=_
 rw [BitVec.toNat_and,ofInt_u64 a (by omega),ofInt_u64 b (by omega),IntKind.wrap_i64]
 omega
theorem i64_or_nat (a b:Nat) (ha:a < 9223372036854775808) (hb:b < 9223372036854775808):bits .or .i64 (a:Int) (b:Int)=((a ||| b:Nat):Int):=by
 have hx:a ||| b < 2 ^ 63:=Nat.or_lt_two_pow (by omega) (by omega)
 show IntKind.i64.wrap ((BitVec.ofInt 64 (a:Int) ||| BitVec.ofInt 64 (b:Int)).toNat:Int)=_
 rw [BitVec.toNat_or,ofInt_u64 a (by omega),ofInt_u64 b (by omega),IntKind.wrap_i64]
 omega
def rotr (x n:Nat):Nat:=x / 2 ^ n+x % 2 ^ n*2 ^ (32 - n)
theorem pow_split {n:Nat} (hn:n≤32):2 ^ n*2 ^ (32 - n)=4294967296:=by
 rw [← Nat.pow_add,Nat.add_sub_cancel' hn]
theorem rotr_lt (x n:Nat) (hx:x < 4294967296) (hn:n≤32):rotr x n < 4294967296:=by
 unfold rotr
 have h:=pow_split hn
 have h1:x / 2 ^ n < 2 ^ (32 - n):=Nat.div_lt_of_lt_mul (by rw [h];exact hx)
 have h2:x % 2 ^ n < 2 ^ n:=Nat.mod_lt _ (Nat.two_pow_pos n)
 have h3:(x % 2 ^ n+1)*2 ^ (32 - n)≤2 ^ n*2 ^ (32 - n):=Nat.mul_le_mul_right _ h2
 rw [h,Nat.add_mul,Nat.one_mul] at h3
 omega
theorem rot_or (x n:Nat) (hx:x < 4294967296) (hn:n≤32):(x*2 ^ (32 - n) % 4294967296) ||| (x / 2 ^ n)=rotr x n:=by
 have h:=pow_split hn
 have e:x*2 ^ (32 - n) % 4294967296=x % 2 ^ n*2 ^ (32 - n):=by rw [← h,Nat.mul_mod_mul_right]
 have h1:x / 2 ^ n < 2 ^ (32 - n):=Nat.div_lt_of_lt_mul (by rw [h];exact hx)
 rw [e,nat_join (32 - n) _ _ (Nat.mul_mod_left _ _) h1,Nat.add_comm]
 rfl
def bs0 (x:Nat):Nat:=rotr x 2 ^^^ rotr x 13 ^^^ rotr x 22
def bs1 (x:Nat):Nat:=rotr x 6 ^^^ rotr x 11 ^^^ rotr x 25
def ss0 (x:Nat):Nat:=rotr x 7 ^^^ rotr x 18 ^^^ x / 8
def ss1 (x:Nat):Nat:=rotr x 17 ^^^ rotr x 19 ^^^ x / 1024
theorem xor32 {a b:Nat} (ha:a < 4294967296) (hb:b < 4294967296):a ^^^ b < 4294967296:=Nat.xor_lt_two_pow (n:=32) ha hb
theorem bs0_lt (x:Nat) (h:x < 4294967296):bs0 x < 4294967296:=xor32 (xor32 (rotr_lt x 2 h (by omega)) (rotr_lt x 13 h (by omega))) (rotr_lt x 22 h (by omega))
theorem bs1_lt (x:Nat) (h:x < 4294967296):bs1 x < 4294967296:=xor32 (xor32 (rotr_lt x 6 h (by omega)) (rotr_lt x 11 h (by omega))) (rotr_lt x 25 h (by omega))
theorem ss0_lt (x:Nat) (h:x < 4294967296):ss0 x < 4294967296:=xor32 (xor32 (rotr_lt x 7 h (by omega)) (rotr_lt x 18 h (by omega))) (by omega)
theorem ss1_lt (x:Nat) (h:x < 4294967296):ss1 x < 4294967296:=xor32 (xor32 (rotr_lt x 17 h (by omega)) (rotr_lt x 19 h (by omega))) (by omega)
def chs (a b c:Nat):Nat:=a &&& b ||| (4294967295 - a) &&& c
def mst (a b c:Nat):Nat:=a &&& b ||| a &&& c ||| b &&& c
theorem and32 {a b:Nat} (hb:b < 4294967296):a &&& b < 4294967296:=Nat.and_lt_two_pow (n:=32) a hb
theorem or32 {a b:Nat} (ha:a < 4294967296) (hb:b < 4294967296):a ||| b < 4294967296:=Nat.or_lt_two_pow (n:=32) ha hb
theorem chs_lt (a b c:Nat) (hb:b < 4294967296) (hc:c < 4294967296):chs a b c < 4294967296:=or32 (and32 hb) (and32 hc)
theorem mst_lt (a b c:Nat) (hb:b < 4294967296) (hc:c < 4294967296):mst a b c < 4294967296:=or32 (or32 (and32 hb) (and32 hc)) (and32 hc)
theorem not_bit (a i:Nat) (ha:a < 4294967296):(4294967295 - a).testBit i=(decide (i < 32) && !a.testBit i):=by
 have e:4294967295 - a=2 ^ 32 - (a+1):=by omega
 rw [e,Nat.testBit_two_pow_sub_succ (by omega)]
theorem chs_xor (a b c:Nat) (ha:a < 4294967296):(a &&& b) ^^^ ((4294967295 - a) &&& c)=chs a b c:=by
 apply Nat.eq_of_testBit_eq
 intro i
 simp only [chs,Nat.testBit_xor,Nat.testBit_and,Nat.testBit_or,not_bit a i ha]
 cases a.testBit i <;> simp
theorem mst_xor (a b c:Nat):(a &&& b) ^^^ (a &&& c) ^^^ (b &&& c)=mst a b c:=by
 apply Nat.eq_of_testBit_eq
 intro i
 simp only [mst,Nat.testBit_xor,Nat.testBit_and,Nat.testBit_or]
 cases a.testBit i <;> cases b.testBit i <;> cases c.testBit i <;> rfl
end Go.Proofs.YtbllcgibmgbnjaaGreatDoor
namespace Go.Proofs.YtbllcgibmgbnjaaGreatDoor
open Go.RowKit
theorem ret_int {k:IntKind} {a b:Int} (h:a=b):Ending.returned (.int k a)=.returned (.int k b):=by rw [h]
theorem ret_bool {a b:Bool} (h:a=b):Ending.returned (.bool a)=.returned (.bool b):=by rw [h]
theorem ret_str {a b:List UInt8} (h:a=b):Ending.returned (.string ⟨a.toArray⟩)=.returned (.string ⟨b.toArray⟩):=by rw [h]
theorem rot_cast (x n:Nat) (hx:x < 4294967296) (h1:1≤n) (hn:n≤31) :
  bits .or .u32 ((x:Int)*2 ^ (32 - n) % 4294967296) ((x:Int) / 2 ^ (32 - (32 - n)))=(rotr x n:Nat):=by
 have e1:(x:Int)*2 ^ (32 - n) % 4294967296=((x*2 ^ (32 - n) % 4294967296:Nat):Int):=by simp
 have e2:(x:Int) / 2 ^ (32 - (32 - n))=((x / 2 ^ n:Nat):Int):=by
  rw [show 32 - (32 - n)=n from by omega];simp
 have h2:x / 2 ^ n < 4294967296:=Nat.lt_of_le_of_lt (Nat.div_le_self _ _) hx
 rw [e1,e2,u32_or_nat _ _ (Nat.mod_lt _ (by omega)) h2,rot_or x n hx (by omega)]
theorem rot_any (x n:Nat) (k:Int) (hx:x < 4294967296) (h0:1≤n) (h1:n≤31) (hk:bits .and .u64 (IntKind.u64.wrap k) 31=((32 - n:Nat):Int)) (w:World) :
  Calls Tryz.prog 239 #[.int .u32 x,.int .i64 k] w fun e w'=>e=.returned (.int .u32 (rotr x n:Nat))∧w'=w:=by
 have HC:Hid (bits .or .u32 ((x:Int)*2 ^ (32 - n) % 4294967296) ((x:Int) / 2 ^ (32 - (32 - n)))=(rotr x n:Nat)):=rot_cast x n hx h0 h1
 obtain ⟨s,hs⟩:∃ s:Nat,s=32 - n:=⟨_,rfl⟩
 rw [← hs] at HC hk
 have q0:1≤s:=by omega
 have q1:s≤31:=by omega
 clear hs
 go_enter Tryz.func239,Tryz.ntmps239
 go_wp2
 go_ret
 exact ⟨ret_int HC.out,rfl⟩
theorem m2:bits .and .u64 (IntKind.u64.wrap (-2)) 31=((32 - 2:Nat):Int):=by decide +kernel
theorem m6:bits .and .u64 (IntKind.u64.wrap (-6)) 31=((32 - 6:Nat):Int):=by decide +kernel
theorem m7:bits .and .u64 (IntKind.u64.wrap (-7)) 31=((32 - 7:Nat):Int):=by decide +kernel
theorem m11:bits .and .u64 (IntKind.u64.wrap (-11)) 31=((32 - 11:Nat):Int):=by decide +kernel
theorem m13:bits .and .u64 (IntKind.u64.wrap (-13)) 31=((32 - 13:Nat):Int):=by decide +kernel
theorem m17:bits .and .u64 (IntKind.u64.wrap (-17)) 31=((32 - 17:Nat):Int):=by decide +kernel
theorem m18:bits .and .u64 (IntKind.u64.wrap (-18)) 31=((32 - 18:Nat):Int):=by decide +kernel
theorem m19:bits .and .u64 (IntKind.u64.wrap (-19)) 31=((32 - 19:Nat):Int):=by decide +kernel
theorem m22:bits .and .u64 (IntKind.u64.wrap (-22)) 31=((32 - 22:Nat):Int):=by decide +kernel
theorem m25:bits .and .u64 (IntKind.u64.wrap (-25)) 31=((32 - 25:Nat):Int):=by decide +kernel
theorem xor3 (a b c:Nat) (ha:a < 4294967296) (hb:b < 4294967296) (hc:c < 4294967296):bits .xor .u32 (bits .xor .u32 (a:Int) (b:Int)) (c:Int)=((a ^^^ b ^^^ c:Nat):Int):=by
 rw [u32_xor_nat a b ha hb,u32_xor_nat _ c (xor32 ha hb) hc]
theorem sigB1 (x:Nat) (hx:x < 4294967296) (w:World) :
  Calls Tryz.prog 209 #[.int .u32 x] w fun e w'=>e=.returned (.int .u32 (bs1 x:Nat))∧w'=w:=by
 have HX:Hid (_):=xor3 (rotr x 6) (rotr x 11) (rotr x 25) (rotr_lt x 6 hx (by omega)) (rotr_lt x 11 hx (by omega)) (rotr_lt x 25 hx (by omega))
 go_enter Tryz.func209,Tryz.ntmps209
 go_wp2_with fail
 refine (rot_any x 6 _ hx (by omega) (by omega) m6 _).mono ?_
 rintro e w' ⟨rfl,rfl⟩
 go_wp2_with fail
 refine (rot_any x 11 _ hx (by omega) (by omega) m11 _).mono ?_
 rintro e w' ⟨rfl,rfl⟩
 go_wp2_with fail
 refine (rot_any x 25 _ hx (by omega) (by omega) m25 _).mono ?_
 rintro e w' ⟨rfl,rfl⟩
 go_wp2
 go_ret
 exact ⟨ret_int HX.out,rfl⟩
theorem sigB0 (x:Nat) (hx:x < 4294967296) (w:World) :
  Calls Tryz.prog 210 #[.int .u32 x] w fun e w'=>e=.returned (.int .u32 (bs0 x:Nat))∧w'=w:=by
 have HX:Hid (_):=xor3 (rotr x 2) (rotr x 13) (rotr x 22) (rotr_lt x 2 hx (by omega)) (rotr_lt x 13 hx (by omega)) (rotr_lt x 22 hx (by omega))
 go_enter Tryz.func210,Tryz.ntmps210
 go_wp2_with fail
 refine (rot_any x 2 _ hx (by omega) (by omega) m2 _).mono ?_
 rintro e w' ⟨rfl,rfl⟩
 go_wp2_with fail
 refine (rot_any x 13 _ hx (by omega) (by omega) m13 _).mono ?_
 rintro e w' ⟨rfl,rfl⟩
 go_wp2_with fail
 refine (rot_any x 22 _ hx (by omega) (by omega) m22 _).mono ?_
 rintro e w' ⟨rfl,rfl⟩
 go_wp2
 go_ret
 exact ⟨ret_int HX.out,rfl⟩
theorem sigS1 (x:Nat) (hx:x < 4294967296) (w:World) :
  Calls Tryz.prog 237 #[.int .u32 x] w fun e w'=>e=.returned (.int .u32 (ss1 x:Nat))∧w'=w:=by
 have HX:Hid (_):=xor3 (rotr x 17) (rotr x 19) (x / 1024) (rotr_lt x 17 hx (by omega)) (rotr_lt x 19 hx (by omega)) (by omega)
 go_enter Tryz.func237,Tryz.ntmps237
 go_wp2_with fail
 refine (rot_any x 17 _ hx (by omega) (by omega) m17 _).mono ?_
 rintro e w' ⟨rfl,rfl⟩
 go_wp2_with fail
 refine (rot_any x 19 _ hx (by omega) (by omega) m19 _).mono ?_
 rintro e w' ⟨rfl,rfl⟩
 go_wp2
 go_ret
 exact ⟨ret_int (by simpa [ss1] using HX.out),rfl⟩
theorem sigS0 (x:Nat) (hx:x < 4294967296) (w:World) :
  Calls Tryz.prog 238 #[.int .u32 x] w fun e w'=>e=.returned (.int .u32 (ss0 x:Nat))∧w'=w:=by
 have HX:Hid (_):=xor3 (rotr x 7) (rotr x 18) (x / 8) (rotr_lt x 7 hx (by omega)) (rotr_lt x 18 hx (by omega)) (by omega)
 go_enter Tryz.func238,Tryz.ntmps238
 go_wp2_with fail
 refine (rot_any x 7 _ hx (by omega) (by omega) m7 _).mono ?_
 rintro e w' ⟨rfl,rfl⟩
 go_wp2_with fail
 refine (rot_any x 18 _ hx (by omega) (by omega) m18 _).mono ?_
 rintro e w' ⟨rfl,rfl⟩
 go_wp2
 go_ret
 exact ⟨ret_int (by simpa [ss0] using HX.out),rfl⟩
end Go.Proofs.YtbllcgibmgbnjaaGreatDoor
namespace Go.Proofs.YtbllcgibmgbnjaaGreatDoor
open Go.RowKit
def bigL (n:Nat):Nat→List UInt8
 | 0=>[]
 | k+1=>UInt8.ofNat (n / 256 ^ k) :: bigL n k
theorem bigL_len (n k:Nat):(bigL n k).length=k:=by induction k with|zero=>rfl|succ k ih=>simp [bigL,ih]
theorem take_snoc (s:ByteArray) (k:Nat) (h:k < s.size):s.data.toList.take (k+1)=s.data.toList.take k++[s[k]]:=by
 rw [List.take_succ_eq_append_getElem (by simpa using h)];rfl
def hexL (d:Nat→UInt8) (l:List UInt8):List UInt8:=l.flatMap fun c=>[d (c.toNat / 16),d (c.toNat % 16)]
theorem hexL_snoc (d:Nat→UInt8) (l:List UInt8) (c:UInt8):hexL d (l++[c])=hexL d l++[d (c.toNat / 16),d (c.toNat % 16)]:=by simp [hexL]
theorem hexL_len (d:Nat→UInt8) (l:List UInt8):(hexL d l).length=2*l.length:=by
 induction l with
 | nil=>rfl
 | cons c l ih=>simp [hexL] at *;omega
end Go.Proofs.YtbllcgibmgbnjaaGreatDoor
namespace Go.Proofs.YtbllcgibmgbnjaaGreatDoor
open Go.RowKit
def rnd8 (a b c d e f g h more:Nat):List Nat :=
 [(h+bs1 e+chs e f g+more+(bs0 a+mst a b c)) % 4294967296,a,b,c,(d+(h+bs1 e+chs e f g+more)) % 4294967296,e,f,g]
def byteAt (l:List UInt8) (i:Nat):Nat:=(l.getD i 0).toNat
def wpart (l:List UInt8) (p:Nat):Nat→Nat
 | 0=>0
 | k+1=>256*wpart l p k+byteAt l (p+k)
theorem byteAt_lt (l:List UInt8) (i:Nat):byteAt l i < 256:=(l.getD i 0).toNat_lt
theorem wpart_lt (l:List UInt8) (p:Nat):∀ k,wpart l p k < 256 ^ k:=by
 intro k
 induction k with
 | zero=>simp [wpart]
 | succ k ih=>have:=byteAt_lt l (p+k);simp only [wpart,Nat.pow_succ];omega
def firsts (l:List UInt8) (p:Nat):Nat→List Nat
 | 0=>[]
 | k+1=>firsts l p k++[wpart l (p+4*k) 4]
theorem firsts_len (l:List UInt8) (p k:Nat):(firsts l p k).length=k:=by induction k with|zero=>rfl|succ k ih=>simp [firsts,ih]
def small (l:List Nat):Prop:=∀ i,l.getD i 0 < 4294967296
theorem small_nil:small []:=by intro i;simp
theorem small_snoc {l:List Nat} {x:Nat} (h:small l) (hx:x < 4294967296):small (l++[x]):=by
 intro i
 have hi:=h i
 simp only [List.getD_eq_getElem?_getD,List.getElem?_append] at *
 split
 ·exact hi
 ·by_cases e:i - l.length=0
  ·simp [e,hx]
  ·simp [e]
theorem firsts_small (l:List UInt8) (p k:Nat):small (firsts l p k):=by
 induction k with
 | zero=>exact small_nil
 | succ k ih=>exact small_snoc ih (Nat.lt_of_lt_of_le (wpart_lt l _ 4) (by omega))
def nxt (w:List Nat):Nat:=(w.getD (w.length - 16) 0+ss0 (w.getD (w.length - 15) 0)+w.getD (w.length - 7) 0+ss1 (w.getD (w.length - 2) 0)) % 4294967296
def sch (m:List Nat):Nat→List Nat
 | 0=>m
 | k+1=>sch m k++[nxt (sch m k)]
theorem sch_len (m:List Nat) (k:Nat):(sch m k).length=m.length+k:=by induction k with|zero=>rfl|succ k ih=>simp [sch,ih];omega
theorem sch_small {m:List Nat} (h:small m) (k:Nat):small (sch m k):=by
 induction k with
 | zero=>exact h
 | succ k ih=>exact small_snoc ih (Nat.mod_lt _ (by omega))
theorem below_drewN {B:Nat} {a w:World} (h:Below B a w) (n:Nat):Below B a (w.drewN n):=h.trans ⟨rfl,rfl,rfl,Nat.le_refl _,fun _ _=>rfl⟩
theorem byteAt_get (s:ByteArray) (i:Nat) (h:i < s.size):byteAt s.data.toList i=s[i].toNat:=by
 have h':i < s.data.toList.length:=by simpa using h
 unfold byteAt;rw [List.getD_eq_getElem?_getD,List.getElem?_eq_getElem h'];rfl
end Go.Proofs.YtbllcgibmgbnjaaGreatDoor
namespace Go.Proofs.YtbllcgibmgbnjaaGreatDoor
open Go.RowKit
def kL:List Nat:=[1116352408,1899447441,3049323471,3921009573,961987163,1508970993,2453635748,2870763221,3624381080,310598401,607225278,1426881987,1925078388,2162078206,2614888103,3248222580,3835390401,4022224774,264347078,604807628,770255983,1249150122,1555081692,1996064986,2554220882,2821834349,2952996808,3210313671,3336571891,3584528711,113926993,338241895,666307205,773529912,1294757372,1396182291,1695183700,1986661051,2177026350,2456956037,2730485921,2820302411,3259730800,3345764771,3516065817,3600352804,4094571909,275423344,430227734,506948616,659060556,883997877,958139571,1322822218,1537002063,1747873779,1955562222,2024104815,2227730452,2361852424,2428436474,2756734187,3204031479,3329325298]
def hL:List Nat:=[1779033703,3144134277,1013904242,2773480762,1359893119,2600822924,528734635,1541459225]
theorem kL_small:small kL:=by
 intro i
 by_cases h:i < 64
 ·have:∀ n:Fin 64,kL.getD n.val 0 < 4294967296:=by decide +kernel
  exact this ⟨i,h⟩
 ·have e:kL.getD i 0=0:=by rw [List.getD_eq_getElem?_getD,List.getElem?_eq_none (by show 64≤i;omega)];rfl
  rw [e];omega
def zs (n:Nat):Nat:=(119 - n % 64) % 64
def pad (l:List UInt8):List UInt8:=l++[128]++List.replicate (zs l.length) 0++bigL (8*l.length) 8
theorem zs_mod (n:Nat):(n+1+zs n) % 64=56:=by unfold zs;omega
theorem zs_lt (n:Nat):zs n < 64:=by unfold zs;omega
def arr32 (w:World) (b:Nat) (f:Nat→Nat) (n:Nat):Prop:=∀ j,j < n→w.cell? ⟨b,j,none⟩=some (.int .u32 (f j:Nat))∧w.frozen? ⟨b,j,none⟩=false
theorem arr32.set {w:World} {b:Nat} {f:Nat→Nat} {n:Nat} (h:arr32 w b f n) (k x:Nat) (hk:k < n):arr32 (w.setCell ⟨b,k,none⟩ (.int .u32 (x:Nat))) b (fun j=>if j=k then x else f j) n:=by
 intro j hj
 obtain ⟨h1,h2⟩:=h j hj
 by_cases e:j=k
 ·subst e
  exact ⟨by simp [go_sem,h1],by simp [go_sem,h2]⟩
 ·refine ⟨?_,by simp [go_sem,h2]⟩
  rw [World.cell?_setCell_other _ _ _ _ (by simp)]
  simpa [e] using h1
theorem arr32.congr {w:World} {b:Nat} {f g:Nat→Nat} {n:Nat} (h:arr32 w b f n) (e:∀ j,j < n→f j=g j):arr32 w b g n:=fun j hj=>by rw [← e j hj];exact h j hj
def fOf (l:List Nat) (j:Nat):Nat:=l.getD j 0
theorem fOf_snoc (l:List Nat) (x j:Nat):fOf (l++[x]) j=if j=l.length then x else fOf l j:=by
 unfold fOf
 simp only [List.getD_eq_getElem?_getD,List.getElem?_append]
 split
 ·rw [if_neg (by omega)]
 ·by_cases e:j=l.length
  ·simp [e]
  ·rw [if_neg e,List.getElem?_eq_none (l:=l) (by omega),List.getElem?_eq_none (by simp;omega)]
theorem or4 (a b c d:Nat) (ha:a < 256) (hb:b < 256) (hc:c < 256) (hd:d < 256) :
  bits BinOp.or IntKind.u32 (bits BinOp.or IntKind.u32 (bits BinOp.or IntKind.u32 ((a:Int)*16777216) ((b:Int)*65536)) ((c:Int)*256)) (d:Int)=((a*16777216+b*65536+c*256+d:Nat):Int):=by
 rw [show ((a:Int)*16777216)=((a*16777216:Nat):Int) from by simp,show ((b:Int)*65536)=((b*65536:Nat):Int) from by simp,show ((c:Int)*256)=((c*256:Nat):Int) from by simp]
 rw [u32_or_nat _ _ (by omega) (by omega),nat_join 24 (a*16777216) (b*65536) (by omega) (by omega),
  u32_or_nat _ _ (by omega) (by omega),nat_join 16 (a*16777216+b*65536) (c*256) (by omega) (by omega),
  u32_or_nat _ _ (by omega) (by omega),nat_join 8 (a*16777216+b*65536+c*256) d (by omega) (by omega)]
theorem zeros_cell (w:World) (t:TypeId) (n j:Nat) (hj:j < n):(w.alloc (.cells (Array.replicate n (.int .u32 0)) t)).cell? ⟨w.heap.size,j,none⟩=some (.int .u32 0):=by
 rw [World.cell?_alloc_at (hn:=rfl)]
 simp [hj]
theorem arr32.range {w:World} {b:Nat} {n:Nat} (l:List Nat) (hl:l.length=n) (h:arr32 w b (fOf l) n):w.rangeAt b 0 (l.map (fun x:Nat=>Value.int .u32 (x:Int))):=by
 intro j v hv
 have hj:j < l.length:=by
  have:=(List.getElem?_eq_some_iff.1 hv).1
  simpa using this
 obtain ⟨h1,_⟩:=h j (by omega)
 rw [Nat.zero_add,h1]
 simp only [List.getElem?_map,List.getElem?_eq_getElem hj,Option.map_some,Option.some.injEq] at hv
 rw [← hv,fOf,List.getD_eq_getElem?_getD,List.getElem?_eq_getElem hj];rfl
theorem zeros_free (w:World) (t:TypeId) (c:Array Value) (j:Nat):(w.alloc (.cells c t)).frozen? ⟨w.heap.size,j,none⟩=false:=by rw [World.frozen?_alloc_at (hn:=rfl)]
theorem zeros_arr (w:World) (t t':TypeId) (c:Array Value):arr32 ((w.alloc (.cells c t')).alloc (.cells (Array.replicate 64 (.int .u32 0)) t)) (w.heap.size+1) (fOf []) 64:=by
 intro j hj
 have h1:=zeros_cell (w.alloc (.cells c t')) t 64 j hj
 have h2:=zeros_free (w.alloc (.cells c t')) t (Array.replicate 64 (.int .u32 0)) j
 have e:(w.alloc (.cells c t')).heap.size=w.heap.size+1:=by simp
 rw [e] at h1 h2
 exact ⟨h1,h2⟩
theorem zeros_there (w:World) (t:TypeId) (o:Obj):((w.alloc (.cells (Array.replicate 64 (.int .u32 0)) t)).alloc o).there w.heap.size 0 64:=by
 refine World.there_alloc ?_ o
 intro j hj
 rw [Nat.zero_add,zeros_cell w t 64 j hj,zeros_free]
 exact ⟨rfl,rfl⟩
theorem there_set {w:World} {b o n:Nat} (h:w.there b o n) (b' o':Nat) (v:Value):(w.setCell ⟨b',o',none⟩ v).there b o n:=World.there_setCells h b' o' [v]
theorem below_setCells {B:Nat} (w:World) (b:Nat):∀ (vs:List Value) (o:Nat),B≤b→Below B w (w.setCells b o vs):=by
 intro vs
 induction vs generalizing w with
 | nil=>intro o _;exact Below.refl _ _
 | cons v r ih=>intro o hb;exact ((Below.refl B w).setCell hb v).trans (ih (w.setCell ⟨b,o,none⟩ v) (o+1) hb)
theorem results_cell {fn:Func} {p:Tmp} {ty:TypeId} (h:fn.results=#[.cell p ty]) (tmps:Array Value) (P:Program) (w:World) (b o:Nat) (hp:tmps.getD p undef=.pointer (some ⟨b,o,none⟩)) (v:Value)
  (hl:(loadVar ty ⟨b,o,none⟩).run P w=.ok v w):(results fn tmps).run P w=.ok v w:=by
 have hp':tmps[p]?.getD undef=.pointer (some ⟨b,o,none⟩):=by simpa using hp
 simp only [results,h]
 simp [hp',asAddr,hl]
theorem schedule_any (s:ByteArray) (hs:s.size=64) (w:World) :
  Calls Tryz.prog 208 #[.string s] w fun e w'=>e=.returned (.agg ((sch (firsts s.data.toList 0 16) 48).map (fun x:Nat=>Value.int .u32 (x:Int))).toArray)∧Below w.heap.size w w':=by
 go_enter Tryz.func208,Tryz.ntmps208
 go_wp2
 go_loopw [6] (fun i wr=>∃ k:Nat,k≤16∧i=.int .i64 k∧arr32 wr (w.heap.size+1) (fOf (firsts s.data.toList 0 k)) 64∧Below w.heap.size w wr∧wr.there w.heap.size 0 64) (fun i _=>16 - (intOf i).toNat)
 case atStart =>
  refine ⟨0,by omega,rfl,zeros_arr w _ _ _,((Below.refl _ _).alloc (Nat.le_refl _) _).alloc (by simp) _,zeros_there w _ _⟩
 case round =>
  obtain ⟨k,hk,rfl,harr,hbel,hth⟩:=hrel
  by_cases hlt:k < 16
  ·have p0:4*k < s.size:=by omega
   have p1:4*k+1 < s.size:=by omega
   have p2:4*k+2 < s.size:=by omega
   have p3:4*k+3 < s.size:=by omega
   have HS:Hid (s.size=64):=hs
   clear hs
   have hbk0:s[4*k].toNat < 256:=UInt8.toNat_lt _
   have hbk1:s[4*k+1].toNat < 256:=UInt8.toNat_lt _
   have hbk2:s[4*k+2].toNat < 256:=UInt8.toNat_lt _
   have hbk3:s[4*k+3].toNat < 256:=UInt8.toNat_lt _
   have k0:(0:Int)≤(k:Int):=by omega
   have k1:(k:Int) < 64:=by omega
   obtain ⟨ca,cf⟩:=harr k (by omega)
   have m0:IntKind.i64.wrap (4*(k:Int))=4*(k:Int):=by rw [IntKind.wrap_i64];omega
   have m1:IntKind.i64.wrap (4*(k:Int)+1)=4*(k:Int)+1:=by rw [IntKind.wrap_i64];omega
   have m2:IntKind.i64.wrap (4*(k:Int)+2)=4*(k:Int)+2:=by rw [IntKind.wrap_i64];omega
   have m3:IntKind.i64.wrap (4*(k:Int)+3)=4*(k:Int)+3:=by rw [IntKind.wrap_i64];omega
   have n0:(0:Int)≤4*(k:Int)∧4*(k:Int) < (s.size:Int):=by omega
   have n1:(0:Int)≤4*(k:Int)+1∧4*(k:Int)+1 < (s.size:Int):=by omega
   have n2:(0:Int)≤4*(k:Int)+2∧4*(k:Int)+2 < (s.size:Int):=by omega
   have n3:(0:Int)≤4*(k:Int)+3∧4*(k:Int)+3 < (s.size:Int):=by omega
   have t0:(4*(k:Int)).toNat=4*k:=by omega
   have t1:(4*(k:Int)+1).toNat=4*k+1:=by omega
   have t2:(4*(k:Int)+2).toNat=4*k+2:=by omega
   have t3:(4*(k:Int)+3).toNat=4*k+3:=by omega
   go_wp2_with fail
   go_region
   have E:=or4 s[4*k].toNat s[4*k+1].toNat s[4*k+2].toNat s[4*k+3].toNat hbk0 hbk1 hbk2 hbk3
   have G0:=byteAt_get s (4*k) p0
   have G1:=byteAt_get s (4*k+1) p1
   have G2:=byteAt_get s (4*k+2) p2
   have G3:=byteAt_get s (4*k+3) p3
   have HE:Hid (bits BinOp.or IntKind.u32 (bits BinOp.or IntKind.u32 (bits BinOp.or IntKind.u32 ((s[4*k].toNat:Int)*16777216) ((s[4*k+1].toNat:Int)*65536)) ((s[4*k+2].toNat:Int)*256)) (s[4*k+3].toNat:Int)=(wpart s.data.toList (0+4*k) 4:Nat)):=by
    show _=_
    rw [E,← G0,← G1,← G2,← G3]
    simp only [wpart,Nat.zero_add,Nat.add_zero]
    omega
   clear E G0 G1 G2 G3
   go_wp2
   go_roundw
   case rel =>
    refine ⟨k+1,by omega,by go_num,?_,(hbel.setCell (by simp) _).drew,there_set hth _ _ _⟩
    rw [HE.out]
    refine (harr.set k _ (by omega)).congr fun j _=>?_
    have hl:=firsts_len s.data.toList 0 k
    have e:=fOf_snoc (firsts s.data.toList 0 k) (wpart s.data.toList (0+4*k) 4) j
    rw [hl] at e
    exact e.symm
   case measure=>simp [intOf];omega
  ·have hk16:k=16:=by omega
   rw [hk16] at harr
   have hfs:=firsts_small s.data.toList 0 16
   have hfl:=firsts_len s.data.toList 0 16
   generalize hm0:firsts s.data.toList 0 16=m at *
   have HM0:Hid (firsts s.data.toList 0 16=m):=hm0
   have HS:Hid (s.size=64):=hs
   clear hm0 hk16 hs
   go_wp2
   go_loopw [5] (fun i wr=>∃ k:Nat,k≤48∧i=.int .i64 ((k:Int)+16)∧arr32 wr (w.heap.size+1) (fOf (sch m k)) 64∧Below w.heap.size w wr∧wr.there w.heap.size 0 64) (fun i _=>64 - (intOf i).toNat)
   case atStart=>exact ⟨0,by omega,rfl,harr,hbel,hth⟩
   case round =>
    clear harr hbel hth
    obtain ⟨k,hk,rfl,harr,hbel,hth⟩:=hrel
    have hql:=sch_len m k
    have hqs:=sch_small hfs k
    have HQ:Hid (sch m (k+1)=sch m k++[nxt (sch m k)]):=rfl
    generalize hq0:sch m k=q at *
    have HQ0:Hid (sch m k=q):=hq0
    clear hq0
    by_cases hlt:k < 48
    ·have HN:Hid (nxt q=(q.getD k 0+ss0 (q.getD (k+1) 0)+q.getD (k+9) 0+ss1 (q.getD (k+14) 0)) % 4294967296):=by
      show _=_
      unfold nxt;rw [hql,hfl,show 16+k - 16=k from by omega,show 16+k - 15=k+1 from by omega,show 16+k - 7=k+9 from by omega,show 16+k - 2=k+14 from by omega]
     have x0:=hqs k
     have x1:=hqs (k+1)
     have x9:=hqs (k+9)
     have x14:=hqs (k+14)
     have c0:=(harr k (by omega)).1
     have c1:=(harr (k+1) (by omega)).1
     have c9:=(harr (k+9) (by omega)).1
     have c14:=(harr (k+14) (by omega)).1
     obtain ⟨c16,f16⟩:=harr (k+16) (by omega)
     simp only [fOf] at c0 c1 c9 c14 c16
     generalize q.getD k 0=y0 at *
     generalize q.getD (k+1) 0=y1 at *
     generalize q.getD (k+9) 0=y9 at *
     generalize q.getD (k+14) 0=y14 at *
     generalize q.getD (k+16) 0=y16 at *
     have s0:=ss0_lt y1 x1
     have s1:=ss1_lt y14 x14
     have i2:IntKind.i64.wrap ((k:Int)+16 - 2)=(k:Int)+14:=by rw [IntKind.wrap_i64];omega
     have i7:IntKind.i64.wrap ((k:Int)+16 - 7)=(k:Int)+9:=by rw [IntKind.wrap_i64];omega
     have i15:IntKind.i64.wrap ((k:Int)+16 - 15)=(k:Int)+1:=by rw [IntKind.wrap_i64];omega
     have i16:IntKind.i64.wrap (k:Int)=(k:Int):=by rw [IntKind.wrap_i64];omega
     have n0:(0:Int)≤(k:Int)∧(k:Int) < 64:=by omega
     have n1:(0:Int)≤(k:Int)+1∧(k:Int)+1 < 64:=by omega
     have n9:(0:Int)≤(k:Int)+9∧(k:Int)+9 < 64:=by omega
     have n14:(0:Int)≤(k:Int)+14∧(k:Int)+14 < 64:=by omega
     have n16:(0:Int)≤(k:Int)+16∧(k:Int)+16 < 64:=by omega
     have t1:((k:Int)+1).toNat=k+1:=by omega
     have t9:((k:Int)+9).toNat=k+9:=by omega
     have t14:((k:Int)+14).toNat=k+14:=by omega
     have t16:((k:Int)+16).toNat=k+16:=by omega
     have hdk:decide ((k:Int)+16 < 64)=true:=by simp;omega
     go_wp2_with fail
     go_region_held3 (fun w'=>w'.cell? ⟨w.heap.size+1,k,none⟩=some (.int .u32 y0)∧w'.cell? ⟨w.heap.size+1,k+1,none⟩=some (.int .u32 y1)∧w'.cell? ⟨w.heap.size+1,k+9,none⟩=some (.int .u32 y9)∧w'.cell? ⟨w.heap.size+1,k+14,none⟩=some (.int .u32 y14)) (first|(simp [go_sem,c0,c1,c9,c14];done)|(simp [go_sem,World.cell?_setCell_other,c0,c1,c9,c14];done)) (first|(go_at_call 237;refine (sigS1 _ x14 _).mono ?_;rintro e' w' ⟨rfl,rfl⟩)|(go_at_call 238;refine (sigS0 _ x1 _).mono ?_;rintro e' w' ⟨rfl,rfl⟩))
     rename_i hHeld
     clear hHeld
     have HE:Hid (((((ss1 y14:Nat)+(y9:Int)) % 4294967296+(ss0 y1:Nat)) % 4294967296+(y0:Int)) % 4294967296=(nxt q:Nat)):=by
      show _=_
      rw [HN.out]
      generalize ss1 y14=z1 at *
      generalize ss0 y1=z0 at *
      omega
     go_wp2_with fail
     go_roundw
     case rel =>
      refine ⟨k+1,by omega,by go_num,?_,(hbel.setCell (by simp) _).drew,there_set hth _ _ _⟩
      rw [HE.out,HQ.out]
      refine (harr.set (k+16) _ (by omega)).congr fun j _=>?_
      have e:=fOf_snoc q (nxt q) j
      rw [show q.length=k+16 from by omega] at e
      exact e.symm
     case measure=>simp [intOf];omega
    ·have HF:Hid (sch (firsts s.data.toList 0 16) 48=q):=by show _=_;rw [← HQ0.out,HM0.out,show k=48 from by omega]
     have hdk:decide ((k:Int)+16 < 64)=false:=by simp;omega
     have hq64:q.length=64:=by omega
     have hr:=arr32.range q hq64 harr
     clear HQ HQ0 hql hqs harr
     go_wp2_with (first|(refine wpList_load_mid rfl 312 _ rfl (w.heap.size+1) 0 rfl (q.map (fun x:Nat=>Value.int .u32 (x:Int))) _ hr Tryz.underlying312 rfl (by rw [List.length_map,hq64];kernel_rfl) ?_)|(refine wpList_store_mid rfl 312 _ _ rfl w.heap.size 0 _ rfl rfl (by simpa [hq64] using hth) (by rw [List.size_toArray,List.length_map,hq64];kernel_rfl) (all_oneCell_toArray (by intro v hv;simp at hv;obtain ⟨x,_,rfl⟩:=hv;rfl)) ?_))
     have hlen:(q.map (fun x:Nat=>Value.int .u32 (x:Int))).length=64:=by simp [hq64]
     have hr2:=World.rangeAt_setCells_same wr w.heap.size 0 (q.map (fun x:Nat=>Value.int .u32 (x:Int))) (by rw [hlen];exact hth)
     refine bodyPost_ret (v:=.agg (q.map (fun x:Nat=>Value.int .u32 (x:Int))).toArray) (results_cell rfl _ _ _ w.heap.size 0 rfl _ (run_loadVar_mid _ _ _ _ _ _ hr2 Tryz.underlying312 rfl (by rw [List.length_map,hq64];kernel_rfl))) rfl ⟨by rw [HF.out],?_⟩
     exact hbel.trans (below_setCells _ _ _ _ (Nat.le_refl _))
def rndL (v:List Nat) (more:Nat):List Nat:=rnd8 (v.getD 0 0) (v.getD 1 0) (v.getD 2 0) (v.getD 3 0) (v.getD 4 0) (v.getD 5 0) (v.getD 6 0) (v.getD 7 0) more
def rnds (v ws:List Nat):Nat→List Nat
 | 0=>v
 | k+1=>rndL (rnds v ws k) (kL.getD k 0+ws.getD k 0)
def cmpN (h ws:List Nat):Nat→List Nat
 | 0=>[]
 | k+1=>cmpN h ws k++[(h.getD k 0+(rnds h ws 64).getD k 0) % 4294967296]
def mixN (l:List UInt8) (h:List Nat):Nat→List Nat
 | 0=>h
 | n+1=>cmpN (mixN l h n) (sch (firsts l (64*n) 16) 48) 8
def outL (h:List Nat):Nat→List UInt8
 | 0=>[]
 | k+1=>outL h k++bigL (h.getD k 0) 4
def digest (l:List UInt8):List UInt8:=outL (mixN (pad l) hL ((pad l).length / 64)) 8
theorem rndL_small {v:List Nat} (h:small v) (m:Nat):small (rndL v m):=by
 have e:rndL v m=[]++[(v.getD 7 0+bs1 (v.getD 4 0)+chs (v.getD 4 0) (v.getD 5 0) (v.getD 6 0)+m+(bs0 (v.getD 0 0)+mst (v.getD 0 0) (v.getD 1 0) (v.getD 2 0))) % 4294967296]++[v.getD 0 0]++[v.getD 1 0]++[v.getD 2 0]++[(v.getD 3 0+(v.getD 7 0+bs1 (v.getD 4 0)+chs (v.getD 4 0) (v.getD 5 0) (v.getD 6 0)+m)) % 4294967296]++[v.getD 4 0]++[v.getD 5 0]++[v.getD 6 0]:=rfl
 rw [e]
 exact small_snoc (small_snoc (small_snoc (small_snoc (small_snoc (small_snoc (small_snoc (small_snoc small_nil (Nat.mod_lt _ (by omega))) (h 0)) (h 1)) (h 2)) (Nat.mod_lt _ (by omega))) (h 4)) (h 5)) (h 6)
theorem rnds_small {v:List Nat} (hv:small v) (ws:List Nat) (k:Nat):small (rnds v ws k):=by induction k with|zero=>exact hv|succ k ih=>exact rndL_small ih _
theorem cmpN_len (h ws:List Nat) (k:Nat):(cmpN h ws k).length=k:=by induction k with|zero=>rfl|succ k ih=>simp [cmpN,ih]
theorem cmpN_small (h ws:List Nat) (k:Nat):small (cmpN h ws k):=by induction k with|zero=>exact small_nil|succ k ih=>exact small_snoc ih (Nat.mod_lt _ (by omega))
theorem mixN_len {h:List Nat} (hh:h.length=8) (l:List UInt8) (n:Nat):(mixN l h n).length=8:=by cases n with|zero=>exact hh|succ n=>exact cmpN_len _ _ _
theorem mixN_small {h:List Nat} (hh:small h) (l:List UInt8) (n:Nat):small (mixN l h n):=by cases n with|zero=>exact hh|succ n=>exact cmpN_small _ _ _
theorem hL_small:small hL:=by
 intro i
 by_cases h:i < 8
 ·have:∀ n:Fin 8,hL.getD n.val 0 < 4294967296:=by decide +kernel
  exact this ⟨i,h⟩
 ·have e:hL.getD i 0=0:=by rw [List.getD_eq_getElem?_getD,List.getElem?_eq_none (by show 8≤i;omega)];rfl
  rw [e];omega
theorem outL_len (h:List Nat) (k:Nat):(outL h k).length=4*k:=by induction k with|zero=>rfl|succ k ih=>simp [outL,ih,bigL_len];omega
end Go.Proofs.YtbllcgibmgbnjaaGreatDoor
