import Derived.Test.YtbllcgibmgbnjaaGreatDoorRows
import Derived.Test.YtbllcgibmgbnjaaGreatDoorM13
import Derived.WalkKit
import Derived.ProofKit
import Derived.OpenShut
import Derived.Lib.LaidTab
import Derived.Stop.LaidErr
import Derived.LaidHandle
import Derived.Test.YtbllcgibmgbnjaaGreatDoorChecked
namespace Go.Proofs.YtbllcgibmgbnjaaGreatDoor.E
open Go.ChangeShapes Go.WideShapes Go.ChangeAt Go.RowKit
open Go.Proofs.YtbllcgibmgbnjaaGreatDoor.P (GL errT rowsC rowCells tPUT tGET tDEL tPrefix tAfter tMax tVersion sPolicy sList sPut sGet sDelete)
open Go.Proofs.YtbllcgibmgbnjaaGreatDoor.R (Bs str Env gTop)
theorem own:ownKnob Tryz.prog.godebug=none:=by kernel_rfl
theorem gP : Tryz.prog.globalNamed "internal/strconv.uint64pow10" = some 2 := by kernel_rfl
theorem gPType:(Tryz.prog.globals[2]?).map (·.type)=some 261:=by kernel_rfl
theorem cellsP:Tryz.prog.cellsOf 261=20:=by kernel_rfl
theorem cellsU:Tryz.prog.cellsOf 199=1:=by kernel_rfl
theorem gS : Tryz.prog.globalNamed "larder/mark.firstState" = some 0 := by kernel_rfl
theorem gSType:(Tryz.prog.globals[0]?).map (·.type)=some 196:=by kernel_rfl
theorem gK : Tryz.prog.globalNamed "larder/mark.roundWords" = some 4 := by kernel_rfl
theorem gKType:(Tryz.prog.globals[4]?).map (·.type)=some 312:=by kernel_rfl
theorem cells8:Tryz.prog.cellsOf 196=8:=by kernel_rfl
theorem cells64:Tryz.prog.cellsOf 312=64:=by kernel_rfl
theorem cells1:Tryz.prog.cellsOf 195=1:=by kernel_rfl
def zS:List Int:=hL.map Int.ofNat
def zK:List Int:=kL.map Int.ofNat
theorem zS_get (j:Nat) (h:j < 8):zS.getD j 0=((hL.getD j 0:Nat):Int):=by
 have:∀ n:Fin 8,zS.getD n.val 0=((hL.getD n.val 0:Nat):Int):=by decide +kernel
 exact this ⟨j,h⟩
theorem zK_get (j:Nat) (h:j < 64):zK.getD j 0=((kL.getD j 0:Nat):Int):=by
 have:∀ n:Fin 64,zK.getD n.val 0=((kL.getD n.val 0:Nat):Int):=by decide +kernel
 exact this ⟨j,h⟩
theorem zS_len:zS.length=8:=by decide +kernel
theorem zK_len:zK.length=64:=by decide +kernel
theorem cell_lt {w:World} {b j:Nat} {v:Value} (h:w.cell? ⟨b,j,none⟩=some v):b < w.heap.size:=World.block_lt_of_cell? w ⟨b,j,none⟩ h
abbrev listed : List (String × DataW Unit) := [("math/bits.deBruijn32tab", Rows.laid_math_bits_deBruijn32tab), ("math/bits.deBruijn64tab", Rows.laid_math_bits_deBruijn64tab), ("internal/strconv.uint64pow10", Lib.tabData .u64 Lib.pow10Tab), ("larder/mark.firstState", Lib.tabData .u32 zS), ("larder/mark.roundWords", Lib.tabData .u32 zK), ("unicode/utf8.acceptRanges", Rows.laid_unicode_utf8_acceptRanges),
 ("strconv.ErrRange", Rows.laid_strconv_ErrRange), ("strconv.ErrSyntax", Rows.laid_strconv_ErrSyntax), ("larder/ask.rows", Rows.laid_larder_ask_rows), ("larder/kept.errNoRoom", Rows.laid_larder_kept_errNoRoom), ("unicode/utf8.first", Rows.laid_unicode_utf8_first)]
theorem filt_no:(Rows.signedRow.laid.filter fun x=>x.2.handleName?.isNone)=listed:=by kernel_rfl
theorem filt_yes : (Rows.signedRow.laid.filter fun x => x.2.handleName?.isSome) = [("errors.errorType", Rows.laid_errors_errorType)] := by kernel_rfl
theorem parts {W : World} (h : laidMetH Tryz.prog Rows.signedRow.laid W) : laidMet Tryz.prog listed W ∧ handlesMet Tryz.prog [("errors.errorType", Rows.laid_errors_errorType)] W := by
 unfold laidMetH at h
 rw [filt_yes,filt_no] at h
 exact h
theorem gE : Tryz.prog.globalNamed "errors.errorType" = some 1 := by kernel_rfl
theorem rtN : (Tryz.prog.cutTypes.find? (·.1 == "internal/reflectlite.rtype")).map (·.2) = some 264 := by kernel_rfl
theorem tySize:Tryz.prog.types.size=449:=by kernel_rfl
theorem oneRow:((List.range 449).filter fun t=>Tryz.prog.rowNamed t [101,114,114,111,114])=[80]:=by kernel_rfl
theorem handle_of {W : World} (h : handlesMet Tryz.prog [("errors.errorType", Rows.laid_errors_errorType)] W) : errT W := by
 obtain ⟨name,u,ty,e1,e2,e3,e4,e5⟩:=h _ (List.mem_singleton.2 rfl)
 have en:name=[101,114,114,111,114]:=(Option.some.inj e1).symm
 subst en
 obtain rfl:=Option.some.inj (rtN.symm.trans e2)
 have hm:ty∈(List.range 449).filter fun t=>Tryz.prog.rowNamed t [101,114,114,111,114]:=List.mem_filter.2 ⟨List.mem_range.2 (by rw [← tySize];exact e3),e4⟩
 rw [oneRow] at hm
 obtain rfl:=List.mem_singleton.1 hm
 have hh:typeHandle Tryz.prog 80=.pointer (some ⟨13,80,none⟩):=by kernel_rfl
 rw [hh] at e5
 have:=World.var?_cell gE e5 0
 simpa [errT] using this
section
variable {H:Type} {enc:TypeId×Value→H} {w:World} {base:Nat} {sp:Nat→Bool} {held:Bool} {fuel:Nat} {cs:List Value} {p:List MemPlace}
theorem leaf_str {t:TypeId} {l:List UInt8} (ht:Tryz.prog.underlying t=some .string) (h:DataW.trod enc Tryz.prog w base sp held fuel t cs=some (.lit (.string l),p)):cs=[str l]:=by
 obtain ⟨s,rfl,e,_⟩:=DataW.trod_string ht h
 have e3:l=s.data.toList:=by have:=congrArg Prod.fst e;simpa using this
 rw [e3]
theorem leaf_bool {t:TypeId} {b:Bool} (ht:Tryz.prog.underlying t=some .bool) (h:DataW.trod enc Tryz.prog w base sp held fuel t cs=some (.lit (.bool b),p)):cs=[.bool b]:=by
 obtain ⟨s,rfl,e⟩:=DataW.trod_bool ht h
 have e3:b=s:=by have:=congrArg Prod.fst e;simpa using this
 rw [e3]
theorem leaf_int {t:TypeId} {k:IntKind} {z:Int} (ht:Tryz.prog.underlying t=some (.int k)) (h:DataW.trod enc Tryz.prog w base sp held fuel t cs=some (.lit (.int k z),p)):cs=[.int k z]:=by
 obtain ⟨s,rfl,e,_⟩:=DataW.trod_int ht h
 have e3:z=s:=by have:=congrArg Prod.fst e;simpa using this
 rw [e3]
theorem at_of {xs:List (DataW H×List MemPlace)} {ds:List (DataW H)} (h:ds=xs.map (·.1)) {i:Nat} {d:DataW H} (hd:ds[i]?=some d) {o:Option (DataW H×List MemPlace)} (ho:o=xs[i]?):∃ q,o=some (d,q):=by
 rw [h,List.getElem?_map,Option.map_eq_some_iff] at hd
 obtain ⟨x,hx,rfl⟩:=hd
 exact ⟨x.2,by rw [ho,hx]⟩
theorem agg_inj {a b:List (DataW H)} (h:DataW.agg a=DataW.agg b):a=b:=by cases h;rfl
theorem len3:∀ {l:List Value},l.length=3→∃ x y z,l=[x,y,z]
 | [x,y,z],_=>⟨x,y,z,rfl⟩
theorem len9:∀ {l:List Value},l.length=9→∃ x0 x1 x2 x3 x4 x5 x6 x7 x8,l=[x0,x1,x2,x3,x4,x5,x6,x7,x8]
 | [x0,x1,x2,x3,x4,x5,x6,x7,x8],_=>⟨x0,x1,x2,x3,x4,x5,x6,x7,x8,rfl⟩
theorem c_str:Tryz.prog.cellsOf 9=1:=by kernel_rfl
theorem c_bool:Tryz.prog.cellsOf 4=1:=by kernel_rfl
theorem c_int:Tryz.prog.cellsOf 3=1:=by kernel_rfl
theorem c_kind:Tryz.prog.cellsOf 110=1:=by kernel_rfl
theorem c_three:Tryz.prog.cellsOf 223=3:=by kernel_rfl
theorem c_row:Tryz.prog.cellsOf 225=9:=by kernel_rfl
theorem c_rows:Tryz.prog.cellsOf 279=81:=by kernel_rfl
theorem three_cells {a b c:List UInt8} (h:DataW.trod enc Tryz.prog w base sp held fuel 223 cs=some (.agg [.lit (.string a),.lit (.string b),.lit (.string c)],p)):cs=[str a,str b,str c]:=by
 obtain ⟨xs,m,rfl,e,hl,hx,hat⟩:=DataW.trod_array Tryz.underlying223 h
 have e1:=congrArg Prod.fst e
 have e2:=agg_inj e1
 rw [c_str] at hat
 rw [c_three] at hl
 obtain ⟨x,y,z,rfl⟩:=len3 hl
 focus
  obtain ⟨q0,h0⟩:=at_of e2 (i:=0) rfl (hat 0 (by omega))
  obtain ⟨q1,h1⟩:=at_of e2 (i:=1) rfl (hat 1 (by omega))
  obtain ⟨q2,h2⟩:=at_of e2 (i:=2) rfl (hat 2 (by omega))
  have r0:[x]=[str a]:=leaf_str Tryz.underlying9 h0
  have r1:[y]=[str b]:=leaf_str Tryz.underlying9 h1
  have r2:[z]=[str c]:=leaf_str Tryz.underlying9 h2
  rw [(List.cons.inj r0).1,(List.cons.inj r1).1,(List.cons.inj r2).1]
theorem row_cells {m a b c act:List UInt8} {pb yb:Bool} {n k:Int} (h:DataW.trod enc Tryz.prog w base sp held fuel 225 cs=some (.agg [.lit (.string m),.lit (.bool pb),.agg [.lit (.string a),.lit (.string b),.lit (.string c)],.lit (.int .i64 n),.lit (.int .i64 k),.lit (.string act),.lit (.bool yb)],p)) :
  cs=rowCells m pb a b c n k act yb:=by
 obtain ⟨xs,fu,rfl,e,hl,hx,hat⟩:=DataW.trod_struct Tryz.underlying225 h
 have e1:=congrArg Prod.fst e
 have e2:=agg_inj e1
 rw [c_row] at hl
 obtain ⟨x0,x1,x2,x3,x4,x5,x6,x7,x8,rfl⟩:=len9 hl
 focus
  obtain ⟨q0, h0⟩ := at_of e2 (i := 0) rfl (hat 0 { name := "method", type := 9, offset := 0, embedded := false, tag := "", pkgPath := "larder/ask", byteOffset := 0 } rfl)
  obtain ⟨q1, h1⟩ := at_of e2 (i := 1) rfl (hat 1 { name := "path", type := 4, offset := 1, embedded := false, tag := "", pkgPath := "larder/ask", byteOffset := 16 } rfl)
  obtain ⟨q2, h2⟩ := at_of e2 (i := 2) rfl (hat 2 { name := "pairs", type := 223, offset := 2, embedded := false, tag := "", pkgPath := "larder/ask", byteOffset := 24 } rfl)
  obtain ⟨q3, h3⟩ := at_of e2 (i := 3) rfl (hat 3 { name := "least", type := 3, offset := 5, embedded := false, tag := "", pkgPath := "larder/ask", byteOffset := 72 } rfl)
  obtain ⟨q4, h4⟩ := at_of e2 (i := 4) rfl (hat 4 { name := "kind", type := 110, offset := 6, embedded := false, tag := "", pkgPath := "larder/ask", byteOffset := 80 } rfl)
  obtain ⟨q5, h5⟩ := at_of e2 (i := 5) rfl (hat 5 { name := "action", type := 9, offset := 7, embedded := false, tag := "", pkgPath := "larder/ask", byteOffset := 88 } rfl)
  obtain ⟨q6, h6⟩ := at_of e2 (i := 6) rfl (hat 6 { name := "hasBody", type := 4, offset := 8, embedded := false, tag := "", pkgPath := "larder/ask", byteOffset := 104 } rfl)
  dsimp only at h0 h1 h2 h3 h4 h5 h6
  rw [c_str] at h0 h5
  rw [c_bool] at h1 h6
  rw [c_three] at h2
  rw [c_int] at h3
  rw [c_kind] at h4
  have r0:[x0]=[str m]:=leaf_str Tryz.underlying9 h0
  have r1:[x1]=[.bool pb]:=leaf_bool Tryz.underlying4 h1
  have r2:[x2,x3,x4]=[str a,str b,str c]:=three_cells h2
  have r3:[x5]=[.int .i64 n]:=leaf_int Tryz.underlying3 h3
  have r4:[x6]=[.int .i64 k]:=leaf_int Tryz.underlying110 h4
  have r5:[x7]=[str act]:=leaf_str Tryz.underlying9 h5
  have r6:[x8]=[.bool yb]:=leaf_bool Tryz.underlying4 h6
  have s1:=(List.cons.inj r2).2
  have s2:=(List.cons.inj s1).2
  rw [(List.cons.inj r0).1,(List.cons.inj r1).1,(List.cons.inj r2).1,(List.cons.inj s1).1,(List.cons.inj s2).1,(List.cons.inj r3).1,(List.cons.inj r4).1,(List.cons.inj r5).1,(List.cons.inj r6).1];rfl
theorem chunks:∀ (k:Nat) (l:List Value),l.length=k*9→l=(List.range k).flatMap (fun i=>(l.drop (i*9)).take 9)
 | 0,l,h=>by simp at h;simp [h]
 | k+1,l,h=>by
  have ih:=chunks k (l.drop 9) (by rw [List.length_drop];omega)
  rw [List.range_succ_eq_map,List.flatMap_cons,List.flatMap_map]
  have e:(fun i=>List.take 9 (List.drop ((i+1)*9) l))=fun i=>List.take 9 (List.drop (i*9) (l.drop 9)):=by
   funext i;rw [List.drop_drop];congr 2;omega
  simp only [Nat.zero_mul,List.drop_zero,Nat.succ_eq_add_one]
  rw [e,← ih,List.take_append_drop]
theorem rows_cells (h:DataW.trod enc Tryz.prog w base sp held fuel 279 cs=some (Rows.laid_larder_ask_rows,p)):cs=rowsC.flatten:=by
 obtain ⟨xs,m,rfl,e,hl,hx,hat⟩:=DataW.trod_array Tryz.underlying279 h
 unfold Rows.laid_larder_ask_rows at e
 have e1:=congrArg Prod.fst e
 have e2:=agg_inj e1
 rw [c_row] at hat
 rw [c_rows] at hl
 rw [chunks 9 cs (by omega),show List.range 9=[0,1,2,3,4,5,6,7,8] from rfl]
 obtain ⟨q0,h0⟩:=at_of e2 (i:=0) rfl (hat 0 (by omega))
 obtain ⟨q1,h1⟩:=at_of e2 (i:=1) rfl (hat 1 (by omega))
 obtain ⟨q2,h2⟩:=at_of e2 (i:=2) rfl (hat 2 (by omega))
 obtain ⟨q3,h3⟩:=at_of e2 (i:=3) rfl (hat 3 (by omega))
 obtain ⟨q4,h4⟩:=at_of e2 (i:=4) rfl (hat 4 (by omega))
 obtain ⟨q5,h5⟩:=at_of e2 (i:=5) rfl (hat 5 (by omega))
 obtain ⟨q6,h6⟩:=at_of e2 (i:=6) rfl (hat 6 (by omega))
 obtain ⟨q7,h7⟩:=at_of e2 (i:=7) rfl (hat 7 (by omega))
 obtain ⟨q8,h8⟩:=at_of e2 (i:=8) rfl (hat 8 (by omega))
 simp only [List.flatMap_cons,List.flatMap_nil]
 rw [row_cells h0,row_cells h1,row_cells h2,row_cells h3,row_cells h4,row_cells h5,row_cells h6,row_cells h7,row_cells h8]
 rfl
end
theorem gR : Tryz.prog.globalNamed "larder/ask.rows" = some 3 := by kernel_rfl
theorem gRType:(Tryz.prog.globals[3]?).map (·.type)=some 279:=by kernel_rfl
theorem rows_of {W : World} {r : List (String × DataW Unit)} (h : laidMet Tryz.prog (("larder/ask.rows", Rows.laid_larder_ask_rows) :: r) W) : ∀ j u, rowsC.flatten[j]? = some u → W.cell? ⟨3, j, none⟩ = some u := by
 obtain ⟨ps,⟨g',t',cs,fuel,p,q,hg',ht',hvar,hd,_,_⟩,_⟩:=h
 obtain rfl:=Option.some.inj (gR.symm.trans hg')
 obtain rfl:=Option.some.inj (gRType.symm.trans ht')
 have e:=rows_cells hd
 intro j u hj
 have:=World.var?_cell gR hvar j
 rw [this]
 rw [← e] at hj
 simpa using hj
theorem gG : Tryz.prog.globalNamed "strconv.ErrRange" = some 10 := by kernel_rfl
theorem gGType:(Tryz.prog.globals[10]?).map (·.type)=some 80:=by kernel_rfl
theorem gY : Tryz.prog.globalNamed "strconv.ErrSyntax" = some 9 := by kernel_rfl
theorem gYType:(Tryz.prog.globals[9]?).map (·.type)=some 80:=by kernel_rfl
theorem gM : Tryz.prog.globalNamed "larder/kept.errNoRoom" = some 5 := by kernel_rfl
theorem gMType:(Tryz.prog.globals[5]?).map (·.type)=some 80:=by kernel_rfl
theorem iface_cells {H:Type} {enc:TypeId×Value→H} {P:Program} {w:World} {base:Nat} {sp:Nat→Bool} {held:Bool} {fuel:Nat} {cs:List Value} {p:List MemPlace} {t:TypeId} {ms:Array (String×TypeId)} {nm:String} {d:DataW H} (ht:P.underlying t=some (.interface ms)) (h:DataW.trod enc P w base sp held fuel t cs=some (.iface nm d,p)):∃ u v,cs=[.iface u v]:=by
 cases fuel with
 | zero=>simp [DataW.trod] at h
 | succ n =>
  unfold DataW.trod at h
  rw [ht] at h
  split at h <;> simp_all
theorem sentinel_of {W:World} {n nm:String} {d:DataW Unit} {r:List (String×DataW Unit)} {g:Nat} (h:laidMet Tryz.prog ((n,.iface nm d) :: r) W) (hg:Tryz.prog.globalNamed n=some g) (ht:(Tryz.prog.globals[g]?).map (·.type)=some 80):∃ t p,W.cell? ⟨g,0,none⟩=some (.iface t p):=by
 obtain ⟨ps,⟨g',t',cs,fuel,p,q,hg',ht',hvar,hd,_,_⟩,_⟩:=h
 obtain rfl:=Option.some.inj (hg.symm.trans hg')
 obtain rfl:=Option.some.inj (ht.symm.trans ht')
 obtain ⟨u,v,e⟩:=iface_cells Tryz.underlying80 hd
 have:=World.var?_cell hg hvar 0
 refine ⟨u,v,?_⟩
 rw [this]
 rw [show cs=#[.iface u v] by cases cs;simpa using e]
 rfl
theorem last_row:(((begin Tryz.prog (fun _ _=>0) default).world.heap[13 - 1]?).bind Obj.row?).isSome=true:=by kernel_rfl
theorem sz_of {W:World} (h:W.ShapedOpen Tryz.prog):13≤W.heap.size:=by
 obtain ⟨x,hx⟩:=Option.isSome_iff_exists.1 last_row
 obtain ⟨cs,hc,_⟩:=h.1 (13 - 1) x.1 x.2 (of_decide_eq_true (by kernel_rfl)) hx
 have:=(Array.getElem?_eq_some_iff.1 hc).1
 omega
theorem gl_at {W:World} (h:laidMetH Tryz.prog Rows.signedRow.laid W) (hsh:W.ShapedOpen Tryz.prog):GL W:=by
 obtain ⟨h1,hh⟩:=parts h
 have h3:=laidMet.tail (laidMet.tail h1)
 have h4:=laidMet.tail h3
 have h5:=laidMet.tail h4
 have h7:=laidMet.tail (laidMet.tail h5)
 have h8:=laidMet.tail h7
 have h9:=laidMet.tail h8
 have h10:=laidMet.tail h9
 have tP : Lib.TabIs Tryz.prog W "internal/strconv.uint64pow10" .u64 Lib.pow10Tab := Lib.tabIs_of_head gP gPType Tryz.underlying261 Tryz.underlying199 cellsU cellsP h3
 have tS : Lib.TabIs Tryz.prog W "larder/mark.firstState" .u32 zS := Lib.tabIs_of_head gS gSType Tryz.underlying196 Tryz.underlying195 cells1 cells8 h4
 have tK : Lib.TabIs Tryz.prog W "larder/mark.roundWords" .u32 zK := Lib.tabIs_of_head gK gKType Tryz.underlying312 Tryz.underlying195 cells1 cells64 h5
 have cS:∀ j,j < 8→W.cell? ⟨0,j,none⟩=some (.int .u32 (hL.getD j 0:Nat)):=fun j hj=>by rw [tS.cell gS j (by rw [zS_len];exact hj),zS_get j hj]
 have cK:∀ j,j < 64→W.cell? ⟨4,j,none⟩=some (.int .u32 (kL.getD j 0:Nat)):=fun j hj=>by rw [tK.cell gK j (by rw [zK_len];exact hj),zK_get j hj]
 have hm:∃ m,W.cell? ⟨6,0,none⟩=some (.int .i64 m):=Go.Proofs.cell_of_shapedOpen_int (zero:=#[.int .i64 0]) (t:=3) hsh (of_decide_eq_true (by kernel_rfl)) (by kernel_rfl) rfl (by kernel_rfl) (by kernel_rfl) Tryz.underlying3
 have hsz:=sz_of hsh
 refine ⟨⟨hm,tP,?_⟩,⟨cK,cS,cell_lt (cK 0 (by omega)),cell_lt (cS 0 (by omega))⟩,handle_of hh,sentinel_of h10 gM gMType,sentinel_of h8 gY gYType,sentinel_of h7 gG gGType,rows_of h9,hsz⟩
 exact Nat.le_trans P.gTop_le hsz
end Go.Proofs.YtbllcgibmgbnjaaGreatDoor.E
namespace Go.Proofs.YtbllcgibmgbnjaaGreatDoor.E
open Go.ChangeShapes Go.WideShapes Go.ChangeAt Go.RowKit
def flat:DataW Unit→List Value
 | .lit (.int k z)=>[.int k z]
 | .lit (.bool b)=>[.bool b]
 | .lit (.string l)=>[.string ⟨l.toArray⟩]
 | .agg ps=>flats ps
 | _=>[]
 where flats:List (DataW Unit)→List Value
 | []=>[]
 | d :: r=>flat d++flats r
def put (cs:List Value):Obj→Obj
 | .cells _ t frozen=>.cells cs.toArray t frozen
 | o=>o
abbrev text0:List UInt8:=[118,97,108,117,101,32,111,117,116,32,111,102,32,114,97,110,103,101]
abbrev text1:List UInt8:=[105,110,118,97,108,105,100,32,115,121,110,116,97,120]
abbrev text2:List UInt8:=[116,104,101,32,108,111,103,32,104,97,115,32,110,111,32,114,111,111,109,32,102,111,114,32,116,104,101,32,102,114,97,109,101]
def laidHeap (h:Array Obj) (n:Nat):Array Obj :=
 (((((((((((((((h.modify 7 (put (flat Rows.laid_math_bits_deBruijn32tab))).modify 8 (put (flat Rows.laid_math_bits_deBruijn64tab))).modify 2 (put (flat Rows.laid_internal_strconv_uint64pow10))).modify 0 (put (flat Rows.laid_larder_mark_firstState))).modify 4 (put (flat Rows.laid_larder_mark_roundWords))).modify 12 (put (flat Rows.laid_unicode_utf8_acceptRanges))).modify 11 (put (flat Rows.laid_unicode_utf8_first))).modify 3 (put (flat Rows.laid_larder_ask_rows))).modify 1 (put [.iface 264 (.agg #[.pointer (some ⟨13,80,none⟩)])])).modify 10 (put [.iface 370 (.pointer (some ⟨n,0,none⟩))])).modify 9 (put [.iface 370 (.pointer (some ⟨n+1,0,none⟩))])).modify 5 (put [.iface 370 (.pointer (some ⟨n+2,0,none⟩))])).push (.cells #[.string ⟨text0.toArray⟩] 372 (0,0))).push (.cells #[.string ⟨text1.toArray⟩] 372 (0,0))).push (.cells #[.string ⟨text2.toArray⟩] 372 (0,0)))
noncomputable def laidWorld (os:Os):World :=
 { World.holding Tryz.prog os ⟨#[],#[],[]⟩ with heap:=laidHeap (World.holding Tryz.prog os ⟨#[],#[],[]⟩).heap (World.holding Tryz.prog os ⟨#[],#[],[]⟩).heap.size }
end Go.Proofs.YtbllcgibmgbnjaaGreatDoor.E
