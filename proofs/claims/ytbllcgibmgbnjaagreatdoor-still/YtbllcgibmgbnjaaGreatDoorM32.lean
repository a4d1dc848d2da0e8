import Derived.Test.YtbllcgibmgbnjaaGreatDoorM31
import Derived.Test.YtbllcgibmgbnjaaGreatDoorChecked
namespace Go.Proofs.YtbllcgibmgbnjaaGreatDoor.E
open Go.ChangeShapes Go.WideShapes Go.ChangeAt Go.RowKit
def flat:DataW Unit→List Value
 | .lit (.int k z)=>[.int k z]
 | .lit (.bool b)=>[.bool b]
 | .lit (.string l)=>[.string ⟨l.toArray⟩]
 | .agg ps=>flats ps
 | _=>[]
 where flats:List (DataW Unit)→List Value
 | []=>[]
 | d :: r=>flat d++flats r
def put (cs:List Value):Obj→Obj
 | .cells _ t frozen=>.cells cs.toArray t frozen
 | o=>o
abbrev text0:List UInt8:=[118,97,108,117,101,32,111,117,116,32,111,102,32,114,97,110,103,101]
abbrev text1:List UInt8:=[105,110,118,97,108,105,100,32,115,121,110,116,97,120]
abbrev text2:List UInt8:=[116,104,101,32,108,111,103,32,104,97,115,32,110,111,32,114,111,111,109,32,102,111,114,32,116,104,101,32,102,114,97,109,101]
def laidHeap (h:Array Obj) (n:Nat):Array Obj :=
 (((((((((((((((h.modify 7 (put (flat Rows.laid_math_bits_deBruijn32tab))).modify 8 (put (flat Rows.laid_math_bits_deBruijn64tab))).modify 2 (put (flat Rows.laid_internal_strconv_uint64pow10))).modify 0 (put (flat Rows.laid_larder_mark_firstState))).modify 4 (put (flat Rows.laid_larder_mark_roundWords))).modify 12 (put (flat Rows.laid_unicode_utf8_acceptRanges))).modify 11 (put (flat Rows.laid_unicode_utf8_first))).modify 3 (put (flat Rows.laid_larder_ask_rows))).modify 1 (put [.iface 264 (.agg #[.pointer (some ⟨13,80,none⟩)])])).modify 10 (put [.iface 370 (.pointer (some ⟨n,0,none⟩))])).modify 9 (put [.iface 370 (.pointer (some ⟨n+1,0,none⟩))])).modify 5 (put [.iface 370 (.pointer (some ⟨n+2,0,none⟩))])).push (.cells #[.string ⟨text0.toArray⟩] 372 (0,0))).push (.cells #[.string ⟨text1.toArray⟩] 372 (0,0))).push (.cells #[.string ⟨text2.toArray⟩] 372 (0,0)))
noncomputable def laidWorld (os:Os):World :=
 { World.holding Tryz.prog os ⟨#[],#[],[]⟩ with heap:=laidHeap (World.holding Tryz.prog os ⟨#[],#[],[]⟩).heap (World.holding Tryz.prog os ⟨#[],#[],[]⟩).heap.size }
end Go.Proofs.YtbllcgibmgbnjaaGreatDoor.E
