/-
  THE ROW OF Canons (the second form) AND ITS TIED CARD.
-/
import Derived.Test.YtinnliapfdpfpaaGreatDoorCards
import Derived.Test.YtinnliapfdpfpaaGreatDoorTie
import Derived.Test.YtinnliapfdpfpaaGreatDoorFLaw
import Derived.Test.YtinnliapfdpfpaaGreatDoorFFacts
import Derived.WalkKit
import Derived.ProofKit
import Derived.OpenShut
import Derived.Deep.DeepHandedRow
import Derived.Lib.LaidTab
import Derived.Stop.LaidErr
namespace Go.Proofs.YtinnliapfdpfpaaGreatDoor.canonsProof
open Go.ChangeShapes Go.WideShapes Go.ChangeAt Go.RowKit
open Go.ChangeMaps (open_string shut_string)
open Go.Proofs.YtinnliapfdpfpaaGreatDoor.R (Bs str Env gTop canons_any)

theorem own : ownKnob Tryz.prog.godebug = none := by kernel_rfl
theorem gP : Tryz.prog.globalNamed "internal/strconv.uint64pow10" = some 3 := by kernel_rfl
theorem gPType : (Tryz.prog.globals[3]?).map (·.type) = some 304 := by kernel_rfl
theorem cellsP : Tryz.prog.cellsOf 304 = 20 := by kernel_rfl
theorem cellsU : Tryz.prog.cellsOf 223 = 1 := by kernel_rfl
theorem gS : Tryz.prog.globalNamed "larder/mark.firstState" = some 0 := by kernel_rfl
theorem gSType : (Tryz.prog.globals[0]?).map (·.type) = some 172 := by kernel_rfl
theorem gK : Tryz.prog.globalNamed "larder/mark.roundWords" = some 2 := by kernel_rfl
theorem gKType : (Tryz.prog.globals[2]?).map (·.type) = some 299 := by kernel_rfl
theorem cells8 : Tryz.prog.cellsOf 172 = 8 := by kernel_rfl
theorem cells64 : Tryz.prog.cellsOf 299 = 64 := by kernel_rfl
theorem cells1 : Tryz.prog.cellsOf 171 = 1 := by kernel_rfl
def zS : List Int := hL.map Int.ofNat
def zK : List Int := kL.map Int.ofNat
theorem laid_is : Rows.canonsUptoRow.laid = [("math/bits.deBruijn32tab", Rows.laid_math_bits_deBruijn32tab), ("math/bits.deBruijn64tab", Rows.laid_math_bits_deBruijn64tab), ("internal/strconv.uint64pow10", Lib.tabData .u64 Lib.pow10Tab),
    ("larder/mark.firstState", Lib.tabData .u32 zS), ("larder/mark.roundWords", Lib.tabData .u32 zK), ("unicode/utf8.acceptRanges", Rows.laid_unicode_utf8_acceptRanges), ("unicode/utf8.first", Rows.laid_unicode_utf8_first)] := by kernel_rfl
theorem zS_get (j : Nat) (h : j < 8) : zS.getD j 0 = ((hL.getD j 0 : Nat) : Int) := by
  have : ∀ n : Fin 8, zS.getD n.val 0 = ((hL.getD n.val 0 : Nat) : Int) := by decide +kernel
  exact this ⟨j, h⟩
theorem zK_get (j : Nat) (h : j < 64) : zK.getD j 0 = ((kL.getD j 0 : Nat) : Int) := by
  have : ∀ n : Fin 64, zK.getD n.val 0 = ((kL.getD n.val 0 : Nat) : Int) := by decide +kernel
  exact this ⟨j, h⟩
theorem zS_len : zS.length = 8 := by decide +kernel
theorem zK_len : zK.length = 64 := by decide +kernel
theorem cell_lt {w : World} {b j : Nat} {v : Value} (h : w.cell? ⟨b, j, none⟩ = some v) : b < w.heap.size := World.block_lt_of_cell? w ⟨b, j, none⟩ h
theorem env_at {W : World} (h : laidMetH Tryz.prog Rows.canonsUptoRow.laid W) (hsh : W.ShapedOpen Tryz.prog) : Env W ∧ Laid W := by
  have h1 : laidMet Tryz.prog [("math/bits.deBruijn32tab", Rows.laid_math_bits_deBruijn32tab), ("math/bits.deBruijn64tab", Rows.laid_math_bits_deBruijn64tab), ("internal/strconv.uint64pow10", Lib.tabData .u64 Lib.pow10Tab),
    ("larder/mark.firstState", Lib.tabData .u32 zS), ("larder/mark.roundWords", Lib.tabData .u32 zK), ("unicode/utf8.acceptRanges", Rows.laid_unicode_utf8_acceptRanges), ("unicode/utf8.first", Rows.laid_unicode_utf8_first)] W := by rw [← laid_is]; exact h
  have h3 := laidMet.tail (laidMet.tail h1)
  have tP : Lib.TabIs Tryz.prog W "internal/strconv.uint64pow10" .u64 Lib.pow10Tab := Lib.tabIs_of_head gP gPType Tryz.underlying304 Tryz.underlying223 cellsU cellsP h3
  have tS : Lib.TabIs Tryz.prog W "larder/mark.firstState" .u32 zS := Lib.tabIs_of_head gS gSType Tryz.underlying172 Tryz.underlying171 cells1 cells8 (laidMet.tail h3)
  have tK : Lib.TabIs Tryz.prog W "larder/mark.roundWords" .u32 zK := Lib.tabIs_of_head gK gKType Tryz.underlying299 Tryz.underlying171 cells1 cells64 (laidMet.tail (laidMet.tail h3))
  have cS : ∀ j, j < 8 → W.cell? ⟨0, j, none⟩ = some (.int .u32 (hL.getD j 0 : Nat)) := fun j hj => by rw [tS.cell gS j (by rw [zS_len]; exact hj), zS_get j hj]
  have cK : ∀ j, j < 64 → W.cell? ⟨2, j, none⟩ = some (.int .u32 (kL.getD j 0 : Nat)) := fun j hj => by rw [tK.cell gK j (by rw [zK_len]; exact hj), zK_get j hj]
  have hm := Tryz.laysM145.s1_3 W hsh
  refine ⟨⟨hm, tP, ?_⟩, cK, cS, cell_lt (cK 0 (by omega)), cell_lt (cS 0 (by omega))⟩
  obtain ⟨m, hm⟩ := hm
  have l1 : 5 < W.heap.size := cell_lt hm
  have l2 : 3 < W.heap.size := cell_lt (tP.cell gP 0 (by decide))
  unfold gTop
  omega

set_option maxRecDepth 100000 in
theorem contract (H : Type) (enc : TypeId × Value → H) (W : World) (base : Nat) (args : Array Value) (ds gs : List (DataW H)) (before : List MemPlace)
    (hval : ∀ (j : Nat) t v, Tryz.f3.params[j]? = some t → args[j]? = some v → Value.okWide Tryz.prog W .any base t v)
    (hW : DataW.Whole enc Tryz.prog Tryz.f3.params.toList Rows.canonsSpec.vars false W args.toList ds gs before)
    (hk : Rows.uptoSmall H (ds ++ gs) = true) (hL : laidMetH Tryz.prog Rows.canonsUptoRow.laid W) (hsh : W.ShapedOpen Tryz.prog) :
    Calls Tryz.prog 3 args W fun e W' => ∃ v, e = .returned v ∧ Rows.canonsSpec.post enc Tryz.prog Tryz.f3 false true false false W args v W' := by
  have hW' := hW
  obtain ⟨p, q, hA0, hV, rfl, hfz, hnd⟩ := hW
  have hA : DataW.TrodAll enc Tryz.prog W 0 (fun _ => true) true Tryz.f3.params.toList args.toList ds p := hA0
  rw [Tryz.params3] at hA hval
  obtain ⟨v0, vs0, d0, ds0, p0, q0, hargs, rfl, rfl, h0, r0⟩ := trodAll_cons hA
  obtain ⟨v1, vs1, d1, ds1, p1, q1, rfl, rfl, rfl, h1, r1⟩ := trodAll_cons r0
  obtain ⟨v2, vs2, d2, ds2, p2, q2, rfl, rfl, rfl, h2, r2⟩ := trodAll_cons r1
  obtain ⟨v3, vs3, d3, ds3, p3, q3, rfl, rfl, rfl, h3, r3⟩ := trodAll_cons r2
  obtain ⟨rfl, rfl, rfl⟩ := trodAll_nil r3
  obtain rfl : args = #[v0, v1, v2, v3] := by cases args; simp_all
  obtain ⟨rfl, rfl⟩ := trodVars_none hV
  obtain ⟨s0, rfl, rfl, rfl, m0⟩ := open_string Tryz.underlying9 (hval 0 9 v0 rfl rfl) h0
  obtain ⟨s1, rfl, rfl, rfl, m1⟩ := open_string Tryz.underlying9 (hval 1 9 v1 rfl rfl) h1
  obtain ⟨s2, rfl, rfl, rfl, m2⟩ := open_string Tryz.underlying9 (hval 2 9 v2 rfl rfl) h2
  obtain ⟨n3, rfl, rfl, rfl, m3⟩ := open_int Tryz.underlying3 (hval 3 3 v3 rfl rfl) h3
  clear hA0
  simp only [List.append_nil] at hW' hk
  have hbulk := of_decide_eq_true hk
  simp only [Rows.uptoBulkAll, Rows.uptoBulk] at hbulk
  have b0 : s0.data.toList.length ≤ 2000000 := by omega
  have b1 : s1.data.toList.length ≤ 2000000 := by omega
  have b2 : s2.data.toList.length ≤ 2000000 := by omega
  obtain ⟨E, L⟩ := env_at hL hsh
  have key := canons_any s0.data.toList s1.data.toList s2.data.toList n3 W E L b0 b1 b2
  rw [show str s0.data.toList = .string s0 from rfl, show str s1.data.toList = .string s1 from rfl, show str s2.data.toList = .string s2 from rfl] at key
  refine key.mono fun e W' ⟨he, hg⟩ => ?_
  subst he
  exact ⟨_, rfl, _, _, _, [], [], [], hW', trodAll_cons_mk (shut_bool Tryz.underlying4 _) trodAll_mk0, trodAll_cons_mk (shut_string Tryz.underlying9 m0) (trodAll_cons_mk (shut_string Tryz.underlying9 m1) (trodAll_cons_mk (shut_string Tryz.underlying9 m2) (trodAll_cons_mk (shut_int Tryz.underlying3 m3) trodAll_mk0))), rfl, hg.frame _, fun h => by cases h⟩

/-- A datum's cells, in order. -/
def flat : DataW Unit → List Value
  | .lit (.int k z) => [.int k z]
  | .agg ps => flats ps
  | _ => []
where flats : List (DataW Unit) → List Value
  | [] => []
  | d :: r => flat d ++ flats r
/-- A block with a datum's cells laid. -/
def relay (d : DataW Unit) : Obj → Obj
  | .cells _ t frozen => .cells (flat d).toArray t frozen
  | o => o
/-- A world for the witness: the settled one, the tables as their initialisers lay them. -/
noncomputable def laidWorld (os : Os) : World :=
  { World.holding Tryz.prog os ⟨#[], #[], []⟩ with heap := (((((((World.holding Tryz.prog os ⟨#[], #[], []⟩).heap.modify 7 (relay Rows.laid_math_bits_deBruijn32tab)).modify 8 (relay Rows.laid_math_bits_deBruijn64tab)).modify 3 (relay Rows.laid_internal_strconv_uint64pow10)).modify 0 (relay Rows.laid_larder_mark_firstState)).modify 2 (relay Rows.laid_larder_mark_roundWords)).modify 10 (relay Rows.laid_unicode_utf8_acceptRanges)).modify 9 (relay Rows.laid_unicode_utf8_first) }
abbrev wArgs : Array Value := #[.string .empty, .string .empty, .string .empty, .int .i64 0]
theorem laid_met (os : Os) : laidMet Tryz.prog Rows.canonsUptoRow.laid ((laidWorld os).forCall (fun _ _ => 0) ⟨#[], wArgs, []⟩).memory :=
  laidMet_of_run' 8 (by kernel_rfl) (by kernel_rfl)
theorem reads (os : Os) {H : Type} (enc : TypeId × Value → H) : ∃ places, DataW.whole enc Tryz.prog ((laidWorld os).forCall (fun _ _ => 0) ⟨#[], wArgs, []⟩).memory Tryz.f3.params.toList Rows.canonsSpec.vars false wArgs.toList 8 = some ([.lit (.string []), .lit (.string []), .lit (.string []), .lit (.int .i64 0)], [], places) :=
  ⟨[], by kernel_rfl⟩

set_option maxRecDepth 100000 in
theorem lifted (os : Os) (started : os.Started) (H : Type) (enc : TypeId × Value → H) (F : Stop.Interp) :
    ReturnsInHanded {} Tryz.checked os 3 .any ((Rows.OpenSpec.upto Rows.canonsSpec).preRow enc Tryz.prog Tryz.f3 Rows.canonsUptoRow.domain false Rows.canonsUptoRow.laid) (((Rows.OpenSpec.upto Rows.canonsSpec).at F).post enc Tryz.prog Tryz.f3 false true false false) := by
  obtain ⟨places, hx⟩ := reads os enc
  refine returnsInHanded_of_row (C := Tryz.checked) (s := Rows.OpenSpec.upto Rows.canonsSpec) own started (by kernel_rfl) Tryz.func3
    (witness_row_at (enc := enc) (C := Tryz.checked) false (laidWorld os) wArgs rfl (by kernel_rfl) (by kernel_rfl) (by kernel_rfl)
      (OpenSpec.preRow_of_cond 8 hx (by kernel_rfl) (fun k hk => by cases hk; kernel_rfl) (by kernel_rfl) (laid_met os))) ?_
  intro W base args ds gs before hval hW _ hcond _ hL hsh _
  exact contract H enc W base args ds gs before hval hW (hcond _ rfl) hL hsh

theorem said : Rows.CanonsUptoSaid :=
  OpenClaim.holds_of_cond 3 Tryz.f3 rfl rfl rfl rfl rfl rfl rfl ⟨rfl, rfl, rfl, rfl, rfl⟩ rfl rfl rfl rfl rfl (by as_aux_lemma => kernel_rfl) Tryz.func3 facts
    (of_decide_eq_true (by as_aux_lemma => kernel_rfl)) (by unfold Func.isWrapper; first | (rw [if_pos (by decide +kernel)]; kernel_rfl) | (rw [if_neg (by decide +kernel)]; exact ⟨rfl, rfl⟩))
    (fun os started H enc _ F => by rw [OpenClaim.pre_eq_preRow]; exact lifted os started H enc F)

theorem plain (f : FuncId) (fn : Func) (hf : Tryz.pinned.checked.prog.funcNamed "larder/larderlaw.Canons" = some f) (hfn : Tryz.pinned.checked.prog.funcs[f]? = some fn) :
    true = Tryz.pinned.checked.prog.looks [] ∧ ∀ (j : Nat) t, fn.params[j]? = some t → Tryz.pinned.checked.prog.wantsStandIn t = false := by
  obtain rfl : f = 3 := Option.some.inj ((show Tryz.prog.funcNamed "larder/larderlaw.Canons" = some 3 by kernel_rfl).symm.trans hf) |>.symm
  obtain rfl : fn = Tryz.f3 := (Option.some.inj (Tryz.func3.symm.trans hfn)).symm
  refine ⟨by kernel_rfl, fun j t ht => ?_⟩
  rw [Tryz.params3] at ht
  have hts : t = 9 ∨ t = 3 := by have := Array.mem_of_getElem? ht; simp at this; omega
  rcases hts with rfl | rfl
  · exact (show Tryz.prog.wantsStandIn 9 = false by kernel_rfl)
  · exact (show Tryz.prog.wantsStandIn 3 = false by kernel_rfl)

theorem card : Rows.CanonsUptoCardSaid :=
  Claim7.holds_tied_plain_at .later [] _ _ _ _ said (fun _ h => by cases h) (by as_aux_lemma => kernel_rfl) (fun _ h => by cases h) canonsUpto_row_tie rfl ⟨rfl, rfl⟩ (by as_aux_lemma => kernel_rfl) rfl plain (by as_aux_lemma => kernel_rfl)
end Go.Proofs.YtinnliapfdpfpaaGreatDoor.canonsProof
namespace Go.Proofs.YtinnliapfdpfpaaGreatDoor
theorem canons_upto_card : Rows.CanonsUptoCardSaid := canonsProof.card
end Go.Proofs.YtinnliapfdpfpaaGreatDoor
