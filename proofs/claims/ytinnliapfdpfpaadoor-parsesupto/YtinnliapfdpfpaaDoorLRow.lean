/-
  THE ROW OF Parses (the second form) AND ITS TIED CARD.
-/
import Derived.Test.YtinnliapfdpfpaaDoorCards
import Derived.Test.YtinnliapfdpfpaaDoorTie
import Derived.Test.YtinnliapfdpfpaaDoorLParses
import Derived.ProofKit
import Derived.OpenShut
import Derived.Deep.DeepHandedRow
import Derived.SliceStrings
import Derived.Carry
import Derived.Lib.LaidTab
import Derived.Stop.LaidErr
namespace Go.Proofs.YtinnliapfdpfpaaDoor.parsesProof
open Go.ChangeShapes Go.WideShapes Go.ChangeAt Go.RowKit
open Go.Proofs.YtinnliapfdpfpaaDoor.R (Bs str Env gTop parses_any)

theorem own : ownKnob Tryd.prog.godebug = none := by kernel_rfl
theorem laidOut : laidOutB Tryd.prog = true := by kernel_rfl
theorem gP : Tryd.prog.globalNamed "internal/strconv.uint64pow10" = some 3 := by kernel_rfl
theorem gPType : (Tryd.prog.globals[3]?).map (·.type) = some 215 := by kernel_rfl
theorem cellsP : Tryd.prog.cellsOf 215 = 20 := by kernel_rfl
theorem cellsU : Tryd.prog.cellsOf 117 = 1 := by kernel_rfl
theorem cellsS : Tryd.prog.cellsOf 9 = 1 := by kernel_rfl
theorem laid_is : Rows.parsesUptoRow.laid = [("math/bits.deBruijn32tab", Rows.laid_math_bits_deBruijn32tab), ("math/bits.deBruijn64tab", Rows.laid_math_bits_deBruijn64tab), ("internal/strconv.uint64pow10", Lib.tabData .u64 Lib.pow10Tab),
    ("unicode/utf8.acceptRanges", Rows.laid_unicode_utf8_acceptRanges), ("unicode/utf8.first", Rows.laid_unicode_utf8_first)] := by kernel_rfl
theorem cell_lt {w : World} {b j : Nat} {v : Value} (h : w.cell? ⟨b, j, none⟩ = some v) : b < w.heap.size := World.block_lt_of_cell? w ⟨b, j, none⟩ h
theorem env_at {W : World} (h : laidMetH Tryd.prog Rows.parsesUptoRow.laid W) (hsh : W.ShapedOpen Tryd.prog) : Env W := by
  have h1 : laidMet Tryd.prog [("math/bits.deBruijn32tab", Rows.laid_math_bits_deBruijn32tab), ("math/bits.deBruijn64tab", Rows.laid_math_bits_deBruijn64tab), ("internal/strconv.uint64pow10", Lib.tabData .u64 Lib.pow10Tab),
    ("unicode/utf8.acceptRanges", Rows.laid_unicode_utf8_acceptRanges), ("unicode/utf8.first", Rows.laid_unicode_utf8_first)] W := by rw [← laid_is]; exact h
  have tP : Lib.TabIs Tryd.prog W "internal/strconv.uint64pow10" .u64 Lib.pow10Tab := Lib.tabIs_of_head gP gPType Tryd.underlying215 Tryd.underlying117 cellsU cellsP (laidMet.tail (laidMet.tail h1))
  have hm := Tryd.laysM145.s1_3 W hsh
  refine ⟨hm, tP, ?_⟩
  obtain ⟨m, hm⟩ := hm
  have l1 : 2 < W.heap.size := cell_lt hm
  have l2 : 3 < W.heap.size := cell_lt (tP.cell gP 0 (by decide))
  unfold gTop
  omega

/-- Bulk of texts: how many, and how long each. -/
theorem bulk_strs {H : Type} : ∀ (ss : List ByteArray), ss.length ≤ Rows.uptoBulkAll (strs ss : List (DataW H)) ∧ ∀ s ∈ ss, s.size ≤ Rows.uptoBulkAll (strs ss : List (DataW H)) := by
  intro ss
  induction ss with
  | nil => exact ⟨by simp [strs, Rows.uptoBulkAll], fun s hs => by cases hs⟩
  | cons x ss ih =>
    have e : Rows.uptoBulkAll (strs (x :: ss) : List (DataW H)) = x.data.toList.length + 1 + Rows.uptoBulkAll (strs ss : List (DataW H)) := by
      simp only [strs, List.map_cons, Rows.uptoBulkAll, Rows.uptoBulk]
    have ex : x.data.toList.length = x.size := by rw [Array.length_toList]; rfl
    rw [e]
    refine ⟨by simp only [List.length_cons]; omega, fun s hs => ?_⟩
    rcases List.mem_cons.1 hs with rfl | hs
    · omega
    · have := ih.2 s hs; omega

/-- The texts that came in, nil or not, as the walk wants them. -/
theorem open_arg {H : Type} {enc : TypeId × Value → H} {W : World} {a0 : Option Addr} {len cap fuel : Nat} {x : DataW H × List MemPlace}
    (hf : DataW.trod enc Tryd.prog W 0 (fun _ => true) true fuel 28 [.slice a0 len cap] = some x) (hk : Rows.uptoSmall H [x.1] = true) :
    ∃ ts : List Bs, ts.length = len ∧ (∀ k (hk : k < ts.length), ∃ b o, a0 = some ⟨b, o, none⟩ ∧ b < W.heap.size ∧ W.cell? ⟨b, o + k, none⟩ = some (str ts[k])) ∧ ts.length ≤ 1048576 ∧ ∀ t ∈ ts, t.length ≤ 1048576 := by
  have hbulk : Rows.uptoBulkAll [x.1] ≤ 1048576 := of_decide_eq_true hk
  rcases open_strings Tryd.underlying28 Tryd.underlying9 cellsS hf with ⟨hcs, hx⟩ | ⟨a, len', cap', ss, hcs, _, hl, hm, hz, hx, hcell, _⟩
  · simp at hcs
    obtain ⟨rfl, rfl, rfl⟩ := hcs
    exact ⟨[], rfl, fun k hk => absurd hk (by simp), by simp, fun t ht => by cases ht⟩
  · simp at hcs
    obtain ⟨rfl, rfl, rfl⟩ := hcs
    subst hx
    simp only [if_true] at hz
    obtain ⟨b, off, spot⟩ := a
    obtain ⟨u1, u2⟩ := bulk_strs (H := H) (ss.take len)
    have hb2 : Rows.uptoBulkAll (strs (ss.take len) : List (DataW H)) ≤ 1048576 := by
      simp only [Rows.uptoBulkAll, Rows.uptoBulk] at hbulk
      omega
    refine ⟨(ss.take len).map (·.data.toList), by simp; omega, fun k hk => ?_, by simp at u1 ⊢; omega, fun t ht => ?_⟩
    · simp only [List.length_map, List.length_take] at hk
      have hc := hcell k (by omega)
      have hspot : spot = none := by simpa [Addr.add] using World.cell?_spot (hcell 0 (by omega))
      subst hspot
      refine ⟨b, off, rfl, ?_, ?_⟩
      · simp only [Addr.add_lit] at hc
        exact cell_lt hc
      · simp only [Addr.add_lit] at hc
        rw [hc]
        have hk2 : k < ss.length := by omega
        simp [List.getD, hk2]
    · obtain ⟨s, hs, rfl⟩ := List.mem_map.1 ht
      have := u2 s hs
      have ex : s.data.toList.length = s.size := by rw [Array.length_toList]; rfl
      omega

set_option maxRecDepth 100000 in
theorem contract (H : Type) (enc : TypeId × Value → H) (W : World) (base : Nat) (args : Array Value) (ds gs : List (DataW H)) (before : List MemPlace)
    (hval : ∀ (j : Nat) t v, Tryd.f4.params[j]? = some t → args[j]? = some v → Value.okWide Tryd.prog W .any base t v)
    (hW : DataW.Whole enc Tryd.prog Tryd.f4.params.toList Rows.parsesSpec.vars false W args.toList ds gs before)
    (hk : Rows.uptoSmall H (ds ++ gs) = true) (hL : laidMetH Tryd.prog Rows.parsesUptoRow.laid W) (hsh : W.ShapedOpen Tryd.prog) :
    Calls Tryd.prog 4 args W fun e W' => ∃ v, e = .returned v ∧ Rows.parsesSpec.post enc Tryd.prog Tryd.f4 false true false false W args v W' := by
  have hW' := hW
  obtain ⟨p, q, hA0, hV, rfl, hfz, hnd⟩ := hW
  have hA : DataW.TrodAll enc Tryd.prog W 0 (fun _ => true) true Tryd.f4.params.toList args.toList ds p := hA0
  rw [Tryd.params4] at hA hval
  obtain ⟨v0, vs0, d0, ds0, p0, q0, hargs, rfl, rfl, h0, r0⟩ := trodAll_cons hA
  obtain ⟨rfl, rfl, rfl⟩ := trodAll_nil r0
  obtain rfl : args = #[v0] := by cases args; simp_all
  obtain ⟨rfl, rfl⟩ := trodVars_none hV
  obtain ⟨a0, lt, ct, rfl⟩ := okWide_slice Tryd.underlying28 (hval 0 28 v0 rfl rfl)
  have h0k := h0
  obtain ⟨fuel0, hf0⟩ := h0
  clear hA0 hV
  simp only [List.append_nil] at hW' hk
  have hlt : ∀ x ∈ p0, x.block < W.heap.size := fun x hx => by simpa using hW'.lt x (by simp [hx])
  obtain ⟨ts, rfl, hc, hn, ht⟩ := open_arg hf0 hk
  refine (parses_any a0 ct ts W (env_at hL hsh) hc hn ht).mono fun e W' ⟨he, hg⟩ => ?_
  subst he
  exact ⟨_, rfl, _, _, _, [], p0, [], hW', trodAll_cons_mk (shut_bool Tryd.underlying4 _) trodAll_mk0, trodAll_mk1 (Below.trod laidOut (by kernel_rfl) (of_decide_eq_true (by kernel_rfl)) h0k hg hlt), rfl, hg.frame _, fun h => by cases h⟩

/-- A datum's cells, in order. -/
def flat : DataW Unit → List Value
  | .lit (.int k z) => [.int k z]
  | .agg ps => flats ps
  | _ => []
where flats : List (DataW Unit) → List Value
  | [] => []
  | d :: r => flat d ++ flats r
/-- A block with a datum's cells laid. -/
def relay (d : DataW Unit) : Obj → Obj
  | .cells _ t frozen => .cells (flat d).toArray t frozen
  | o => o
/-- A world for the witness: the settled one, the tables as their initialisers lay them. -/
noncomputable def laidWorld (os : Os) : World :=
  { World.holding Tryd.prog os ⟨#[], #[], []⟩ with heap := (((((World.holding Tryd.prog os ⟨#[], #[], []⟩).heap.modify 6 (relay Rows.laid_math_bits_deBruijn32tab)).modify 7 (relay Rows.laid_math_bits_deBruijn64tab)).modify 3 (relay Rows.laid_internal_strconv_uint64pow10)).modify 5 (relay Rows.laid_unicode_utf8_acceptRanges)).modify 4 (relay Rows.laid_unicode_utf8_first) }
theorem laid_met (os : Os) : laidMet Tryd.prog Rows.parsesUptoRow.laid ((laidWorld os).forCall (fun _ _ => 0) ⟨#[], #[.slice none 0 0], []⟩).memory :=
  laidMet_of_run' 8 (by kernel_rfl) (by kernel_rfl)
theorem reads (os : Os) {H : Type} (enc : TypeId × Value → H) : ∃ places, DataW.whole enc Tryd.prog ((laidWorld os).forCall (fun _ _ => 0) ⟨#[], #[.slice none 0 0], []⟩).memory Tryd.f4.params.toList Rows.parsesSpec.vars false #[Value.slice none 0 0].toList 8 = some ([.nil], [], places) :=
  ⟨[], by kernel_rfl⟩

set_option maxRecDepth 100000 in
theorem lifted (os : Os) (started : os.Started) (H : Type) (enc : TypeId × Value → H) (F : Stop.Interp) :
    ReturnsInHanded {} Tryd.checked os 4 .any ((Rows.OpenSpec.upto Rows.parsesSpec).preRow enc Tryd.prog Tryd.f4 Rows.parsesUptoRow.domain false Rows.parsesUptoRow.laid) (((Rows.OpenSpec.upto Rows.parsesSpec).at F).post enc Tryd.prog Tryd.f4 false true false false) := by
  obtain ⟨places, hx⟩ := reads os enc
  refine returnsInHanded_of_row (C := Tryd.checked) (s := Rows.OpenSpec.upto Rows.parsesSpec) own started (by kernel_rfl) Tryd.func4
    (witness_row_at (enc := enc) (C := Tryd.checked) false (laidWorld os) #[.slice none 0 0] rfl (by kernel_rfl) (by kernel_rfl) (by kernel_rfl)
      (OpenSpec.preRow_of_cond 8 hx (by kernel_rfl) (fun k hk => by cases hk; kernel_rfl) (by kernel_rfl) (laid_met os))) ?_
  intro W base args ds gs before hval hW _ hcond _ hL hsh _
  exact contract H enc W base args ds gs before hval hW (hcond _ rfl) hL hsh

theorem said : Rows.ParsesUptoSaid :=
  OpenClaim.holds_of_cond 4 Tryd.f4 rfl rfl rfl rfl rfl rfl rfl ⟨rfl, rfl, rfl, rfl, rfl⟩ rfl rfl rfl rfl rfl (by kernel_rfl) Tryd.func4 (by kernel_rfl)
    (of_decide_eq_true (by kernel_rfl)) (by unfold Func.isWrapper; first | (rw [if_pos (by decide +kernel)]; kernel_rfl) | (rw [if_neg (by decide +kernel)]; exact ⟨rfl, rfl⟩))
    (fun os started H enc _ F => by rw [OpenClaim.pre_eq_preRow]; exact lifted os started H enc F)

theorem plain (f : FuncId) (fn : Func) (hf : Tryd.pinned.checked.prog.funcNamed "larder/larderlaw.Parses" = some f) (hfn : Tryd.pinned.checked.prog.funcs[f]? = some fn) :
    true = Tryd.pinned.checked.prog.looks [] ∧ ∀ (j : Nat) t, fn.params[j]? = some t → Tryd.pinned.checked.prog.wantsStandIn t = false := by
  obtain rfl : f = 4 := Option.some.inj ((show Tryd.prog.funcNamed "larder/larderlaw.Parses" = some 4 by kernel_rfl).symm.trans hf) |>.symm
  obtain rfl : fn = Tryd.f4 := (Option.some.inj (Tryd.func4.symm.trans hfn)).symm
  refine ⟨by kernel_rfl, fun j t ht => ?_⟩
  rw [Tryd.params4] at ht
  obtain rfl : t = 28 := by simpa using Array.mem_of_getElem? ht
  exact (show Tryd.prog.wantsStandIn 28 = false by kernel_rfl)

theorem card : Rows.ParsesUptoCardSaid :=
  Claim7.holds_tied_plain_at .later [] _ _ _ _ said (fun _ h => by cases h) (by kernel_rfl) (fun _ h => by cases h) parsesUpto_row_tie rfl ⟨rfl, rfl⟩ (by kernel_rfl) rfl plain (by kernel_rfl)
end Go.Proofs.YtinnliapfdpfpaaDoor.parsesProof
namespace Go.Proofs.YtinnliapfdpfpaaDoor
theorem parses_upto_card : Rows.ParsesUptoCardSaid := parsesProof.card
end Go.Proofs.YtinnliapfdpfpaaDoor
