/-
  THE ROW OF Hashes AND ITS TIED CARD.
-/
import Derived.Test.YtinnliapfdpfpaaDoorCards
import Derived.Test.YtinnliapfdpfpaaDoorTie
import Derived.Test.YtinnliapfdpfpaaDoorMLaw
import Derived.WalkKit
import Derived.ProofKit
import Derived.OpenShut
import Derived.Deep.DeepHandedRow
import Derived.Lib.LaidTab
import Derived.Stop.LaidErr
namespace Go.Proofs.YtinnliapfdpfpaaDoor.hashesProof
open Go.ChangeShapes Go.WideShapes Go.ChangeAt Go.RowKit
open Go.ChangeMaps (open_string shut_string)

theorem own : ownKnob Tryd.prog.godebug = none := by kernel_rfl
theorem gS : Tryd.prog.globalNamed "larder/mark.firstState" = some 0 := by kernel_rfl
theorem gSType : (Tryd.prog.globals[0]?).map (·.type) = some 76 := by kernel_rfl
theorem gK : Tryd.prog.globalNamed "larder/mark.roundWords" = some 1 := by kernel_rfl
theorem gKType : (Tryd.prog.globals[1]?).map (·.type) = some 147 := by kernel_rfl
theorem cells8 : Tryd.prog.cellsOf 76 = 8 := by kernel_rfl
theorem cells64 : Tryd.prog.cellsOf 147 = 64 := by kernel_rfl
theorem cells1 : Tryd.prog.cellsOf 24 = 1 := by kernel_rfl
def zS : List Int := hL.map Int.ofNat
def zK : List Int := kL.map Int.ofNat
theorem laid_is : Rows.hashesRow.laid = [("larder/mark.firstState", Lib.tabData .u32 zS), ("larder/mark.roundWords", Lib.tabData .u32 zK)] := by kernel_rfl
theorem zS_get (j : Nat) (h : j < 8) : zS.getD j 0 = ((hL.getD j 0 : Nat) : Int) := by
  have : ∀ n : Fin 8, zS.getD n.val 0 = ((hL.getD n.val 0 : Nat) : Int) := by decide +kernel
  exact this ⟨j, h⟩
theorem zK_get (j : Nat) (h : j < 64) : zK.getD j 0 = ((kL.getD j 0 : Nat) : Int) := by
  have : ∀ n : Fin 64, zK.getD n.val 0 = ((kL.getD n.val 0 : Nat) : Int) := by decide +kernel
  exact this ⟨j, h⟩
theorem zS_len : zS.length = 8 := by decide +kernel
theorem zK_len : zK.length = 64 := by decide +kernel
theorem cell_lt {w : World} {b j : Nat} {v : Value} (h : w.cell? ⟨b, j, none⟩ = some v) : b < w.heap.size := by
  apply Classical.byContradiction
  intro hn
  have e : w.heap[b]? = none := Array.getElem?_eq_none (by omega)
  simp [World.cell?, e] at h
theorem laid_at {W : World} (h : laidMetH Tryd.prog Rows.hashesRow.laid W) : Laid W := by
  have h1 : laidMet Tryd.prog [("larder/mark.firstState", Lib.tabData .u32 zS), ("larder/mark.roundWords", Lib.tabData .u32 zK)] W := by rw [← laid_is]; exact h
  have tS : Lib.TabIs Tryd.prog W "larder/mark.firstState" .u32 zS := Lib.tabIs_of_head gS gSType Tryd.underlying76 Tryd.underlying24 cells1 cells8 h1
  have tK : Lib.TabIs Tryd.prog W "larder/mark.roundWords" .u32 zK := Lib.tabIs_of_head gK gKType Tryd.underlying147 Tryd.underlying24 cells1 cells64 (laidMet.tail h1)
  have cS : ∀ j, j < 8 → W.cell? ⟨0, j, none⟩ = some (.int .u32 (hL.getD j 0 : Nat)) := fun j hj => by rw [tS.cell gS j (by rw [zS_len]; exact hj), zS_get j hj]
  have cK : ∀ j, j < 64 → W.cell? ⟨1, j, none⟩ = some (.int .u32 (kL.getD j 0 : Nat)) := fun j hj => by rw [tK.cell gK j (by rw [zK_len]; exact hj), zK_get j hj]
  exact ⟨cK, cS, cell_lt (cK 0 (by omega)), cell_lt (cS 0 (by omega))⟩
set_option maxRecDepth 100000 in
theorem contract (H : Type) (enc : TypeId × Value → H) (W : World) (base : Nat) (args : Array Value) (ds gs : List (DataW H)) (before : List MemPlace)
    (hval : ∀ (j : Nat) t v, Tryd.f3.params[j]? = some t → args[j]? = some v → Value.okWide Tryd.prog W .any base t v)
    (hW : DataW.Whole enc Tryd.prog Tryd.f3.params.toList Rows.hashesSpec.vars false W args.toList ds gs before)
    (hz : (DataW.weightsEach Tryd.prog (Tryd.f3.params.toList ++ (OpenSpec.ofChange Rows.hashesSpec).bare.plain.varTypes Tryd.prog) (ds ++ gs)).all (· ≤ reachBytes) = true) (hL : laidMetH Tryd.prog Rows.hashesRow.laid W) :
    Calls Tryd.prog 3 args W fun e W' => ∃ v, e = .returned v ∧ Rows.hashesSpec.post enc Tryd.prog Tryd.f3 false true false false W args v W' := by
  have hW' := hW
  obtain ⟨p, q, hA0, hV, rfl, hfz, hnd⟩ := hW
  have hA : DataW.TrodAll enc Tryd.prog W 0 (fun _ => true) true Tryd.f3.params.toList args.toList ds p := hA0
  rw [Tryd.params3] at hA hval
  obtain ⟨v0, vs0, d0, ds0, p0, q0, hargs, rfl, rfl, h0, r0⟩ := trodAll_cons hA
  obtain ⟨v1, vs1, d1, ds1, p1, q1, rfl, rfl, rfl, h1, r1⟩ := trodAll_cons r0
  obtain ⟨rfl, rfl, rfl⟩ := trodAll_nil r1
  obtain rfl : args = #[v0, v1] := by cases args; simp_all
  obtain ⟨rfl, rfl⟩ := trodVars_none hV
  obtain ⟨s, rfl, rfl, rfl, hmax⟩ := open_string Tryd.underlying9 (hval 0 9 v0 rfl rfl) h0
  obtain ⟨t, rfl, rfl, rfl, hmax2⟩ := open_string Tryd.underlying9 (hval 1 9 v1 rfl rfl) h1
  clear hA0
  simp only [List.append_nil] at hW'
  have e1 : (⟨s.data.toList.toArray⟩ : ByteArray) = s := rfl
  have e2 : (⟨t.data.toList.toArray⟩ : ByteArray) = t := rfl
  rw [Tryd.params3] at hz
  have z1 := sized_string hz (j := 0) (t := 9) rfl rfl
  have z2 := sized_string hz (j := 1) (t := 9) rfl rfl
  have hr : reachBytes = 140737488351232 := by decide
  have b1 : s.data.toList.length ≤ 400000000000000 := by omega
  have b2 : t.data.toList.length ≤ 400000000000000 := by omega
  have key := hashes_any s.data.toList t.data.toList b1 b2 W (laid_at hL)
  rw [e1, e2] at key
  refine key.mono fun e W' ⟨he, hg⟩ => ?_
  subst he
  exact ⟨_, rfl, _, _, _, [], [], [], hW', trodAll_cons_mk (shut_bool Tryd.underlying4 _) trodAll_mk0, trodAll_cons_mk (shut_string Tryd.underlying9 hmax) (trodAll_cons_mk (shut_string Tryd.underlying9 hmax2) trodAll_mk0), rfl, hg.frame _, fun h => by cases h⟩

/-- A block with these numbers laid. -/
def relay (zs : List Int) : Obj → Obj
  | .cells _ t frozen => .cells (zs.map fun z => Value.int .u32 z).toArray t frozen
  | o => o
/-- A world for the witness: the settled one, the two tables as their initialisers lay them. -/
noncomputable def laidWorld (os : Os) : World :=
  { World.holding Tryd.prog os ⟨#[], #[], []⟩ with heap := ((World.holding Tryd.prog os ⟨#[], #[], []⟩).heap.modify 0 (relay zS)).modify 1 (relay zK) }
theorem laid_met (os : Os) : laidMet Tryd.prog Rows.hashesRow.laid ((laidWorld os).forCall (fun _ _ => 0) ⟨#[], #[.string .empty, .string .empty], []⟩).memory :=
  laidMet_of_run' 8 (by kernel_rfl) (by kernel_rfl)
theorem reads (os : Os) {H : Type} (enc : TypeId × Value → H) : ∃ places, DataW.whole enc Tryd.prog ((laidWorld os).forCall (fun _ _ => 0) ⟨#[], #[.string .empty, .string .empty], []⟩).memory Tryd.f3.params.toList Rows.hashesSpec.vars false #[Value.string .empty, .string .empty].toList 8 = some ([.lit (.string []), .lit (.string [])], [], places) :=
  ⟨[], by kernel_rfl⟩

set_option maxRecDepth 100000 in
theorem lifted (os : Os) (started : os.Started) (H : Type) (enc : TypeId × Value → H) (F : Stop.Interp) :
    ReturnsInHanded {} Tryd.checked os 3 .any ((OpenSpec.ofChange Rows.hashesSpec).preRow enc Tryd.prog Tryd.f3 Rows.hashesRow.domain false Rows.hashesRow.laid) (((OpenSpec.ofChange Rows.hashesSpec).at F).post enc Tryd.prog Tryd.f3 false true false false) := by
  obtain ⟨places, hx⟩ := reads os enc
  refine returnsInHanded_of_row (C := Tryd.checked) (s := OpenSpec.ofChange Rows.hashesSpec) own started (by kernel_rfl) Tryd.func3
    (witness_row_at (enc := enc) (C := Tryd.checked) false (laidWorld os) #[.string .empty, .string .empty] rfl (by kernel_rfl) (by kernel_rfl) (by kernel_rfl)
      (OpenSpec.preRow_of_cond 8 hx (by kernel_rfl) (fun k hk => by cases hk) (by kernel_rfl) (laid_met os))) ?_
  intro W base args ds gs before hval hW _ _ hz hL _ _
  exact contract H enc W base args ds gs before hval hW hz hL

theorem said : Rows.HashesSaid :=
  OpenClaim.holds_of_cond 3 Tryd.f3 rfl rfl rfl rfl rfl rfl rfl ⟨rfl, rfl, rfl, rfl, rfl⟩ rfl rfl rfl rfl rfl (by kernel_rfl) Tryd.func3 (by kernel_rfl)
    (of_decide_eq_true (by kernel_rfl)) (by unfold Func.isWrapper; first | (rw [if_pos (by decide +kernel)]; kernel_rfl) | (rw [if_neg (by decide +kernel)]; exact ⟨rfl, rfl⟩))
    (fun os started H enc _ F => by rw [OpenClaim.pre_eq_preRow]; exact lifted os started H enc F)

theorem plain (f : FuncId) (fn : Func) (hf : Tryd.pinned.checked.prog.funcNamed "larder/larderlaw.Hashes" = some f) (hfn : Tryd.pinned.checked.prog.funcs[f]? = some fn) :
    true = Tryd.pinned.checked.prog.looks [] ∧ ∀ (j : Nat) t, fn.params[j]? = some t → Tryd.pinned.checked.prog.wantsStandIn t = false := by
  obtain rfl : f = 3 := Option.some.inj ((show Tryd.prog.funcNamed "larder/larderlaw.Hashes" = some 3 by kernel_rfl).symm.trans hf) |>.symm
  obtain rfl : fn = Tryd.f3 := (Option.some.inj (Tryd.func3.symm.trans hfn)).symm
  refine ⟨by kernel_rfl, fun j t ht => ?_⟩
  rw [Tryd.params3] at ht
  obtain rfl : t = 9 := by simpa using Array.mem_of_getElem? ht
  exact (show Tryd.prog.wantsStandIn 9 = false by kernel_rfl)

theorem card : Rows.HashesCardSaid :=
  Claim7.holds_tied_plain_at .later [] _ _ _ _ said (fun _ h => by cases h) (by kernel_rfl) (fun _ h => by cases h) hashes_row_tie rfl ⟨rfl, rfl⟩ (by kernel_rfl) rfl plain (by kernel_rfl)
end Go.Proofs.YtinnliapfdpfpaaDoor.hashesProof
namespace Go.Proofs.YtinnliapfdpfpaaDoor
theorem hashes_card : Rows.HashesCardSaid := hashesProof.card
end Go.Proofs.YtinnliapfdpfpaaDoor
