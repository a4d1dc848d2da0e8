/-
  THE READER OF JSON: spaces are skipped, a token is taken.
-/
import Derived.Test.YtinnliapfdpfpaaDoorPRep
import Derived.Test.YtinnliapfdpfpaaDoorShelf
import Derived.Shelf.Strings.SlTrimAscii
namespace Go.Proofs.YtinnliapfdpfpaaDoor.P
open Go.RowKit

theorem trim_skip : ∀ s : List UInt8, Lib.trimLeftS s [32, 10] = skip s
  | [] => rfl
  | c :: r => by
    have ih := trim_skip r
    unfold Lib.trimLeftS at *
    rw [List.dropWhile_cons, skip]
    have e : ([32, 10] : List UInt8).contains c = spc c := by
      unfold spc
      rw [List.contains_cons, List.contains_cons]; simp
    rw [e, ih]
theorem trim_any (l : List UInt8) (w : World) :
    Calls Tryd.prog 142 #[str l, .string ⟨#[32, 10]⟩] w fun e w' => e = .returned (str (skip l)) ∧ Below w.heap.size w w' := by
  have h := Any.strings_TrimLeft_laid Tryd.lays161 (by kernel_rfl) ⟨l.toArray⟩ ⟨#[32, 10]⟩ w (by decide) (by
    intro j b hb
    match j, hb with
    | 0, hb => simp at hb; subst hb; decide
    | 1, hb => simp at hb; subst hb; decide
    | j + 2, hb => simp at hb)
  refine h.mono ?_
  rintro e w' ⟨rfl, hk⟩
  refine ⟨?_, hk⟩
  show Ending.returned (.string ⟨(Lib.trimLeftS l [32, 10]).toArray⟩) = _
  rw [trim_skip]
set_option maxHeartbeats 400000 in
theorem skip_any (b : Nat) (l : List UInt8) (w : World) (h : rdr w b l) :
    Calls Tryd.prog 114 #[.pointer (some ⟨b, 0, none⟩)] w fun e w' => e = .returned (.tuple #[]) ∧ rdr w' b (skip l) ∧ w.grownBy w' (some b) := by
  have H := h
  obtain ⟨h0, h1⟩ := h
  go_enter Tryd.func114, Tryd.ntmps114
  go_wp2_with fail
  refine (trim_any l w).mono ?_
  rintro e w1 ⟨rfl, k1⟩
  have H1 := H.below H.lt k1
  have c1 := H1.1
  have c2 := H1.2
  go_wp2
  go_end0
  exact ⟨rfl, H1.set _, grown_trans (grown_below k1 (Nat.le_refl _)) (grown_set _ _ _ _)⟩
theorem cut_any (l t : List UInt8) (w : World) :
    Calls Tryd.prog 152 #[str l, str t] w fun e w' => e = .returned (.tuple #[str ((cutP t l).getD l), .bool (cutP t l).isSome]) ∧ w = w' := by
  refine (Tryd.strings_CutPrefix ⟨l.toArray⟩ ⟨t.toArray⟩ w).mono ?_
  rintro e w' ⟨rfl, rfl⟩
  refine ⟨?_, rfl⟩
  have e1 : Lib.hasPrefix l t = (cutP t l).isSome := by unfold Lib.hasPrefix cutP; cases t.isPrefixOf l <;> rfl
  have e2 : Lib.trimPrefix l t = (cutP t l).getD l := by unfold Lib.trimPrefix Lib.hasPrefix cutP; cases t.isPrefixOf l <;> rfl
  show Ending.returned (.tuple #[.string ⟨(Lib.trimPrefix l t).toArray⟩, .bool (Lib.hasPrefix l t)]) = _
  rw [e1, e2]
set_option maxHeartbeats 400000 in
theorem take_any (b : Nat) (l t : List UInt8) (w : World) (h : rdr w b l) :
    Calls Tryd.prog 138 #[.pointer (some ⟨b, 0, none⟩), str t] w fun e w' => e = .returned (.bool (tak t l).isSome) ∧ rdr w' b (taken t l) ∧ w.grownBy w' (some b) := by
  have C : Hid (_) := cut_any (skip l) t
  go_enter Tryd.func138, Tryd.ntmps138
  go_wp2_with fail
  refine (skip_any b l w h).mono ?_
  rintro e w1 ⟨rfl, H1, k1⟩
  have c1 := H1.1
  have c2 := H1.2
  go_wp2_with fail
  refine (C.out w1).mono ?_
  rintro e w2 ⟨rfl, rfl⟩
  go_wp2
  go_ret
  exact ⟨rfl, H1.set _, grown_trans k1 (grown_set _ _ _ _)⟩
end Go.Proofs.YtinnliapfdpfpaaDoor.P
