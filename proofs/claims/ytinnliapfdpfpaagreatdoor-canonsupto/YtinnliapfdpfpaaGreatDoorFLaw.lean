/-
  THE LAW CANONS, WALKED.
-/
import Derived.Test.YtinnliapfdpfpaaGreatDoorFTop
namespace Go.Proofs.YtinnliapfdpfpaaGreatDoor.R
open Go.RowKit
open Go.Proofs.YtinnliapfdpfpaaGreatDoor.C (ret_bool)

set_option maxHeartbeats 400000 in
theorem num_q (x : Int) (w : World) : Calls Tryz.prog 14 #[.int .i64 x] w fun e w' => e = .returned (.int .i64 x) ∧ w = w' := by
  go_enter Tryz.func14, Tryz.ntmps14
  go_wp2
  go_ret
  exact ⟨rfl, rfl⟩

set_option maxRecDepth 20000 in
set_option maxHeartbeats 1000000 in
theorem canons_any (text list secret : Bs) (t : Int) (w : World) (E : Env w) (L : Laid w) (h1 : text.length ≤ 2000000) (h2 : list.length ≤ 2000000) (h3 : secret.length ≤ 2000000) :
    Calls Tryz.prog 3 #[str text, str list, str secret, .int .i64 t] w fun e w' => e = .returned (.bool true) ∧ Below w.heap.size w w' := by
  have C1 : Hid (_) := lcanon_any text list
  have C2 : Hid (_) := rcanon_any text list
  have C3 : Hid (_) := lsign_any secret t text
  have C4 : Hid (_) := rsign_any secret t text
  generalize cnOf text list = x at *
  generalize signOf secret t text = y at *
  obtain ⟨xt, xn⟩ := x
  obtain ⟨yt, yn⟩ := y
  simp only [sgEnd] at C1 C2 C3 C4
  go_enter Tryz.func3, Tryz.ntmps3
  go_wp2_with fail
  refine (C1.out _ E L (by omega) h2).mono ?_
  rintro e w1 ⟨rfl, b1⟩
  have E1 := E.call b1
  have L1 := L.call b1
  clear E L
  go_wp2_with fail
  refine (C2.out _ (by omega) h2).mono ?_
  rintro e w2 ⟨rfl, hb2⟩
  have E2 := E1.call hb2
  have L2 := L1.call hb2
  have b2 := b1.trans (hb2.mono b1.size)
  clear E1 L1 hb2 b1
  go_wp2_with fail
  refine (C3.out _ E2 L2 (by omega) (by omega)).mono ?_
  rintro e w3 ⟨rfl, hb3⟩
  have b3 := b2.trans (hb3.mono b2.size)
  clear E2 L2 hb3 b2
  go_wp2_with fail
  refine (C4.out _ (by omega) (by omega)).mono ?_
  rintro e w4 ⟨rfl, hb4⟩
  have b4 := b3.trans (hb4.mono b3.size)
  clear hb4 b3
  go_wp2_with (go_at_call 14; refine (num_q _ _).mono ?_; rintro e w5 ⟨rfl, rfl⟩)
  go_ret
  exact ⟨rfl, b4⟩
end Go.Proofs.YtinnliapfdpfpaaGreatDoor.R
