/-
  ONE ROUND of the document's hash.
-/
import Derived.Test.YtaeabbmekmjcaaaGreatDoorHBig
import Derived.Deep.RegionHeld3
namespace Go.Proofs.YtaeabbmekmjcaaaGreatDoor
open Go.RowKit
def iv (x : Nat) : Value := .int .i64 (x : Int)
/-- One round: the eight words behind it. -/
def rnd8 (a b c d e f g h more : Nat) : List Nat :=
  [(h + bs1 e + chs e f g + more + (bs0 a + mst a b c)) % 4294967296, a, b, c, (d + (h + bs1 e + chs e f g + more)) % 4294967296, e, f, g]

theorem wrap_mod (X : Int) (x : Nat) (e : X = (x : Int)) (h : x < 4611686018427387904) : (IntKind.i64.wrap X).tmod 4294967296 = ((x % 4294967296 : Nat) : Int) := by
  have e1 : IntKind.i64.wrap X = (x : Int) := by rw [IntKind.wrap_i64, e]; omega
  rw [e1, Int.tmod_eq_emod_of_nonneg (by omega)]; omega
theorem rnd_cells (a b c d e f g h more : Nat) (_ha : a < 4294967296) (_hb : b < 4294967296) (_hc : c < 4294967296) (hd : d < 4294967296) (_he : e < 4294967296) (_hf : f < 4294967296) (_hg : g < 4294967296) (hh : h < 4294967296)
    (hm : more < 8589934592) (s1 : bs1 e < 4294967296) (s0 : bs0 a < 4294967296) (sc : chs e f g < 4294967296) (sm : mst a b c < 4294967296) :
    #[Value.int .i64 ((IntKind.i64.wrap ((h : Int) + (bs1 e : Nat) + (chs e f g : Nat) + (more : Nat) + ((bs0 a : Nat) + (mst a b c : Nat)))).tmod 4294967296), Value.int .i64 (a : Nat), Value.int .i64 (b : Nat), Value.int .i64 (c : Nat),
      Value.int .i64 ((IntKind.i64.wrap ((d : Int) + ((h : Int) + (bs1 e : Nat) + (chs e f g : Nat) + (more : Nat)))).tmod 4294967296), Value.int .i64 (e : Nat), Value.int .i64 (f : Nat), Value.int .i64 (g : Nat)] =
    ((rnd8 a b c d e f g h more).map iv).toArray := by
  unfold rnd8
  generalize bs1 e = S1 at *
  generalize bs0 a = S0 at *
  generalize chs e f g = C at *
  generalize mst a b c = M at *
  have e1 : (IntKind.i64.wrap ((h : Int) + (S1 : Nat) + (C : Nat) + (more : Nat) + ((S0 : Nat) + (M : Nat)))).tmod 4294967296 = (((h + S1 + C + more + (S0 + M)) % 4294967296 : Nat) : Int) := by
    exact wrap_mod _ _ (by omega) (by omega)
  have e2 : (IntKind.i64.wrap ((d : Int) + ((h : Int) + (S1 : Nat) + (C : Nat) + (more : Nat)))).tmod 4294967296 = (((d + (h + S1 + C + more)) % 4294967296 : Nat) : Int) := by
    exact wrap_mod _ _ (by omega) (by omega)
  rw [e1, e2]
  rfl
set_option maxHeartbeats 1000000 in
theorem rround_any (a b c d e f g h more : Nat) (ha : a < 4294967296) (hb : b < 4294967296) (hc : c < 4294967296) (hd : d < 4294967296) (he : e < 4294967296) (hf : f < 4294967296) (hg : g < 4294967296) (hh : h < 4294967296)
    (hm : more < 8589934592) (B C : Nat) (w : World)
    (c0 : w.cell? ⟨B, 0, none⟩ = some (.int .i64 a)) (c1 : w.cell? ⟨B, 1, none⟩ = some (.int .i64 b)) (c2 : w.cell? ⟨B, 2, none⟩ = some (.int .i64 c)) (c3 : w.cell? ⟨B, 3, none⟩ = some (.int .i64 d))
    (c4 : w.cell? ⟨B, 4, none⟩ = some (.int .i64 e)) (c5 : w.cell? ⟨B, 5, none⟩ = some (.int .i64 f)) (c6 : w.cell? ⟨B, 6, none⟩ = some (.int .i64 g)) (c7 : w.cell? ⟨B, 7, none⟩ = some (.int .i64 h)) :
    Calls Tryz.prog 89 #[.slice (some ⟨B, 0, none⟩) 8 C, .int .i64 more] w fun e' w' =>
      e' = .returned (.slice (some ⟨w.heap.size, 0, none⟩) 8 8) ∧ ∃ q, w' = (w.alloc (.cells ((rnd8 a b c d e f g h more).map iv).toArray 3)).drewN q := by
  have r6 := rotr_lt e 6 he (by omega)
  have r11 := rotr_lt e 11 he (by omega)
  have r25 := rotr_lt e 25 he (by omega)
  have r2 := rotr_lt a 2 ha (by omega)
  have r13 := rotr_lt a 13 ha (by omega)
  have r22 := rotr_lt a 22 ha (by omega)
  go_enter Tryz.func89, Tryz.ntmps89
  go_wp2_with fail
  refine (turn_any e 6 he (by omega) _).mono ?_
  rintro e' w' ⟨rfl, rfl⟩
  go_wp2_with fail
  refine (turn_any e 11 he (by omega) _).mono ?_
  rintro e' w' ⟨rfl, rfl⟩
  go_wp2_with fail
  refine (rxor_any _ _ r6 r11 _).mono ?_
  rintro e' w' ⟨rfl, rfl⟩
  go_wp2_with fail
  refine (turn_any e 25 he (by omega) _).mono ?_
  rintro e' w' ⟨rfl, rfl⟩
  go_wp2_with fail
  refine (rxor_any _ _ (xor32 r6 r11) r25 _).mono ?_
  rintro e' w' ⟨rfl, rfl⟩
  have s1 := bs1_lt e he
  rw [show rotr e 6 ^^^ rotr e 11 ^^^ rotr e 25 = bs1 e from rfl]
  go_wp2_with fail
  refine (turn_any a 2 ha (by omega) _).mono ?_
  rintro e' w' ⟨rfl, rfl⟩
  go_wp2_with fail
  refine (turn_any a 13 ha (by omega) _).mono ?_
  rintro e' w' ⟨rfl, rfl⟩
  go_wp2_with fail
  refine (rxor_any _ _ r2 r13 _).mono ?_
  rintro e' w' ⟨rfl, rfl⟩
  go_wp2_with fail
  refine (turn_any a 22 ha (by omega) _).mono ?_
  rintro e' w' ⟨rfl, rfl⟩
  go_wp2_with fail
  refine (rxor_any _ _ (xor32 r2 r13) r22 _).mono ?_
  rintro e' w' ⟨rfl, rfl⟩
  have s0 := bs0_lt a ha
  rw [show rotr a 2 ^^^ rotr a 13 ^^^ rotr a 22 = bs0 a from rfl]
  clear r6 r11 r25 r2 r13 r22
  have sc := chs_lt e f g hf hg
  have sm := mst_lt a b c hb hc
  obtain ⟨w2, hw2⟩ : ∃ w2, w2 = w.drew.drew.drew.drew.drew.drew := ⟨_, rfl⟩
  rw [← hw2]
  have d1 : w2.cell? ⟨B, 1, none⟩ = some (.int .i64 b) := by rw [hw2]; exact c1
  have d2 : w2.cell? ⟨B, 2, none⟩ = some (.int .i64 c) := by rw [hw2]; exact c2
  have d3 : w2.cell? ⟨B, 3, none⟩ = some (.int .i64 d) := by rw [hw2]; exact c3
  have d5 : w2.cell? ⟨B, 5, none⟩ = some (.int .i64 f) := by rw [hw2]; exact c5
  have d6 : w2.cell? ⟨B, 6, none⟩ = some (.int .i64 g) := by rw [hw2]; exact c6
  have d7 : w2.cell? ⟨B, 7, none⟩ = some (.int .i64 h) := by rw [hw2]; exact c7
  have HW : Hid (w2 = w.drewN 6) := hw2
  clear hw2 c0 c1 c2 c3 c4 c5 c6 c7
  go_wp2_with fail
  go_quiet ((go_at_call 113; exact Calls.quiet_of_same (choose_any _ _ _ he hf hg _)))
  go_wp2_with fail
  obtain ⟨n1, hn1⟩ : ∃ n1, n1 = nq := ⟨_, rfl⟩
  rw [← hn1]
  clear hn1 nq
  obtain ⟨w3, hw3⟩ : ∃ w3, w3 = w2.drewN n1 := ⟨_, rfl⟩
  rw [← hw3]
  have f1 : w3.cell? ⟨B, 1, none⟩ = some (.int .i64 b) := by rw [hw3]; exact d1
  have f2 : w3.cell? ⟨B, 2, none⟩ = some (.int .i64 c) := by rw [hw3]; exact d2
  have f3 : w3.cell? ⟨B, 3, none⟩ = some (.int .i64 d) := by rw [hw3]; exact d3
  have f5 : w3.cell? ⟨B, 5, none⟩ = some (.int .i64 f) := by rw [hw3]; exact d5
  have f6 : w3.cell? ⟨B, 6, none⟩ = some (.int .i64 g) := by rw [hw3]; exact d6
  have HW3 : Hid (w3 = w.drewN (6 + n1)) := by show _ = _; rw [hw3, HW.out]; exact World.drewN_drewN _ _ _
  clear hw3 d1 d2 d3 d5 d6 d7 HW
  go_quiet ((go_at_call 114; exact Calls.quiet_of_same (most_any _ _ _ ha hb hc _)))
  go_wp2_with fail
  go_region_held3 (fun w' => w'.cell? ⟨B, 1, none⟩ = some (.int .i64 b) ∧ w'.cell? ⟨B, 2, none⟩ = some (.int .i64 c) ∧ w'.cell? ⟨B, 3, none⟩ = some (.int .i64 d) ∧ w'.cell? ⟨B, 5, none⟩ = some (.int .i64 f) ∧ w'.cell? ⟨B, 6, none⟩ = some (.int .i64 g)) (go_keep) (fail)
  rename_i hHeld
  clear hHeld
  go_wp2
  go_ret
  have HCC := rnd_cells a b c d e f g h more ha hb hc hd he hf hg hh hm s1 s0 sc sm
  refine ⟨by rw [HW3.out]; rfl, 6 + n1 + (nq + 1), ?_⟩
  rw [HCC, HW3.out, World.drewN_drewN]
  rfl
end Go.Proofs.YtaeabbmekmjcaaaGreatDoor
