/-
  THE PROGRAM's Hash and hashBehind.
-/
import Derived.Test.YtinnliapfdpfpaaGreatDoorMFin
namespace Go.Proofs.YtinnliapfdpfpaaGreatDoor
open Go.RowKit
/-- The two variables that the program reads, as they are laid. -/
structure Laid (w : World) : Prop where
  k : layK w
  s : ∀ j, j < 8 → w.cell? ⟨0, j, none⟩ = some (.int .u32 (hL.getD j 0 : Nat))
  gk : 2 < w.heap.size
  gs : 0 < w.heap.size
theorem Laid.below {w w' : World} {n : Nat} (h : Laid w) (hb : Below n w w') (hk : 2 < n) (hs : 0 < n) : Laid w' :=
  ⟨fun i hi => (hb.cell (p := ⟨2, i, none⟩) hk).trans (h.k i hi), fun i hi => (hb.cell (p := ⟨0, i, none⟩) hs).trans (h.s i hi), Nat.lt_of_lt_of_le h.gk hb.size, Nat.lt_of_lt_of_le h.gs hb.size⟩
theorem Laid.call {w w' : World} (h : Laid w) (hb : Below w.heap.size w w') : Laid w' := h.below hb h.gk h.gs
theorem Laid.drew {w : World} (h : Laid w) : Laid w.drew := ⟨h.k, h.s, h.gk, h.gs⟩
theorem Laid.alloc {w : World} (h : Laid w) (o : Obj) : Laid (w.alloc o) := h.call ((Below.refl _ _).alloc (Nat.le_refl _) _)
theorem Laid.facts {w : World} (h : Laid w) :
    w.cell? ⟨0, 0, none⟩ = some (.int .u32 1779033703) ∧ w.cell? ⟨0, 1, none⟩ = some (.int .u32 3144134277) ∧ w.cell? ⟨0, 2, none⟩ = some (.int .u32 1013904242) ∧ w.cell? ⟨0, 3, none⟩ = some (.int .u32 2773480762) ∧ w.cell? ⟨0, 4, none⟩ = some (.int .u32 1359893119) ∧ w.cell? ⟨0, 5, none⟩ = some (.int .u32 2600822924) ∧ w.cell? ⟨0, 6, none⟩ = some (.int .u32 528734635) ∧ w.cell? ⟨0, 7, none⟩ = some (.int .u32 1541459225) :=
  ⟨h.s 0 (by omega), h.s 1 (by omega), h.s 2 (by omega), h.s 3 (by omega), h.s 4 (by omega), h.s 5 (by omega), h.s 6 (by omega), h.s 7 (by omega)⟩
theorem fin_any (l : List UInt8) (hl : l.length ≤ 400000000000000) (w : World) (h : Laid w) :
    Calls Tryz.prog 104 #[.agg #[.int .u32 1779033703, .int .u32 3144134277, .int .u32 1013904242, .int .u32 2773480762, .int .u32 1359893119, .int .u32 2600822924, .int .u32 528734635, .int .u32 1541459225], .string ⟨l.toArray⟩, .int .i64 0] w fun e' w' => e' = .returned (.agg ((digest l).map u8v).toArray) ∧ Below w.heap.size w w' := by
  rw [← fin_hash l]
  exact finish_core 1779033703 3144134277 1013904242 2773480762 1359893119 2600822924 528734635 1541459225 hL_small l hl 0 (by omega) w h.k h.gk
set_option maxRecDepth 100000 in
set_option maxHeartbeats 1000000 in
theorem mhash_any (l : List UInt8) (hl : l.length ≤ 400000000000000) (w : World) (h : Laid w) :
    Calls Tryz.prog 63 #[.string ⟨l.toArray⟩] w fun e' w' => e' = .returned (.agg ((digest l).map u8v).toArray) ∧ Below w.heap.size w w' := by
  have CF : Hid (_) := fin_any l hl
  have HLL : Hid (((digest l).map u8v).length = 32) := by show _ = _; rw [List.length_map, digest_len]
  have HLA : Hid (((digest l).map u8v).toArray.size = 32) := by show _ = _; rw [List.size_toArray]; exact HLL.out
  have HON : Hid (∀ v ∈ (digest l).map u8v, v.oneCell' = true) := by intro v hv; rw [List.mem_map] at hv; obtain ⟨x, _, rfl⟩ := hv; rfl
  generalize (digest l).map u8v = L at *
  obtain ⟨w1, hw1⟩ : ∃ w1, w1 = w.alloc (.cells z32 119) := ⟨_, rfl⟩
  have hth : w1.there w.heap.size 0 32 := by
    intro j hj
    have h1 := zeros8_cell w 119 32 j hj
    have h2 := zeros_free w 119 (Array.replicate 32 (.int .u8 0)) j
    rw [hw1, z32_is, Nat.zero_add, h1, h2]
    exact ⟨rfl, rfl⟩
  have HB0 : Hid (Below w.heap.size w w1) := by rw [hw1]; exact (Below.refl _ _).alloc (Nat.le_refl _) _
  have hz0 : w1.heap.size = w.heap.size + 1 := by rw [hw1]; simp
  have HH0 : Hid (Laid w1) := by rw [hw1]; exact h.alloc _
  obtain ⟨q0, q1, q2, q3, q4, q5, q6, q7⟩ := h.facts
  have hgs := h.gs
  clear h
  have HTH : Hid (w1.there w.heap.size 0 32) := hth
  clear hth
  have HZ0 : Hid (w1.heap.size = w.heap.size + 1) := hz0
  clear hz0
  unfold z32 at hw1
  have HW1 : Hid (_) := hw1.symm
  clear hw1
  go_enter Tryz.func63, Tryz.ntmps63
  go_wp2_with (first
    | (go_at_call 104; rw [HW1.out]; refine (CF.out _ HH0.out).mono ?_; rintro e' w2 ⟨rfl, hb2⟩; have HT2 : Hid (w2.there w.heap.size 0 32) := there_below HTH.out hb2 (by rw [HZ0.out]; omega); have HB2 : Hid (Below w.heap.size w w2) := HB0.out.trans (hb2.mono (by rw [HZ0.out]; omega)); clear hb2)
    | (refine wpList_store_mid rfl 119 _ _ rfl w.heap.size 0 L.toArray rfl rfl (by rw [HLA.out]; exact HT2.out) (by rw [HLA.out]; kernel_rfl) (all_oneCell_toArray HON.out) ?_))
  have hr2 := World.rangeAt_setCells_same w2 w.heap.size 0 L (by rw [HLL.out]; exact HT2.out)
  refine bodyPost_ret (v := .agg L.toArray) (results_cell rfl _ _ _ w.heap.size 0 rfl _ (run_loadVar_mid _ _ _ _ _ _ hr2 Tryz.underlying119 rfl (by rw [HLL.out]; kernel_rfl))) rfl ⟨rfl, ?_⟩
  exact HB2.out.trans (below_setCells _ _ _ _ (by omega))
theorem mix1 (B : List UInt8) (hB : B.length = 64) (y0 y1 y2 y3 y4 y5 y6 y7 : Nat) (hy : mixN B hL 1 = [y0, y1, y2, y3, y4, y5, y6, y7]) (w : World) (h : Laid w) :
    Calls Tryz.prog 158 #[.agg #[.int .u32 1779033703, .int .u32 3144134277, .int .u32 1013904242, .int .u32 2773480762, .int .u32 1359893119, .int .u32 2600822924, .int .u32 528734635, .int .u32 1541459225], .string ⟨B.toArray⟩] w fun e' w' => e' = .returned (.agg #[.int .u32 y0, .int .u32 y1, .int .u32 y2, .int .u32 y3, .int .u32 y4, .int .u32 y5, .int .u32 y6, .int .u32 y7]) ∧ Below w.heap.size w w' :=
  mix8 1779033703 3144134277 1013904242 2773480762 1359893119 2600822924 528734635 1541459225 y0 y1 y2 y3 y4 y5 y6 y7 hL_small ⟨B.toArray⟩ (by simp [ByteArray.size, hB]) w h.k h.gk hy
theorem fin1 (B l : List UInt8) (hB : B.length = 64) (hl : l.length ≤ 400000000000000) (y0 y1 y2 y3 y4 y5 y6 y7 : Nat) (hy : mixN B hL 1 = [y0, y1, y2, y3, y4, y5, y6, y7]) (w : World) (h : Laid w) :
    Calls Tryz.prog 104 #[.agg #[.int .u32 y0, .int .u32 y1, .int .u32 y2, .int .u32 y3, .int .u32 y4, .int .u32 y5, .int .u32 y6, .int .u32 y7], .string ⟨l.toArray⟩, .int .i64 64] w fun e' w' => e' = .returned (.agg ((digest (B ++ l)).map u8v).toArray) ∧ Below w.heap.size w w' := by
  have e := fin_digest B l 1 (by omega)
  have hs := mixN_small hL_small B 1
  rw [hy] at e hs
  rw [← e]
  exact finish_core y0 y1 y2 y3 y4 y5 y6 y7 hs l hl 64 (by omega) w h.k h.gk
set_option maxRecDepth 100000 in
set_option maxHeartbeats 1000000 in
theorem behind_any (B l : List UInt8) (hB : B.length = 64) (hl : l.length ≤ 400000000000000) (w : World) (h : Laid w) :
    Calls Tryz.prog 113 #[.string ⟨B.toArray⟩, .string ⟨l.toArray⟩] w fun e' w' => e' = .returned (.agg ((digest (B ++ l)).map u8v).toArray) ∧ Below w.heap.size w w' := by
  obtain ⟨y0, y1, y2, y3, y4, y5, y6, y7, hy⟩ := eight (mixN_len (h := hL) rfl B 1)
  have CM : Hid (_) := mix1 B hB y0 y1 y2 y3 y4 y5 y6 y7 hy
  have CF : Hid (_) := fin1 B l hB hl y0 y1 y2 y3 y4 y5 y6 y7 hy
  clear hy
  have HLL : Hid (((digest (B ++ l)).map u8v).length = 32) := by show _ = _; rw [List.length_map, digest_len]
  have HLA : Hid (((digest (B ++ l)).map u8v).toArray.size = 32) := by show _ = _; rw [List.size_toArray]; exact HLL.out
  have HON : Hid (∀ v ∈ (digest (B ++ l)).map u8v, v.oneCell' = true) := by intro v hv; rw [List.mem_map] at hv; obtain ⟨x, _, rfl⟩ := hv; rfl
  generalize (digest (B ++ l)).map u8v = L at *
  obtain ⟨w1, hw1⟩ : ∃ w1, w1 = w.alloc (.cells z32 119) := ⟨_, rfl⟩
  have HTH : Hid (w1.there w.heap.size 0 32) := by
    intro j hj
    have h1 := zeros8_cell w 119 32 j hj
    have h2 := zeros_free w 119 (Array.replicate 32 (.int .u8 0)) j
    rw [hw1, z32_is, Nat.zero_add, h1, h2]
    exact ⟨rfl, rfl⟩
  have HB0 : Hid (Below w.heap.size w w1) := by rw [hw1]; exact (Below.refl _ _).alloc (Nat.le_refl _) _
  have HZ0 : Hid (w1.heap.size = w.heap.size + 1) := by rw [hw1]; show _ = _; simp
  have HH0 : Hid (Laid w1) := by rw [hw1]; exact h.alloc _
  obtain ⟨q0, q1, q2, q3, q4, q5, q6, q7⟩ := h.facts
  have hgs := h.gs
  clear h
  unfold z32 at hw1
  have HW1 : Hid (_) := hw1.symm
  clear hw1
  go_enter Tryz.func113, Tryz.ntmps113
  go_wp2_with (first
    | (go_at_call 158; rw [HW1.out]; refine (CM.out _ HH0.out).mono ?_; rintro e' w2 ⟨rfl, hb2⟩; have HT2 : Hid (w2.there w.heap.size 0 32) := there_below HTH.out hb2 (by rw [HZ0.out]; omega); have HB2 : Hid (Below w.heap.size w w2) := HB0.out.trans (hb2.mono (by rw [HZ0.out]; omega)); have HH2 : Hid (Laid w2) := HH0.out.call hb2; have HZ2 : Hid (w.heap.size + 1 ≤ w2.heap.size) := by rw [← HZ0.out]; exact hb2.size
       clear hb2)
    | (go_at_call 104; refine (CF.out _ HH2.out).mono ?_; rintro e' w3 ⟨rfl, hb3⟩; have HT3 : Hid (w3.there w.heap.size 0 32) := there_below HT2.out hb3 HZ2.out; have HB3 : Hid (Below w.heap.size w w3) := HB2.out.trans (hb3.mono (Nat.le_of_lt HZ2.out)); clear hb3)
    | (refine wpList_store_mid rfl 119 _ _ rfl w.heap.size 0 L.toArray rfl rfl (by rw [HLA.out]; exact HT3.out) (by rw [HLA.out]; kernel_rfl) (all_oneCell_toArray HON.out) ?_))
  have hr2 := World.rangeAt_setCells_same w3 w.heap.size 0 L (by rw [HLL.out]; exact HT3.out)
  refine bodyPost_ret (v := .agg L.toArray) (results_cell rfl _ _ _ w.heap.size 0 rfl _ (run_loadVar_mid _ _ _ _ _ _ hr2 Tryz.underlying119 rfl (by rw [HLL.out]; kernel_rfl))) rfl ⟨rfl, ?_⟩
  exact HB3.out.trans (below_setCells _ _ _ _ (by omega))
end Go.Proofs.YtinnliapfdpfpaaGreatDoor
