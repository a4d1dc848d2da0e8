/-
  THE PROGRAM's stateBytes: a state as thirty-two bytes.
-/
import Derived.Test.YtinnliapfdpfpaaGreatDoorMAll
namespace Go.Proofs.YtinnliapfdpfpaaGreatDoor
open Go.RowKit
def arr8 (w : World) (b : Nat) (f : Nat → Nat) (n : Nat) : Prop := ∀ j, j < n → w.cell? ⟨b, j, none⟩ = some (.int .u8 (f j : Nat)) ∧ w.frozen? ⟨b, j, none⟩ = false
theorem arr8.set {w : World} {b : Nat} {f : Nat → Nat} {n : Nat} (h : arr8 w b f n) (k x : Nat) (hk : k < n) : arr8 (w.setCell ⟨b, k, none⟩ (.int .u8 (x : Nat))) b (fun j => if j = k then x else f j) n := by
  intro j hj
  obtain ⟨h1, h2⟩ := h j hj
  by_cases e : j = k
  · subst e
    exact ⟨by simp [go_sem, h1], by simp [go_sem, h2]⟩
  · refine ⟨?_, by simp [go_sem, h2]⟩
    rw [World.cell?_setCell_other _ _ _ _ (by simp)]
    simpa [e] using h1
theorem arr8.congr {w : World} {b : Nat} {f g : Nat → Nat} {n : Nat} (h : arr8 w b f n) (e : ∀ j, j < n → f j = g j) : arr8 w b g n := fun j hj => by rw [← e j hj]; exact h j hj
def z32 : Array Value := #[.int .u8 0, .int .u8 0, .int .u8 0, .int .u8 0, .int .u8 0, .int .u8 0, .int .u8 0, .int .u8 0, .int .u8 0, .int .u8 0, .int .u8 0, .int .u8 0, .int .u8 0, .int .u8 0, .int .u8 0, .int .u8 0, .int .u8 0, .int .u8 0, .int .u8 0, .int .u8 0, .int .u8 0, .int .u8 0, .int .u8 0, .int .u8 0, .int .u8 0, .int .u8 0, .int .u8 0, .int .u8 0, .int .u8 0, .int .u8 0, .int .u8 0, .int .u8 0]
theorem z32_is : z32 = Array.replicate 32 (.int .u8 0) := rfl
theorem zeros8_cell (w : World) (t : TypeId) (n j : Nat) (hj : j < n) : (w.alloc (.cells (Array.replicate n (.int .u8 0)) t)).cell? ⟨w.heap.size, j, none⟩ = some (.int .u8 0) := by
  rw [World.cell?_alloc_at (hn := rfl)]
  simp [hj]
/-- The byte at a place of what a state tells. -/
def outAt (h : List Nat) (j : Nat) : Nat := h.getD (j / 4) 0 / 2 ^ (24 - 8 * (j % 4)) % 256
theorem arr32.other {w : World} {b b' : Nat} {f : Nat → Nat} {n : Nat} (h : arr32 w b f n) (hb : b ≠ b') (v : Value) (k : Nat) : arr32 (w.setCell ⟨b', k, none⟩ v) b f n := by
  intro j hj
  obtain ⟨h1, h2⟩ := h j hj
  have e := Below.heap_setCell w ⟨b', k, none⟩ v b hb
  exact ⟨(World.cell?_of_block (w := w) (a := ⟨b, j, none⟩) e).trans h1, (World.frozen?_of_block (w := w) (a := ⟨b, j, none⟩) e).trans h2⟩
theorem arr8_range {w : World} {b : Nat} (f : Nat → Nat) {n : Nat} (h : arr8 w b f n) : w.rangeAt b 0 (((List.range n).map f).map (fun x : Nat => Value.int .u8 (x : Int))) := by
  intro j v hv
  have hj : j < n := by
    have := (List.getElem?_eq_some_iff.1 hv).1
    simpa using this
  rw [Nat.zero_add, (h j hj).1]
  simpa [hj] using hv
theorem state_start (x0 x1 x2 x3 x4 x5 x6 x7 : Nat) (w w0 : World)
    (hw0 : w0 = ((w.alloc (.cells #[.int .u32 (x0 : Nat), .int .u32 (x1 : Nat), .int .u32 (x2 : Nat), .int .u32 (x3 : Nat), .int .u32 (x4 : Nat), .int .u32 (x5 : Nat), .int .u32 (x6 : Nat), .int .u32 (x7 : Nat)] 172)).alloc (.cells z32 119)).alloc (.cells z32 119)) :
    arr32 w0 w.heap.size (fOf [x0, x1, x2, x3, x4, x5, x6, x7]) 8 ∧ arr8 w0 (w.heap.size + 1 + 1) (fun _ => 0) 32 ∧ w0.there (w.heap.size + 1) 0 32 ∧ Below w.heap.size w w0 := by
  subst hw0
  rw [z32_is]
  refine ⟨?_, ?_, ?_, ?_⟩
  · intro j hj
    refine ⟨?_, by simp [go_sem]⟩
    obtain ⟨g0, g1, g2, g3, g4, g5, g6, g7⟩ := l8_gets x0 x1 x2 x3 x4 x5 x6 x7
    unfold fOf
    rw [World.cell?_alloc_past (hn := by simp; omega), World.cell?_alloc_past (hn := by simp), World.cell?_alloc_at (hn := rfl)]
    have : j = 0 ∨ j = 1 ∨ j = 2 ∨ j = 3 ∨ j = 4 ∨ j = 5 ∨ j = 6 ∨ j = 7 := by omega
    rcases this with rfl | rfl | rfl | rfl | rfl | rfl | rfl | rfl
    · rw [g0]; rfl
    · rw [g1]; rfl
    · rw [g2]; rfl
    · rw [g3]; rfl
    · rw [g4]; rfl
    · rw [g5]; rfl
    · rw [g6]; rfl
    · rw [g7]; rfl
  · intro j hj
    have h1 := zeros8_cell ((w.alloc (.cells #[.int .u32 (x0 : Nat), .int .u32 (x1 : Nat), .int .u32 (x2 : Nat), .int .u32 (x3 : Nat), .int .u32 (x4 : Nat), .int .u32 (x5 : Nat), .int .u32 (x6 : Nat), .int .u32 (x7 : Nat)] 172)).alloc (.cells (Array.replicate 32 (.int .u8 0)) 119)) 119 32 j hj
    have h2 := zeros_free ((w.alloc (.cells #[.int .u32 (x0 : Nat), .int .u32 (x1 : Nat), .int .u32 (x2 : Nat), .int .u32 (x3 : Nat), .int .u32 (x4 : Nat), .int .u32 (x5 : Nat), .int .u32 (x6 : Nat), .int .u32 (x7 : Nat)] 172)).alloc (.cells (Array.replicate 32 (.int .u8 0)) 119)) 119 (Array.replicate 32 (.int .u8 0)) j
    have e : ((w.alloc (.cells #[.int .u32 (x0 : Nat), .int .u32 (x1 : Nat), .int .u32 (x2 : Nat), .int .u32 (x3 : Nat), .int .u32 (x4 : Nat), .int .u32 (x5 : Nat), .int .u32 (x6 : Nat), .int .u32 (x7 : Nat)] 172)).alloc (.cells (Array.replicate 32 (.int .u8 0)) 119)).heap.size = w.heap.size + 1 + 1 := by simp
    rw [e] at h1 h2
    exact ⟨h1, h2⟩
  · refine World.there_alloc ?_ _
    intro j hj
    have h1 := zeros8_cell (w.alloc (.cells #[.int .u32 (x0 : Nat), .int .u32 (x1 : Nat), .int .u32 (x2 : Nat), .int .u32 (x3 : Nat), .int .u32 (x4 : Nat), .int .u32 (x5 : Nat), .int .u32 (x6 : Nat), .int .u32 (x7 : Nat)] 172)) 119 32 j hj
    have h2 := zeros_free (w.alloc (.cells #[.int .u32 (x0 : Nat), .int .u32 (x1 : Nat), .int .u32 (x2 : Nat), .int .u32 (x3 : Nat), .int .u32 (x4 : Nat), .int .u32 (x5 : Nat), .int .u32 (x6 : Nat), .int .u32 (x7 : Nat)] 172)) 119 (Array.replicate 32 (.int .u8 0)) j
    have e : (w.alloc (.cells #[.int .u32 (x0 : Nat), .int .u32 (x1 : Nat), .int .u32 (x2 : Nat), .int .u32 (x3 : Nat), .int .u32 (x4 : Nat), .int .u32 (x5 : Nat), .int .u32 (x6 : Nat), .int .u32 (x7 : Nat)] 172)).heap.size = w.heap.size + 1 := by simp
    rw [e] at h1 h2
    rw [Nat.zero_add, h1, h2]
    exact ⟨rfl, rfl⟩
  · exact (((Below.refl _ _).alloc (Nat.le_refl _) _).alloc (by simp) _).alloc (by simp; omega) _
set_option maxRecDepth 100000 in
set_option maxHeartbeats 1000000 in
theorem stateBytes_core (x0 x1 x2 x3 x4 x5 x6 x7 : Nat) (hst : small [x0, x1, x2, x3, x4, x5, x6, x7]) (w : World) :
    Calls Tryz.prog 147 #[.agg #[.int .u32 x0, .int .u32 x1, .int .u32 x2, .int .u32 x3, .int .u32 x4, .int .u32 x5, .int .u32 x6, .int .u32 x7]] w fun e' w' => e' = .returned (.agg (((List.range 32).map (outAt [x0, x1, x2, x3, x4, x5, x6, x7])).map (fun x : Nat => Value.int .u8 (x : Int))).toArray) ∧ Below w.heap.size w w' := by
  go_enter Tryz.func147, Tryz.ntmps147
  go_wp2
  go_loopw [5] (fun i wr => ∃ k : Nat, k ≤ 32 ∧ i = .int .i64 k ∧ arr32 wr w.heap.size (fOf [x0, x1, x2, x3, x4, x5, x6, x7]) 8 ∧ arr8 wr (w.heap.size + 1 + 1) (fun j => if j < k then outAt [x0, x1, x2, x3, x4, x5, x6, x7] j else 0) 32 ∧ wr.there (w.heap.size + 1) 0 32 ∧ Below w.heap.size w wr) (fun i _ => 32 - (intOf i).toNat)
  case atStart =>
    obtain ⟨q1, q2, q3, q4⟩ := state_start x0 x1 x2 x3 x4 x5 x6 x7 w _ rfl
    exact ⟨0, by omega, rfl, q1, q2.congr fun j _ => by simp, q3, q4⟩
  case round =>
    obtain ⟨k, hk, rfl, har, ha8, hth, hbel⟩ := hrel
    by_cases hlt : k < 32
    · have cs := (har (k / 4) (by omega)).1
      obtain ⟨c8, f8⟩ := ha8 k (by omega)
      have hb := hst (k / 4)
      unfold fOf at cs
      have HO : Hid (outAt [x0, x1, x2, x3, x4, x5, x6, x7] k = [x0, x1, x2, x3, x4, x5, x6, x7].getD (k / 4) 0 / 2 ^ (24 - 8 * (k % 4)) % 256) := rfl
      generalize [x0, x1, x2, x3, x4, x5, x6, x7].getD (k / 4) 0 = y at *
      go_wp2
      go_roundw
      case rel =>
        have e : ((y : Int) / 2 ^ (24 - 8 * (k % 4)) % 256) = ((outAt [x0, x1, x2, x3, x4, x5, x6, x7] k : Nat) : Int) := by rw [HO.out]; simp
        rw [e]
        refine ⟨k + 1, by omega, by go_num, har.other (by omega) _ _, ?_, there_set hth _ _ _, hbel.setCell (by simp; omega) _⟩
        refine (ha8.set k _ hlt).congr fun j _ => ?_
        by_cases e1 : j = k
        · subst e1; simp
        · by_cases e2 : j < k
          · simp [e1, e2, Nat.lt_succ_of_lt e2]
          · have : ¬ j < k + 1 := by omega
            simp [e1, e2, this]
      case measure => simp [intOf]; omega
    · have hr : wr.rangeAt (w.heap.size + 1 + 1) 0 (((List.range 32).map (outAt [x0, x1, x2, x3, x4, x5, x6, x7])).map (fun x : Nat => Value.int .u8 (x : Int))) := arr8_range _ (ha8.congr fun j hj => by rw [if_pos (by omega)])
      have hll : (((List.range 32).map (outAt [x0, x1, x2, x3, x4, x5, x6, x7])).map (fun x : Nat => Value.int .u8 (x : Int))).length = 32 := by simp
      have HLA : Hid ((((List.range 32).map (outAt [x0, x1, x2, x3, x4, x5, x6, x7])).map (fun x : Nat => Value.int .u8 (x : Int))).toArray.size = 32) := by show _ = _; simp
      have HLL : Hid ((((List.range 32).map (outAt [x0, x1, x2, x3, x4, x5, x6, x7])).map (fun x : Nat => Value.int .u8 (x : Int))).length = 32) := hll
      have HON : Hid (∀ v ∈ (((List.range 32).map (outAt [x0, x1, x2, x3, x4, x5, x6, x7])).map (fun x : Nat => Value.int .u8 (x : Int))), v.oneCell' = true) := by intro v hv; rw [List.mem_map] at hv; obtain ⟨x, _, rfl⟩ := hv; rfl
      clear hll har ha8
      generalize hg : (((List.range 32).map (outAt [x0, x1, x2, x3, x4, x5, x6, x7])).map (fun x : Nat => Value.int .u8 (x : Int))) = L at *
      have HG : Hid ((((List.range 32).map (outAt [x0, x1, x2, x3, x4, x5, x6, x7])).map (fun x : Nat => Value.int .u8 (x : Int))) = L) := hg
      clear hg
      have hdk : decide ((k : Int) < 32) = false := by simp; omega
      go_wp2_with (first | (refine wpList_load_mid rfl 119 _ rfl (w.heap.size + 1 + 1) 0 rfl L _ hr Tryz.underlying119 rfl (by rw [HLL.out]; kernel_rfl) ?_) | (refine wpList_store_mid rfl 119 _ _ rfl (w.heap.size + 1) 0 L.toArray rfl rfl (by rw [HLA.out]; exact hth) (by rw [HLA.out]; kernel_rfl) (all_oneCell_toArray HON.out) ?_))
      have hr2 := World.rangeAt_setCells_same wr (w.heap.size + 1) 0 L (by rw [HLL.out]; exact hth)
      refine bodyPost_ret (v := .agg L.toArray) (results_cell rfl _ _ _ (w.heap.size + 1) 0 rfl _ (run_loadVar_mid _ _ _ _ _ _ hr2 Tryz.underlying119 rfl (by rw [HLL.out]; kernel_rfl))) rfl ⟨by rw [HG.out], ?_⟩
      exact hbel.trans (below_setCells _ _ _ _ (by omega))
end Go.Proofs.YtinnliapfdpfpaaGreatDoor
