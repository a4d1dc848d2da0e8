/-
  THE PROGRAM's Tag.
-/
import Derived.Test.YtinnliapfdpfpaaGreatDoorMTag
namespace Go.Proofs.YtinnliapfdpfpaaGreatDoor
open Go.RowKit
theorem arr8.drew {w : World} {b : Nat} {f : Nat → Nat} {n : Nat} (h : arr8 w b f n) : arr8 w.drew b f n := fun j hj => ⟨(h j hj).1, (h j hj).2⟩
theorem box32_size (D : List UInt8) (w : World) : w.heap.size < ((w.alloc (.cells z32 119)).setCells w.heap.size 0 (D.map u8v)).heap.size := by
  have := (below_setCells (B := 0) (w.alloc (.cells z32 119)) w.heap.size (D.map u8v) 0 (Nat.zero_le _)).size
  have e : (w.alloc (.cells z32 119)).heap.size = w.heap.size + 1 := by simp
  omega
theorem store32 (R : List Value) (hR : R.length = 32) (h1 : ∀ v ∈ R, v.oneCell' = true) (w : World) (b : Nat) (ht : w.there b 0 32) : (storeCells ⟨b, 0, none⟩ R).run Tryz.prog w = .ok () (w.setCells b 0 R) := by
  have := run_storeCells_cells (P := Tryz.prog) b 0 R 0 w (fun j hj => by simpa using (ht j (by omega)).1) (fun j hj => by simpa using (ht j (by omega)).2) h1
  simpa using this
/-- What holds of the worlds that Tag goes through. -/
structure TagW (w : World) (B : Nat) (wr : World) : Prop where
  th : wr.there B 0 32
  bel : Below B w wr
  laid : Laid wr
  sz : B + 1 ≤ wr.heap.size
theorem TagW.call {w wr w' : World} {B : Nat} (h : TagW w B wr) (hb : Below wr.heap.size wr w') : TagW w B w' :=
  ⟨there_below h.th hb h.sz, h.bel.trans (hb.mono (Nat.le_of_lt h.sz)), h.laid.call hb, Nat.le_trans h.sz hb.size⟩
theorem TagW.drew {w wr : World} {B : Nat} (h : TagW w B wr) : TagW w B wr.drew := ⟨h.th, h.bel.drew, h.laid.drew, h.sz⟩
set_option maxRecDepth 100000 in
set_option maxHeartbeats 1000000 in
theorem mtag_any (key text : List UInt8) (hk : key.length ≤ 400000000000000) (ht : text.length ≤ 400000000000000) (w : World) (h : Laid w) :
    Calls Tryz.prog 74 #[.string ⟨key.toArray⟩, .string ⟨text.toArray⟩] w fun e' w' => e' = .returned (.agg ((tagL key text).map u8v).toArray) ∧ Below w.heap.size w w' := by
  have CS : Hid (_) := shortKey_any key hk
  have hsl := shortK_len key
  have HT : Hid (tagL key text = digest (keyB (shortK key) 92 64 ++ digest (keyB (shortK key) 54 64 ++ text))) := rfl
  generalize shortK key = s at *
  have CK1 : Hid (∀ w, Calls Tryz.prog 114 #[.string ⟨s.toArray⟩, .int .u8 54] w fun e' w' => e' = .returned (.string ⟨(keyB s 54 64).toArray⟩) ∧ Below w.heap.size w w') := keyBlock_any s hsl 54 (by omega)
  have CK2 : Hid (∀ w, Calls Tryz.prog 114 #[.string ⟨s.toArray⟩, .int .u8 92] w fun e' w' => e' = .returned (.string ⟨(keyB s 92 64).toArray⟩) ∧ Below w.heap.size w w') := keyBlock_any s hsl 92 (by omega)
  have CH1 : Hid (_) := behind_any (keyB s 54 64) text (keyB_len _ _ _) ht
  have HD : Hid ((digest (keyB s 54 64 ++ text)).length = 32) := digest_len _
  have CH2 : Hid (_) := behind_any (keyB s 92 64) (digest (keyB s 54 64 ++ text)) (keyB_len _ _ _) (by rw [digest_len]; omega)
  rw [HT.out]
  clear HT hsl
  generalize keyB s 54 64 = k1 at *
  generalize keyB s 92 64 = k2 at *
  generalize digest (k1 ++ text) = D at *
  have HR : Hid (((digest (k2 ++ D)).map u8v).length = 32) := by show _ = _; rw [List.length_map, digest_len]
  have HRA : Hid (((digest (k2 ++ D)).map u8v).toArray.size = 32) := by show _ = _; rw [List.size_toArray]; exact HR.out
  have HRO : Hid (∀ v ∈ (digest (k2 ++ D)).map u8v, v.oneCell' = true) := by intro v hv; rw [List.mem_map] at hv; obtain ⟨x, _, rfl⟩ := hv; rfl
  generalize (digest (k2 ++ D)).map u8v = R at *
  have HLA : Hid ((D.map u8v).toArray.size = 32) := by show _ = _; rw [List.size_toArray, List.length_map]; exact HD.out
  have HON : Hid (∀ v ∈ D.map u8v, v.oneCell' = true) := by intro v hv; rw [List.mem_map] at hv; obtain ⟨x, _, rfl⟩ := hv; rfl
  have HLT : Hid ((D.map u8v).toArray.toList = D.map u8v) := rfl
  generalize hG : (D.map u8v).toArray = G at *
  have HG : Hid ((D.map u8v).toArray = G) := hG
  clear hG
  obtain ⟨w1, hw1⟩ : ∃ w1, w1 = w.alloc (.cells z32 119) := ⟨_, rfl⟩
  have HT1 : Hid (TagW w w.heap.size w1) := by
    rw [hw1]
    exact ⟨(box32 D HD.out w).1, (Below.refl _ _).alloc (Nat.le_refl _) _, h.alloc _, by simp⟩
  clear h
  unfold z32 at hw1
  have HW1 : Hid (_) := hw1.symm
  clear hw1
  go_enter Tryz.func74, Tryz.ntmps74
  go_wp2_with (first
    | (go_at_call 112; rw [HW1.out]; refine (CS.out _ HT1.out.laid).mono ?_; rintro e' w2 ⟨rfl, hb2⟩; have HT2 : Hid (TagW w w.heap.size w2) := HT1.out.call hb2; clear hb2 CS)
    | (go_at_call 114; refine (CK1.out _).mono ?_; rintro e' w3 ⟨rfl, hb3⟩; have HT3 : Hid (TagW w w.heap.size w3) := HT2.out.call hb3; clear hb3 CK1)
    | (go_at_call 113; refine (CH1.out _ HT3.out.laid).mono ?_; rintro e' w4 ⟨rfl, hb4⟩; have HT4 : Hid (TagW w w.heap.size w4) := HT3.out.call hb4; clear hb4 CH1; have HBOX : Hid (_) := box32 D HD.out w4)
    | (refine wpList_store_mid rfl 119 _ _ rfl w4.heap.size 0 G rfl rfl (by rw [HLA.out]; exact HBOX.out.1) (by rw [HLA.out]; kernel_rfl) (by rw [← HG.out]; exact all_oneCell_toArray HON.out) ?_; rw [HLT.out]; show wpList _ _ _ _ _ ((w4.alloc (.cells z32 119)).setCells w4.heap.size 0 (D.map u8v)); obtain ⟨_, ha5, hb5⟩ := HBOX.out; clear HBOX; have HZ4 : Hid (w4.heap.size < ((w4.alloc (.cells z32 119)).setCells w4.heap.size 0 (D.map u8v)).heap.size) := box32_size D w4; generalize (w4.alloc (.cells z32 119)).setCells w4.heap.size 0 (D.map u8v) = w5 at *; have HA5 : Hid (arr8 w5 w4.heap.size (fun j => (D.getD j 0).toNat) 32) := ha5; have HT5 : Hid (TagW w w.heap.size w5) := HT4.out.call hb5; have HZ5 : Hid (w4.heap.size < w5.heap.size) := HZ4.out; have hcv := conv_arr8 D 32 32 HD.out w5 w4.heap.size ha5; clear ha5 hb5 HT1 HT2 HT3 HZ4))
  simp only [Act.put]
  have hrl : R.length = 32 := HR.out
  have hcd := conv_arr8 D 32 32 HD.out w5.drew w4.heap.size HA5.out.drew
  clear HW1
  go_region_with (first
    | (go_at_call 114; refine (CK2.out _).mono ?_; rintro e' w6 ⟨rfl, hb6⟩; have HT6 : Hid (TagW w w.heap.size w6) := HT5.out.drew.call hb6; have hc6 := conv_arr8 D 32 32 HD.out w6 w4.heap.size (fun j hj => ⟨(hb6.cell (p := ⟨w4.heap.size, j, none⟩) HZ5.out).trans (HA5.out.drew j hj).1, (hb6.frozen (p := ⟨w4.heap.size, j, none⟩) HZ5.out).trans (HA5.out.drew j hj).2⟩); clear hb6)
    | (go_at_call 113; refine (CH2.out _ HT6.out.laid).mono ?_; rintro e' w7 ⟨rfl, hb7⟩; have HT7 : Hid (TagW w w.heap.size w7) := HT6.out.call hb7; have hst := store32 R HR.out HRO.out w7 w.heap.size HT7.out.th; clear hb7))
  all_goals
    go_wp2
    have hr2 := World.rangeAt_setCells_same w7 w.heap.size 0 R (by rw [HR.out]; exact HT7.out.th)
    refine bodyPost_ret (v := .agg R.toArray) (results_cell rfl _ _ _ w.heap.size 0 rfl _ (run_loadVar_mid _ _ _ _ _ _ hr2 Tryz.underlying119 rfl (by rw [HR.out]; kernel_rfl))) rfl ⟨rfl, ?_⟩
    exact HT7.out.bel.trans (below_setCells _ _ _ _ (by omega))
end Go.Proofs.YtinnliapfdpfpaaGreatDoor
