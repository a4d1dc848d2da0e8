import Derived.Test.YtinnliapfdpfpaaGreatDoorMHash
namespace Go.Proofs.YtinnliapfdpfpaaGreatDoor
open Go.RowKit
theorem keyB_get (l : List UInt8) (x k j : Nat) (hx : x < 256) (hj : j < k) : ((keyB l x k).getD j 0).toNat = byteAt l j ^^^ x := by
  induction k with
  | zero => omega
  | succ k ih =>
    simp only [keyB]
    rw [getD_app, keyB_len]
    by_cases e : j < k
    · rw [if_pos e, ih e]
    · rw [if_neg e, show j = k from by omega, Nat.sub_self]
      have hb : byteAt l k < 256 := by unfold byteAt; exact UInt8.toNat_lt _
      have := i256 hb hx
      show (UInt8.ofNat (byteAt l k ^^^ x)).toNat = _
      rw [UInt8.toNat_ofNat']; exact Nat.mod_eq_of_lt this
theorem byteAt_if (l : List UInt8) (j : Nat) : (if j < l.length then (l.getD j 0).toNat else 0) = byteAt l j := by
  by_cases e : j < l.length
  · rw [if_pos e]; rfl
  · rw [if_neg e, byteAt_past l j (by omega)]
set_option maxRecDepth 100000 in
set_option maxHeartbeats 1000000 in
theorem keyBlock_any (key : List UInt8) (hk : key.length ≤ 64) (p : Nat) (hp : p < 256) (w : World) :
    Calls Tryz.prog 114 #[.string ⟨key.toArray⟩, .int .u8 p] w fun e' w' => e' = .returned (.string ⟨(keyB key p 64).toArray⟩) ∧ Below w.heap.size w w' := by
  obtain ⟨i0, hi, hz0, hz1, hz2⟩ := info_parts Tryz.infoByte
  go_enter Tryz.func114, Tryz.ntmps114
  go_wp2_with (first | (at_make; refine wpList_make_full _ rfl _ _ 89 rfl w.heap.size 5 i0 (.int .u8 0) 1 Tryz.underlying89 hi hz0 hz1 .i64 .i64 _ _ 64 rfl rfl rfl rfl (by rw [hz2]; omega) (by unfold maxLen; omega) (Nat.le_refl _) ?_; intro w1 hown1 hg1; have ha1 := made_arr8 hown1; have hb1 := (Below.refl w.heap.size w).grown hg1 (Nat.le_refl _) (by simp); clear hown1 hg1) | (refine wpList_copy_str rfl _ _ 89 9 rfl 5 Tryz.underlying89 size_byte w.heap.size 64 64 rfl key rfl ha1 (by omega) ?_; intro w2 ha2 hb2; have hB2 := hb1.trans hb2; clear hb1 hb2 ha1))
  clear hi hz0 hz1 hz2 i0
  replace ha2 := ha2.congr fun j _ => byteAt_if key j
  go_loopw [13] (fun i wr => ∃ k : Nat, k ≤ 64 ∧ i = .int .i64 k ∧ arr8 wr w.heap.size (fun j => if j < k then byteAt key j ^^^ p else byteAt key j) 64 ∧ Below w.heap.size w wr) (fun i _ => 64 - (intOf i).toNat)
  case atStart => exact ⟨0, by omega, rfl, ha2.congr fun j _ => by simp, hB2⟩
  case round =>
    clear ha2 hB2
    obtain ⟨k, hk, rfl, har, hbel⟩ := hrel
    by_cases hlt : k < 64
    · obtain ⟨ck, fk⟩ := har k hlt
      dsimp only at ck
      rw [if_neg (Nat.lt_irrefl k)] at ck
      have hb : byteAt key k < 256 := by unfold byteAt; exact UInt8.toNat_lt _
      have hx := u8_xor_nat (byteAt key k) p hb hp
      have HF : Hid (∀ j, j < 64 → (if j = k then byteAt key k ^^^ p else if j < k then byteAt key j ^^^ p else byteAt key j) = if j < k + 1 then byteAt key j ^^^ p else byteAt key j) := by
        intro j _
        by_cases e1 : j = k
        · subst e1; simp
        · by_cases e2 : j < k
          · simp [e1, e2, Nat.lt_succ_of_lt e2]
          · have : ¬ j < k + 1 := by omega
            simp [e1, e2, this]
      go_wp2
      go_roundw
      case rel => exact ⟨k + 1, by omega, by go_num, (har.set k _ hlt).congr HF.out, hbel.setCell (Nat.le_refl _) _⟩
      case measure => simp [intOf]; omega
    · have ha8 : arr8 wr w.heap.size (fun j => ((keyB key p 64).getD j 0).toNat) 64 := har.congr fun j hj => by rw [if_pos (by omega), keyB_get key p 64 j hp hj]
      have hcv := conv_arr8 (keyB key p 64) 64 64 (keyB_len _ _ _) wr w.heap.size ha8
      clear ha8 har
      generalize hqg : keyB key p 64 = q at *
      have HQG : Hid (keyB key p 64 = q) := hqg
      clear hqg
      have hdk : decide ((k : Int) < 64) = false := by simp; omega
      go_wp2_with fail
      go_ret
      exact ⟨ret_str HQG.out.symm, hbel⟩
theorem box32 (D : List UInt8) (hD : D.length = 32) (w : World) :
    (w.alloc (.cells z32 119)).there w.heap.size 0 32 ∧ arr8 ((w.alloc (.cells z32 119)).setCells w.heap.size 0 (D.map u8v)) w.heap.size (fun j => (D.getD j 0).toNat) 32 ∧ Below w.heap.size w ((w.alloc (.cells z32 119)).setCells w.heap.size 0 (D.map u8v)) := by
  have ha : arr8 (w.alloc (.cells z32 119)) w.heap.size (fun _ => 0) 32 := by
    intro j hj
    have h1 := zeros8_cell w 119 32 j hj
    have h2 := zeros_free w 119 (Array.replicate 32 (.int .u8 0)) j
    rw [z32_is]
    exact ⟨h1, h2⟩
  refine ⟨fun j hj => ?_, ?_, ?_⟩
  · rw [Nat.zero_add, (ha j hj).1, (ha j hj).2]; exact ⟨rfl, rfl⟩
  · refine (arr8.cells D 0 _ _ ha (by omega)).congr fun j hj => ?_
    rw [if_pos (by omega)]; rfl
  · exact ((Below.refl _ _).alloc (Nat.le_refl _) _).trans (below_setCells _ _ _ _ (Nat.le_refl _))
theorem shortK_le (key : List UInt8) (h : key.length ≤ 64) : shortK key = key := by unfold shortK; rw [if_neg (by omega)]
theorem shortK_gt (key : List UInt8) (h : 64 < key.length) : shortK key = digest key := by unfold shortK; rw [if_pos h]
set_option maxRecDepth 100000 in
set_option maxHeartbeats 1000000 in
theorem shortKey_any (key : List UInt8) (hk : key.length ≤ 400000000000000) (w : World) (h : Laid w) :
    Calls Tryz.prog 112 #[.string ⟨key.toArray⟩] w fun e' w' => e' = .returned (.string ⟨(shortK key).toArray⟩) ∧ Below w.heap.size w w' := by
  by_cases hs : key.length ≤ 64
  · rw [shortK_le key hs]
    go_enter Tryz.func112, Tryz.ntmps112
    go_wp2
    go_ret
    exact ⟨rfl, Below.refl _ _⟩
  · rw [shortK_gt key (by omega)]
    have CH : Hid (_) := mhash_any key hk
    have HH : Hid (Laid w) := h
    clear h
    have HD : Hid ((digest key).length = 32) := digest_len key
    have HLA : Hid (((digest key).map u8v).toArray.size = 32) := by show _ = _; rw [List.size_toArray, List.length_map]; exact HD.out
    have HON : Hid (∀ v ∈ (digest key).map u8v, v.oneCell' = true) := by intro v hv; rw [List.mem_map] at hv; obtain ⟨x, _, rfl⟩ := hv; rfl
    generalize digest key = D at *
    have HLT : Hid ((D.map u8v).toArray.toList = D.map u8v) := rfl
    generalize hG : (D.map u8v).toArray = G at *
    have HG : Hid ((D.map u8v).toArray = G) := hG
    clear hG
    go_enter Tryz.func112, Tryz.ntmps112
    go_wp2_with (first
      | (go_at_call 63; refine (CH.out _ HH.out).mono ?_; rintro e' w2 ⟨rfl, hb2⟩; have HB2 : Hid (Below w.heap.size w w2) := hb2; clear hb2; have HBOX : Hid (_) := box32 D HD.out w2)
      | (refine wpList_store_mid rfl 119 _ _ rfl w2.heap.size 0 G rfl rfl (by rw [HLA.out]; exact HBOX.out.1) (by rw [HLA.out]; kernel_rfl) (by rw [← HG.out]; exact all_oneCell_toArray HON.out) ?_; rw [HLT.out]; show wpList _ _ _ _ _ ((w2.alloc (.cells z32 119)).setCells w2.heap.size 0 (D.map u8v)); obtain ⟨_, ha3, hb3⟩ := HBOX.out; clear HBOX; generalize (w2.alloc (.cells z32 119)).setCells w2.heap.size 0 (D.map u8v) = w3 at *; have hcv := conv_arr8 D 32 32 HD.out w3 w2.heap.size ha3; have HB3 : Hid (Below w2.heap.size w2 w3) := hb3; clear ha3 hb3))
    go_ret
    exact ⟨rfl, HB2.out.trans (HB3.out.mono HB2.out.size)⟩
end Go.Proofs.YtinnliapfdpfpaaGreatDoor
