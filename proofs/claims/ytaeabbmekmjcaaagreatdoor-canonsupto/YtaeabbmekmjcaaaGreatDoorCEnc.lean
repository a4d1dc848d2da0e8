import Derived.Test.YtaeabbmekmjcaaaGreatDoorCOwn
namespace Go.Proofs.YtaeabbmekmjcaaaGreatDoor.C
open Go.RowKit
theorem up_hex (j n : Nat) (h : j < 16) (e : j = n) : ((⟨#[48, 49, 50, 51, 52, 53, 54, 55, 56, 57, 65, 66, 67, 68, 69, 70]⟩ : ByteArray)[j]'h) = hexD n := by
  subst e
  apply UInt8.toNat_inj.1
  rw [up_at j h, hexD_toNat j h]
theorem and15 (c : UInt8) : bits BinOp.and IntKind.u8 (c.toNat : Int) 15 = (c.toNat : Int) % 16 := by
  have hb := c.toNat_lt
  exact u8_and15 (x := (c.toNat : Int)) (by omega) (by omega)
theorem hexs_map (c : UInt8) (h1 h2) : #[Value.int .u8 37, Value.int .u8 (((⟨#[48, 49, 50, 51, 52, 53, 54, 55, 56, 57, 65, 66, 67, 68, 69, 70]⟩ : ByteArray)[((c.toNat : Int) / 16).toNat]'h1).toNat : Int),
    Value.int .u8 (((⟨#[48, 49, 50, 51, 52, 53, 54, 55, 56, 57, 65, 66, 67, 68, 69, 70]⟩ : ByteArray)[((c.toNat : Int) % 16).toNat]'h2).toNat : Int)] = ([37, hexD (c.toNat / 16), hexD (c.toNat % 16)].map u8v).toArray := by
  rw [up_hex _ (c.toNat / 16) h1 (by omega), up_hex _ (c.toNat % 16) h2 (by omega)]
  rfl

set_option maxHeartbeats 400000 in
theorem encode_any (s : ByteArray) (p : Bool) (w : World) (hs : s.size ≤ 1000000000) :
    Calls Tryz.prog 20 #[.string s, .bool p] w fun e w' => e = .returned (.string ⟨(enc p s.data.toList).toArray⟩) ∧ Below w.heap.size w w' := by
  obtain ⟨i0, hi, hz0, hz1, hz2⟩ := info_parts Tryz.info5
  go_enter Tryz.func20, Tryz.ntmps20
  go_wp2_with (at_make; refine wpList_make_own _ rfl _ _ 76 rfl w.heap.size 5 i0 (.int .u8 0) 1 Tryz.underlying76 hi hz0 hz1 .i64 .i64 _ s.size rfl rfl rfl (by rw [hz2]; omega) (by unfold maxLen; omega) (Nat.le_refl _) ?_; intro w1 hown1 hg1)
  go_loopw [5, 13] (fun v i wr => ∃ k : Nat, k ≤ s.size ∧ i = .int .i64 k ∧ owns wr w.heap.size v (enc p (s.data.toList.take k)) ∧ Below w.heap.size w wr) (fun _ i _ => s.size - (intOf i).toNat)
  case atStart => exact ⟨0, Nat.zero_le _, rfl, by simpa [owns, enc] using hown1, (Below.refl _ _).grown hg1 (Nat.le_refl _) (by simp)⟩
  case round =>
    obtain ⟨k, hk, rfl, hown, hbel⟩ := hrel
    clear hown1 hg1 hi hz0 hz1 hz2 i0
    have hsz := hbel.size
    have hel := enc_len p (s.data.toList.take k)
    have hel2 : (s.data.toList.take k).length ≤ k := List.length_take_le _ _
    have hel3 : (enc p (s.data.toList.take k)).length ≤ 3 * k := by omega
    clear hel hel2
    by_cases hlt : k < s.size
    · have HS : Hid (enc p (s.data.toList.take (k + 1)) = enc p (s.data.toList.take k) ++ enc1 p s[k]) := by rw [take_snoc s k hlt]; exact enc_snoc _ _ _
      cases hpl : plainB (s[k].toNat : Int) p
      · go_wp2_with (go_at_call 48; refine (isPlain_any _ _ _).mono ?_; rintro e w' ⟨rfl, rfl⟩)
        generalize hcg : s[k] = c at *
        have HC : Hid (s[k] = c) := hcg
        clear hcg
        have hb := c.toNat_lt
        have q1 : (0 : Int) ≤ (c.toNat : Int) / 16 := by omega
        have q2 : (c.toNat : Int) / 16 < 16 := by omega
        have q3 : (0 : Int) ≤ (c.toNat : Int) % 16 := by omega
        have q4 : (c.toNat : Int) % 16 < 16 := by omega
        have q5 := and15 c
        go_region_law ((refine app_step rfl _ _ rfl w.heap.size _ [37, hexD (c.toNat / 16), hexD (c.toNat % 16)] _ rfl (hown.alloc _) _ 3 rfl rfl _ ((heap_alloc_new _ _).trans (by rw [hexs_map])) (by omega) (by omega) (by simp; omega) ?_; intro v' w2 hown2 hb2))
        all_goals
          go_wp2
          go_roundw
          case rel => exact ⟨k + 1, by omega, by go_num, by rw [HS.out]; simpa [enc1, hpl] using hown2, (hbel.alloc (by omega) _).drew.trans hb2⟩
          case measure => simp [intOf]; omega
      · go_wp2_with (first | (go_at_call 48; refine (isPlain_any _ _ _).mono ?_; rintro e w' ⟨rfl, rfl⟩) | (at_builtin; refine app_law rfl _ _ rfl w.heap.size _ [s[k]] _ rfl (hown.alloc _) _ 1 rfl rfl _ (heap_alloc_new _ _) (by omega) (by omega) (by simp; omega) ?_; intro v' w2 hown2 hb2))
        go_roundw
        case rel => exact ⟨k + 1, by omega, by go_num, by rw [HS.out]; simpa [enc1, hpl] using hown2, (hbel.alloc (by omega) _).trans hb2⟩
        case measure => simp [intOf]; omega
    · have hcv := hown.conv
      have HE : Hid (enc p (s.data.toList.take k) = enc p s.data.toList) := by show _ = _; rw [List.take_of_length_le (by simp; omega)]
      go_wp2
      go_ret
      exact ⟨ret_str HE.out, hbel⟩
end Go.Proofs.YtaeabbmekmjcaaaGreatDoor.C
