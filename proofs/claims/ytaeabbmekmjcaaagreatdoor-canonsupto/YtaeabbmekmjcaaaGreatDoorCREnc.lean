import Derived.Test.YtaeabbmekmjcaaaGreatDoorCHex
import Derived.Deep.RegionLaw
namespace Go.Proofs.YtaeabbmekmjcaaaGreatDoor.C
open Go.RowKit
def upD : ByteArray := ⟨#[48, 49, 50, 51, 52, 53, 54, 55, 56, 57, 65, 66, 67, 68, 69, 70]⟩
theorem up_fin2 : ∀ n : Fin 16, upD.data.getD n.val 0 = hexD n.val := by decide +kernel
theorem hexL_one (c : UInt8) : hexL (fun n => upD.data.getD n 0) [c] = [hexD (c.toNat / 16), hexD (c.toNat % 16)] := by
  have hb := c.toNat_lt
  have e1 := up_fin2 ⟨c.toNat / 16, by omega⟩
  have e2 := up_fin2 ⟨c.toNat % 16, by omega⟩
  simp only at e1 e2
  show [upD.data.getD (c.toNat / 16) 0, upD.data.getD (c.toNat % 16) 0] = _
  rw [e1, e2]
theorem below_drewN {B : Nat} {a w : World} (h : Below B a w) (n : Nat) : Below B a (w.drewN n) := h.trans ⟨rfl, rfl, rfl, Nat.le_refl _, fun _ _ => rfl⟩
theorem owns.drewN {w : World} {B : Nat} {v : Value} {l : List UInt8} (h : owns w B v l) (n : Nat) : owns (w.drewN n) B v l := h
theorem owns.drew {w : World} {B : Nat} {v : Value} {l : List UInt8} (h : owns w B v l) : owns w.drew B v l := h
theorem cut_byte (s : ByteArray) (k : Nat) (h : k < s.size) : s.extract k (k + 1) = ⟨[s[k]].toArray⟩ := by
  rw [cut_one s k h]
  have h' : k < s.data.size := h
  have e : s.data.getD k 0 = s[k] := by rw [Array.getD, dif_pos h']; rfl
  rw [e]

set_option maxHeartbeats 400000 in
theorem rencode_any (s : ByteArray) (p : Bool) (w : World) (hs : s.size ≤ 1000000000) :
    Calls Tryz.prog 30 #[.string s, .bool p] w fun e w' => e = .returned (.string ⟨(enc p s.data.toList).toArray⟩) ∧ Below w.heap.size w w' := by
  go_enter Tryz.func30, Tryz.ntmps30
  go_wp2
  go_loopw [5, 6] (fun v i wr => ∃ k : Nat, k ≤ s.size ∧ i = .int .i64 k ∧ owns wr w.heap.size v (enc p (s.data.toList.take k)) ∧ Below w.heap.size w wr) (fun _ i _ => s.size - (intOf i).toNat)
  case atStart => exact ⟨0, Nat.zero_le _, rfl, by simpa [owns, enc] using World.ownsRow_nil w w.heap.size 5 1, Below.refl _ _⟩
  case round =>
    obtain ⟨k, hk, rfl, hown, hbel⟩ := hrel
    have hsz := hbel.size
    have hel := enc_len p (s.data.toList.take k)
    have hel2 : (s.data.toList.take k).length ≤ k := List.length_take_le _ _
    have hel3 : (enc p (s.data.toList.take k)).length ≤ 3 * k := by omega
    clear hel hel2
    by_cases hlt : k < s.size
    · have HS : Hid (enc p (s.data.toList.take (k + 1)) = enc p (s.data.toList.take k) ++ enc1 p s[k]) := by show _ = _; rw [take_snoc s k hlt]; exact enc_snoc _ _ _
      have hbk : s[k].toNat < 256 := s[k].toNat_lt
      cases hpl : plainB (s[k].toNat : Int) p
      · have HC : Hid (s.extract k (k + 1) = ⟨[s[k]].toArray⟩) := cut_byte s k hlt
        go_wp2_with (go_at_call 57; refine (stands_any _ _ (by omega) (by omega) _).mono ?_; rintro e w' ⟨rfl, rfl⟩)
        rw [HC.out]
        refine (hex_any ⟨[s[k]].toArray⟩ upD _ (by show 1 ≤ 1000000000; omega) rfl).mono ?_
        rintro e w2 ⟨rfl, n, rfl⟩
        rw [show hexL (fun n => upD.data.getD n 0) (⟨[s[k]].toArray⟩ : ByteArray).data.toList = _ from hexL_one s[k]]
        generalize hcg : s[k] = c at *
        clear HC hcg
        generalize hx1 : hexD (c.toNat / 16) = x1
        generalize hx2 : hexD (c.toNat % 16) = x2
        have HX : Hid (enc1 p c = [37, x1, x2]) := by show _ = _; simp [enc1, hpl, hx1, hx2]
        clear hx1 hx2
        go_wp2
        go_region_law ((refine app_step rfl _ _ rfl w.heap.size _ [37, x1, x2] _ rfl ((hown.drewN _).alloc _) _ 3 rfl rfl _ ((heap_alloc_new _ _).trans rfl) (by omega) (by omega) (by simp; omega) ?_; intro v' w2 hown2 hb2))
        all_goals
          go_wp2
          go_roundw
          case rel => exact ⟨k + 1, by omega, by go_num, by rw [HS.out, HX.out]; exact hown2, ((below_drewN hbel _).alloc (by simp; omega) _).trans hb2⟩
          case measure => simp [intOf]; omega
      · go_wp2_with (first | (go_at_call 57; refine (stands_any _ _ (by omega) (by omega) _).mono ?_; rintro e w' ⟨rfl, rfl⟩) | (at_builtin; refine app_law rfl _ _ rfl w.heap.size _ [s[k]] _ rfl (hown.alloc _) _ 1 rfl rfl _ (heap_alloc_new _ _) (by omega) (by omega) (by simp; omega) ?_; intro v' w2 hown2 hb2))
        go_roundw
        case rel => exact ⟨k + 1, by omega, by go_num, by rw [HS.out]; simpa [enc1, hpl] using hown2, (hbel.alloc (by omega) _).trans hb2⟩
        case measure => simp [intOf]; omega
    · have hcv := hown.conv
      have HE : Hid (enc p (s.data.toList.take k) = enc p s.data.toList) := by show _ = _; rw [List.take_of_length_le (by simp; omega)]
      go_wp2
      go_ret
      exact ⟨ret_str HE.out, hbel⟩
end Go.Proofs.YtaeabbmekmjcaaaGreatDoor.C
