/-
  
-/
import Derived.Test.YtinnliapfdpfpaaGreatDoorCBase
import Derived.Deep.QuietTactic
import Derived.BigQuiet
import Derived.Deep.RegionLaw
namespace Go.Proofs.YtinnliapfdpfpaaGreatDoor.C
open Go.RowKit
theorem up_hex (j n : Nat) (h : j < 16) (e : j = n) : ((⟨#[48, 49, 50, 51, 52, 53, 54, 55, 56, 57, 65, 66, 67, 68, 69, 70]⟩ : ByteArray)[j]'h) = hexD n := by
  subst e
  apply UInt8.toNat_inj.1
  rw [up_at j h, hexD_toNat j h]
theorem and15 (c : UInt8) : bits BinOp.and IntKind.u8 (c.toNat : Int) 15 = (c.toNat : Int) % 16 := by
  have hb := c.toNat_lt
  exact u8_and15 (x := (c.toNat : Int)) (by omega) (by omega)
theorem hexs_map (c : UInt8) (h1 h2) : #[Value.int .u8 37, Value.int .u8 (((⟨#[48, 49, 50, 51, 52, 53, 54, 55, 56, 57, 65, 66, 67, 68, 69, 70]⟩ : ByteArray)[((c.toNat : Int) / 16).toNat]'h1).toNat : Int),
    Value.int .u8 (((⟨#[48, 49, 50, 51, 52, 53, 54, 55, 56, 57, 65, 66, 67, 68, 69, 70]⟩ : ByteArray)[((c.toNat : Int) % 16).toNat]'h2).toNat : Int)] = ([37, hexD (c.toNat / 16), hexD (c.toNat % 16)].map u8v).toArray := by
  rw [up_hex _ (c.toNat / 16) h1 (by omega), up_hex _ (c.toNat % 16) h2 (by omega)]
  rfl

set_option maxHeartbeats 400000 in
theorem encode_any (s : ByteArray) (p : Bool) (w : World) (hs : s.size ≤ 1000000000) :
    Calls Tryz.prog 42 #[.string s, .bool p] w fun e w' => e = .returned (.string ⟨(enc p s.data.toList).toArray⟩) ∧ Below w.heap.size w w' := by
  obtain ⟨i0, hi, hz0, hz1, hz2⟩ := info_parts Tryz.info5
  go_enter Tryz.func42, Tryz.ntmps42
  go_wp2_with (at_make; refine wpList_make_own _ rfl _ _ 89 rfl w.heap.size 5 i0 (.int .u8 0) 1 Tryz.underlying89 hi hz0 hz1 .i64 .i64 _ s.size rfl rfl rfl (by rw [hz2]; omega) (by unfold maxLen; omega) (Nat.le_refl _) ?_; intro w1 hown1 hg1)
  go_loopw [5, 13] (fun v i wr => ∃ k : Nat, k ≤ s.size ∧ i = .int .i64 k ∧ owns wr w.heap.size v (enc p (s.data.toList.take k)) ∧ Below w.heap.size w wr) (fun _ i _ => s.size - (intOf i).toNat)
  case atStart => exact ⟨0, Nat.zero_le _, rfl, by simpa [owns, enc] using hown1, (Below.refl _ _).grown hg1 (Nat.le_refl _) (by simp)⟩
  case round =>
    obtain ⟨k, hk, rfl, hown, hbel⟩ := hrel
    clear hown1 hg1 hi hz0 hz1 hz2 i0
    have hsz := hbel.size
    have hel := enc_len p (s.data.toList.take k)
    have hel2 : (s.data.toList.take k).length ≤ k := List.length_take_le _ _
    have hel3 : (enc p (s.data.toList.take k)).length ≤ 3 * k := by omega
    clear hel hel2
    by_cases hlt : k < s.size
    · have HS : Hid (enc p (s.data.toList.take (k + 1)) = enc p (s.data.toList.take k) ++ enc1 p s[k]) := by rw [take_snoc s k hlt]; exact enc_snoc _ _ _
      cases hpl : plainB (s[k].toNat : Int) p
      · go_wp2_with (go_at_call 79; refine (isPlain_any _ _ _).mono ?_; rintro e w' ⟨rfl, rfl⟩)
        generalize hcg : s[k] = c at *
        have HC : Hid (s[k] = c) := hcg
        clear hcg
        have hb := c.toNat_lt
        have q1 : (0 : Int) ≤ (c.toNat : Int) / 16 := by omega
        have q2 : (c.toNat : Int) / 16 < 16 := by omega
        have q3 : (0 : Int) ≤ (c.toNat : Int) % 16 := by omega
        have q4 : (c.toNat : Int) % 16 < 16 := by omega
        have q5 := and15 c
        go_region_law ((refine app_step rfl _ _ rfl w.heap.size _ [37, hexD (c.toNat / 16), hexD (c.toNat % 16)] _ rfl (hown.alloc _) _ 3 rfl rfl _ ((heap_alloc_new _ _).trans (by rw [hexs_map])) (by omega) (by omega) (by simp; omega) ?_; intro v' w2 hown2 hb2))
        all_goals
          go_wp2
          go_roundw
          case rel => exact ⟨k + 1, by omega, by go_num, by rw [HS.out]; simpa [enc1, hpl] using hown2, (hbel.alloc (by omega) _).drew.trans hb2⟩
          case measure => simp [intOf]; omega
      · go_wp2_with (first | (go_at_call 79; refine (isPlain_any _ _ _).mono ?_; rintro e w' ⟨rfl, rfl⟩) | (at_builtin; refine app_law rfl _ _ rfl w.heap.size _ [s[k]] _ rfl (hown.alloc _) _ 1 rfl rfl _ (heap_alloc_new _ _) (by omega) (by omega) (by simp; omega) ?_; intro v' w2 hown2 hb2))
        go_roundw
        case rel => exact ⟨k + 1, by omega, by go_num, by rw [HS.out]; simpa [enc1, hpl] using hown2, (hbel.alloc (by omega) _).trans hb2⟩
        case measure => simp [intOf]; omega
    · have hcv := hown.conv
      have HE : Hid (enc p (s.data.toList.take k) = enc p s.data.toList) := by show _ = _; rw [List.take_of_length_le (by simp; omega)]
      go_wp2
      go_ret
      exact ⟨ret_str HE.out, hbel⟩
end Go.Proofs.YtinnliapfdpfpaaGreatDoor.C
namespace Go.Proofs.YtinnliapfdpfpaaGreatDoor.C
open Go.RowKit
/-- Bytes in digits. -/
def hexL (d : Nat → UInt8) (l : List UInt8) : List UInt8 := l.flatMap fun c => [d (c.toNat / 16), d (c.toNat % 16)]
theorem hexL_snoc (d : Nat → UInt8) (l : List UInt8) (c : UInt8) : hexL d (l ++ [c]) = hexL d l ++ [d (c.toNat / 16), d (c.toNat % 16)] := by simp [hexL]
theorem hexL_len (d : Nat → UInt8) (l : List UInt8) : (hexL d l).length = 2 * l.length := by
  induction l with
  | nil => rfl
  | cons c l ih => simp [hexL] at *; omega
theorem cut_one (D : ByteArray) (j : Nat) (h : j < D.size) : D.extract j (j + 1) = ⟨[D.data.getD j 0].toArray⟩ := by
  apply ByteArray.ext
  have h' : j < D.data.size := h
  apply Array.ext
  · simp; omega
  · intro i h1 h2
    have : i = 0 := by simp at h2; omega
    subst this
    have e1 : (D.extract j (j + 1)).data[0]'h1 = D.data[j] := by simp
    rw [e1]; simp [Array.getD]
    intro hh; omega
theorem cut_two (D : ByteArray) (q : List UInt8) (i j : Nat) (hi : i < D.size) (hj : j < D.size) :
    (⟨q.toArray⟩ : ByteArray) ++ D.extract i (i + 1) ++ D.extract j (j + 1) = ⟨(q ++ [D.data.getD i 0, D.data.getD j 0]).toArray⟩ := by
  rw [cut_one D i hi, cut_one D j hj]
  apply ByteArray.ext
  simp
set_option maxHeartbeats 400000 in
theorem hex_any (s D : ByteArray) (w : World) (hs : s.size ≤ 1000000000) (hD : D.size = 16) :
    Calls Tryz.prog 110 #[.string s, .string D] w fun e w' => e = .returned (.string ⟨(hexL (fun n => D.data.getD n 0) s.data.toList).toArray⟩) ∧ ∃ n, w' = w.drewN n := by
  have h16 : Hid (D.size = 16) := hD
  go_enter Tryz.func110, Tryz.ntmps110
  go_wp2
  go_loopw [5, 6] (fun v i wr => ∃ k : Nat, k ≤ s.size ∧ i = .int .i64 k ∧ v = .string ⟨(hexL (fun n => D.data.getD n 0) (s.data.toList.take k)).toArray⟩ ∧ ∃ n, wr = w.drewN n) (fun _ i _ => s.size - (intOf i).toNat)
  case atStart => exact ⟨0, Nat.zero_le _, rfl, by simp [hexL], 0, rfl⟩
  case round =>
    obtain ⟨k, hk, rfl, rfl, n, rfl⟩ := hrel
    by_cases hlt : k < s.size
    · have hlen := hexL_len (fun n => D.data.getD n 0) (s.data.toList.take k)
      have hl2 : (s.data.toList.take k).length ≤ k := List.length_take_le _ _
      generalize hgl : hexL (fun n => D.data.getD n 0) (s.data.toList.take k) = q at *
      have hq : q.length ≤ 2000000000 := by omega
      have HG : Hid (hexL (fun n => D.data.getD n 0) (s.data.toList.take k) = q) := hgl
      clear hlen hl2 hgl
      have hbk : s[k].toNat < 256 := s[k].toNat_lt
      go_wp2
      generalize hcg : s[k] = c at *
      have HC : Hid (s[k] = c) := hcg
      clear hcg
      have hb := hbk
      have q1 : (0 : Int) ≤ (c.toNat : Int) / 16 := by omega
      have q2 : (c.toNat : Int) / 16 < 16 := by omega
      have q3 : (0 : Int) ≤ (c.toNat : Int) % 16 := by omega
      have q4 : (c.toNat : Int) % 16 < 16 := by omega
      go_quiet (fail)
      go_wp2
      go_roundw
      case rel =>
        refine ⟨k + 1, by omega, by go_num, ?_, n + nq, rfl⟩
        have E : hexL (fun n => D.data.getD n 0) (s.data.toList.take (k + 1)) = q ++ [D.data.getD (c.toNat / 16) 0, D.data.getD (c.toNat % 16) 0] := by
          rw [take_snoc s k hlt, hexL_snoc, HG.out, HC.out]
        rw [E]
        exact congrArg Value.string (cut_two D q (c.toNat / 16) (c.toNat % 16) (by rw [h16.out]; omega) (by rw [h16.out]; omega))
      case measure => simp [intOf]; omega
    · have HE : Hid (hexL (fun n => D.data.getD n 0) (s.data.toList.take k) = hexL (fun n => D.data.getD n 0) s.data.toList) := by show _ = _; rw [List.take_of_length_le (by simp; omega)]
      go_wp2
      go_ret
      exact ⟨ret_str HE.out, n, rfl⟩
end Go.Proofs.YtinnliapfdpfpaaGreatDoor.C
namespace Go.Proofs.YtinnliapfdpfpaaGreatDoor.C
open Go.RowKit
def upD : ByteArray := ⟨#[48, 49, 50, 51, 52, 53, 54, 55, 56, 57, 65, 66, 67, 68, 69, 70]⟩
theorem up_fin2 : ∀ n : Fin 16, upD.data.getD n.val 0 = hexD n.val := by decide +kernel
theorem hexL_one (c : UInt8) : hexL (fun n => upD.data.getD n 0) [c] = [hexD (c.toNat / 16), hexD (c.toNat % 16)] := by
  have hb := c.toNat_lt
  have e1 := up_fin2 ⟨c.toNat / 16, by omega⟩
  have e2 := up_fin2 ⟨c.toNat % 16, by omega⟩
  simp only at e1 e2
  show [upD.data.getD (c.toNat / 16) 0, upD.data.getD (c.toNat % 16) 0] = _
  rw [e1, e2]
theorem below_drewN {B : Nat} {a w : World} (h : Below B a w) (n : Nat) : Below B a (w.drewN n) := h.trans ⟨rfl, rfl, rfl, Nat.le_refl _, fun _ _ => rfl⟩
theorem owns.drewN {w : World} {B : Nat} {v : Value} {l : List UInt8} (h : owns w B v l) (n : Nat) : owns (w.drewN n) B v l := h
theorem owns.drew {w : World} {B : Nat} {v : Value} {l : List UInt8} (h : owns w B v l) : owns w.drew B v l := h
theorem cut_byte (s : ByteArray) (k : Nat) (h : k < s.size) : s.extract k (k + 1) = ⟨[s[k]].toArray⟩ := by
  rw [cut_one s k h]
  have h' : k < s.data.size := h
  have e : s.data.getD k 0 = s[k] := by rw [Array.getD, dif_pos h']; rfl
  rw [e]

set_option maxHeartbeats 400000 in
theorem rencode_any (s : ByteArray) (p : Bool) (w : World) (hs : s.size ≤ 1000000000) :
    Calls Tryz.prog 70 #[.string s, .bool p] w fun e w' => e = .returned (.string ⟨(enc p s.data.toList).toArray⟩) ∧ Below w.heap.size w w' := by
  go_enter Tryz.func70, Tryz.ntmps70
  go_wp2
  go_loopw [5, 6] (fun v i wr => ∃ k : Nat, k ≤ s.size ∧ i = .int .i64 k ∧ owns wr w.heap.size v (enc p (s.data.toList.take k)) ∧ Below w.heap.size w wr) (fun _ i _ => s.size - (intOf i).toNat)
  case atStart => exact ⟨0, Nat.zero_le _, rfl, by simpa [owns, enc] using World.ownsRow_nil w w.heap.size 5 1, Below.refl _ _⟩
  case round =>
    obtain ⟨k, hk, rfl, hown, hbel⟩ := hrel
    have hsz := hbel.size
    have hel := enc_len p (s.data.toList.take k)
    have hel2 : (s.data.toList.take k).length ≤ k := List.length_take_le _ _
    have hel3 : (enc p (s.data.toList.take k)).length ≤ 3 * k := by omega
    clear hel hel2
    by_cases hlt : k < s.size
    · have HS : Hid (enc p (s.data.toList.take (k + 1)) = enc p (s.data.toList.take k) ++ enc1 p s[k]) := by show _ = _; rw [take_snoc s k hlt]; exact enc_snoc _ _ _
      have hbk : s[k].toNat < 256 := s[k].toNat_lt
      cases hpl : plainB (s[k].toNat : Int) p
      · have HC : Hid (s.extract k (k + 1) = ⟨[s[k]].toArray⟩) := cut_byte s k hlt
        go_wp2_with (go_at_call 109; refine (stands_any _ _ (by omega) (by omega) _).mono ?_; rintro e w' ⟨rfl, rfl⟩)
        rw [HC.out]
        refine (hex_any ⟨[s[k]].toArray⟩ upD _ (by show 1 ≤ 1000000000; omega) rfl).mono ?_
        rintro e w2 ⟨rfl, n, rfl⟩
        rw [show hexL (fun n => upD.data.getD n 0) (⟨[s[k]].toArray⟩ : ByteArray).data.toList = _ from hexL_one s[k]]
        generalize hcg : s[k] = c at *
        clear HC hcg
        generalize hx1 : hexD (c.toNat / 16) = x1
        generalize hx2 : hexD (c.toNat % 16) = x2
        have HX : Hid (enc1 p c = [37, x1, x2]) := by show _ = _; simp [enc1, hpl, hx1, hx2]
        clear hx1 hx2
        go_wp2
        go_region_law ((refine app_step rfl _ _ rfl w.heap.size _ [37, x1, x2] _ rfl ((hown.drewN _).alloc _) _ 3 rfl rfl _ ((heap_alloc_new _ _).trans rfl) (by omega) (by omega) (by simp; omega) ?_; intro v' w2 hown2 hb2))
        all_goals
          go_wp2
          go_roundw
          case rel => exact ⟨k + 1, by omega, by go_num, by rw [HS.out, HX.out]; exact hown2, ((below_drewN hbel _).alloc (by simp; omega) _).trans hb2⟩
          case measure => simp [intOf]; omega
      · go_wp2_with (first | (go_at_call 109; refine (stands_any _ _ (by omega) (by omega) _).mono ?_; rintro e w' ⟨rfl, rfl⟩) | (at_builtin; refine app_law rfl _ _ rfl w.heap.size _ [s[k]] _ rfl (hown.alloc _) _ 1 rfl rfl _ (heap_alloc_new _ _) (by omega) (by omega) (by simp; omega) ?_; intro v' w2 hown2 hb2))
        go_roundw
        case rel => exact ⟨k + 1, by omega, by go_num, by rw [HS.out]; simpa [enc1, hpl] using hown2, (hbel.alloc (by omega) _).trans hb2⟩
        case measure => simp [intOf]; omega
    · have hcv := hown.conv
      have HE : Hid (enc p (s.data.toList.take k) = enc p s.data.toList) := by show _ = _; rw [List.take_of_length_le (by simp; omega)]
      go_wp2
      go_ret
      exact ⟨ret_str HE.out, hbel⟩
end Go.Proofs.YtinnliapfdpfpaaGreatDoor.C
