/-
  THE PROGRAM's Hash, Mac and Crc, and the law.
-/
import Derived.Test.YtinnliapfdpfpaaDoorMTag3
import Derived.Test.YtinnliapfdpfpaaDoorHCrc
import Derived.Test.YtinnliapfdpfpaaDoorHCrcD
namespace Go.Proofs.YtinnliapfdpfpaaDoor
open Go.RowKit
set_option maxRecDepth 100000 in
set_option maxHeartbeats 1000000 in
theorem lhash_any (l : List UInt8) (hl : l.length ≤ 400000000000000) (w : World) (h : Laid w) :
    Calls Tryd.prog 6 #[.string ⟨l.toArray⟩] w fun e w' => e = .returned (.string ⟨(hexL lowF (digest l)).toArray⟩) ∧ Below w.heap.size w w' := by
  have C1 : Hid (_) := mhash_any l hl
  have HH : Hid (Laid w) := h
  have C2 : Hid (_) := digits_any (digest l) (digest_len l)
  generalize (digest l).map u8v = L at *
  generalize hexL lowF (digest l) = q at *
  clear h
  go_enter Tryd.func6, Tryd.ntmps6
  go_wp2_with (first
    | (go_at_call 23; refine (C1.out _ HH.out).mono ?_; rintro e' w2 ⟨rfl, hb2⟩)
    | (go_at_call 22; refine (C2.out _).mono ?_; rintro e' w3 ⟨rfl, hb3⟩))
  go_ret
  exact ⟨rfl, hb2.trans (hb3.mono hb2.size)⟩
set_option maxRecDepth 100000 in
set_option maxHeartbeats 1000000 in
theorem lmac_any (k l : List UInt8) (hk : k.length ≤ 400000000000000) (hl : l.length ≤ 400000000000000) (w : World) (h : Laid w) :
    Calls Tryd.prog 8 #[.string ⟨k.toArray⟩, .string ⟨l.toArray⟩] w fun e w' => e = .returned (.string ⟨(hexL lowF (tagL k l)).toArray⟩) ∧ Below w.heap.size w w' := by
  have C1 : Hid (_) := mtag_any k l hk hl
  have HH : Hid (Laid w) := h
  have C2 : Hid (_) := digits_any (tagL k l) (tagL_len k l)
  generalize (tagL k l).map u8v = L at *
  generalize hexL lowF (tagL k l) = q at *
  clear h
  go_enter Tryd.func8, Tryd.ntmps8
  go_wp2_with (first
    | (go_at_call 26; refine (C1.out _ HH.out).mono ?_; rintro e' w2 ⟨rfl, hb2⟩)
    | (go_at_call 22; refine (C2.out _).mono ?_; rintro e' w3 ⟨rfl, hb3⟩))
  go_ret
  exact ⟨rfl, hb2.trans (hb3.mono hb2.size)⟩
set_option maxRecDepth 100000 in
set_option maxHeartbeats 1000000 in
theorem lcrc_any (s : ByteArray) (hs : s.size ≤ 1000000000000000) (w : World) :
    Calls Tryd.prog 10 #[.string s] w fun e w' => e = .returned (.int .u32 (crcL s.data.toList : Nat)) ∧ w' = w := by
  have C1 : Hid (_) := check_any s hs
  generalize crcL s.data.toList = c at *
  go_enter Tryd.func10, Tryd.ntmps10
  go_wp2_with (go_at_call 28; refine (C1.out _).mono ?_; rintro e' w2 ⟨rfl, rfl⟩)
  go_ret
  exact ⟨rfl, rfl⟩
theorem crcL_le (l : List UInt8) : crcL l ≤ 4294967295 := Nat.sub_le _ _
set_option maxRecDepth 100000 in
set_option maxHeartbeats 1000000 in
theorem hashes_any (k l : List UInt8) (hk : k.length ≤ 400000000000000) (hl : l.length ≤ 400000000000000) (w : World) (h : Laid w) :
    Calls Tryd.prog 3 #[.string ⟨k.toArray⟩, .string ⟨l.toArray⟩] w fun e w' => e = .returned (.bool true) ∧ Below w.heap.size w w' := by
  have hs : (⟨l.toArray⟩ : ByteArray).size ≤ 1000000000000000 := by simp [ByteArray.size]; omega
  have C1 : Hid (_) := lhash_any l hl
  have C2 : Hid (_) := rhash_any l hl
  have C3 : Hid (_) := lmac_any k l hk hl
  have C4 : Hid (_) := rmac_any k l hk hl
  have C5 : Hid (_) := lcrc_any ⟨l.toArray⟩ hs
  have C6 : Hid (_) := rcrc_any ⟨l.toArray⟩ hs
  have HH : Hid (Laid w) := h
  have hc := crcL_le (⟨l.toArray⟩ : ByteArray).data.toList
  clear h hs
  generalize hexL lowF (digest l) = q at *
  generalize hexL lowF (tagL k l) = p at *
  generalize crcL (⟨l.toArray⟩ : ByteArray).data.toList = c at *
  go_enter Tryd.func3, Tryd.ntmps3
  go_wp2_with (first
    | (go_at_call 6; refine (C1.out _ HH.out).mono ?_; rintro e' w2 ⟨rfl, hb2⟩; have HB2 : Hid (Below w.heap.size w w2) := hb2; clear hb2)
    | (go_at_call 7; refine (C2.out _).mono ?_; rintro e' w3 ⟨rfl, hb3⟩; have HB3 : Hid (Below w.heap.size w w3) := HB2.out.trans (hb3.mono HB2.out.size); clear hb3)
    | (go_at_call 8; refine (C3.out _ (HH.out.call HB3.out)).mono ?_; rintro e' w4 ⟨rfl, hb4⟩; have HB4 : Hid (Below w.heap.size w w4) := HB3.out.trans (hb4.mono HB3.out.size); clear hb4)
    | (go_at_call 9; refine (C4.out _).mono ?_; rintro e' w5 ⟨rfl, hb5⟩; have HB5 : Hid (Below w.heap.size w w5) := HB4.out.trans (hb5.mono HB4.out.size); clear hb5)
    | (go_at_call 10; refine (C5.out _).mono ?_; rintro e' w6 ⟨rfl, rfl⟩)
    | (go_at_call 11; refine (C6.out _).mono ?_; rintro e' w7 ⟨rfl, rfl⟩))
  go_ret
  exact ⟨rfl, HB5.out⟩
end Go.Proofs.YtinnliapfdpfpaaDoor
