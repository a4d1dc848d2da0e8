import Derived.Test.YtinnliapfdpfpaaCEnc
import Derived.Test.YtinnliapfdpfpaaCDec
namespace Go.Proofs.Ytinnliapfdpfpaa.C
open Go.RowKit
set_option maxHeartbeats 400000 in
theorem lencode_any (s : ByteArray) (p : Bool) (w : World) (hs : s.size ≤ 1000000000) :
    Calls Try.prog 5 #[.string s, .bool p] w fun e w' => e = .returned (.string ⟨(enc p s.data.toList).toArray⟩) ∧ Below w.heap.size w w' := by
  go_enter Try.func5, Try.ntmps5
  go_wp2_with (go_at_call 10; refine (encode_any s p _ hs).mono ?_; rintro e w' ⟨rfl, hb⟩)
  go_ret
  exact ⟨rfl, hb⟩
set_option maxHeartbeats 400000 in
theorem ldecode_any (s : ByteArray) (p : Bool) (w : World) (hs : s.size ≤ 4000000000) :
    Calls Try.prog 7 #[.string s, .bool p] w fun e w' => e = decEnd (dec p s.data.toList) ∧ Below w.heap.size w w' := by
  go_enter Try.func7, Try.ntmps7
  go_wp2_with fail
  refine (decode_any s p _ hs).mono ?_
  rintro e w' ⟨rfl, hb⟩
  cases hd : dec p s.data.toList with
  | none =>
    simp only [decEnd]
    go_wp2
    go_ret2
    exact ⟨dendN hd, hb⟩
  | some t =>
    simp only [decEnd]
    go_wp2
    go_ret2
    exact ⟨dend hd, hb⟩
set_option maxHeartbeats 400000 in
theorem codes_any (s : ByteArray) (p : Bool) (w : World) (hs : s.size ≤ 1000000000) :
    Calls Try.prog 3 #[.string s, .bool p] w fun e w' => e = .returned (.bool true) ∧ Below w.heap.size w w' := by
  go_enter Try.func3, Try.ntmps3
  go_wp2_with fail
  refine (lencode_any s p _ hs).mono ?_
  rintro e w1 ⟨rfl, hb1⟩
  go_wp2_with fail
  refine (rencode_any s p _ hs).mono ?_
  rintro e w2 ⟨rfl, hb2⟩
  go_wp2_with fail
  refine (ldecode_any s p _ (by omega)).mono ?_
  rintro e w3 ⟨rfl, hb3⟩
  have z1 := hb1.size
  have z2 := hb2.size
  have z3 := hb3.size
  cases hd : dec p s.data.toList with
  | none =>
    simp only [decEnd]
    go_wp2_with fail
    refine (rdecode_any s p _ (by omega)).mono ?_
    rintro e w4 ⟨rfl, hb4⟩
    have B : Below w.heap.size w w4 := ((hb1.trans (hb2.mono z1)).trans (hb3.mono (by omega))).trans (hb4.mono (by omega))
    clear hb1 hb2 hb3 hb4 z1 z2 z3
    simp only [hd, decEnd]
    go_wp2
    go_ret
    exact ⟨rfl, B⟩
  | some t =>
    simp only [decEnd]
    go_wp2_with fail
    refine (rdecode_any s p _ (by omega)).mono ?_
    rintro e w4 ⟨rfl, hb4⟩
    have B : Below w.heap.size w w4 := ((hb1.trans (hb2.mono z1)).trans (hb3.mono (by omega))).trans (hb4.mono (by omega))
    clear hb1 hb2 hb3 hb4 z1 z2 z3
    simp only [hd, decEnd]
    go_wp2
    go_ret
    exact ⟨rfl, B⟩
set_option maxHeartbeats 400000 in
theorem coded_any (l : List UInt8) (p : Bool) (w : World) (hs : l.length ≤ 1000000000) :
    Calls Try.prog 4 #[.string ⟨l.toArray⟩, .bool p] w fun e w' => e = .returned (.bool true) ∧ Below w.heap.size w w' := by
  have hel := enc_len p l
  have hde := dec_enc p l
  have HD : Hid (dec p (enc p l) = some l) := hde
  clear hde
  go_enter Try.func4, Try.ntmps4
  go_wp2_with fail
  refine (lencode_any ⟨l.toArray⟩ p _ (by simpa [ByteArray.size] using hs)).mono ?_
  rintro e w1 ⟨rfl, hb1⟩
  rw [show enc p (⟨l.toArray⟩ : ByteArray).data.toList = enc p l from rfl]
  generalize hcg : enc p l = c at *
  have HC : Hid (enc p l = c) := hcg
  obtain ⟨e1, e2⟩ := hel
  clear hcg
  go_wp2_with fail
  refine (ldecode_any ⟨c.toArray⟩ p _ (by simp [ByteArray.size]; omega)).mono ?_
  rintro e w2 ⟨rfl, hb2⟩
  rw [show dec p (⟨c.toArray⟩ : ByteArray).data.toList = some l from HD.out]
  simp only [decEnd]
  go_wp2_with fail
  refine (ldecode_any ⟨l.toArray⟩ p _ (by simp [ByteArray.size]; omega)).mono ?_
  rintro e w3 ⟨rfl, hb3⟩
  have z1 := hb1.size
  have z2 := hb2.size
  have z3 := hb3.size
  rw [show dec p (⟨l.toArray⟩ : ByteArray).data.toList = dec p l from rfl]
  have B : Below w.heap.size w w3 := (hb1.trans (hb2.mono z1)).trans (hb3.mono (by omega))
  clear hb1 hb2 hb3
  cases hd : dec p l with
  | none =>
    simp only [decEnd]
    go_wp2
    go_ret
    exact ⟨rfl, B⟩
  | some t =>
    have hsh := dec_short hd
    have hel := enc_len p t
    obtain ⟨e3, e4⟩ := hel
    simp only [decEnd]
    clear hd
    go_wp2_with fail
    refine (lencode_any ⟨t.toArray⟩ p _ (by simp [ByteArray.size]; omega)).mono ?_
    rintro e w4 ⟨rfl, hb4⟩
    have B4 := B.trans (hb4.mono (by omega))
    rw [show enc p (⟨t.toArray⟩ : ByteArray).data.toList = enc p t from rfl]
    generalize enc p t = ct at *
    go_wp2
    go_ret
    exact ⟨rfl, B4⟩
end Go.Proofs.Ytinnliapfdpfpaa.C
