/-
  THE DOCUMENT's TAG, Hash and Mac.
-/
import Derived.Test.YtinnliapfdpfpaaGreatDoorHDig
namespace Go.Proofs.YtinnliapfdpfpaaGreatDoor
open Go.RowKit
def keyB (l : List UInt8) (x : Nat) : Nat → List UInt8
  | 0 => []
  | k + 1 => keyB l x k ++ [UInt8.ofNat (byteAt l k ^^^ x)]
theorem keyB_len (l : List UInt8) (x k : Nat) : (keyB l x k).length = k := by induction k with | zero => rfl | succ k ih => simp [keyB, ih]
def shortK (l : List UInt8) : List UInt8 := if 64 < l.length then digest l else l
def tagL (key text : List UInt8) : List UInt8 := digest (keyB (shortK key) 92 64 ++ digest (keyB (shortK key) 54 64 ++ text))
theorem digest_len (l : List UInt8) : (digest l).length = 32 := outL_len _ 8
theorem shortK_len (l : List UInt8) : (shortK l).length ≤ 64 := by
  unfold shortK; split
  · rw [digest_len]; omega
  · omega
theorem byteAt_past (l : List UInt8) (i : Nat) (h : l.length ≤ i) : byteAt l i = 0 := by
  unfold byteAt; rw [List.getD_eq_getElem?_getD, List.getElem?_eq_none h]; rfl
theorem big_one (n : Nat) : bigL n 1 = [UInt8.ofNat n] := by simp [bigL]
theorem i256 {a b : Nat} (ha : a < 256) (hb : b < 256) : a ^^^ b < 256 := Nat.xor_lt_two_pow (n := 8) ha hb

set_option maxHeartbeats 1000000 in
theorem rtag_core (key text : List UInt8) (hk : key.length ≤ 64) (ht : text.length ≤ 400000000000000) (kk : List UInt8) (hkk : kk.length ≤ 400000000000000) (hs : shortK kk = key) (w : World) :
    Calls Tryz.prog 77 #[.string ⟨kk.toArray⟩, .string ⟨text.toArray⟩] w fun e w' => e = .returned (.string ⟨(tagL kk text).toArray⟩) ∧ Below w.heap.size w w' := by
  have HT : Hid (tagL kk text = digest (keyB key 92 64 ++ digest (keyB key 54 64 ++ text))) := by show _ = _; unfold tagL; rw [hs]
  by_cases hl : 64 < kk.length
  · have hkey : digest kk = key := by rw [← hs, shortK, if_pos hl]
    have HK : Hid (digest kk = key) := hkey
    clear hkey
    go_enter Tryz.func77, Tryz.ntmps77
    go_wp2_with fail
    refine (rdigest_any kk (by omega) _).mono ?_
    rintro e w1 ⟨rfl, hb1⟩
    rw [HK.out]
    go_wp2_with fail
    go_loopw [5, 6, 7] (fun x y i wr => ∃ k : Nat, k ≤ 64 ∧ i = .int .i64 k ∧ x = .string ⟨(keyB key 54 k).toArray⟩ ∧ y = .string ⟨(keyB key 92 k).toArray⟩ ∧ Below w.heap.size w wr) (fun _ _ i _ => 64 - (intOf i).toNat)
    case atStart => exact ⟨0, by omega, rfl, rfl, rfl, hb1⟩
    case round =>
      clear hb1
      obtain ⟨k, hk64, rfl, rfl, rfl, hbel⟩ := hrel
      have hsz := hbel.size
      have l1 := keyB_len key 54 k
      have l2 := keyB_len key 92 k
      have HI : Hid (keyB key 54 (k + 1) = keyB key 54 k ++ [UInt8.ofNat (byteAt key k ^^^ 54)]) := rfl
      have HO : Hid (keyB key 92 (k + 1) = keyB key 92 k ++ [UInt8.ofNat (byteAt key k ^^^ 92)]) := rfl
      by_cases hkl : k < 64
      · have hb := byteAt_lt key k
        by_cases hin : k < key.length
        · have hin' : k < (⟨key.toArray⟩ : ByteArray).size := by simpa [ByteArray.size] using hin
          have hbk : byteAt key k = ((⟨key.toArray⟩ : ByteArray)[k]'hin').toNat := byteAt_get ⟨key.toArray⟩ k hin'
          have HBK : Hid ((((⟨key.toArray⟩ : ByteArray)[k]'hin').toNat : Int) = (byteAt key k : Nat)) := by show _ = _; rw [hbk]
          have hq : ((⟨key.toArray⟩ : ByteArray)[k]'hin').toNat < 256 := UInt8.toNat_lt _
          clear hbk
          go_wp2_with fail
          rw [HBK.out]
          clear HBK hq
          generalize byteAt key k = b at *
          have O1 : Hid (bigL (b ^^^ 54) 1 = [UInt8.ofNat (b ^^^ 54)]) := big_one _
          have O2 : Hid (bigL (b ^^^ 92) 1 = [UInt8.ofNat (b ^^^ 92)]) := big_one _
          have x1 := i256 hb (show 54 < 256 by omega)
          have x2 := i256 hb (show 92 < 256 by omega)
          refine (rxor_any b 54 (by omega) (by omega) _).mono ?_
          rintro e w' ⟨rfl, rfl⟩
          go_wp2_with fail
          refine (big_any (b ^^^ 54) 1 (by omega) (by omega) _).mono ?_
          rintro e w2 ⟨rfl, hb2⟩
          rw [O1.out]
          generalize UInt8.ofNat (b ^^^ 54) = y1 at *
          have hbel2 := hbel.trans (hb2.mono hsz)
          clear hbel hb2
          have a1 := app_str (keyB key 54 k) [y1]
          generalize keyB key 54 k = q1 at *
          go_wp2_with fail
          refine (rxor_any b 92 (by omega) (by omega) _).mono ?_
          rintro e w' ⟨rfl, rfl⟩
          go_wp2_with fail
          refine (big_any (b ^^^ 92) 1 (by omega) (by omega) _).mono ?_
          rintro e w3 ⟨rfl, hb3⟩
          rw [O2.out]
          generalize UInt8.ofNat (b ^^^ 92) = y2 at *
          have hsz2 := hbel2.size
          have hbel3 := hbel2.trans (hb3.mono hsz2)
          clear hbel2 hb3
          have a2 := app_str (keyB key 92 k) [y2]
          generalize keyB key 92 k = q2 at *
          go_wp2_with fail
          go_roundw
          case rel => exact ⟨k + 1, by omega, by go_num, by rw [HI.out], by rw [HO.out], hbel3⟩
          case measure => simp [intOf]; omega

        · have hz := byteAt_past key k (by omega)
          rw [hz, show (0 ^^^ 54 : Nat) = 54 from rfl] at HI
          rw [hz, show (0 ^^^ 92 : Nat) = 92 from rfl] at HO
          clear hz
          have O1 : Hid (bigL 54 1 = [UInt8.ofNat 54]) := big_one _
          have O2 : Hid (bigL 92 1 = [UInt8.ofNat 92]) := big_one _
          go_wp2_with fail
          refine (rxor_any 0 54 (by omega) (by omega) _).mono ?_
          rintro e w' ⟨rfl, rfl⟩
          rw [show (0 ^^^ 54 : Nat) = 54 from rfl]
          go_wp2_with fail
          refine (big_any (54) 1 (by omega) (by omega) _).mono ?_
          rintro e w2 ⟨rfl, hb2⟩
          rw [O1.out]
          generalize UInt8.ofNat (54) = y1 at *
          have hbel2 := hbel.trans (hb2.mono hsz)
          clear hbel hb2
          have a1 := app_str (keyB key 54 k) [y1]
          generalize keyB key 54 k = q1 at *
          go_wp2_with fail
          refine (rxor_any 0 92 (by omega) (by omega) _).mono ?_
          rintro e w' ⟨rfl, rfl⟩
          rw [show (0 ^^^ 92 : Nat) = 92 from rfl]
          go_wp2_with fail
          refine (big_any (92) 1 (by omega) (by omega) _).mono ?_
          rintro e w3 ⟨rfl, hb3⟩
          rw [O2.out]
          generalize UInt8.ofNat (92) = y2 at *
          have hsz2 := hbel2.size
          have hbel3 := hbel2.trans (hb3.mono hsz2)
          clear hbel2 hb3
          have a2 := app_str (keyB key 92 k) [y2]
          generalize keyB key 92 k = q2 at *
          go_wp2_with fail
          go_roundw
          case rel => exact ⟨k + 1, by omega, by go_num, by rw [HI.out], by rw [HO.out], hbel3⟩
          case measure => simp [intOf]; omega

      · have HT2 : Hid (tagL kk text = digest (keyB key 92 k ++ digest (keyB key 54 k ++ text))) := by show _ = _; rw [HT.out, show k = 64 from by omega]
        have hdk : decide ((k : Int) < 64) = false := by simp; omega
        clear HI HO HT
        have a1 := app_str (keyB key 54 k) text
        generalize keyB key 54 k = q1 at *
        generalize keyB key 92 k = q2 at *
        go_wp2_with fail
        refine (rdigest_any (q1 ++ text) (by simp; omega) _).mono ?_
        rintro e w2 ⟨rfl, hb2⟩
        have hbel2 := hbel.trans (hb2.mono hsz)
        have hsz2 := hbel2.size
        have hdl := digest_len (q1 ++ text)
        have a2 := app_str q2 (digest (q1 ++ text))
        generalize digest (q1 ++ text) = d1 at *
        go_wp2_with fail
        refine (rdigest_any (q2 ++ d1) (by simp; omega) _).mono ?_
        rintro e w3 ⟨rfl, hb3⟩
        have hbel3 := hbel2.trans (hb3.mono hsz2)
        generalize digest (q2 ++ d1) = d2 at *
        go_wp2_with fail
        go_ret
        exact ⟨ret_str HT2.out.symm, hbel3⟩
  · obtain rfl : kk = key := by rw [← hs, shortK, if_neg hl]
    have hb1 : Below w.heap.size w w := Below.refl _ _
    clear hs
    go_enter Tryz.func77, Tryz.ntmps77
    go_wp2_with fail
    go_loopw [5, 6, 7] (fun x y i wr => ∃ k : Nat, k ≤ 64 ∧ i = .int .i64 k ∧ x = .string ⟨(keyB kk 54 k).toArray⟩ ∧ y = .string ⟨(keyB kk 92 k).toArray⟩ ∧ Below w.heap.size w wr) (fun _ _ i _ => 64 - (intOf i).toNat)
    case atStart => exact ⟨0, by omega, rfl, rfl, rfl, hb1⟩
    case round =>
      clear hb1
      obtain ⟨k, hk64, rfl, rfl, rfl, hbel⟩ := hrel
      have hsz := hbel.size
      have l1 := keyB_len kk 54 k
      have l2 := keyB_len kk 92 k
      have HI : Hid (keyB kk 54 (k + 1) = keyB kk 54 k ++ [UInt8.ofNat (byteAt kk k ^^^ 54)]) := rfl
      have HO : Hid (keyB kk 92 (k + 1) = keyB kk 92 k ++ [UInt8.ofNat (byteAt kk k ^^^ 92)]) := rfl
      by_cases hkl : k < 64
      · have hb := byteAt_lt kk k
        by_cases hin : k < kk.length
        · have hin' : k < (⟨kk.toArray⟩ : ByteArray).size := by simpa [ByteArray.size] using hin
          have hbk : byteAt kk k = ((⟨kk.toArray⟩ : ByteArray)[k]'hin').toNat := byteAt_get ⟨kk.toArray⟩ k hin'
          have HBK : Hid ((((⟨kk.toArray⟩ : ByteArray)[k]'hin').toNat : Int) = (byteAt kk k : Nat)) := by show _ = _; rw [hbk]
          have hq : ((⟨kk.toArray⟩ : ByteArray)[k]'hin').toNat < 256 := UInt8.toNat_lt _
          clear hbk
          go_wp2_with fail
          rw [HBK.out]
          clear HBK hq
          generalize byteAt kk k = b at *
          have O1 : Hid (bigL (b ^^^ 54) 1 = [UInt8.ofNat (b ^^^ 54)]) := big_one _
          have O2 : Hid (bigL (b ^^^ 92) 1 = [UInt8.ofNat (b ^^^ 92)]) := big_one _
          have x1 := i256 hb (show 54 < 256 by omega)
          have x2 := i256 hb (show 92 < 256 by omega)
          refine (rxor_any b 54 (by omega) (by omega) _).mono ?_
          rintro e w' ⟨rfl, rfl⟩
          go_wp2_with fail
          refine (big_any (b ^^^ 54) 1 (by omega) (by omega) _).mono ?_
          rintro e w2 ⟨rfl, hb2⟩
          rw [O1.out]
          generalize UInt8.ofNat (b ^^^ 54) = y1 at *
          have hbel2 := hbel.trans (hb2.mono hsz)
          clear hbel hb2
          have a1 := app_str (keyB kk 54 k) [y1]
          generalize keyB kk 54 k = q1 at *
          go_wp2_with fail
          refine (rxor_any b 92 (by omega) (by omega) _).mono ?_
          rintro e w' ⟨rfl, rfl⟩
          go_wp2_with fail
          refine (big_any (b ^^^ 92) 1 (by omega) (by omega) _).mono ?_
          rintro e w3 ⟨rfl, hb3⟩
          rw [O2.out]
          generalize UInt8.ofNat (b ^^^ 92) = y2 at *
          have hsz2 := hbel2.size
          have hbel3 := hbel2.trans (hb3.mono hsz2)
          clear hbel2 hb3
          have a2 := app_str (keyB kk 92 k) [y2]
          generalize keyB kk 92 k = q2 at *
          go_wp2_with fail
          go_roundw
          case rel => exact ⟨k + 1, by omega, by go_num, by rw [HI.out], by rw [HO.out], hbel3⟩
          case measure => simp [intOf]; omega

        · have hz := byteAt_past kk k (by omega)
          rw [hz, show (0 ^^^ 54 : Nat) = 54 from rfl] at HI
          rw [hz, show (0 ^^^ 92 : Nat) = 92 from rfl] at HO
          clear hz
          have O1 : Hid (bigL 54 1 = [UInt8.ofNat 54]) := big_one _
          have O2 : Hid (bigL 92 1 = [UInt8.ofNat 92]) := big_one _
          go_wp2_with fail
          refine (rxor_any 0 54 (by omega) (by omega) _).mono ?_
          rintro e w' ⟨rfl, rfl⟩
          rw [show (0 ^^^ 54 : Nat) = 54 from rfl]
          go_wp2_with fail
          refine (big_any (54) 1 (by omega) (by omega) _).mono ?_
          rintro e w2 ⟨rfl, hb2⟩
          rw [O1.out]
          generalize UInt8.ofNat (54) = y1 at *
          have hbel2 := hbel.trans (hb2.mono hsz)
          clear hbel hb2
          have a1 := app_str (keyB kk 54 k) [y1]
          generalize keyB kk 54 k = q1 at *
          go_wp2_with fail
          refine (rxor_any 0 92 (by omega) (by omega) _).mono ?_
          rintro e w' ⟨rfl, rfl⟩
          rw [show (0 ^^^ 92 : Nat) = 92 from rfl]
          go_wp2_with fail
          refine (big_any (92) 1 (by omega) (by omega) _).mono ?_
          rintro e w3 ⟨rfl, hb3⟩
          rw [O2.out]
          generalize UInt8.ofNat (92) = y2 at *
          have hsz2 := hbel2.size
          have hbel3 := hbel2.trans (hb3.mono hsz2)
          clear hbel2 hb3
          have a2 := app_str (keyB kk 92 k) [y2]
          generalize keyB kk 92 k = q2 at *
          go_wp2_with fail
          go_roundw
          case rel => exact ⟨k + 1, by omega, by go_num, by rw [HI.out], by rw [HO.out], hbel3⟩
          case measure => simp [intOf]; omega

      · have HT2 : Hid (tagL kk text = digest (keyB kk 92 k ++ digest (keyB kk 54 k ++ text))) := by show _ = _; rw [HT.out, show k = 64 from by omega]
        have hdk : decide ((k : Int) < 64) = false := by simp; omega
        clear HI HO HT
        have a1 := app_str (keyB kk 54 k) text
        generalize keyB kk 54 k = q1 at *
        generalize keyB kk 92 k = q2 at *
        go_wp2_with fail
        refine (rdigest_any (q1 ++ text) (by simp; omega) _).mono ?_
        rintro e w2 ⟨rfl, hb2⟩
        have hbel2 := hbel.trans (hb2.mono hsz)
        have hsz2 := hbel2.size
        have hdl := digest_len (q1 ++ text)
        have a2 := app_str q2 (digest (q1 ++ text))
        generalize digest (q1 ++ text) = d1 at *
        go_wp2_with fail
        refine (rdigest_any (q2 ++ d1) (by simp; omega) _).mono ?_
        rintro e w3 ⟨rfl, hb3⟩
        have hbel3 := hbel2.trans (hb3.mono hsz2)
        generalize digest (q2 ++ d1) = d2 at *
        go_wp2_with fail
        go_ret
        exact ⟨ret_str HT2.out.symm, hbel3⟩
theorem rtag_any (kk text : List UInt8) (hkk : kk.length ≤ 400000000000000) (ht : text.length ≤ 400000000000000) (w : World) :
    Calls Tryz.prog 77 #[.string ⟨kk.toArray⟩, .string ⟨text.toArray⟩] w fun e w' => e = .returned (.string ⟨(tagL kk text).toArray⟩) ∧ Below w.heap.size w w' :=
  rtag_core (shortK kk) text (shortK_len kk) ht kk hkk rfl w
def lowB : ByteArray := ⟨#[48, 49, 50, 51, 52, 53, 54, 55, 56, 57, 97, 98, 99, 100, 101, 102]⟩
def lowF (n : Nat) : UInt8 := lowB.data.getD n 0
theorem tagL_len (k t : List UInt8) : (tagL k t).length = 32 := digest_len _
set_option maxHeartbeats 400000 in
theorem rhash_any (l : List UInt8) (hl : l.length ≤ 400000000000000) (w : World) :
    Calls Tryz.prog 73 #[.string ⟨l.toArray⟩] w fun e w' => e = .returned (.string ⟨(hexL lowF (digest l)).toArray⟩) ∧ Below w.heap.size w w' := by
  have hd := digest_len l
  go_enter Tryz.func73, Tryz.ntmps73
  go_wp2_with fail
  refine (rdigest_any l (by omega) _).mono ?_
  rintro e w1 ⟨rfl, hb1⟩
  generalize hdg : digest l = d at *
  have HD : Hid (digest l = d) := hdg
  clear hdg
  go_wp2_with fail
  refine (hex_any ⟨d.toArray⟩ lowB _ (by simp [ByteArray.size]; omega) rfl).mono ?_
  rintro e w2 ⟨rfl, n, rfl⟩
  rw [show hexL (fun n => lowB.data.getD n 0) (⟨d.toArray⟩ : ByteArray).data.toList = hexL lowF d from rfl]
  go_wp2_with fail
  go_ret
  exact ⟨ret_str (by rw [HD.out]), below_drewN hb1 n⟩
set_option maxHeartbeats 400000 in
theorem rmac_any (k l : List UInt8) (hk : k.length ≤ 400000000000000) (hl : l.length ≤ 400000000000000) (w : World) :
    Calls Tryz.prog 78 #[.string ⟨k.toArray⟩, .string ⟨l.toArray⟩] w fun e w' => e = .returned (.string ⟨(hexL lowF (tagL k l)).toArray⟩) ∧ Below w.heap.size w w' := by
  have hd := tagL_len k l
  go_enter Tryz.func78, Tryz.ntmps78
  go_wp2_with fail
  refine (rtag_any k l hk hl _).mono ?_
  rintro e w1 ⟨rfl, hb1⟩
  generalize hdg : tagL k l = d at *
  have HD : Hid (tagL k l = d) := hdg
  clear hdg
  go_wp2_with fail
  refine (hex_any ⟨d.toArray⟩ lowB _ (by simp [ByteArray.size]; omega) rfl).mono ?_
  rintro e w2 ⟨rfl, n, rfl⟩
  rw [show hexL (fun n => lowB.data.getD n 0) (⟨d.toArray⟩ : ByteArray).data.toList = hexL lowF d from rfl]
  go_wp2_with fail
  go_ret
  exact ⟨ret_str (by rw [HD.out]), below_drewN hb1 n⟩
end Go.Proofs.YtinnliapfdpfpaaGreatDoor
