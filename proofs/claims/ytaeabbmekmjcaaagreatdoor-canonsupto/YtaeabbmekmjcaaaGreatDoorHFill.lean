/-
  THE CONSTANTS, AND A TEXT FILLED UP.
-/
import Derived.Test.YtaeabbmekmjcaaaGreatDoorHWords
namespace Go.Proofs.YtaeabbmekmjcaaaGreatDoor
open Go.RowKit
def kL : List Nat := [1116352408, 1899447441, 3049323471, 3921009573, 961987163, 1508970993, 2453635748, 2870763221, 3624381080, 310598401, 607225278, 1426881987, 1925078388, 2162078206, 2614888103, 3248222580, 3835390401, 4022224774, 264347078, 604807628, 770255983, 1249150122, 1555081692, 1996064986, 2554220882, 2821834349, 2952996808, 3210313671, 3336571891, 3584528711, 113926993, 338241895, 666307205, 773529912, 1294757372, 1396182291, 1695183700, 1986661051, 2177026350, 2456956037, 2730485921, 2820302411, 3259730800, 3345764771, 3516065817, 3600352804, 4094571909, 275423344, 430227734, 506948616, 659060556, 883997877, 958139571, 1322822218, 1537002063, 1747873779, 1955562222, 2024104815, 2227730452, 2361852424, 2428436474, 2756734187, 3204031479, 3329325298]
def hL : List Nat := [1779033703, 3144134277, 1013904242, 2773480762, 1359893119, 2600822924, 528734635, 1541459225]
theorem kL_small : small kL := by
  intro i
  by_cases h : i < 64
  · have : ∀ n : Fin 64, kL.getD n.val 0 < 4294967296 := by decide +kernel
    exact this ⟨i, h⟩
  · have e : kL.getD i 0 = 0 := by rw [List.getD_eq_getElem?_getD, List.getElem?_eq_none (by show 64 ≤ i; omega)]; rfl
    rw [e]; omega
set_option maxRecDepth 100000 in
set_option maxHeartbeats 400000 in
theorem consts_any (w : World) :
    Calls Tryz.prog 87 #[] w fun e w' => e = .returned (.slice (some ⟨w.heap.size, 0, none⟩) 64 64) ∧ w' = w.alloc (.cells (kL.map iv).toArray 3) := by
  go_enter Tryz.func87, Tryz.ntmps87
  go_wp2
  go_ret
  exact ⟨rfl, rfl⟩
/-- How many noughts. -/
def zs (n : Nat) : Nat := (119 - n % 64) % 64
def pad (l : List UInt8) : List UInt8 := l ++ [128] ++ List.replicate (zs l.length) 0 ++ bigL (8 * l.length) 8
theorem pad_len (l : List UInt8) : (pad l).length = l.length + 9 + zs l.length := by simp [pad, bigL_len]; omega
theorem zs_mod (n : Nat) : (n + 1 + zs n) % 64 = 56 := by unfold zs; omega
theorem zs_lt (n : Nat) : zs n < 64 := by unfold zs; omega
theorem zs_min (n j : Nat) (h : j < zs n) : ¬ (n + 1 + j) % 64 = 56 := by unfold zs at h; omega
theorem app_str (a b : List UInt8) : (⟨a.toArray⟩ : ByteArray) ++ ⟨b.toArray⟩ = ⟨(a ++ b).toArray⟩ := by apply ByteArray.ext; simp
def strLen (v : Value) : Nat := match v with | .string s => s.size | _ => 0
theorem strLen_of (l : List UInt8) : strLen (.string ⟨l.toArray⟩) = l.length := by simp [strLen, ByteArray.size]
set_option maxHeartbeats 400000 in
theorem filled_any (l : List UInt8) (hl : l.length ≤ 500000000000000) (w : World) :
    Calls Tryz.prog 86 #[.string ⟨l.toArray⟩] w fun e w' => e = .returned (.string ⟨(pad l).toArray⟩) ∧ Below w.heap.size w w' := by
  have a1 := app_str l [128]
  go_enter Tryz.func86, Tryz.ntmps86
  go_wp2
  go_loop [3] (fun v => ∃ j : Nat, j ≤ zs l.length ∧ v = .string ⟨(l ++ [128] ++ List.replicate j 0).toArray⟩) (fun v => l.length + 100 - strLen v)
  case atStart => exact ⟨0, Nat.zero_le _, by simp⟩
  case round =>
    obtain ⟨j, hj, rfl⟩ := hrel
    clear a1
    have hz := zs_lt l.length
    have hlen : (l ++ [128] ++ List.replicate j 0).length = l.length + 1 + j := by simp; omega
    have HM : Hid (strLen (.string ⟨(l ++ [128] ++ List.replicate j 0).toArray⟩) = l.length + 1 + j) := by show _ = _; rw [strLen_of, hlen]
    have a0 := app_str (l ++ [128] ++ List.replicate j 0) [0]
    have HR : Hid (l ++ [128] ++ List.replicate (j + 1) 0 = (l ++ [128] ++ List.replicate j 0) ++ [0]) := by show _ = _; rw [List.replicate_succ', List.append_assoc (l ++ [128])]
    have hb := bigL_len (8 * l.length) 8
    have HP : Hid (j = zs l.length → pad l = (l ++ [128] ++ List.replicate j 0) ++ bigL (8 * l.length) 8) := fun e => by rw [e]; rfl
    have hmin := zs_min l.length j
    have hmod := zs_mod l.length
    by_cases hlt : j < zs l.length
    · have hne := hmin hlt
      have t56 : ((((l.length + 1 + j : Nat) : Int) % 64) != 56) = true := by simp; omega
      generalize l ++ [128] ++ List.replicate j 0 = q at *
      go_wp2
      go_round
      case rel => exact ⟨j + 1, by omega, by rw [HR.out]⟩
      case measure => rw [HM.out, strLen_of]; simp; omega
    · have hpad := HP.out (by omega)
      have HP2 : Hid (pad l = (l ++ [128] ++ List.replicate j 0) ++ bigL (8 * l.length) 8) := hpad
      have t56 : ((((l.length + 1 + j : Nat) : Int) % 64) != 56) = false := by simp; omega
      clear hpad HP HR HM a0 hmin
      generalize l ++ [128] ++ List.replicate j 0 = q at *
      go_wp2_with fail
      rw [show (8 * (l.length : Int)) = ((8 * l.length : Nat) : Int) from by simp]
      refine (big_any (8 * l.length) 8 (by omega) (by omega) _).mono ?_
      rintro e w' ⟨rfl, hbel⟩
      generalize bigL (8 * l.length) 8 = r at *
      have a2 := app_str q r
      go_wp2
      go_ret
      exact ⟨ret_str HP2.out.symm, hbel⟩
end Go.Proofs.YtaeabbmekmjcaaaGreatDoor
