/-
  PATTERNS, as the program has them.
-/
import Derived.Test.YtinnliapfdpfpaaDoorPRead
import Derived.Test.YtinnliapfdpfpaaDoorPFits
import Derived.BigQuiet
namespace Go.Proofs.YtinnliapfdpfpaaDoor.P
open Go.RowKit
open Go.Proofs.YtinnliapfdpfpaaDoor.C (ret_bool ret_int ret_str)

theorem u8_eq (a : UInt8) (n : Nat) (hn : n < 256) : (a == UInt8.ofNat n) = ((a.toNat : Int) == (n : Int)) := by
  rw [Bool.eq_iff_iff]
  simp only [beq_iff_eq]
  constructor
  · rintro rfl; simp; omega
  · intro h
    apply UInt8.toNat_inj.1
    rw [UInt8.toNat_ofNat']
    omega
theorem stars_false {l : List UInt8} {k : Nat} (h : k < l.length) (hf : ¬ l[k].toNat = 42) : l.all (· == 42) = false := by
  rw [List.all_eq_false]
  refine ⟨l[k], List.getElem_mem h, ?_⟩
  intro e
  rw [beq_iff_eq] at e
  rw [e] at hf; exact hf rfl
theorem stars_succ {l : List UInt8} {k : Nat} (h : k < l.length) (hf : l[k].toNat = 42) (h1 : (l.take k).all (· == 42) = true) : (l.take (k + 1)).all (· == 42) = true := by
  have e : l.take (k + 1) = l.take k ++ [l[k]] := by rw [List.take_add_one, List.getElem?_eq_getElem h]; rfl
  have e2 : l[k] = 42 := UInt8.toNat_inj.1 hf
  rw [e, List.all_append, h1, e2]; rfl
set_option maxHeartbeats 1000000 in
theorem stars_any (l : List UInt8) (w : World) (hl : l.length ≤ 140737488355328) :
    Calls Tryd.prog 127 #[str l] w fun e w' => e = .returned (.bool (l.all (· == 42))) ∧ w = w' := by
  go_enter Tryd.func127, Tryd.ntmps127
  go_wp2
  go_loop [6] (fun i => ∃ k : Nat, k ≤ l.length ∧ i = .int .i64 k ∧ (l.take k).all (· == 42) = true) (fun i => l.length - (intOf i).toNat)
  case atStart => exact ⟨0, Nat.zero_le _, rfl, by simp⟩
  case round =>
    obtain ⟨k, hk, rfl, hno⟩ := hrel
    have HN : Hid ((l.take k).all (· == 42) = true) := hno
    clear hno
    by_cases hlt : k < l.length
    · have hs : k < (⟨l.toArray⟩ : ByteArray).size := hlt
      have hy : (⟨l.toArray⟩ : ByteArray)[k]'hs = l[k] := rfl
      have hxl := l[k].toNat_lt
      by_cases h42 : l[k].toNat = 42
      · have HY : Hid ((l.take (k + 1)).all (· == 42) = true) := stars_succ hlt h42 HN.out
        have p1 : ((((⟨l.toArray⟩ : ByteArray)[k]'hs).toNat : Int) == 42) = true := by rw [hy]; simp; omega
        clear HN h42 hy
        go_wp2
        go_round
        case rel => exact ⟨k + 1, by omega, by go_num, HY.out⟩
        case measure => simp [intOf]; omega
      · have HY : Hid (l.all (· == 42) = false) := stars_false hlt h42
        have p1 : ((((⟨l.toArray⟩ : ByteArray)[k]'hs).toNat : Int) == 42) = false := by rw [hy]; simp; omega
        clear HN h42 hy
        go_wp2
        go_ret
        exact ⟨ret_bool HY.out.symm, rfl⟩
    · have HT : Hid (l.all (· == 42) = true) := by
        show _ = _
        have := HN.out
        rwa [List.take_of_length_le (by omega)] at this
      clear HN
      go_wp2
      go_ret
      exact ⟨ret_bool HT.out.symm, rfl⟩
theorem below_drewN {B : Nat} {a w : World} (h : Below B a w) (q : Nat) : Below B a (w.drewN q) := ⟨h.os, h.tape, h.output, h.size, h.block⟩
def bsV : Option Nat → Int
  | none => -1
  | some x => x
theorem ext_drop (p : List UInt8) (i : Nat) : (⟨p.toArray⟩ : ByteArray).extract i p.length = ⟨(p.drop i).toArray⟩ := by
  apply ByteArray.ext
  simp
  exact List.take_of_length_le (by simp)
theorem fit_bd (p k : List UInt8) {i n t : Nat} {b : Option Nat} (s : Srch p k i n b t) : i ≤ p.length ∧ n ≤ k.length ∧ t ≤ n ∧ (∀ x, b = some x → x ≤ i) := s.bd
theorem miss1 {p k : List UInt8} {i n : Nat} (h : ¬ i < p.length) : i < p.length → ∃ h : i < p.length, p[i] ≠ 42 ∧ (p[i] == 63 || p[i] == k[n]!) = false := fun e => absurd e h
theorem u8_ne {a : UInt8} {n : Nat} (h : ¬ a.toNat = n) (hn : n < 256) : a ≠ UInt8.ofNat n := by
  rintro rfl
  rw [UInt8.toNat_ofNat'] at h; omega
set_option maxHeartbeats 4000000 in
theorem fits_any (p k : List UInt8) (w : World) (hp : p.length ≤ 4000) (hk : k.length ≤ 140737488355328) :
    Calls Tryd.prog 94 #[str p, str k] w fun e w' => e = .returned (.bool (like p k)) ∧ Below w.heap.size w w' := by
  go_enter Tryd.func94, Tryd.ntmps94
  go_wp2
  go_loopw [5, 6, 7, 8] (fun vi vn vb vt wr => ∃ (i n t : Nat) (b : Option Nat), vi = .int .i64 i ∧ vn = .int .i64 n ∧ vb = .int .i64 (bsV b) ∧ vt = .int .i64 t ∧ Srch p k i n b t ∧ Below w.heap.size w wr)
    (fun vi _ _ vt _ => (k.length + 1 - (intOf vt).toNat) * (p.length + 2) + (p.length - (intOf vi).toNat))
  case atStart => exact ⟨0, 0, 0, none, rfl, rfl, rfl, rfl, Srch.start p k, Below.refl _ _⟩
  case round =>
    obtain ⟨i, n, t, b, rfl, rfl, rfl, rfl, S, hb⟩ := hrel
    obtain ⟨b1, b2, b3, b4⟩ := S.bd
    by_cases hn : n < k.length
    · have hns : n < (⟨k.toArray⟩ : ByteArray).size := hn
      have hky : (⟨k.toArray⟩ : ByteArray)[n]'hns = k[n] := rfl
      have hyl := k[n].toNat_lt
      by_cases hi : i < p.length
      · have his : i < (⟨p.toArray⟩ : ByteArray).size := hi
        have hpx : (⟨p.toArray⟩ : ByteArray)[i]'his = p[i] := rfl
        have hxl := p[i].toNat_lt
        by_cases h42 : p[i].toNat = 42
        · have S2 : Hid (Srch p k (i + 1) n (some (i + 1)) n) := S.star hi (UInt8.toNat_inj.1 h42)
          have p1 : ((((⟨p.toArray⟩ : ByteArray)[i]'his).toNat : Int) == 42) = true := by rw [hpx]; simp; omega
          clear S h42 hpx hky
          go_wp2
          go_roundw
          case rel => exact ⟨i + 1, n, n, some (i + 1), by go_num, rfl, by simp [bsV], rfl, S2.out, hb⟩
          case measure =>
            simp [intOf]
            have : (k.length + 1 - n) * (p.length + 2) ≤ (k.length + 1 - t) * (p.length + 2) := Nat.mul_le_mul_right _ (by omega)
            omega
        · have n42 : p[i] ≠ 42 := fun e => h42 (by rw [e]; rfl)
          have p1 : ((((⟨p.toArray⟩ : ByteArray)[i]'his).toNat : Int) == 42) = false := by rw [hpx]; simp; omega
          by_cases h63 : p[i].toNat = 63
          · have HM : (p[i] == 63 || p[i] == k[n]) = true := by rw [show p[i] = 63 from UInt8.toNat_inj.1 h63]; rfl
            have S2 : Hid (Srch p k (i + 1) (n + 1) b t) := S.step hi hn n42 HM
            have p2 : ((((⟨p.toArray⟩ : ByteArray)[i]'his).toNat : Int) == 63) = true := by rw [hpx]; simp; omega
            clear S h42 hpx hky HM n42
            go_wp2_with fail
            go_quiet (fail)
            go_wp2
            go_roundw
            case rel => exact ⟨i + 1, n + 1, t, b, by go_num, by go_num, rfl, rfl, S2.out, below_drewN hb _⟩
            case measure => simp [intOf]; omega
          · have p2 : ((((⟨p.toArray⟩ : ByteArray)[i]'his).toNat : Int) == 63) = false := by rw [hpx]; simp; omega
            by_cases hxy : p[i].toNat = k[n].toNat
            · have HM : (p[i] == 63 || p[i] == k[n]) = true := by rw [show p[i] = k[n] from UInt8.toNat_inj.1 hxy]; simp
              have S2 : Hid (Srch p k (i + 1) (n + 1) b t) := S.step hi hn n42 HM
              have p3 : ((((⟨p.toArray⟩ : ByteArray)[i]'his).toNat : Int) == (((⟨k.toArray⟩ : ByteArray)[n]'hns).toNat : Int)) = true := by rw [hpx, hky, hxy]; simp
              clear S h42 hpx hky HM n42
              go_wp2_with fail
              go_quiet (fail)
              go_wp2
              go_roundw
              case rel => exact ⟨i + 1, n + 1, t, b, by go_num, by go_num, rfl, rfl, S2.out, below_drewN hb _⟩
              case measure => simp [intOf]; omega
            · have HM : i < p.length → ∃ h : i < p.length, p[i] ≠ 42 ∧ (p[i] == 63 || p[i] == k[n]) = false := fun _ => ⟨hi, n42, by
                rw [Bool.or_eq_false_iff]; constructor
                · simp only [beq_eq_false_iff_ne]; intro e; exact h63 (by rw [e]; rfl)
                · simp only [beq_eq_false_iff_ne]; intro e; exact hxy (by rw [e])⟩
              have p3 : ((((⟨p.toArray⟩ : ByteArray)[i]'his).toNat : Int) == (((⟨k.toArray⟩ : ByteArray)[n]'hns).toNat : Int)) = false := by rw [hpx, hky]; simp; omega
              clear h42 hpx hky n42 h63 hxy
              rcases b with _ | x
              · have HF : Hid (like p k = false) := S.fails hn HM
                have p5 : decide (0 ≤ bsV none) = false := rfl
                clear S HM
                go_wp2_with fail
                go_quiet (fail)
                go_wp2
                go_ret
                exact ⟨ret_bool HF.out.symm, below_drewN hb _⟩
              · have S2 : Hid (Srch p k x (t + 1) (some x) (t + 1)) := S.back hn HM
                have p5 : decide (0 ≤ bsV (some x)) = true := by simp [bsV]
                have hx := b4 x rfl
                clear S HM
                go_wp2_with fail
                go_quiet (fail)
                go_wp2
                go_roundw
                case rel => exact ⟨x, t + 1, t + 1, some x, by simp [bsV], by go_num, rfl, by go_num, S2.out, below_drewN hb _⟩
                case measure =>
                  simp [intOf, bsV]
                  have e : (k.length + 1 - t) * (p.length + 2) = (k.length + 1 - (t + 1)) * (p.length + 2) + (p.length + 2) := by
                    rw [show k.length + 1 - t = (k.length + 1 - (t + 1)) + 1 by omega, Nat.add_mul, Nat.one_mul]
                  have e2 : k.length + 1 - (t + 1) = k.length - t := by omega
                  rw [e2] at e
                  omega
      · have HM : i < p.length → ∃ h : i < p.length, p[i] ≠ 42 ∧ (p[i] == 63 || p[i] == k[n]) = false := fun e => absurd e hi
        have p0 : decide ((i : Int) < (p.length : Int)) = false := by simp; omega
        clear hky
        rcases b with _ | x
        · have HF : Hid (like p k = false) := S.fails hn HM
          have p5 : decide (0 ≤ bsV none) = false := rfl
          clear S HM
          go_wp2_with fail
          go_quiet (fail)
          go_wp2
          go_ret
          exact ⟨ret_bool HF.out.symm, below_drewN hb _⟩
        · have S2 : Hid (Srch p k x (t + 1) (some x) (t + 1)) := S.back hn HM
          have p5 : decide (0 ≤ bsV (some x)) = true := by simp [bsV]
          have hx := b4 x rfl
          clear S HM
          go_wp2_with fail
          go_quiet (fail)
          go_wp2
          go_roundw
          case rel => exact ⟨x, t + 1, t + 1, some x, by simp [bsV], by go_num, rfl, by go_num, S2.out, below_drewN hb _⟩
          case measure =>
            simp [intOf, bsV]
            have e : (k.length + 1 - t) * (p.length + 2) = (k.length + 1 - (t + 1)) * (p.length + 2) + (p.length + 2) := by
              rw [show k.length + 1 - t = (k.length + 1 - (t + 1)) + 1 by omega, Nat.add_mul, Nat.one_mul]
            have e2 : k.length + 1 - (t + 1) = k.length - t := by omega
            rw [e2] at e
            omega
    · obtain rfl : n = k.length := by omega
      have HT : Hid (like p k = (p.drop i).all (· == 42)) := S.ends
      have HE : Hid ((⟨p.toArray⟩ : ByteArray).extract i p.length = ⟨(p.drop i).toArray⟩) := ext_drop p i
      have C : Hid (_) := stars_any (p.drop i)
      clear S
      go_wp2_with fail
      rw [HE.out]
      refine (C.out wr (by simp; omega)).mono ?_
      rintro e w' ⟨rfl, rfl⟩
      go_wp2
      go_ret
      exact ⟨ret_bool HT.out.symm, hb⟩
end Go.Proofs.YtinnliapfdpfpaaDoor.P
