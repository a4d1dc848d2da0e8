import Derived.Test.YtaeabbmekmjcaaaGreatDoorCRead
namespace Go.Proofs.YtaeabbmekmjcaaaGreatDoor.C
open Go.RowKit
def rdOk (b : Nat) (p : Bool) (w : World) (l : List UInt8) : Prop :=
  w.cell? ⟨b, 0, none⟩ = some (rest l) ∧ w.cell? ⟨b, 1, none⟩ = some (.bool p) ∧ w.frozen? ⟨b, 0, none⟩ = false
theorem rdOk.set {b : Nat} {p : Bool} {w : World} {l : List UInt8} (h : rdOk b p w l) (r : List UInt8) : rdOk b p (w.setCell ⟨b, 0, none⟩ (rest r)) r := by
  obtain ⟨h0, h1, h2⟩ := h
  exact ⟨by simp [go_sem, h0], by simp [go_sem, h1], by simp [go_sem, h2]⟩
theorem grown_set (w : World) (b o : Nat) (v : Value) : w.grownBy (w.setCell ⟨b, o, none⟩ v) (some b) :=
  have h := (Below.refl b w).setCell (p := ⟨b, o, none⟩) (Nat.le_refl _) v
  ⟨h.os, h.tape, h.output, h.size, fun k _ hne => Below.heap_setCell w ⟨b, o, none⟩ v k (fun e => hne (by simp [e]))⟩
theorem grown_trans {a b c : World} {r : Option Nat} (h : a.grownBy b r) (k : b.grownBy c r) : a.grownBy c r :=
  ⟨k.os.trans h.os, k.tape.trans h.tape, k.output.trans h.output, Nat.le_trans h.size k.size, fun j hj hne => (k.block j (Nat.lt_of_lt_of_le hj h.size) hne).trans (h.block j hj hne)⟩
theorem or_fin : ∀ i j : Fin 16, bits .or .u8 ((i.val : Int) * 16) (j.val : Int) = 16 * (i.val : Int) + j.val := by decide +kernel
theorem or_bits (x y : Int) (hx0 : 0 ≤ x) (hx : x ≤ 15) (hy0 : 0 ≤ y) (hy : y ≤ 15) : bits .or .u8 (x * 16) y = 16 * x + y := by
  obtain ⟨m, rfl⟩ := Int.eq_ofNat_of_zero_le hx0
  obtain ⟨n, rfl⟩ := Int.eq_ofNat_of_zero_le hy0
  exact or_fin ⟨m, by omega⟩ ⟨n, by omega⟩
theorem byte_of (v : Int) (h0 : 0 ≤ v) (h1 : v < 256) : ((UInt8.ofNat v.toNat).toNat : Int) = v := by
  simp; omega

theorem dec1_cases {p : Bool} {l r : List UInt8} {c : UInt8} (h : dec1 p l = some (c, r)) :
    (l = c :: r ∧ plainB (c.toNat : Int) p = true ∧ ¬ c.toNat = 37) ∨
    (∃ x y z, l = x :: y :: z :: r ∧ x.toNat = 37 ∧ 0 ≤ digV (y.toNat : Int) ∧ 0 ≤ digV (z.toNat : Int) ∧ c = UInt8.ofNat (16 * digV (y.toNat : Int) + digV (z.toNat : Int)).toNat) := by
  match l with
  | [] => cases h
  | x :: t =>
    by_cases hx : x.toNat = 37
    · right
      match t with
      | [] => rw [dec1_pct0 hx] at h; cases h
      | [_] => rw [dec1_pct1 hx] at h; cases h
      | y :: z :: t =>
        by_cases hy : 0 ≤ digV (y.toNat : Int)
        · by_cases hz : 0 ≤ digV (z.toNat : Int)
          · rw [dec1_pct t hx hy hz] at h
            simp only [Option.some.injEq, Prod.mk.injEq] at h
            obtain ⟨rfl, rfl⟩ := h
            exact ⟨x, y, z, rfl, hx, hy, hz, rfl⟩
          · rw [dec1_pctB t hx (by omega)] at h; cases h
        · rw [dec1_pctA (z :: t) hx (by omega)] at h; cases h
    · left
      cases hp : plainB (x.toNat : Int) p
      · rw [dec1_odd t hp hx] at h; cases h
      · rw [dec1_plain t hp] at h
        simp only [Option.some.injEq, Prod.mk.injEq] at h
        obtain ⟨rfl, rfl⟩ := h
        exact ⟨rfl, hp, hx⟩
theorem dec1_nones {p : Bool} {l : List UInt8} (h : dec1 p l = none) :
    l = [] ∨ (∃ x t, l = x :: t ∧ ¬ x.toNat = 37 ∧ plainB (x.toNat : Int) p = false) ∨ (∃ x, l = [x] ∧ x.toNat = 37) ∨ (∃ x y t, l = x :: y :: t ∧ x.toNat = 37 ∧ digV (y.toNat : Int) < 0) ∨
    (∃ x y, l = [x, y] ∧ x.toNat = 37 ∧ 0 ≤ digV (y.toNat : Int)) ∨ (∃ x y z t, l = x :: y :: z :: t ∧ x.toNat = 37 ∧ 0 ≤ digV (y.toNat : Int) ∧ digV (z.toNat : Int) < 0) := by
  match l with
  | [] => exact Or.inl rfl
  | x :: t =>
    right
    by_cases hx : x.toNat = 37
    · right
      match t with
      | [] => exact Or.inl ⟨x, rfl, hx⟩
      | y :: t =>
        right
        by_cases hy : 0 ≤ digV (y.toNat : Int)
        · right
          match t with
          | [] => exact Or.inl ⟨x, y, rfl, hx, hy⟩
          | z :: t =>
            right
            by_cases hz : 0 ≤ digV (z.toNat : Int)
            · rw [dec1_pct t hx hy hz] at h; cases h
            · exact ⟨x, y, z, t, rfl, hx, hy, by omega⟩
        · exact Or.inl ⟨x, y, t, rfl, hx, by omega⟩
    · left
      cases hp : plainB (x.toNat : Int) p
      · exact ⟨x, t, rfl, hx, hp⟩
      · rw [dec1_plain t hp] at h; cases h

set_option maxHeartbeats 400000 in
theorem readByte_some (b : Nat) (p : Bool) (l r : List UInt8) (c : UInt8) (w : World) (h : rdOk b p w l) (hl : l.length ≤ 4000000000) (hd : dec1 p l = some (c, r)) :
    Calls Tryz.prog 142 #[.pointer (some ⟨b, 0, none⟩)] w fun e w' => e = .returned (.int .u8 c.toNat) ∧ rdOk b p w' r ∧ w.grownBy w' (some b) := by
  rcases dec1_cases hd with ⟨rfl, hp, hx⟩ | ⟨x, y, z, rfl, hx, hy, hz, rfl⟩
  · have s1 := h.set r
    have t37 : ((c.toNat : Int) == 37) = false := by simp; omega
    have G := grown_set w b 0 (rest r)
    have hcp := s1.2.1
    clear hx
    go_enter Tryz.func142, Tryz.ntmps142
    go_wp2_with (first | (go_at_call 151; refine (next_ok b r c _ h.1 h.2.2 hl).mono ?_; rintro e w' ⟨rfl, rfl⟩) | (go_at_call 48; refine (isPlain_any _ _ _).mono ?_; rintro e w' ⟨rfl, rfl⟩))
    go_ret
    exact ⟨rfl, s1, G⟩
  · have s1 := h.set (y :: z :: r)
    have s2 := s1.set (z :: r)
    have s3 := s2.set r
    have t37 : ((x.toNat : Int) == 37) = true := by simp [hx]
    have bx := digV_bd (y.toNat : Int)
    have bz := digV_bd (z.toNat : Int)
    have ho := or_bits _ _ hy bx.2 hz bz.2
    have G := grown_trans (grown_trans (grown_set w b 0 (rest (y :: z :: r))) (grown_set _ b 0 (rest (z :: r)))) (grown_set _ b 0 (rest r))
    simp only [List.length_cons] at hl
    clear hx
    go_enter Tryz.func142, Tryz.ntmps142
    go_wp2_with fail
    refine (next_ok b (y :: z :: r) x _ h.1 h.2.2 hl).mono ?_
    rintro e w' ⟨rfl, rfl⟩
    go_wp2_with fail
    refine (readDigit_ok b (z :: r) y _ s1.1 s1.2.2 (by simp; omega) hy).mono ?_
    rintro e w' ⟨rfl, rfl⟩
    go_wp2_with fail
    refine (readDigit_ok b r z _ s2.1 s2.2.2 (by simp; omega) hz).mono ?_
    rintro e w' ⟨rfl, rfl⟩
    clear s1 s2 h
    go_wp2
    go_ret
    exact ⟨ret_int (byte_of _ (by omega) (by omega)).symm, s3, G⟩
set_option maxHeartbeats 400000 in
theorem readByte_none (b : Nat) (p : Bool) (l : List UInt8) (w : World) (h : rdOk b p w l) (hl : l.length ≤ 4000000000) (hd : dec1 p l = none) :
    Calls Tryz.prog 142 #[.pointer (some ⟨b, 0, none⟩)] w fun e w' => e = .panicked noC ∧ w.grownBy w' (some b) := by
  rcases dec1_nones hd with rfl | ⟨x, t, rfl, hx, hp⟩ | ⟨x, rfl, hx⟩ | ⟨x, y, t, rfl, hx, hy⟩ | ⟨x, y, rfl, hx, hy⟩ | ⟨x, y, z, t, rfl, hx, hy, hz⟩
  · clear hd
    go_enter Tryz.func142, Tryz.ntmps142
    go_wp2_with (go_at_call 151; refine (next_no b _ h.1).mono ?_; rintro e w' ⟨rfl, rfl⟩)
    exact ⟨rfl, rfl, World.grownBy.refl _ _⟩
  · clear hd
    have s1 := h.set t
    have t37 : ((x.toNat : Int) == 37) = false := by simp; omega
    have G := grown_set w b 0 (rest t)
    have hcp := s1.2.1
    clear hx
    go_enter Tryz.func142, Tryz.ntmps142
    go_wp2_with (first | (go_at_call 151; refine (next_ok b t x _ h.1 h.2.2 hl).mono ?_; rintro e w' ⟨rfl, rfl⟩) | (go_at_call 48; refine (isPlain_any _ _ _).mono ?_; rintro e w' ⟨rfl, rfl⟩))
    exact ⟨rfl, rfl, G⟩
  · clear hd
    have s1 := h.set []
    have t37 : ((x.toNat : Int) == 37) = true := by simp [hx]
    have G := grown_set w b 0 (rest [])
    clear hx
    go_enter Tryz.func142, Tryz.ntmps142
    go_wp2_with (first | (go_at_call 151; refine (next_ok b [] x _ h.1 h.2.2 hl).mono ?_; rintro e w' ⟨rfl, rfl⟩) | (go_at_call 152; refine (readDigit_no b _ s1.1).mono ?_; rintro e w' ⟨rfl, rfl⟩))
    exact ⟨rfl, rfl, G⟩
  · clear hd
    have s1 := h.set (y :: t)
    have t37 : ((x.toNat : Int) == 37) = true := by simp [hx]
    have G := grown_trans (grown_set w b 0 (rest (y :: t))) (grown_set _ b 0 (rest t))
    simp only [List.length_cons] at hl
    clear hx
    go_enter Tryz.func142, Tryz.ntmps142
    go_wp2_with (first | (go_at_call 151; refine (next_ok b (y :: t) x _ h.1 h.2.2 hl).mono ?_; rintro e w' ⟨rfl, rfl⟩) | (go_at_call 152; refine (readDigit_bad b t y _ s1.1 s1.2.2 (by simp; omega) hy).mono ?_; rintro e w' ⟨rfl, rfl⟩))
    exact ⟨rfl, rfl, G⟩
  · clear hd
    have s1 := h.set [y]
    have s2 := s1.set []
    have t37 : ((x.toNat : Int) == 37) = true := by simp [hx]
    have G := grown_trans (grown_set w b 0 (rest [y])) (grown_set _ b 0 (rest []))
    clear hx
    go_enter Tryz.func142, Tryz.ntmps142
    go_wp2_with fail
    refine (next_ok b [y] x _ h.1 h.2.2 hl).mono ?_
    rintro e w' ⟨rfl, rfl⟩
    go_wp2_with fail
    refine (readDigit_ok b [] y _ s1.1 s1.2.2 (by simp) hy).mono ?_
    rintro e w' ⟨rfl, rfl⟩
    go_wp2_with fail
    refine (readDigit_no b _ s2.1).mono ?_
    rintro e w' ⟨rfl, rfl⟩
    go_wp2
    exact ⟨rfl, rfl, G⟩
  · clear hd
    have s1 := h.set (y :: z :: t)
    have s2 := s1.set (z :: t)
    have t37 : ((x.toNat : Int) == 37) = true := by simp [hx]
    have G := grown_trans (grown_trans (grown_set w b 0 (rest (y :: z :: t))) (grown_set _ b 0 (rest (z :: t)))) (grown_set _ b 0 (rest t))
    simp only [List.length_cons] at hl
    clear hx
    go_enter Tryz.func142, Tryz.ntmps142
    go_wp2_with fail
    refine (next_ok b (y :: z :: t) x _ h.1 h.2.2 hl).mono ?_
    rintro e w' ⟨rfl, rfl⟩
    go_wp2_with fail
    refine (readDigit_ok b (z :: t) y _ s1.1 s1.2.2 (by simp; omega) hy).mono ?_
    rintro e w' ⟨rfl, rfl⟩
    go_wp2_with fail
    refine (readDigit_bad b t z _ s2.1 s2.2.2 (by simp; omega) hz).mono ?_
    rintro e w' ⟨rfl, rfl⟩
    go_wp2
    exact ⟨rfl, rfl, G⟩
end Go.Proofs.YtaeabbmekmjcaaaGreatDoor.C
