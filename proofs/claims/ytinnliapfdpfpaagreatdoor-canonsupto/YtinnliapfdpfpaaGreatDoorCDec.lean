/-
  
-/
import Derived.Test.YtinnliapfdpfpaaGreatDoorCBase
namespace Go.Proofs.YtinnliapfdpfpaaGreatDoor.C
open Go.RowKit
def rdOk (b : Nat) (p : Bool) (w : World) (l : List UInt8) : Prop :=
  w.cell? ⟨b, 0, none⟩ = some (rest l) ∧ w.cell? ⟨b, 1, none⟩ = some (.bool p) ∧ w.frozen? ⟨b, 0, none⟩ = false
theorem rdOk.set {b : Nat} {p : Bool} {w : World} {l : List UInt8} (h : rdOk b p w l) (r : List UInt8) : rdOk b p (w.setCell ⟨b, 0, none⟩ (rest r)) r := by
  obtain ⟨h0, h1, h2⟩ := h
  exact ⟨by simp [go_sem, h0], by simp [go_sem, h1], by simp [go_sem, h2]⟩
theorem grown_set (w : World) (b o : Nat) (v : Value) : w.grownBy (w.setCell ⟨b, o, none⟩ v) (some b) :=
  have h := (Below.refl b w).setCell (p := ⟨b, o, none⟩) (Nat.le_refl _) v
  ⟨h.os, h.tape, h.output, h.size, fun k _ hne => Below.heap_setCell w ⟨b, o, none⟩ v k (fun e => hne (by simp [e]))⟩
theorem grown_trans {a b c : World} {r : Option Nat} (h : a.grownBy b r) (k : b.grownBy c r) : a.grownBy c r :=
  ⟨k.os.trans h.os, k.tape.trans h.tape, k.output.trans h.output, Nat.le_trans h.size k.size, fun j hj hne => (k.block j (Nat.lt_of_lt_of_le hj h.size) hne).trans (h.block j hj hne)⟩
theorem or_fin : ∀ i j : Fin 16, bits .or .u8 ((i.val : Int) * 16) (j.val : Int) = 16 * (i.val : Int) + j.val := by decide +kernel
theorem or_bits (x y : Int) (hx0 : 0 ≤ x) (hx : x ≤ 15) (hy0 : 0 ≤ y) (hy : y ≤ 15) : bits .or .u8 (x * 16) y = 16 * x + y := by
  obtain ⟨m, rfl⟩ := Int.eq_ofNat_of_zero_le hx0
  obtain ⟨n, rfl⟩ := Int.eq_ofNat_of_zero_le hy0
  exact or_fin ⟨m, by omega⟩ ⟨n, by omega⟩
theorem byte_of (v : Int) (h0 : 0 ≤ v) (h1 : v < 256) : ((UInt8.ofNat v.toNat).toNat : Int) = v := by
  simp; omega

theorem dec1_cases {p : Bool} {l r : List UInt8} {c : UInt8} (h : dec1 p l = some (c, r)) :
    (l = c :: r ∧ plainB (c.toNat : Int) p = true ∧ ¬ c.toNat = 37) ∨
    (∃ x y z, l = x :: y :: z :: r ∧ x.toNat = 37 ∧ 0 ≤ digV (y.toNat : Int) ∧ 0 ≤ digV (z.toNat : Int) ∧ c = UInt8.ofNat (16 * digV (y.toNat : Int) + digV (z.toNat : Int)).toNat) := by
  match l with
  | [] => cases h
  | x :: t =>
    by_cases hx : x.toNat = 37
    · right
      match t with
      | [] => rw [dec1_pct0 hx] at h; cases h
      | [_] => rw [dec1_pct1 hx] at h; cases h
      | y :: z :: t =>
        by_cases hy : 0 ≤ digV (y.toNat : Int)
        · by_cases hz : 0 ≤ digV (z.toNat : Int)
          · rw [dec1_pct t hx hy hz] at h
            simp only [Option.some.injEq, Prod.mk.injEq] at h
            obtain ⟨rfl, rfl⟩ := h
            exact ⟨x, y, z, rfl, hx, hy, hz, rfl⟩
          · rw [dec1_pctB t hx (by omega)] at h; cases h
        · rw [dec1_pctA (z :: t) hx (by omega)] at h; cases h
    · left
      cases hp : plainB (x.toNat : Int) p
      · rw [dec1_odd t hp hx] at h; cases h
      · rw [dec1_plain t hp] at h
        simp only [Option.some.injEq, Prod.mk.injEq] at h
        obtain ⟨rfl, rfl⟩ := h
        exact ⟨rfl, hp, hx⟩
theorem dec1_nones {p : Bool} {l : List UInt8} (h : dec1 p l = none) :
    l = [] ∨ (∃ x t, l = x :: t ∧ ¬ x.toNat = 37 ∧ plainB (x.toNat : Int) p = false) ∨ (∃ x, l = [x] ∧ x.toNat = 37) ∨ (∃ x y t, l = x :: y :: t ∧ x.toNat = 37 ∧ digV (y.toNat : Int) < 0) ∨
    (∃ x y, l = [x, y] ∧ x.toNat = 37 ∧ 0 ≤ digV (y.toNat : Int)) ∨ (∃ x y z t, l = x :: y :: z :: t ∧ x.toNat = 37 ∧ 0 ≤ digV (y.toNat : Int) ∧ digV (z.toNat : Int) < 0) := by
  match l with
  | [] => exact Or.inl rfl
  | x :: t =>
    right
    by_cases hx : x.toNat = 37
    · right
      match t with
      | [] => exact Or.inl ⟨x, rfl, hx⟩
      | y :: t =>
        right
        by_cases hy : 0 ≤ digV (y.toNat : Int)
        · right
          match t with
          | [] => exact Or.inl ⟨x, y, rfl, hx, hy⟩
          | z :: t =>
            right
            by_cases hz : 0 ≤ digV (z.toNat : Int)
            · rw [dec1_pct t hx hy hz] at h; cases h
            · exact ⟨x, y, z, t, rfl, hx, hy, by omega⟩
        · exact Or.inl ⟨x, y, t, rfl, hx, by omega⟩
    · left
      cases hp : plainB (x.toNat : Int) p
      · exact ⟨x, t, rfl, hx, hp⟩
      · rw [dec1_plain t hp] at h; cases h

set_option maxHeartbeats 400000 in
theorem readByte_some (b : Nat) (p : Bool) (l r : List UInt8) (c : UInt8) (w : World) (h : rdOk b p w l) (hl : l.length ≤ 4000000000) (hd : dec1 p l = some (c, r)) :
    Calls Tryz.prog 280 #[.pointer (some ⟨b, 0, none⟩)] w fun e w' => e = .returned (.int .u8 c.toNat) ∧ rdOk b p w' r ∧ w.grownBy w' (some b) := by
  rcases dec1_cases hd with ⟨rfl, hp, hx⟩ | ⟨x, y, z, rfl, hx, hy, hz, rfl⟩
  · have s1 := h.set r
    have t37 : ((c.toNat : Int) == 37) = false := by simp; omega
    have G := grown_set w b 0 (rest r)
    have hcp := s1.2.1
    clear hx
    go_enter Tryz.func280, Tryz.ntmps280
    go_wp2_with (first | (go_at_call 299; refine (next_ok b r c _ h.1 h.2.2 hl).mono ?_; rintro e w' ⟨rfl, rfl⟩) | (go_at_call 79; refine (isPlain_any _ _ _).mono ?_; rintro e w' ⟨rfl, rfl⟩))
    go_ret
    exact ⟨rfl, s1, G⟩
  · have s1 := h.set (y :: z :: r)
    have s2 := s1.set (z :: r)
    have s3 := s2.set r
    have t37 : ((x.toNat : Int) == 37) = true := by simp [hx]
    have bx := digV_bd (y.toNat : Int)
    have bz := digV_bd (z.toNat : Int)
    have ho := or_bits _ _ hy bx.2 hz bz.2
    have G := grown_trans (grown_trans (grown_set w b 0 (rest (y :: z :: r))) (grown_set _ b 0 (rest (z :: r)))) (grown_set _ b 0 (rest r))
    simp only [List.length_cons] at hl
    clear hx
    go_enter Tryz.func280, Tryz.ntmps280
    go_wp2_with fail
    refine (next_ok b (y :: z :: r) x _ h.1 h.2.2 hl).mono ?_
    rintro e w' ⟨rfl, rfl⟩
    go_wp2_with fail
    refine (readDigit_ok b (z :: r) y _ s1.1 s1.2.2 (by simp; omega) hy).mono ?_
    rintro e w' ⟨rfl, rfl⟩
    go_wp2_with fail
    refine (readDigit_ok b r z _ s2.1 s2.2.2 (by simp; omega) hz).mono ?_
    rintro e w' ⟨rfl, rfl⟩
    clear s1 s2 h
    go_wp2
    go_ret
    exact ⟨ret_int (byte_of _ (by omega) (by omega)).symm, s3, G⟩
set_option maxHeartbeats 400000 in
theorem readByte_none (b : Nat) (p : Bool) (l : List UInt8) (w : World) (h : rdOk b p w l) (hl : l.length ≤ 4000000000) (hd : dec1 p l = none) :
    Calls Tryz.prog 280 #[.pointer (some ⟨b, 0, none⟩)] w fun e w' => e = .panicked noC ∧ w.grownBy w' (some b) := by
  rcases dec1_nones hd with rfl | ⟨x, t, rfl, hx, hp⟩ | ⟨x, rfl, hx⟩ | ⟨x, y, t, rfl, hx, hy⟩ | ⟨x, y, rfl, hx, hy⟩ | ⟨x, y, z, t, rfl, hx, hy, hz⟩
  · clear hd
    go_enter Tryz.func280, Tryz.ntmps280
    go_wp2_with (go_at_call 299; refine (next_no b _ h.1).mono ?_; rintro e w' ⟨rfl, rfl⟩)
    exact ⟨rfl, rfl, World.grownBy.refl _ _⟩
  · clear hd
    have s1 := h.set t
    have t37 : ((x.toNat : Int) == 37) = false := by simp; omega
    have G := grown_set w b 0 (rest t)
    have hcp := s1.2.1
    clear hx
    go_enter Tryz.func280, Tryz.ntmps280
    go_wp2_with (first | (go_at_call 299; refine (next_ok b t x _ h.1 h.2.2 hl).mono ?_; rintro e w' ⟨rfl, rfl⟩) | (go_at_call 79; refine (isPlain_any _ _ _).mono ?_; rintro e w' ⟨rfl, rfl⟩))
    exact ⟨rfl, rfl, G⟩
  · clear hd
    have s1 := h.set []
    have t37 : ((x.toNat : Int) == 37) = true := by simp [hx]
    have G := grown_set w b 0 (rest [])
    clear hx
    go_enter Tryz.func280, Tryz.ntmps280
    go_wp2_with (first | (go_at_call 299; refine (next_ok b [] x _ h.1 h.2.2 hl).mono ?_; rintro e w' ⟨rfl, rfl⟩) | (go_at_call 300; refine (readDigit_no b _ s1.1).mono ?_; rintro e w' ⟨rfl, rfl⟩))
    exact ⟨rfl, rfl, G⟩
  · clear hd
    have s1 := h.set (y :: t)
    have t37 : ((x.toNat : Int) == 37) = true := by simp [hx]
    have G := grown_trans (grown_set w b 0 (rest (y :: t))) (grown_set _ b 0 (rest t))
    simp only [List.length_cons] at hl
    clear hx
    go_enter Tryz.func280, Tryz.ntmps280
    go_wp2_with (first | (go_at_call 299; refine (next_ok b (y :: t) x _ h.1 h.2.2 hl).mono ?_; rintro e w' ⟨rfl, rfl⟩) | (go_at_call 300; refine (readDigit_bad b t y _ s1.1 s1.2.2 (by simp; omega) hy).mono ?_; rintro e w' ⟨rfl, rfl⟩))
    exact ⟨rfl, rfl, G⟩
  · clear hd
    have s1 := h.set [y]
    have s2 := s1.set []
    have t37 : ((x.toNat : Int) == 37) = true := by simp [hx]
    have G := grown_trans (grown_set w b 0 (rest [y])) (grown_set _ b 0 (rest []))
    clear hx
    go_enter Tryz.func280, Tryz.ntmps280
    go_wp2_with fail
    refine (next_ok b [y] x _ h.1 h.2.2 hl).mono ?_
    rintro e w' ⟨rfl, rfl⟩
    go_wp2_with fail
    refine (readDigit_ok b [] y _ s1.1 s1.2.2 (by simp) hy).mono ?_
    rintro e w' ⟨rfl, rfl⟩
    go_wp2_with fail
    refine (readDigit_no b _ s2.1).mono ?_
    rintro e w' ⟨rfl, rfl⟩
    go_wp2
    exact ⟨rfl, rfl, G⟩
  · clear hd
    have s1 := h.set (y :: z :: t)
    have s2 := s1.set (z :: t)
    have t37 : ((x.toNat : Int) == 37) = true := by simp [hx]
    have G := grown_trans (grown_trans (grown_set w b 0 (rest (y :: z :: t))) (grown_set _ b 0 (rest (z :: t)))) (grown_set _ b 0 (rest t))
    simp only [List.length_cons] at hl
    clear hx
    go_enter Tryz.func280, Tryz.ntmps280
    go_wp2_with fail
    refine (next_ok b (y :: z :: t) x _ h.1 h.2.2 hl).mono ?_
    rintro e w' ⟨rfl, rfl⟩
    go_wp2_with fail
    refine (readDigit_ok b (z :: t) y _ s1.1 s1.2.2 (by simp; omega) hy).mono ?_
    rintro e w' ⟨rfl, rfl⟩
    go_wp2_with fail
    refine (readDigit_bad b t z _ s2.1 s2.2.2 (by simp; omega) hz).mono ?_
    rintro e w' ⟨rfl, rfl⟩
    go_wp2
    exact ⟨rfl, rfl, G⟩
end Go.Proofs.YtinnliapfdpfpaaGreatDoor.C
namespace Go.Proofs.YtinnliapfdpfpaaGreatDoor.C
open Go.RowKit
/-- How many bytes the reader has left. -/
def left (b : Nat) (w : World) : Nat := match w.cell? ⟨b, 0, none⟩ with
  | some (.string s) => s.size
  | _ => 0
theorem left_of {b : Nat} {p : Bool} {w : World} {l : List UInt8} (h : rdOk b p w l) : left b w = l.length := by
  unfold left; rw [h.1]; simp [rest, ByteArray.size]
theorem rdOk.below {b B : Nat} {p : Bool} {w w' : World} {l : List UInt8} (h : rdOk b p w l) (hb : b < B) (k : Below B w w') : rdOk b p w' l :=
  ⟨(k.cell (p := ⟨b, 0, none⟩) hb).trans h.1, (k.cell (p := ⟨b, 1, none⟩) hb).trans h.2.1, (k.frozen (p := ⟨b, 0, none⟩) hb).trans h.2.2⟩
theorem grown_below {B b : Nat} {w w' : World} (k : Below B w w') (hB : w.heap.size ≤ B) : w.grownBy w' (some b) :=
  ⟨k.os, k.tape, k.output, k.size, fun j hj _ => k.block j (by omega)⟩
theorem owns.kept {w w' : World} {B b : Nat} {v : Value} {l : List UInt8} (h : owns w B v l) (hg : w.grownBy w' (some b)) (hb : b < B) : owns w' B v l :=
  World.ownsRow.kept h hg (by
    cases hv : v.ownBlock with
    | none => exact Or.inl rfl
    | some k => right; have := h.lt k hv; intro e; simp at e; omega)

theorem grown_then {w w1 w2 : World} {r : Option Nat} (h : w.grownBy w1 r) (k : Below w.heap.size w1 w2) : w.grownBy w2 r :=
  ⟨k.os.trans h.os, k.tape.trans h.tape, k.output.trans h.output, Nat.le_trans h.size k.size, fun j hj hne => (k.block j hj).trans (h.block j hj hne)⟩
/-- How the reading of a whole code ends. -/
def rdEnd : Option (List UInt8) → Ending
  | some t => .returned (.string ⟨t.toArray⟩)
  | none => .panicked noC
theorem end_ret {d : Option (List UInt8)} {o : List UInt8} (h : d = some o) : Ending.returned (.string ⟨o.toArray⟩) = rdEnd d := by rw [h]; rfl
theorem end_pan {d : Option (List UInt8)} (h : d = none) : Ending.panicked noC = rdEnd d := by rw [h]; rfl

set_option maxHeartbeats 400000 in
theorem readAll_any (b : Nat) (p : Bool) (l : List UInt8) (w : World) (h : rdOk b p w l) (hb : b < w.heap.size) (hl : l.length ≤ 4000000000) :
    Calls Tryz.prog 252 #[.pointer (some ⟨b, 0, none⟩)] w fun e w' => e = rdEnd (dec p l) ∧ w.grownBy w' (some b) := by
  obtain ⟨i0, hi, hz0, hz1, hz2⟩ := info_parts Tryz.info5
  have h00 : w.cell? ⟨b, 0, none⟩ = some (.string ⟨l.toArray⟩) := h.1
  go_enter Tryz.func252, Tryz.ntmps252
  go_wp2_with (at_make; refine wpList_make_own _ rfl _ _ 89 rfl w.heap.size 5 i0 (.int .u8 0) 1 Tryz.underlying89 hi hz0 hz1 .i64 .i64 _ l.length rfl rfl rfl (by rw [hz2]; omega) (by unfold maxLen; omega) (Nat.le_refl _) ?_; intro w1 hown1 hg1)
  go_loopw [3] (fun v wr => ∃ o r : List UInt8, owns wr w.heap.size v o ∧ rdOk b p wr r ∧ w.grownBy wr (some b) ∧ dec p l = (dec p r).map (o ++ ·) ∧ o.length + r.length ≤ l.length) (fun _ wr => left b wr)
  case atStart =>
    refine ⟨[], l, by simpa [owns] using hown1, h.below hb ((Below.refl _ _).grown hg1 (Nat.le_refl _) (by simp)), grown_below ((Below.refl w.heap.size w).grown hg1 (Nat.le_refl _) (by simp)) (Nat.le_refl _), by simp, by simp⟩
  case round =>
    obtain ⟨o, r, hown, hrd, hgr, hdec, hlen⟩ := hrel
    clear hown1 hg1 hi hz0 hz1 hz2 i0 h00
    have HX : Hid (dec p l = (dec p r).map (o ++ ·)) := hdec
    clear hdec
    have hsz := hgr.size
    have h00 : wr.cell? ⟨b, 0, none⟩ = some (.string ⟨r.toArray⟩) := hrd.1
    match r with
    | [] =>
      have hcv := hown.conv
      go_wp2
      go_ret
      exact ⟨end_ret (by rw [HX.out, dec_nil]; simp), hgr⟩
    | x :: r' =>
      simp only [List.length_cons] at hlen
      cases hd1 : dec1 p (x :: r') with
      | none =>
        have HN : Hid (dec p l = none) := by show _ = _; rw [HX.out, dec_none (by simp) hd1]; rfl
        clear HX
        go_wp2_with (go_at_call 280; refine (readByte_none b p (x :: r') _ hrd (by simp; omega) hd1).mono ?_; rintro e w' ⟨rfl, hg⟩)
        exact ⟨rfl, end_pan HN.out, grown_trans hgr hg⟩
      | some cr =>
        obtain ⟨c, r2⟩ := cr
        have hshort := dec1_len hd1
        simp only [List.length_cons] at hshort
        have HY : Hid (dec p l = (dec p r2).map ((o ++ [c]) ++ ·)) := by
          show _ = _
          rw [HX.out, dec_some hd1]; cases dec p r2 <;> simp
        clear HX
        have HL := left_of hrd
        have HL2 : Hid (left b wr = r'.length + 1) := HL
        clear HL
        go_wp2_with fail
        refine (readByte_some b p (x :: r') r2 c _ hrd (by simp; omega) hd1).mono ?_
        rintro e w2 ⟨rfl, hrd2, hg2⟩
        have hown2 := hown.kept hg2 hb
        have hsz2 := hg2.size
        have hgr2 := grown_trans hgr hg2
        clear hown hgr h00 hrd
        go_wp2_with (at_builtin; refine app_law rfl _ _ rfl w.heap.size _ [c] _ rfl (hown2.alloc _) _ 1 rfl rfl _ (heap_alloc_new _ _) (by omega) (by omega) (by simp; omega) ?_; intro v' w3 hown3 hb3)
        have k3 : Below w.heap.size w2 w3 := ((Below.refl w.heap.size w2).alloc (by omega) _).trans hb3
        have hrd3 := hrd2.below hb k3
        have HL3 := left_of hrd3
        go_roundw
        case rel => exact ⟨o ++ [c], r2, hown3, hrd3, grown_then hgr2 k3, HY.out, by simp; omega⟩
        case measure => have := HL2.out; omega
end Go.Proofs.YtinnliapfdpfpaaGreatDoor.C
namespace Go.Proofs.YtinnliapfdpfpaaGreatDoor.C
open Go.RowKit
set_option maxHeartbeats 400000 in
theorem catch_panicking (a b : Nat) (s : ByteArray) (x : Int) (u : TypeId) (pv : Value) (older : List PanicEntry) (w : World) (hc : w.cell? ⟨a, 0, none⟩ = some (.string s)) (hz : w.frozen? ⟨a, 0, none⟩ = false)
   (hc2 : w.cell? ⟨b, 0, none⟩ = some (.int .i64 x)) (hz2 : w.frozen? ⟨b, 0, none⟩ = false) (_hab : ¬ b = a) :
    CallsD Tryz.prog 251 #[.pointer (some ⟨a, 0, none⟩), .pointer (some ⟨b, 0, none⟩)] (.panicking ({ v := .iface u pv, recovered := false } :: older)) w fun e u' w' =>
      e = .returned (.tuple #[]) ∧ u' = .panicking ({ v := .iface u pv, recovered := true } :: older) ∧ w' = (w.setCell ⟨a, 0, none⟩ (.string ⟨#[]⟩)).setCell ⟨b, 0, none⟩ (.int .i64 2) := by
  refine callsD_of_wpS Tryz.func251 rfl fun c₀ cs hu => ?_
  apply wpS_seq
  apply wpS_region
  simp [wpOpsS, go_sem, recoverD, hu, Tryz.ntmps251, Exit.thenS]
  refine wpS_cond (t := true) (by simp [Act.eval, Array.replicate]) ?_
  simp only [if_true]
  apply wpS_region
  have hc3 : (w.setCell ⟨a, 0, none⟩ (.string ⟨#[]⟩)).cell? ⟨b, 0, none⟩ = some (.int .i64 x) := by rw [World.cell?_setCell_other _ _ _ _ (by simp)]; exact hc2
  simp [wpOpsS, go_sem, hc, hz, hz2, hc3, bodyPostS, results, Tryz.results251]

set_option maxHeartbeats 400000 in
theorem catch_idle (a b : Nat) (w : World) :
    CallsD Tryz.prog 251 #[.pointer (some ⟨a, 0, none⟩), .pointer (some ⟨b, 0, none⟩)] .returning w fun e u' w' => e = .returned (.tuple #[]) ∧ u' = .returning ∧ w' = w := by
  refine callsD_of_wpS Tryz.func251 rfl fun c₀ cs hu => ?_
  apply wpS_seq
  apply wpS_region
  simp [wpOpsS, go_sem, recoverD, hu, Tryz.ntmps251, Exit.thenS]
  refine wpS_cond (t := false) (by simp [Act.eval, Array.replicate]) ?_
  simp only [Bool.false_eq_true, if_false]
  refine wpS_of_wp (wp_skip ?_)
  cases c₀
  simp_all [bodyPostS, results, Tryz.results251]
/-- What a decoding answers. -/
def decEnd : Option (List UInt8) → Ending
  | some t => .returned (.tuple #[.string ⟨t.toArray⟩, .int .i64 0])
  | none => .returned (.tuple #[.string ⟨#[]⟩, .int .i64 2])

abbrev started (w : World) (s : ByteArray) (p : Bool) : World :=
  ((w.alloc (.cells #[.string ⟨#[]⟩] 9)).alloc (.cells #[.int .i64 0] 22)).alloc (.cells #[.string s, .bool p] 340)
theorem start_rd (w : World) (s : ByteArray) (p : Bool) : rdOk (w.heap.size + 1 + 1) p (started w s p) s.data.toList := by
  refine ⟨?_, ?_, ?_⟩
  · simp [go_sem, rest]
  · simp [go_sem]
  · simp [go_sem]
theorem start_cells (w : World) (s : ByteArray) (p : Bool) : (started w s p).cell? ⟨w.heap.size, 0, none⟩ = some (.string ⟨#[]⟩) ∧ (started w s p).cell? ⟨w.heap.size + 1, 0, none⟩ = some (.int .i64 0) ∧
    (started w s p).frozen? ⟨w.heap.size, 0, none⟩ = false ∧ (started w s p).frozen? ⟨w.heap.size + 1, 0, none⟩ = false ∧ (started w s p).heap.size = w.heap.size + 1 + 1 + 1 := by
  refine ⟨?_, ?_, ?_, ?_, ?_⟩ <;> simp [go_sem]
theorem started_below (w : World) (s : ByteArray) (p : Bool) : Below w.heap.size w (started w s p) :=
  (((Below.refl _ _).alloc (Nat.le_refl _) _).alloc (by simp) _).alloc (by simp; omega) _

set_option maxHeartbeats 400000 in
theorem decode_any (s : ByteArray) (p : Bool) (w : World) (hs : s.size ≤ 4000000000) :
    Calls Tryz.prog 194 #[.string s, .bool p] w fun e w' => e = decEnd (dec p s.data.toList) ∧ Below w.heap.size w w' := by
  have hmf : ∀ (fn : Fn) (first cap : Array Value) (w : World), (Instr.makeFunc fn first cap).run Tryz.prog w = .ok (.func fn first cap) w := fun _ _ _ _ => rfl
  have S := start_rd w s p
  obtain ⟨c1, c2, f1, f2, z⟩ := start_cells w s p
  have SB := started_below w s p
  go_enter_defers Tryz.func194, Tryz.ntmps194
  go_wp2_with fail
  refine (readAll_any (w.heap.size + 1 + 1) p s.data.toList _ S (by rw [z]; omega) (by simpa using hs)).mono ?_
  rintro e w1 ⟨rfl, hg⟩
  have d1 : w1.cell? ⟨w.heap.size, 0, none⟩ = some (.string ⟨#[]⟩) := hg.cell c1 (by first | (simp; done) | (simp; omega))
  have d2 : w1.cell? ⟨w.heap.size + 1, 0, none⟩ = some (.int .i64 0) := hg.cell c2 (by simp)
  have g1 : w1.frozen? ⟨w.heap.size, 0, none⟩ = false := (hg.frozen_far _ (by first | (simp; done) | (simp; omega)) (by first | (simp; done) | (simp; omega))).trans f1
  have g2 : w1.frozen? ⟨w.heap.size + 1, 0, none⟩ = false := (hg.frozen_far _ (by first | (simp; done) | (simp; omega)) (by first | (simp; done) | (simp; omega))).trans f2
  have z1 : w.heap.size + 1 + 1 + 1 ≤ w1.heap.size := by have := hg.size; omega
  have KB : Below w.heap.size w w1 := SB.grown hg (by omega) (by intro k hk; simp at hk; omega)
  clear S c1 c2 f1 f2 z SB hg
  cases hd : dec p s.data.toList with
  | none =>
    simp only [rdEnd]
    go_wp2
    refine leaves_cons (f := 251) (args := #[.pointer (some ⟨w.heap.size, 0, none⟩), .pointer (some ⟨w.heap.size + 1, 0, none⟩)]) (by simp) (by simp [go_sem]) ?_
    refine (catch_panicking w.heap.size (w.heap.size + 1) ⟨#[]⟩ 0 371 _ [] _ d1 g1 d2 g2 (by omega)).mono ?_
    rintro e u' w'' ⟨rfl, rfl, rfl⟩
    have KB2 := (KB.setCell (p := ⟨w.heap.size, 0, none⟩) (Nat.le_refl _) (.string ⟨#[]⟩)).setCell (p := ⟨w.heap.size + 1, 0, none⟩) (Nat.le_succ _) (.int .i64 2)
    rw [hd]
    simp [Leaves, settle, results, Tryz.results194, go_sem, decEnd, d1, d2, KB2]
  | some t =>
    simp only [rdEnd]
    go_wp2
    refine leaves_cons (f := 251) (args := #[.pointer (some ⟨w.heap.size, 0, none⟩), .pointer (some ⟨w.heap.size + 1, 0, none⟩)]) (by simp) (by simp [go_sem]) ?_
    refine (catch_idle w.heap.size (w.heap.size + 1) _).mono ?_
    rintro e u' w'' ⟨rfl, rfl, rfl⟩
    have KB2 := (KB.setCell (p := ⟨w.heap.size, 0, none⟩) (Nat.le_refl _) (.string ⟨t.toArray⟩)).setCell (p := ⟨w.heap.size + 1, 0, none⟩) (Nat.le_succ _) (.int .i64 0)
    rw [hd]
    simp [Leaves, settle, results, Tryz.results194, go_sem, decEnd, d1, d2, KB2]
end Go.Proofs.YtinnliapfdpfpaaGreatDoor.C
namespace Go.Proofs.YtinnliapfdpfpaaGreatDoor.C
open Go.RowKit
def restLen (v : Value) : Nat := match v with | .string s => s.size | _ => 0
theorem drop1 (c : UInt8) (l : List UInt8) : (⟨(c :: l).toArray⟩ : ByteArray).extract 1 (l.length + 1) = ⟨l.toArray⟩ := by
  apply ByteArray.ext; simp
theorem drop3 (a b c : UInt8) (l : List UInt8) : (⟨(a :: b :: c :: l).toArray⟩ : ByteArray).extract 3 (l.length + 1 + 1 + 1) = ⟨l.toArray⟩ := by
  apply ByteArray.ext; simp
theorem rl (l : List UInt8) : restLen (.string ⟨l.toArray⟩) = l.length := by simp [restLen, ByteArray.size]
theorem dend {d : Option (List UInt8)} {o : List UInt8} (h : d = some o) : Ending.returned (.tuple #[.string ⟨o.toArray⟩, .int .i64 0]) = decEnd d := by rw [h]; rfl
theorem dendN {d : Option (List UInt8)} (h : d = none) : Ending.returned (.tuple #[.string ⟨#[]⟩, .int .i64 2]) = decEnd d := by rw [h]; rfl
set_option maxHeartbeats 1000000 in
theorem rdecode_any (s : ByteArray) (p : Bool) (w : World) (hs : s.size ≤ 4000000000) :
    Calls Tryz.prog 149 #[.string s, .bool p] w fun e w' => e = decEnd (dec p s.data.toList) ∧ Below w.heap.size w w' := by
  go_enter Tryz.func149, Tryz.ntmps149
  go_wp2
  go_loopw [0, 6] (fun x v wr => ∃ o r : List UInt8, x = .string ⟨r.toArray⟩ ∧ owns wr w.heap.size v o ∧ Below w.heap.size w wr ∧ dec p s.data.toList = (dec p r).map (o ++ ·) ∧ o.length + r.length ≤ 4000000000) (fun x _ _ => restLen x)
  case atStart => exact ⟨[], s.data.toList, by simp, by simpa [owns] using World.ownsRow_nil w w.heap.size 5 1, Below.refl _ _, by simp, by simpa using hs⟩
  case round =>
    obtain ⟨o, r, rfl, hown, hbel, hdec, hlen⟩ := hrel
    have HX : Hid (dec p s.data.toList = (dec p r).map (o ++ ·)) := hdec
    clear hdec
    have hsz := hbel.size
    match r with
    | [] =>
      have hcv := hown.conv
      have HN : Hid (dec p s.data.toList = some o) := by show _ = _; rw [HX.out, dec_nil]; simp
      go_wp2
      go_ret2
      exact ⟨dend HN.out, hbel⟩
    | c :: r =>
      simp only [List.length_cons] at hlen
      have hb := c.toNat_lt
      have i0 : ∀ h, (⟨(c :: r).toArray⟩ : ByteArray)[0]'h = c := fun _ => rfl
      cases hp : plainB (c.toNat : Int) p
      · by_cases hc : c.toNat = 37
        · have t37 : ((c.toNat : Int) != 37) = false := by simp [hc]
          match r with
          | [] =>
            have HN : Hid (dec p s.data.toList = none) := by show _ = _; rw [HX.out, dec_none (by simp) (dec1_pct0 hc)]; rfl
            clear HX hc
            go_wp2_with (go_at_call 109; refine (stands_any _ _ (by omega) (by omega) _).mono ?_; rintro e w' ⟨rfl, rfl⟩)
            go_ret2
            exact ⟨dendN HN.out, hbel⟩
          | [a] =>
            have HN : Hid (dec p s.data.toList = none) := by show _ = _; rw [HX.out, dec_none (by simp) (dec1_pct1 hc)]; rfl
            clear HX hc
            go_wp2_with (go_at_call 109; refine (stands_any _ _ (by omega) (by omega) _).mono ?_; rintro e w' ⟨rfl, rfl⟩)
            go_ret2
            exact ⟨dendN HN.out, hbel⟩
          | a :: b :: r =>
            simp only [List.length_cons] at hlen
            have i1 : ∀ h, (⟨(c :: a :: b :: r).toArray⟩ : ByteArray)[1]'h = a := fun _ => rfl
            have i2 : ∀ h, (⟨(c :: a :: b :: r).toArray⟩ : ByteArray)[2]'h = b := fun _ => rfl
            have ba := digV_bd (a.toNat : Int)
            have bb := digV_bd (b.toNat : Int)
            by_cases ha : 0 ≤ digV (a.toNat : Int)
            · by_cases hb' : 0 ≤ digV (b.toNat : Int)
              · have hd1 := dec1_pct (p := p) r hc ha hb'
                have hby := byte_of (16 * digV (a.toNat : Int) + digV (b.toNat : Int)) (by omega) (by omega)
                generalize UInt8.ofNat (16 * digV (a.toNat : Int) + digV (b.toNat : Int)).toNat = x at hd1 hby
                have HY : Hid (dec p s.data.toList = (dec p r).map ((o ++ [x]) ++ ·)) := by
                  show _ = _
                  rw [HX.out, dec_some hd1]; cases dec p r <;> simp
                have HB : Hid ((x.toNat : Int) = 16 * digV (a.toNat : Int) + digV (b.toNat : Int)) := hby
                have HE := drop3 c a b r
                have HV : Hid (([x].map u8v).toArray = #[.int .u8 (16 * digV (a.toNat : Int) + digV (b.toNat : Int))]) := by show _ = _; simp [u8v, hby]
                clear HX hd1 hby hc
                go_wp2_with (first | (go_at_call 109; refine (stands_any _ _ (by omega) (by omega) _).mono ?_; rintro e w' ⟨rfl, rfl⟩) | (go_at_call 211; refine (digit_any _ _).mono ?_; rintro e w' ⟨rfl, rfl⟩) | (at_builtin; refine app_law rfl _ _ rfl w.heap.size _ [x] _ rfl (hown.alloc _) _ 1 rfl rfl _ ((heap_alloc_new _ _).trans (by rw [HV.out])) (by omega) (by omega) (by simp; omega) ?_; intro v' w2 hown2 hb2))
                go_roundw
                case rel => exact ⟨o ++ [x], r, rfl, hown2, (hbel.alloc (by omega) _).trans hb2, HY.out, by simp; omega⟩
                case measure => rw [rl, rl]; simp; omega
              · have HN : Hid (dec p s.data.toList = none) := by show _ = _; rw [HX.out, dec_none (by simp) (dec1_pctB r hc (by omega))]; rfl
                clear HX hc
                go_wp2_with (first | (go_at_call 109; refine (stands_any _ _ (by omega) (by omega) _).mono ?_; rintro e w' ⟨rfl, rfl⟩) | (go_at_call 211; refine (digit_any _ _).mono ?_; rintro e w' ⟨rfl, rfl⟩))
                go_ret2
                exact ⟨dendN HN.out, hbel⟩
            · have HN : Hid (dec p s.data.toList = none) := by show _ = _; rw [HX.out, dec_none (by simp) (dec1_pctA (b :: r) hc (by omega))]; rfl
              clear HX hc
              go_wp2_with (first | (go_at_call 109; refine (stands_any _ _ (by omega) (by omega) _).mono ?_; rintro e w' ⟨rfl, rfl⟩) | (go_at_call 211; refine (digit_any _ _).mono ?_; rintro e w' ⟨rfl, rfl⟩))
              go_ret2
              exact ⟨dendN HN.out, hbel⟩
        · have HN : Hid (dec p s.data.toList = none) := by show _ = _; rw [HX.out, dec_none (by simp) (dec1_odd r hp hc)]; rfl
          have t37 : ((c.toNat : Int) != 37) = true := by simp; omega
          clear HX hc
          go_wp2_with (go_at_call 109; refine (stands_any _ _ (by omega) (by omega) _).mono ?_; rintro e w' ⟨rfl, rfl⟩)
          go_ret2
          exact ⟨dendN HN.out, hbel⟩
      · have HY : Hid (dec p s.data.toList = (dec p r).map ((o ++ [c]) ++ ·)) := by
          show _ = _
          rw [HX.out, dec_some (dec1_plain r hp)]; cases dec p r <;> simp
        have HE := drop1 c r
        clear HX
        go_wp2_with (first | (go_at_call 109; refine (stands_any _ _ (by omega) (by omega) _).mono ?_; rintro e w' ⟨rfl, rfl⟩) | (at_builtin; refine app_law rfl _ _ rfl w.heap.size _ [c] _ rfl (hown.alloc _) _ 1 rfl rfl _ (heap_alloc_new _ _) (by omega) (by omega) (by simp; omega) ?_; intro v' w2 hown2 hb2))
        go_roundw
        case rel => exact ⟨o ++ [c], r, rfl, hown2, (hbel.alloc (by omega) _).trans hb2, HY.out, by simp; omega⟩
        case measure => rw [rl, rl]; simp
end Go.Proofs.YtinnliapfdpfpaaGreatDoor.C
