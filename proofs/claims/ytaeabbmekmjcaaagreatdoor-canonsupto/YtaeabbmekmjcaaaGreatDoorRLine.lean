/-
  LINES OF A REQUEST: the reader's lines, header lines.
-/
import Derived.Test.YtaeabbmekmjcaaaGreatDoorRPair
import Derived.WalkSmall
namespace Go.Proofs.YtaeabbmekmjcaaaGreatDoor.R
open Go.RowKit
open Go.Proofs.YtaeabbmekmjcaaaGreatDoor.C (ret_bool ret_int dec grown_trans grown_set grown_then grown_below)

/-- Past the package-level variables that are read. -/
def gTop : Nat := max 2 3 + 1
/-- What holds of the library's variables. -/
structure Env (w : World) : Prop where
  ml : ∃ m, w.cell? ⟨2, 0, none⟩ = some (.int .i64 m)
  tab : Lib.TabIs Tryz.prog w "internal/strconv.uint64pow10" .u64 Lib.pow10Tab
  sz : gTop ≤ w.heap.size
theorem named_pow : Tryz.prog.globalNamed "internal/strconv.uint64pow10" = some 3 := by kernel_rfl
theorem Env.below {B : Nat} {w w' : World} (h : Env w) (k : Below B w w') (hB : gTop ≤ B) : Env w' := by
  obtain ⟨⟨m, hm⟩, ht, hs⟩ := h
  have := k.size
  exact ⟨⟨m, (k.cell (p := ⟨2, 0, none⟩) (show 2 < B by unfold gTop at hB; omega)).trans hm⟩, var?_below k named_pow (show 3 < B by unfold gTop at hB; omega) ht, by omega⟩
theorem Env.grown {b : Nat} {w w' : World} (h : Env w) (k : w.grownBy w' (some b)) (hb : gTop ≤ b) : Env w' :=
  h.below (B := gTop) ⟨k.os, k.tape, k.output, k.size, fun j hj => k.block j (Nat.lt_of_lt_of_le hj h.sz) (by simp; omega)⟩ (Nat.le_refl _)

theorem cut_r (l sep : Bs) (w : World) (E : Env w) (hl : l.length ≤ 10000000) :
    Calls Tryz.prog 45 #[str l, str sep] w fun e w' => e = .returned (.tuple #[str (Lib.cut l sep).1, str (Lib.cut l sep).2.1, .bool (Lib.cut l sep).2.2]) ∧ ∃ n, w' = w.drewN n := by
  obtain ⟨⟨m, hm⟩, _, _⟩ := E
  exact Tryz.strings_Cut ⟨l.toArray⟩ ⟨sep.toArray⟩ m w (by simp [ByteArray.size]; omega) hm

/-- The reader's rest. -/
def rdr (w : World) (b : Nat) (l : Bs) : Prop := w.cell? ⟨b, 0, none⟩ = some (str l) ∧ w.frozen? ⟨b, 0, none⟩ = false
theorem rdr.below {b B : Nat} {w w' : World} {l : Bs} (h : rdr w b l) (hb : b < B) (k : Below B w w') : rdr w' b l :=
  ⟨(k.cell (p := ⟨b, 0, none⟩) hb).trans h.1, (k.frozen (p := ⟨b, 0, none⟩) hb).trans h.2⟩
theorem rdr.lt {b : Nat} {w : World} {l : Bs} (h : rdr w b l) : b < w.heap.size := World.block_lt_of_cell? w ⟨b, 0, none⟩ h.1
theorem rdr.set {b : Nat} {w : World} {l : Bs} (h : rdr w b l) (r : Bs) : rdr (w.setCell ⟨b, 0, none⟩ (str r)) b r := by
  obtain ⟨h0, h1⟩ := h
  exact ⟨by simp [go_sem, h0], by simp [go_sem, h1]⟩
theorem rdr.drewN {b : Nat} {w : World} {l : Bs} (h : rdr w b l) (n : Nat) : rdr (w.drewN n) b l := h
theorem grown_drewN {a w : World} {r : Option Nat} (h : a.grownBy w r) (n : Nat) : a.grownBy (w.drewN n) r := ⟨h.os, h.tape, h.output, h.size, h.block⟩

theorem grown_refl (w : World) (r : Option Nat) : w.grownBy w r := World.grownBy.refl w r
set_option maxHeartbeats 400000 in
theorem readLine_ok (b : Nat) (l : Bs) (w : World) (h : rdr w b l) (E : Env w) (hl : l.length ≤ 100000) (hf : (Lib.cut l [10]).2.2 = true) :
    Calls Tryz.prog 42 #[.pointer (some ⟨b, 0, none⟩)] w fun e w' => e = .returned (str (Lib.cut l [10]).1) ∧ rdr w' b (Lib.cut l [10]).2.1 ∧ w.grownBy w' (some b) := by
  have H := h
  obtain ⟨h0, h1⟩ := h
  have HF : Hid ((Lib.cut l [10]).2.2 = true) := hf
  clear hf
  have C : Hid (_) := cut_r l [10]
  go_enter Tryz.func42, Tryz.ntmps42
  go_wp2_with fail
  refine (C.out w E (by omega)).mono ?_
  rintro e w1 ⟨rfl, n, rfl⟩
  rw [HF.out]
  go_wp2_with (go_at_call 66; refine (need_ok _).mono ?_; rintro e w' ⟨rfl, rfl⟩)
  go_ret
  exact ⟨rfl, (H.drewN n).set _, grown_trans (grown_drewN (grown_refl w _) n) (grown_set _ b 0 _)⟩
set_option maxHeartbeats 400000 in
theorem readLine_no (b : Nat) (l : Bs) (w : World) (h : rdr w b l) (E : Env w) (hl : l.length ≤ 100000) (hf : (Lib.cut l [10]).2.2 = false) :
    Calls Tryz.prog 42 #[.pointer (some ⟨b, 0, none⟩)] w fun e w' => e = .panicked noR ∧ w.grownBy w' (some b) := by
  obtain ⟨h0, h1⟩ := h
  have HF : Hid ((Lib.cut l [10]).2.2 = false) := hf
  clear hf
  have C : Hid (_) := cut_r l [10]
  go_enter Tryz.func42, Tryz.ntmps42
  go_wp2_with fail
  refine (C.out w E (by omega)).mono ?_
  rintro e w1 ⟨rfl, n, rfl⟩
  rw [HF.out]
  go_wp2_with (go_at_call 66; refine (need_no _).mono ?_; rintro e w' ⟨rfl, rfl⟩)
  exact ⟨rfl, rfl, grown_drewN (grown_refl w _) n⟩

/-- What a header line answers. -/
def hdEnd : Option (Bs × Bs) → Ending
  | some p => .returned (.agg #[str p.1, str p.2])
  | none => .panicked noR
theorem header_no1 {l : Bs} (h : (Lib.cut l [58, 32]).2.2 = false) : headerOf l = none := by unfold headerOf; rw [if_neg (by simp [h])]
theorem header_no2 {l : Bs} (h : hname (Lib.cut l [58, 32]).1 = false) : headerOf l = none := by unfold headerOf; rw [if_neg (by simp [h])]
theorem header_no3 {l : Bs} (h : (Lib.cut l [58, 32]).2.1.all showB = false) : headerOf l = none := by unfold headerOf; rw [if_neg (by simp [h])]
theorem header_ok {l : Bs} (h1 : (Lib.cut l [58, 32]).2.2 = true) (h2 : hname (Lib.cut l [58, 32]).1 = true) (h3 : (Lib.cut l [58, 32]).2.1.all showB = true) :
    headerOf l = some ((Lib.cut l [58, 32]).1, (Lib.cut l [58, 32]).2.1) := by unfold headerOf; rw [if_pos ⟨h1, h2, h3⟩]
theorem below_of_drewN {w : World} (n : Nat) : Below w.heap.size w (w.drewN n) := below_drewN (Below.refl _ w) n
set_option maxHeartbeats 400000 in
theorem readHeader_any (l : Bs) (w : World) (E : Env w) (hl : l.length ≤ 100000) :
    Calls Tryz.prog 72 #[str l] w fun e w' => e = hdEnd (headerOf l) ∧ Below w.heap.size w w' := by
  have C : Hid (_) := cut_r l [58, 32]
  obtain ⟨n1, n2⟩ := cut_le l [58, 32]
  have N1 := header_ok (l := l)
  have N2 := header_no1 (l := l)
  have N3 := header_no2 (l := l)
  have N4 := header_no3 (l := l)
  generalize Lib.cut l [58, 32] = c at *
  obtain ⟨a, v, f⟩ := c
  simp only at n1 n2 N1 N2 N3 N4
  have E1 := E.below ((Below.refl w.heap.size w).alloc (Nat.le_refl _) (.cells #[str [], str []] 53)) E.sz
  have A1 : Hid (_) := isHeaderName_any a
  have A2 : Hid (_) := isHeaderValue_any v
  have HH : Hid (headerOf l = headerOf l) := rfl
  generalize headerOf l = r at *
  clear HH
  go_enter Tryz.func72, Tryz.ntmps72
  cases f with
  | false =>
    cases (N2 rfl)
    clear N1 N2 N3 N4
    go_wp2_with fail
    refine (C.out _ E1 (by omega)).mono ?_
    rintro e w1 ⟨rfl, n, rfl⟩
    go_wp2_with (go_at_call 66; refine (need_no _).mono ?_; rintro e w' ⟨rfl, rfl⟩)
    exact ⟨rfl, rfl, below_drewN ((Below.refl _ w).alloc (Nat.le_refl _) _) n⟩
  | true =>
    cases h2 : hname a with
    | false =>
      cases (N3 h2)
      clear N1 N2 N3 N4
      go_wp2_with fail
      refine (C.out _ E1 (by omega)).mono ?_
      rintro e w1 ⟨rfl, n, rfl⟩
      go_wp2_with (first | (go_at_call 66; refine (need_no _).mono ?_; rintro e w' ⟨rfl, rfl⟩) | (go_at_call 95; refine (A1.out _ (by omega)).mono ?_; rintro e w' ⟨rfl, rfl⟩; rw [h2]))
      exact ⟨rfl, rfl, below_drewN ((Below.refl _ w).alloc (Nat.le_refl _) _) n⟩
    | true =>
      cases h3 : v.all showB with
      | false =>
        cases (N4 h3)
        clear N1 N2 N3 N4
        go_wp2_with fail
        refine (C.out _ E1 (by omega)).mono ?_
        rintro e w1 ⟨rfl, n, rfl⟩
        go_wp2_with (first | (go_at_call 66; refine (need_no _).mono ?_; rintro e w' ⟨rfl, rfl⟩) | (go_at_call 95; refine (A1.out _ (by omega)).mono ?_; rintro e w' ⟨rfl, rfl⟩; rw [h2]) | (go_at_call 96; refine (A2.out _ (by omega)).mono ?_; rintro e w' ⟨rfl, rfl⟩; rw [h3]))
        exact ⟨rfl, rfl, below_drewN ((Below.refl _ w).alloc (Nat.le_refl _) _) n⟩
      | true =>
        cases (N1 rfl h2 h3)
        clear N1 N2 N3 N4
        go_wp2_with fail
        refine (C.out _ E1 (by omega)).mono ?_
        rintro e w1 ⟨rfl, n, rfl⟩
        go_wp2_with (first | (go_at_call 66; refine (need_ok _).mono ?_; rintro e w' ⟨rfl, rfl⟩) | (go_at_call 95; refine (A1.out _ (by omega)).mono ?_; rintro e w' ⟨rfl, rfl⟩; rw [h2]) | (go_at_call 96; refine (A2.out _ (by omega)).mono ?_; rintro e w' ⟨rfl, rfl⟩; rw [h3]))
        refine bodyPost_ret (v := .agg #[str a, str v]) ?_ rfl ⟨rfl, ((below_drewN ((Below.refl _ w).alloc (Nat.le_refl _) _) n).setCell (p := ⟨w.heap.size, 0, none⟩) (Nat.le_refl _) _).setCell (p := ⟨w.heap.size, 1, none⟩) (Nat.le_refl _) _⟩
        simp [results, Tryz.results72, go_sem]
end Go.Proofs.YtaeabbmekmjcaaaGreatDoor.R
