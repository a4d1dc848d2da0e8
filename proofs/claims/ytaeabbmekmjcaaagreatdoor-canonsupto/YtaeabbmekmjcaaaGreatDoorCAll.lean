import Derived.Test.YtaeabbmekmjcaaaGreatDoorCByte
namespace Go.Proofs.YtaeabbmekmjcaaaGreatDoor.C
open Go.RowKit
/-- How many bytes the reader has left. -/
def left (b : Nat) (w : World) : Nat := match w.cell? ⟨b, 0, none⟩ with
  | some (.string s) => s.size
  | _ => 0
theorem left_of {b : Nat} {p : Bool} {w : World} {l : List UInt8} (h : rdOk b p w l) : left b w = l.length := by
  unfold left; rw [h.1]; simp [rest, ByteArray.size]
theorem rdOk.below {b B : Nat} {p : Bool} {w w' : World} {l : List UInt8} (h : rdOk b p w l) (hb : b < B) (k : Below B w w') : rdOk b p w' l :=
  ⟨(k.cell (p := ⟨b, 0, none⟩) hb).trans h.1, (k.cell (p := ⟨b, 1, none⟩) hb).trans h.2.1, (k.frozen (p := ⟨b, 0, none⟩) hb).trans h.2.2⟩
theorem grown_below {B b : Nat} {w w' : World} (k : Below B w w') (hB : w.heap.size ≤ B) : w.grownBy w' (some b) :=
  ⟨k.os, k.tape, k.output, k.size, fun j hj _ => k.block j (by omega)⟩
theorem owns.kept {w w' : World} {B b : Nat} {v : Value} {l : List UInt8} (h : owns w B v l) (hg : w.grownBy w' (some b)) (hb : b < B) : owns w' B v l :=
  World.ownsRow.kept h hg (by
    cases hv : v.ownBlock with
    | none => exact Or.inl rfl
    | some k => right; have := h.lt k hv; intro e; simp at e; omega)

theorem grown_then {w w1 w2 : World} {r : Option Nat} (h : w.grownBy w1 r) (k : Below w.heap.size w1 w2) : w.grownBy w2 r :=
  ⟨k.os.trans h.os, k.tape.trans h.tape, k.output.trans h.output, Nat.le_trans h.size k.size, fun j hj hne => (k.block j hj).trans (h.block j hj hne)⟩
/-- How the reading of a whole code ends. -/
def rdEnd : Option (List UInt8) → Ending
  | some t => .returned (.string ⟨t.toArray⟩)
  | none => .panicked noC
theorem end_ret {d : Option (List UInt8)} {o : List UInt8} (h : d = some o) : Ending.returned (.string ⟨o.toArray⟩) = rdEnd d := by rw [h]; rfl
theorem end_pan {d : Option (List UInt8)} (h : d = none) : Ending.panicked noC = rdEnd d := by rw [h]; rfl

set_option maxHeartbeats 400000 in
theorem readAll_any (b : Nat) (p : Bool) (l : List UInt8) (w : World) (h : rdOk b p w l) (hb : b < w.heap.size) (hl : l.length ≤ 4000000000) :
    Calls Tryz.prog 123 #[.pointer (some ⟨b, 0, none⟩)] w fun e w' => e = rdEnd (dec p l) ∧ w.grownBy w' (some b) := by
  obtain ⟨i0, hi, hz0, hz1, hz2⟩ := info_parts Tryz.info5
  have h00 : w.cell? ⟨b, 0, none⟩ = some (.string ⟨l.toArray⟩) := h.1
  go_enter Tryz.func123, Tryz.ntmps123
  go_wp2_with (at_make; refine wpList_make_own _ rfl _ _ 76 rfl w.heap.size 5 i0 (.int .u8 0) 1 Tryz.underlying76 hi hz0 hz1 .i64 .i64 _ l.length rfl rfl rfl (by rw [hz2]; omega) (by unfold maxLen; omega) (Nat.le_refl _) ?_; intro w1 hown1 hg1)
  go_loopw [3] (fun v wr => ∃ o r : List UInt8, owns wr w.heap.size v o ∧ rdOk b p wr r ∧ w.grownBy wr (some b) ∧ dec p l = (dec p r).map (o ++ ·) ∧ o.length + r.length ≤ l.length) (fun _ wr => left b wr)
  case atStart =>
    refine ⟨[], l, by simpa [owns] using hown1, h.below hb ((Below.refl _ _).grown hg1 (Nat.le_refl _) (by simp)), grown_below ((Below.refl w.heap.size w).grown hg1 (Nat.le_refl _) (by simp)) (Nat.le_refl _), by simp, by simp⟩
  case round =>
    obtain ⟨o, r, hown, hrd, hgr, hdec, hlen⟩ := hrel
    clear hown1 hg1 hi hz0 hz1 hz2 i0 h00
    have HX : Hid (dec p l = (dec p r).map (o ++ ·)) := hdec
    clear hdec
    have hsz := hgr.size
    have h00 : wr.cell? ⟨b, 0, none⟩ = some (.string ⟨r.toArray⟩) := hrd.1
    match r with
    | [] =>
      have hcv := hown.conv
      go_wp2
      go_ret
      exact ⟨end_ret (by rw [HX.out, dec_nil]; simp), hgr⟩
    | x :: r' =>
      simp only [List.length_cons] at hlen
      cases hd1 : dec1 p (x :: r') with
      | none =>
        have HN : Hid (dec p l = none) := by show _ = _; rw [HX.out, dec_none (by simp) hd1]; rfl
        clear HX
        go_wp2_with (go_at_call 142; refine (readByte_none b p (x :: r') _ hrd (by simp; omega) hd1).mono ?_; rintro e w' ⟨rfl, hg⟩)
        exact ⟨rfl, end_pan HN.out, grown_trans hgr hg⟩
      | some cr =>
        obtain ⟨c, r2⟩ := cr
        have hshort := dec1_len hd1
        simp only [List.length_cons] at hshort
        have HY : Hid (dec p l = (dec p r2).map ((o ++ [c]) ++ ·)) := by
          show _ = _
          rw [HX.out, dec_some hd1]; cases dec p r2 <;> simp
        clear HX
        have HL := left_of hrd
        have HL2 : Hid (left b wr = r'.length + 1) := HL
        clear HL
        go_wp2_with fail
        refine (readByte_some b p (x :: r') r2 c _ hrd (by simp; omega) hd1).mono ?_
        rintro e w2 ⟨rfl, hrd2, hg2⟩
        have hown2 := hown.kept hg2 hb
        have hsz2 := hg2.size
        have hgr2 := grown_trans hgr hg2
        clear hown hgr h00 hrd
        go_wp2_with (at_builtin; refine app_law rfl _ _ rfl w.heap.size _ [c] _ rfl (hown2.alloc _) _ 1 rfl rfl _ (heap_alloc_new _ _) (by omega) (by omega) (by simp; omega) ?_; intro v' w3 hown3 hb3)
        have k3 : Below w.heap.size w2 w3 := ((Below.refl w.heap.size w2).alloc (by omega) _).trans hb3
        have hrd3 := hrd2.below hb k3
        have HL3 := left_of hrd3
        go_roundw
        case rel => exact ⟨o ++ [c], r2, hown3, hrd3, grown_then hgr2 k3, HY.out, by simp; omega⟩
        case measure => have := HL2.out; omega
end Go.Proofs.YtaeabbmekmjcaaaGreatDoor.C
