/-
  THE DOCUMENT's READER OF JSON: spaces, tokens, strings.
-/
import Derived.Test.YtinnliapfdpfpaaDoorPRep
import Derived.BigQuiet
namespace Go.Proofs.YtinnliapfdpfpaaDoor.P
open Go.RowKit
open Go.Proofs.YtinnliapfdpfpaaDoor.C (ret_bool ret_int ret_str)

/-- The cells of the tree. -/
structure TC (b : Nat) (s : List UInt8) (p : Nat) (bad : Bool) (v : Value) (w : World) : Prop where
  c0 : w.cell? ⟨b, 0, none⟩ = some (str s)
  c1 : w.cell? ⟨b, 1, none⟩ = some (.int .i64 p)
  c2 : w.cell? ⟨b, 2, none⟩ = some (.bool bad)
  c3 : w.cell? ⟨b, 3, none⟩ = some v
  f1 : w.frozen? ⟨b, 1, none⟩ = false
  f2 : w.frozen? ⟨b, 2, none⟩ = false
  f3 : w.frozen? ⟨b, 3, none⟩ = false
  le : p ≤ s.length
theorem TC.lt {b : Nat} {s : List UInt8} {p : Nat} {bad : Bool} {v : Value} {w : World} (h : TC b s p bad v w) : b < w.heap.size := World.block_lt_of_cell? w ⟨b, 0, none⟩ h.c0
theorem TC.setP {b : Nat} {s : List UInt8} {p : Nat} {bad : Bool} {v : Value} {w : World} (h : TC b s p bad v w) (q : Nat) (hq : q ≤ s.length) : TC b s q bad v (w.setCell ⟨b, 1, none⟩ (.int .i64 q)) := by
  obtain ⟨c0, c1, c2, c3, f1, f2, f3, le⟩ := h
  refine ⟨?_, ?_, ?_, ?_, ?_, ?_, ?_, hq⟩ <;> simp [go_sem, c0, c1, c2, c3, f1, f2, f3]
theorem TC.incr {b : Nat} {s : List UInt8} {p : Nat} {bad : Bool} {v : Value} {w : World} (h : TC b s p bad v w) (hq : p < s.length) : TC b s (p + 1) bad v (w.setCell ⟨b, 1, none⟩ (.int .i64 ((p : Int) + 1))) := h.setP (p + 1) hq
theorem TC.setB {b : Nat} {s : List UInt8} {p : Nat} {bad : Bool} {v : Value} {w : World} (h : TC b s p bad v w) (x : Bool) : TC b s p x v (w.setCell ⟨b, 2, none⟩ (.bool x)) := by
  obtain ⟨c0, c1, c2, c3, f1, f2, f3, le⟩ := h
  refine ⟨?_, ?_, ?_, ?_, ?_, ?_, ?_, le⟩ <;> simp [go_sem, c0, c1, c2, c3, f1, f2, f3]
theorem TC.kept {S : Nat → Prop} {b : Nat} {s : List UInt8} {p : Nat} {bad : Bool} {v : Value} {w w' : World} (h : TC b s p bad v w) (k : Kept S w w') (hn : ¬ S b) : TC b s p bad v w' :=
  ⟨k.cell h.c0 hn, k.cell h.c1 hn, k.cell h.c2 hn, k.cell h.c3 hn, k.frozen (a := ⟨b, 1, none⟩) h.lt h.f1 hn, k.frozen (a := ⟨b, 2, none⟩) h.lt h.f2 hn, k.frozen (a := ⟨b, 3, none⟩) h.lt h.f3 hn, h.le⟩
theorem TC.drewN {b : Nat} {s : List UInt8} {p : Nat} {bad : Bool} {v : Value} {w : World} (h : TC b s p bad v w) (n : Nat) : TC b s p bad v (w.drewN n) := ⟨h.c0, h.c1, h.c2, h.c3, h.f1, h.f2, h.f3, h.le⟩
theorem Kept.drewN {S : Nat → Prop} {a w : World} (h : Kept S a w) (n : Nat) : Kept S a (w.drewN n) := ⟨h.os, h.tape, h.output, h.size, h.block⟩
theorem Kept.setB {b : Nat} {a w : World} (h : Kept (· = b) a w) (o : Nat) (v : Value) : Kept (· = b) a (w.setCell ⟨b, o, none⟩ v) := h.setCell b o v (fun _ => rfl)
theorem Kept.then {b : Nat} {a w w' : World} (h : Kept (· = b) a w) (k : Kept (· = b) w w') : Kept (· = b) a w' := h.trans k (fun _ _ e => e)
/-- Where the tree stands. -/
def stood (b : Nat) (w : World) : Nat := match w.cell? ⟨b, 1, none⟩ with
  | some (.int _ k) => k.toNat
  | _ => 0
theorem TC.stood {b : Nat} {s : List UInt8} {p : Nat} {bad : Bool} {v : Value} {w : World} (h : TC b s p bad v w) : stood b w = p := by unfold P.stood; rw [h.c1]; simp
theorem skip_drop {s : List UInt8} {p : Nat} (h : p < s.length) : skip (s.drop p) = if spc s[p] then skip (s.drop (p + 1)) else s.drop p := by
  rw [List.drop_eq_getElem_cons h, skip]
theorem spc_is (c : UInt8) : spc c = (((c.toNat : Int) == 32) || ((c.toNat : Int) == 10)) := by
  have h1 : (c == 32) = ((c.toNat : Int) == 32) := by
    rw [Bool.eq_iff_iff]; simp only [beq_iff_eq]
    constructor
    · rintro rfl; rfl
    · intro h; apply UInt8.toNat_inj.1; show c.toNat = 32; omega
  have h2 : (c == 10) = ((c.toNat : Int) == 10) := by
    rw [Bool.eq_iff_iff]; simp only [beq_iff_eq]
    constructor
    · rintro rfl; rfl
    · intro h; apply UInt8.toNat_inj.1; show c.toNat = 10; omega
  unfold spc; rw [h1, h2]
set_option maxHeartbeats 2000000 in
theorem tskip_any (b : Nat) (s : List UInt8) (p : Nat) (bad : Bool) (v : Value) (w : World) (h : TC b s p bad v w) (hs : s.length ≤ 4000) :
    Calls Tryd.prog 87 #[.pointer (some ⟨b, 0, none⟩)] w fun e w' => e = .returned (.tuple #[]) ∧ ∃ q, TC b s q bad v w' ∧ p ≤ q ∧ s.drop q = skip (s.drop p) ∧ Kept (· = b) w w' := by
  go_enter Tryd.func87, Tryd.ntmps87
  go_wp2
  go_loopw [] (fun wr => ∃ q, TC b s q bad v wr ∧ p ≤ q ∧ skip (s.drop q) = skip (s.drop p) ∧ Kept (· = b) w wr) (fun wr => s.length - stood b wr)
  case atStart => exact ⟨p, h, Nat.le_refl _, rfl, Kept.refl _ _⟩
  case round =>
    obtain ⟨q, hT, hpq, hsk, hK⟩ := hrel
    have HS : Hid (skip (s.drop q) = skip (s.drop p)) := hsk
    have HL : Hid (stood b wr = q) := hT.stood
    clear hsk h
    have c0 := hT.c0; have c1 := hT.c1; have f1 := hT.f1; have le := hT.le
    by_cases hq : q < s.length
    · have hqs : q < (⟨s.toArray⟩ : ByteArray).size := hq
      have hy : (⟨s.toArray⟩ : ByteArray)[q]'hqs = s[q] := rfl
      have p0 : decide ((q : Int) < (s.length : Int)) = true := by simp; omega
      have hsd := skip_drop hq
      by_cases h32 : s[q].toNat = 32
      · have HS2 : Hid (skip (s.drop (q + 1)) = skip (s.drop p)) := by show _ = _; rw [← HS.out, hsd, spc_is, h32]; rfl
        have p1 : ((((⟨s.toArray⟩ : ByteArray)[q]'hqs).toNat : Int) == 32) = true := by rw [hy]; simp; omega
        clear h32
        clear HS hy hsd
        go_wp2_with fail
        go_quiet (fail)
        go_wp2
        have T2 := (hT.drewN nq).incr hq
        have HL2 := T2.stood
        go_roundw
        case rel => exact ⟨q + 1, T2, by omega, HS2.out, (hK.drewN nq).setB 1 _⟩
        case measure => rw [HL2, HL.out]; omega
      · have p1 : ((((⟨s.toArray⟩ : ByteArray)[q]'hqs).toNat : Int) == 32) = false := by rw [hy]; simp; omega
        by_cases h10 : s[q].toNat = 10
        · have HS2 : Hid (skip (s.drop (q + 1)) = skip (s.drop p)) := by show _ = _; rw [← HS.out, hsd, spc_is, h10]; rfl
          have p2 : ((((⟨s.toArray⟩ : ByteArray)[q]'hqs).toNat : Int) == 10) = true := by rw [hy]; simp; omega
          clear h32 h10
          clear HS hy hsd
          go_wp2_with fail
          go_quiet (fail)
          go_wp2
          have T2 := (hT.drewN nq).incr hq
          have HL2 := T2.stood
          go_roundw
          case rel => exact ⟨q + 1, T2, by omega, HS2.out, (hK.drewN nq).setB 1 _⟩
          case measure => rw [HL2, HL.out]; omega
        · have HD : Hid (s.drop q = skip (s.drop p)) := by
            show _ = _
            rw [← HS.out, hsd, spc_is, show ((s[q].toNat : Int) == 32) = false by simp; omega, show ((s[q].toNat : Int) == 10) = false by simp; omega]; rfl
          have p2 : ((((⟨s.toArray⟩ : ByteArray)[q]'hqs).toNat : Int) == 10) = false := by rw [hy]; simp; omega
          clear HS hy hsd h32 h10
          go_wp2_with fail
          go_quiet (fail)
          go_wp2
          go_end0
          exact ⟨rfl, q, hT.drewN nq, hpq, HD.out, hK.drewN nq⟩
    · have p0 : decide ((q : Int) < (s.length : Int)) = false := by simp; omega
      have HD : Hid (s.drop q = skip (s.drop p)) := by show _ = _; rw [← HS.out, List.drop_eq_nil_of_le (by omega)]; rfl
      clear HS
      go_wp2_with fail
      go_quiet (fail)
      go_wp2
      go_end0
      exact ⟨rfl, q, hT.drewN nq, hpq, HD.out, hK.drewN nq⟩
theorem cutP_iff (t l : List UInt8) : (cutP t l).isSome = (decide (t.length ≤ l.length) && (l.take t.length == t)) := by
  unfold cutP
  rw [Bool.eq_iff_iff]
  constructor
  · intro h
    split at h
    · rename_i hp
      rw [List.isPrefixOf_iff_prefix] at hp
      obtain ⟨z, rfl⟩ := hp
      simp
    · cases h
  · intro h
    simp only [Bool.and_eq_true, decide_eq_true_eq, beq_iff_eq] at h
    rw [if_pos]; · rfl
    rw [List.isPrefixOf_iff_prefix]
    refine ⟨l.drop t.length, ?_⟩
    have := List.take_append_drop t.length l
    rw [h.2] at this
    exact this
theorem ext_take (l : List UInt8) (n : Nat) (_h : n ≤ l.length) : (⟨l.toArray⟩ : ByteArray).extract 0 n = ⟨(l.take n).toArray⟩ := by
  apply ByteArray.ext
  simp
theorem bytes_list (l : List UInt8) : (⟨l.toArray⟩ : ByteArray).toList = l := by simp
set_option maxHeartbeats 1000000 in
theorem begins_any (l t : List UInt8) (w : World) (_hl : l.length ≤ 4000000) (_ht : t.length ≤ 4000000) :
    Calls Tryd.prog 145 #[str l, str t] w fun e w' => e = .returned (.bool (cutP t l).isSome) ∧ w = w' := by
  by_cases h : t.length ≤ l.length
  · have p0 : decide ((t.length : Int) ≤ (l.length : Int)) = true := by simp; omega
    have HC : Hid ((cutP t l).isSome = (l.take t.length == t)) := by show _ = _; rw [cutP_iff]; simp [h]
    have HE : Hid ((⟨l.toArray⟩ : ByteArray).extract 0 t.length = ⟨(l.take t.length).toArray⟩) := ext_take l _ h
    go_enter Tryd.func145, Tryd.ntmps145
    go_wp2
    go_ret
    exact ⟨ret_bool (by rw [HC.out, HE.out, bytes_list]), rfl⟩
  · have p0 : decide ((t.length : Int) ≤ (l.length : Int)) = false := by simp; omega
    have HC : Hid ((cutP t l).isSome = false) := by show _ = _; rw [cutP_iff]; simp [h]
    go_enter Tryd.func145, Tryd.ntmps145
    go_wp2
    go_ret
    exact ⟨ret_bool HC.out.symm, rfl⟩
end Go.Proofs.YtinnliapfdpfpaaDoor.P
