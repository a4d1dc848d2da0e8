/-
  THE READER OF JSON, as the program has it: its rest, the next byte, strings.
-/
import Derived.Test.YtinnliapfdpfpaaDoorCBase
import Derived.Test.YtinnliapfdpfpaaDoorPJson
import Derived.WalkSmall
namespace Go.Proofs.YtinnliapfdpfpaaDoor.P
open Go.RowKit
open Go.Proofs.YtinnliapfdpfpaaDoor.C (ret_bool ret_int ret_str owns owns.lt owns.alloc owns.conv app_law u8v)

abbrev str (l : List UInt8) : Value := .string ⟨l.toArray⟩
theorem grown_set (w : World) (b o : Nat) (v : Value) : w.grownBy (w.setCell ⟨b, o, none⟩ v) (some b) :=
  have h := (Below.refl b w).setCell (p := ⟨b, o, none⟩) (Nat.le_refl _) v
  ⟨h.os, h.tape, h.output, h.size, fun k _ hne => Below.heap_setCell w ⟨b, o, none⟩ v k (fun e => hne (by simp [e]))⟩
theorem grown_trans {a b c : World} {r : Option Nat} (h : a.grownBy b r) (k : b.grownBy c r) : a.grownBy c r :=
  ⟨k.os.trans h.os, k.tape.trans h.tape, k.output.trans h.output, Nat.le_trans h.size k.size, fun j hj hne => (k.block j (Nat.lt_of_lt_of_le hj h.size) hne).trans (h.block j hj hne)⟩
theorem grown_refl (w : World) (r : Option Nat) : w.grownBy w r := World.grownBy.refl w r
theorem grown_below {B b : Nat} {w w' : World} (k : Below B w w') (hB : w.heap.size ≤ B) : w.grownBy w' (some b) :=
  ⟨k.os, k.tape, k.output, k.size, fun j hj _ => k.block j (by omega)⟩
/-- The reader's rest. -/
def rdr (w : World) (b : Nat) (l : List UInt8) : Prop := w.cell? ⟨b, 0, none⟩ = some (str l) ∧ w.frozen? ⟨b, 0, none⟩ = false
theorem rdr.below {b B : Nat} {w w' : World} {l : List UInt8} (h : rdr w b l) (hb : b < B) (k : Below B w w') : rdr w' b l :=
  ⟨(k.cell (p := ⟨b, 0, none⟩) hb).trans h.1, (k.frozen (p := ⟨b, 0, none⟩) hb).trans h.2⟩
theorem rdr.lt {b : Nat} {w : World} {l : List UInt8} (h : rdr w b l) : b < w.heap.size := World.block_lt_of_cell? w ⟨b, 0, none⟩ h.1
theorem rdr.set {b : Nat} {w : World} {l : List UInt8} (h : rdr w b l) (r : List UInt8) : rdr (w.setCell ⟨b, 0, none⟩ (str r)) b r := by
  obtain ⟨h0, h1⟩ := h
  exact ⟨by simp [go_sem, h0], by simp [go_sem, h1]⟩
theorem rdr.grown {b g : Nat} {w w' : World} {l : List UInt8} (h : rdr w b l) (k : w.grownBy w' (some g)) (hg : ¬ g = b) : rdr w' b l :=
  ⟨k.cell h.1 (by simp; omega), (k.frozen_far _ (by simpa using h.lt) (by simp; omega)).trans h.2⟩
/-- How many bytes the reader has left. -/
def left (b : Nat) (w : World) : Nat := match w.cell? ⟨b, 0, none⟩ with
  | some (.string s) => s.size
  | _ => 0
theorem left_of {b : Nat} {w : World} {l : List UInt8} (h : rdr w b l) : left b w = l.length := by
  unfold left; rw [h.1]; simp [ByteArray.size]

def noJ : List PanicEntry := [{ v := .iface 180 (.agg #[]), recovered := false }]
set_option maxHeartbeats 400000 in
theorem need_ok (w : World) : Calls Tryd.prog 115 #[.bool true] w fun e w' => e = .returned (.tuple #[]) ∧ w = w' := by
  go_enter Tryd.func115, Tryd.ntmps115
  go_wp2
  go_end0
  exact ⟨rfl, rfl⟩
set_option maxHeartbeats 400000 in
theorem need_no (w : World) : Calls Tryd.prog 115 #[.bool false] w fun e w' => e = .panicked noJ ∧ w = w' := by
  go_enter Tryd.func115, Tryd.ntmps115
  go_wp2
  exact ⟨rfl, rfl, rfl⟩

set_option maxHeartbeats 400000 in
theorem next_ok (b : Nat) (l : List UInt8) (c : UInt8) (w : World) (hc : rdr w b (c :: l)) (_hl : (c :: l).length ≤ 4000000000) :
    Calls Tryd.prog 156 #[.pointer (some ⟨b, 0, none⟩)] w fun e w' => e = .returned (.int .u8 c.toNat) ∧ rdr w' b l ∧ w.grownBy w' (some b) := by
  have H2 := hc.set l
  obtain ⟨hc, hf⟩ := hc
  unfold str at *
  have HE : Hid ((⟨(c :: l).toArray⟩ : ByteArray).extract 1 (l.length + 1) = ⟨l.toArray⟩) := by
    apply ByteArray.ext; simp
  go_enter Tryd.func156, Tryd.ntmps156
  go_wp2_with (go_at_call 115; refine (need_ok _).mono ?_; rintro e w' ⟨rfl, rfl⟩)
  go_ret
  refine ⟨rfl, ?_, ?_⟩
  · rw [HE.out]; exact H2
  · exact grown_set _ _ _ _
set_option maxHeartbeats 400000 in
theorem next_no (b : Nat) (w : World) (hc : rdr w b []) :
    Calls Tryd.prog 156 #[.pointer (some ⟨b, 0, none⟩)] w fun e w' => e = .panicked noJ ∧ w = w' := by
  obtain ⟨hc, hf⟩ := hc
  unfold str at *
  go_enter Tryd.func156, Tryd.ntmps156
  go_wp2_with (go_at_call 115; refine (need_no _).mono ?_; rintro e w' ⟨rfl, rfl⟩)
  exact ⟨rfl, rfl, rfl⟩

/-- How the reading of a string ends. -/
def strPost (w : World) (b : Nat) (o : Option (List UInt8 × List UInt8)) (e : Ending) (w' : World) : Prop :=
  match o with
  | none => e = .panicked noJ ∧ w.grownBy w' (some b)
  | some (t, r) => e = .returned (str t) ∧ rdr w' b r ∧ w.grownBy w' (some b)
theorem strPost_no {w w' : World} {b : Nat} {o : Option (List UInt8 × List UInt8)} (h : o = none) (g : w.grownBy w' (some b)) : strPost w b o (.panicked noJ) w' := by subst h; exact ⟨rfl, g⟩
theorem strPost_ok {w w' : World} {b : Nat} {o : Option (List UInt8 × List UInt8)} {t r : List UInt8} (h : o = some (t, r)) (k : rdr w' b r) (g : w.grownBy w' (some b)) : strPost w b o (.returned (str t)) w' := by subst h; exact ⟨rfl, k, g⟩
theorem owns_kept {w w' : World} {B b : Nat} {v : Value} {l : List UInt8} (h : owns w B v l) (hg : w.grownBy w' (some b)) (hb : b < B) : owns w' B v l :=
  World.ownsRow.kept h hg (by
    cases hv : v.ownBlock with
    | none => exact Or.inl rfl
    | some k => right; have := h.lt k hv; intro e; simp at e; omega)
theorem grown_up {w w1 w2 : World} {b B : Nat} (h : w.grownBy w1 (some b)) (k : Below B w1 w2) (hB : w.heap.size ≤ B) : w.grownBy w2 (some b) :=
  ⟨k.os.trans h.os, k.tape.trans h.tape, k.output.trans h.output, Nat.le_trans h.size k.size, fun j hj hne => (k.block j (by omega)).trans (h.block j hj hne)⟩
theorem owns_nil (w : World) (B : Nat) : owns w B (.slice none 0 0) [] := World.ownsRow_nil w B 5 1

set_option maxHeartbeats 1000000 in
theorem readString_any (b : Nat) (l : List UInt8) (w : World) (h : rdr w b l) (hl : l.length ≤ 4000) :
    Calls Tryd.prog 141 #[.pointer (some ⟨b, 0, none⟩)] w (strPost w b (strOf l)) := by
  obtain ⟨i0, hi, hz0, hz1, hz2⟩ := info_parts C.Tryd.info5
  have hb := h.lt
  go_enter Tryd.func141, Tryd.ntmps141
  go_wp2
  go_loopw [3] (fun v wr => ∃ o r : List UInt8, owns wr w.heap.size v o ∧ rdr wr b r ∧ w.grownBy wr (some b) ∧ strOf l = (strOf r).map (fun p => (o ++ p.1, p.2)) ∧ o.length + r.length ≤ l.length) (fun _ wr => left b wr)
  case atStart => exact ⟨[], l, owns_nil _ _, h, grown_refl _ _, by simp, by simp⟩
  case round =>
    obtain ⟨o, r, hown, hrd, hgr, hdec, hlen⟩ := hrel
    have HX : Hid (strOf l = (strOf r).map (fun p => (o ++ p.1, p.2))) := hdec
    clear hdec
    have hsz := hgr.size
    have HL2 : Hid (left b wr = r.length) := left_of hrd
    rcases r with _ | ⟨x, r'⟩
    · go_wp2_with (go_at_call 156; refine (next_no b _ hrd).mono ?_; rintro e w' ⟨rfl, rfl⟩)
      exact ⟨rfl, strPost_no (by rw [HX.out, strOf_nil]; rfl) hgr⟩
    · simp only [List.length_cons] at hlen
      have hx := x.toNat_lt
      by_cases h34 : x.toNat = 34
      · have HY : Hid (strOf l = some (o, r')) := by show _ = _; rw [HX.out, strOf_end r' h34]; simp
        have t34 : ((x.toNat : Int) == 34) = true := by simp [h34]
        clear HX h34
        go_wp2_with fail
        refine (next_ok b r' x _ hrd (by simp; omega)).mono ?_
        rintro e w1 ⟨rfl, s1, k1⟩
        have g1 := grown_trans hgr k1
        have o1 := owns_kept hown k1 hb
        have z1 := k1.size
        have hcv := o1.conv
        go_wp2
        go_ret
        exact strPost_ok HY.out s1 g1
      · have t34 : ((x.toNat : Int) == 34) = false := by simp; omega
        by_cases h92 : x.toNat = 92
        · have t92 : ((x.toNat : Int) == 92) = true := by simp [h92]
          rcases r' with _ | ⟨d, r2⟩
          · have HN : Hid (strOf l = none) := by show _ = _; rw [HX.out, strOf_esc0 h92]; rfl
            clear HX h92 h34
            go_wp2_with fail
            refine (next_ok b [] x _ hrd (by simp)).mono ?_
            rintro e w1 ⟨rfl, s1, k1⟩
            have g1 := grown_trans hgr k1
            have o1 := owns_kept hown k1 hb
            have z1 := k1.size
            go_wp2_with fail
            refine (next_no b _ s1).mono ?_
            rintro e w' ⟨rfl, rfl⟩
            go_wp2
            exact ⟨rfl, strPost_no HN.out g1⟩
          · simp only [List.length_cons] at hlen
            have hdl := d.toNat_lt
            have HY0 : (d.toNat = 34 ∨ d.toNat = 92) → strOf l = (strOf r2).map (fun p => ((o ++ [d]) ++ p.1, p.2)) := fun hd => by
              rw [HX.out, strOf_esc r2 h92 hd]; cases strOf r2 <;> simp
            by_cases d34 : d.toNat = 34
            · have HY : Hid (strOf l = (strOf r2).map (fun p => ((o ++ [d]) ++ p.1, p.2))) := HY0 (Or.inl d34)
              have td : ((d.toNat : Int) == 34) = true := by simp [d34]
              clear HX h92 h34 HY0 d34
              go_wp2_with fail
              refine (next_ok b (d :: r2) x _ hrd (by simp; omega)).mono ?_
              rintro e w1 ⟨rfl, s1, k1⟩
              have g1 := grown_trans hgr k1
              have o1 := owns_kept hown k1 hb
              have z1 := k1.size
              go_wp2_with fail
              refine (next_ok b r2 d _ s1 (by simp; omega)).mono ?_
              rintro e w2 ⟨rfl, s2, k2⟩
              have g2 := grown_trans g1 k2
              have o2 := owns_kept o1 k2 hb
              have z2 := k2.size
              have OWN : owns _ w.heap.size _ o := o2
              clear hown
              go_wp2_with (first | (go_at_call 115; refine (need_ok _).mono ?_; rintro e w' ⟨rfl, rfl⟩) | (at_builtin; refine app_law rfl _ _ rfl w.heap.size _ [d] _ rfl (OWN.alloc _) _ 1 rfl rfl _ (heap_alloc_new _ _) (by omega) (by omega) (by simp; omega) ?_; intro v' w3 hown3 hb3))
              have k3 : Below w.heap.size _ w3 := ((Below.refl w.heap.size _).alloc (by omega) _).trans hb3
              have hrd3 := s2.below hb k3
              have HL3 := left_of hrd3
              go_roundw
              case rel => exact ⟨o ++ [d], r2, hown3, hrd3, grown_up g2 k3 (Nat.le_refl _), HY.out, by simp; omega⟩
              case measure => have := HL2.out; simp at this; omega
            · have td : ((d.toNat : Int) == 34) = false := by simp; omega
              by_cases d92 : d.toNat = 92
              · have HY : Hid (strOf l = (strOf r2).map (fun p => ((o ++ [d]) ++ p.1, p.2))) := HY0 (Or.inr d92)
                have te : ((d.toNat : Int) == 92) = true := by simp [d92]
                clear HX h92 h34 HY0 d34 d92
                go_wp2_with fail
                refine (next_ok b (d :: r2) x _ hrd (by simp; omega)).mono ?_
                rintro e w1 ⟨rfl, s1, k1⟩
                have g1 := grown_trans hgr k1
                have o1 := owns_kept hown k1 hb
                have z1 := k1.size
                go_wp2_with fail
                refine (next_ok b r2 d _ s1 (by simp; omega)).mono ?_
                rintro e w2 ⟨rfl, s2, k2⟩
                have g2 := grown_trans g1 k2
                have o2 := owns_kept o1 k2 hb
                have z2 := k2.size
                have OWN : owns _ w.heap.size _ o := o2
                clear hown
                go_wp2_with (first | (go_at_call 115; refine (need_ok _).mono ?_; rintro e w' ⟨rfl, rfl⟩) | (at_builtin; refine app_law rfl _ _ rfl w.heap.size _ [d] _ rfl (OWN.alloc _) _ 1 rfl rfl _ (heap_alloc_new _ _) (by omega) (by omega) (by simp; omega) ?_; intro v' w3 hown3 hb3))
                have k3 : Below w.heap.size _ w3 := ((Below.refl w.heap.size _).alloc (by omega) _).trans hb3
                have hrd3 := s2.below hb k3
                have HL3 := left_of hrd3
                go_roundw
                case rel => exact ⟨o ++ [d], r2, hown3, hrd3, grown_up g2 k3 (Nat.le_refl _), HY.out, by simp; omega⟩
                case measure => have := HL2.out; simp at this; omega
              · have te : ((d.toNat : Int) == 92) = false := by simp; omega
                have HN : Hid (strOf l = none) := by show _ = _; rw [HX.out, strOf_escx r2 h92 (by omega)]; rfl
                clear HX h92 h34 HY0 d34 d92
                go_wp2_with fail
                refine (next_ok b (d :: r2) x _ hrd (by simp; omega)).mono ?_
                rintro e w1 ⟨rfl, s1, k1⟩
                have g1 := grown_trans hgr k1
                have o1 := owns_kept hown k1 hb
                have z1 := k1.size
                go_wp2_with fail
                refine (next_ok b r2 d _ s1 (by simp; omega)).mono ?_
                rintro e w2 ⟨rfl, s2, k2⟩
                have g2 := grown_trans g1 k2
                have o2 := owns_kept o1 k2 hb
                have z2 := k2.size
                go_wp2_with (go_at_call 115; refine (need_no _).mono ?_; rintro e w' ⟨rfl, rfl⟩)
                exact ⟨rfl, strPost_no HN.out g2⟩
        · have t92 : ((x.toNat : Int) == 92) = false := by simp; omega
          by_cases hp : 32 ≤ x.toNat ∧ x.toNat ≤ 126
          · have HY : Hid (strOf l = (strOf r').map (fun p => ((o ++ [x]) ++ p.1, p.2))) := by
              show _ = _; rw [HX.out, strOf_one r' h34 h92 hp]; cases strOf r' <;> simp
            have p1 : decide (32 ≤ (x.toNat : Int)) = true := by simp; omega
            have p2 : decide ((x.toNat : Int) ≤ 126) = true := by simp; omega
            clear HX h92 h34 hp
            go_wp2_with fail
            refine (next_ok b r' x _ hrd (by simp; omega)).mono ?_
            rintro e w1 ⟨rfl, s1, k1⟩
            have g1 := grown_trans hgr k1
            have o1 := owns_kept hown k1 hb
            have z1 := k1.size
            have OWN : owns _ w.heap.size _ o := o1
            clear hown
            go_wp2_with (first | (go_at_call 115; refine (need_ok _).mono ?_; rintro e w' ⟨rfl, rfl⟩) | (at_builtin; refine app_law rfl _ _ rfl w.heap.size _ [x] _ rfl (OWN.alloc _) _ 1 rfl rfl _ (heap_alloc_new _ _) (by omega) (by omega) (by simp; omega) ?_; intro v' w3 hown3 hb3))
            have k3 : Below w.heap.size _ w3 := ((Below.refl w.heap.size _).alloc (by omega) _).trans hb3
            have hrd3 := s1.below hb k3
            have HL3 := left_of hrd3
            go_roundw
            case rel => exact ⟨o ++ [x], r', hown3, hrd3, grown_up g1 k3 (Nat.le_refl _), HY.out, by simp; omega⟩
            case measure => have := HL2.out; simp at this; omega
          · have HN : Hid (strOf l = none) := by show _ = _; rw [HX.out, strOf_bad r' h34 h92 hp]; rfl
            clear HX h92 h34
            by_cases p1 : 32 ≤ x.toNat
            · have q1 : decide (32 ≤ (x.toNat : Int)) = true := by simp; omega
              have q2 : decide ((x.toNat : Int) ≤ 126) = false := by simp; omega
              clear hp p1
              go_wp2_with fail
              refine (next_ok b r' x _ hrd (by simp; omega)).mono ?_
              rintro e w1 ⟨rfl, s1, k1⟩
              have g1 := grown_trans hgr k1
              have o1 := owns_kept hown k1 hb
              have z1 := k1.size
              go_wp2_with (go_at_call 115; refine (need_no _).mono ?_; rintro e w' ⟨rfl, rfl⟩)
              exact ⟨rfl, strPost_no HN.out g1⟩
            · have q1 : decide (32 ≤ (x.toNat : Int)) = false := by simp; omega
              clear hp p1
              go_wp2_with fail
              refine (next_ok b r' x _ hrd (by simp; omega)).mono ?_
              rintro e w1 ⟨rfl, s1, k1⟩
              have g1 := grown_trans hgr k1
              have o1 := owns_kept hown k1 hb
              have z1 := k1.size
              go_wp2_with (go_at_call 115; refine (need_no _).mono ?_; rintro e w' ⟨rfl, rfl⟩)
              exact ⟨rfl, strPost_no HN.out g1⟩
end Go.Proofs.YtinnliapfdpfpaaDoor.P
