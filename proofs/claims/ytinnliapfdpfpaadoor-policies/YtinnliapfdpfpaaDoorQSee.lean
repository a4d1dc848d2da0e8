/-
  THE DOCUMENT's READER OF JSON: tokens, strings.
-/
import Derived.Test.YtinnliapfdpfpaaDoorQScan
import Derived.Deep.RegionHeld3
namespace Go.Proofs.YtinnliapfdpfpaaDoor.P
open Go.RowKit
open Go.Proofs.YtinnliapfdpfpaaDoor.C (ret_bool ret_int ret_str)

theorem ext_at (p : List UInt8) (i : Nat) : (⟨p.toArray⟩ : ByteArray).extract i p.length = ⟨(p.drop i).toArray⟩ := by
  apply ByteArray.ext
  simp
  exact List.take_of_length_le (by simp)
def sawB (t l : List UInt8) (bad : Bool) : Bool := (tak t l).isSome && !bad
/-- Behind 'sees'. -/
def seesPost (b : Nat) (s : List UInt8) (p : Nat) (bad : Bool) (v : Value) (t : List UInt8) (w : World) (e : Ending) (w' : World) : Prop :=
  e = .returned (.bool (sawB t (s.drop p) bad)) ∧ ∃ q, TC b s q bad v w' ∧ p ≤ q ∧ s.drop q = (if sawB t (s.drop p) bad then taken t (s.drop p) else skip (s.drop p)) ∧ (sawB t (s.drop p) bad = true → p + t.length ≤ q) ∧ Kept (· = b) w w'
theorem seesPost_no {b : Nat} {s : List UInt8} {p : Nat} {bad : Bool} {v : Value} {t : List UInt8} {w w' : World} {q : Nat} (h : sawB t (s.drop p) bad = false) (hT : TC b s q bad v w') (hpq : p ≤ q) (hd : s.drop q = skip (s.drop p)) (hK : Kept (· = b) w w') :
    seesPost b s p bad v t w (.returned (.bool false)) w' := ⟨by rw [h], q, hT, hpq, by rw [h]; exact hd, (by rw [h]; intro e; cases e), hK⟩
set_option maxHeartbeats 2000000 in
theorem tsees_any (b : Nat) (s : List UInt8) (p : Nat) (bad : Bool) (v : Value) (t : List UInt8) (w : World) (h : TC b s p bad v w) (hs : s.length ≤ 4000) (ht : t.length ≤ 4000) :
    Calls Tryd.prog 121 #[.pointer (some ⟨b, 0, none⟩), str t] w (seesPost b s p bad v t w) := by
  have SK : Hid (_) := tskip_any b s p bad v w h hs
  go_enter Tryd.func121, Tryd.ntmps121
  go_wp2_with fail
  refine Calls.mono SK.out ?_
  rintro e w1 ⟨rfl, q, T1, hpq, hd, K1⟩
  clear SK h
  have c0 := T1.c0; have c1 := T1.c1; have c2 := T1.c2; have f1 := T1.f1; have le := T1.le
  have HE : Hid ((⟨s.toArray⟩ : ByteArray).extract q s.length = ⟨(s.drop q).toArray⟩) := ext_at s q
  have BG : Hid (_) := begins_any (s.drop q) t
  have hdl : (s.drop q).length ≤ 4000000 := by simp; omega
  have HD : Hid (s.drop q = skip (s.drop p)) := hd
  have HC : Hid ((tak t (s.drop p)) = cutP t (s.drop q)) := by show _ = _; unfold tak; rw [hd]
  have i0 : (0 : Int) ≤ (q : Int) := by omega
  have i1 : (q : Int) ≤ (s.length : Int) := by omega
  clear hd
  cases hc : cutP t (s.drop q) with
  | none =>
    have HS : Hid (sawB t (s.drop p) bad = false) := by show _ = _; unfold sawB; rw [HC.out, hc]; rfl
    rw [hc] at BG
    go_wp2_with fail
    go_region_held3 (fun w' => w'.cell? ⟨b, 0, none⟩ = some (str s) ∧ w'.cell? ⟨b, 1, none⟩ = some (.int .i64 q)) (first | exact ⟨c0, c1⟩)
      (first
        | (go_at_call 145; rw [HE.out]; refine (BG.out _ hdl (by omega)).mono ?_; rintro e w' ⟨rfl, rfl⟩))
    rename_i hHeld
    clear hHeld BG
    go_wp2
    go_ret
    exact seesPost_no HS.out (T1.drewN 1) hpq HD.out (K1.drewN 1)
  | some r =>
    rw [hc] at BG
    cases bad with
    | true =>
      have HS : Hid (sawB t (s.drop p) true = false) := by show _ = _; unfold sawB; rw [Bool.not_true, Bool.and_false]
      go_wp2_with fail
      go_region_held3 (fun w' => w'.cell? ⟨b, 0, none⟩ = some (str s) ∧ w'.cell? ⟨b, 1, none⟩ = some (.int .i64 q)) (first | exact ⟨c0, c1⟩)
        (first
          | (go_at_call 145; rw [HE.out]; refine (BG.out _ hdl (by omega)).mono ?_; rintro e w' ⟨rfl, rfl⟩))
      rename_i hHeld
      clear hHeld BG
      go_wp2
      go_ret
      exact seesPost_no HS.out (T1.drewN 1) hpq HD.out (K1.drewN 1)
    | false =>
      have HS : Hid (sawB t (s.drop p) false = true) := by show _ = _; unfold sawB; rw [HC.out, hc]; rfl
      have hcs := cutP_some hc
      have hle : q + t.length ≤ s.length := by
        have := congrArg List.length hcs
        simp at this; omega
      have HR : Hid (s.drop (q + t.length) = taken t (s.drop p)) := by
        show _ = _
        unfold taken; rw [HC.out, hc, ← List.drop_drop, hcs]; simp
      clear hcs
      go_wp2_with fail
      go_region_held3 (fun w' => w'.cell? ⟨b, 0, none⟩ = some (str s) ∧ w'.cell? ⟨b, 1, none⟩ = some (.int .i64 q)) (first | exact ⟨c0, c1⟩)
        (first
          | (go_at_call 145; rw [HE.out]; refine (BG.out _ hdl (by omega)).mono ?_; rintro e w' ⟨rfl, rfl⟩))
      rename_i hHeld
      clear hHeld BG
      go_wp2
      go_ret
      refine ⟨by rw [HS.out]; rfl, q + t.length, ?_, by omega, by rw [HS.out]; exact HR.out, fun _ => by omega, ?_⟩
      · exact (T1.drewN 1).setP (q + t.length) hle
      · exact (K1.drewN 1).setB 1 _

/-- Behind 'text'. -/
def textP (b : Nat) (s : List UInt8) (p : Nat) (v : Value) (o : Option (List UInt8 × List UInt8)) (w : World) (e : Ending) (w' : World) : Prop :=
  Kept (· = b) w w' ∧ ∃ x q bad, e = .returned (str x) ∧ TC b s q bad v w' ∧ p ≤ q ∧ match o with
  | none => bad = true
  | some (y, r) => bad = false ∧ x = y ∧ s.drop q = r
theorem textP_no {b : Nat} {s : List UInt8} {p : Nat} {v : Value} {o : Option (List UInt8 × List UInt8)} {w w' : World} {x : List UInt8} {q : Nat} (h : o = none) (hT : TC b s q true v w') (hpq : p ≤ q) (hK : Kept (· = b) w w') : textP b s p v o w (.returned (str x)) w' := by
  subst h; exact ⟨hK, x, q, true, rfl, hT, hpq, rfl⟩
theorem textP_ok {b : Nat} {s : List UInt8} {p : Nat} {v : Value} {o : Option (List UInt8 × List UInt8)} {w w' : World} {x : List UInt8} {q : Nat} (h : o = some (x, s.drop q)) (hT : TC b s q false v w') (hpq : p ≤ q) (hK : Kept (· = b) w w') : textP b s p v o w (.returned (str x)) w' := by
  subst h; exact ⟨hK, x, q, false, rfl, hT, hpq, rfl, rfl, rfl⟩
theorem app_byte (o : List UInt8) (c : UInt8) : (⟨o.toArray⟩ : ByteArray) ++ ⟨#[c]⟩ = ⟨(o ++ [c]).toArray⟩ := by
  apply ByteArray.ext; simp

theorem conv_one (H : Nat) (c : UInt8) : ∀ (W : World), W.heap.size = H → (convert 73 9 (.slice (some ⟨H, 0, none⟩) 1 1)).run Tryd.prog (W.alloc (.cells #[.int .u8 (c.toNat : Int)] 5)) = .ok (.string ⟨#[c]⟩) (W.alloc (.cells #[.int .u8 (c.toNat : Int)] 5)) := by
  rintro W rfl
  have : C.owns (W.alloc (.cells #[.int .u8 (c.toNat : Int)] 5)) 0 (.slice (some ⟨W.heap.size, 0, none⟩) 1 1) [c] :=
    ⟨rfl, .inr ⟨W.heap.size, 1, #[.int .u8 (c.toNat : Int)], rfl, Nat.zero_le _, heap_alloc_new W _, Nat.le_refl _, by decide, rfl, rfl⟩⟩
  exact this.conv
theorem str_eq {o : List UInt8} {c : UInt8} : Value.string ((⟨o.toArray⟩ : ByteArray) ++ ⟨#[c]⟩) = str (o ++ [c]) := by rw [app_byte]
theorem byte_at (s : List UInt8) (q : Nat) (hq : q + 1 < s.length) : ∀ (n : Nat) (_ : n = q + 1) (h' : n < (⟨s.toArray⟩ : ByteArray).size), (⟨s.toArray⟩ : ByteArray)[n]'h' = s[q + 1] := by rintro n rfl h'; rfl
theorem TC.any {b : Nat} {s : List UInt8} {p : Nat} {bad : Bool} {v : Value} {w w' : World} (h : TC b s p bad v w) (k : Kept (fun _ => False) w w') : TC b s p bad v w' := h.kept k (fun e => e)
set_option maxHeartbeats 8000000 in
set_option maxRecDepth 20000 in
theorem ttext_any (b : Nat) (s : List UInt8) (p : Nat) (v : Value) (w : World) (h : TC b s p false v w) (hs : s.length ≤ 4000) :
    Calls Tryd.prog 123 #[.pointer (some ⟨b, 0, none⟩)] w (textP b s p v (strOf (s.drop p)) w) := by
  go_enter Tryd.func123, Tryd.ntmps123
  go_wp2
  go_loopw [3] (fun sv wr => ∃ q o bad, sv = str o ∧ TC b s q bad v wr ∧ p ≤ q ∧ (bad = false → strOf (s.drop p) = (strOf (s.drop q)).map (fun y => (o ++ y.1, y.2))) ∧ (bad = true → strOf (s.drop p) = none) ∧ o.length ≤ q ∧ Kept (· = b) w wr) (fun _ wr => s.length - stood b wr)
  case atStart => exact ⟨p, [], false, rfl, h, Nat.le_refl _, fun _ => by simp, (fun e => by cases e), Nat.zero_le _, Kept.refl _ _⟩
  case round =>
    obtain ⟨q, o, bad, rfl, hT, hpq, hso, hbd, hol, hK⟩ := hrel
    have HL : Hid (stood b wr = q) := hT.stood
    clear h
    have c0 := hT.c0; have c1 := hT.c1; have c2 := hT.c2; have f1 := hT.f1; have f2 := hT.f2; have le := hT.le
    cases bad with
    | true =>
      have HN : Hid (strOf (s.drop p) = none) := hbd rfl
      clear hso hbd
      by_cases hq : q < s.length
      · have p0 : decide ((q : Int) < (s.length : Int)) = true := by simp; omega
        go_wp2_with fail
        go_quiet (fail)
        go_wp2
        go_ret
        exact textP_no (x := []) HN.out ((hT.drewN nq).setB true) hpq ((hK.drewN nq).setB 2 _)
      · have p0 : decide ((q : Int) < (s.length : Int)) = false := by simp; omega
        go_wp2_with fail
        go_quiet (fail)
        go_wp2
        go_ret
        exact textP_no (x := []) HN.out ((hT.drewN nq).setB true) hpq ((hK.drewN nq).setB 2 _)
    | false =>
      have HS : Hid (strOf (s.drop p) = (strOf (s.drop q)).map (fun y => (o ++ y.1, y.2))) := hso rfl
      clear hso hbd
      by_cases hq : q < s.length
      · have hqs : q < (⟨s.toArray⟩ : ByteArray).size := hq
        have hy : (⟨s.toArray⟩ : ByteArray)[q]'hqs = s[q] := rfl
        have p0 : decide ((q : Int) < (s.length : Int)) = true := by simp; omega
        have hdr : s.drop q = s[q] :: s.drop (q + 1) := List.drop_eq_getElem_cons hq
        have hxl := s[q].toNat_lt
        by_cases h34 : s[q].toNat = 34
        · have HY : Hid (strOf (s.drop p) = some (o, s.drop (q + 1))) := by show _ = _; rw [HS.out, hdr, strOf_end _ h34]; simp
          have p1 : ((((⟨s.toArray⟩ : ByteArray)[q]'hqs).toNat : Int) == 34) = true := by rw [hy]; simp; omega
          clear HS hy hdr h34
          go_wp2_with fail
          go_quiet (fail)
          go_wp2_with fail
          go_quiet (fail)
          go_wp2
          go_ret
          exact textP_ok HY.out ((hT.drewN _).incr hq) (by omega) ((hK.drewN _).setB 1 _)
        · have p1 : ((((⟨s.toArray⟩ : ByteArray)[q]'hqs).toNat : Int) == 34) = false := by rw [hy]; simp; omega
          by_cases h92 : s[q].toNat = 92
          · have p2 : ((((⟨s.toArray⟩ : ByteArray)[q]'hqs).toNat : Int) == 92) = true := by rw [hy]; simp; omega
            rw [hy] at p1 p2
            by_cases hq1 : q + 1 < s.length
            · have hq1s : q + 1 < (⟨s.toArray⟩ : ByteArray).size := hq1
              have hy1 : (⟨s.toArray⟩ : ByteArray)[q + 1]'hq1s = s[q + 1] := rfl
              have hdr1 : s.drop (q + 1) = s[q + 1] :: s.drop (q + 2) := List.drop_eq_getElem_cons hq1
              have hxl1 := s[q + 1].toNat_lt
              have p5 : (((q : Int) + 1) == (s.length : Int)) = false := by simp; omega
              have hcv := conv_one wr.heap.size s[q + 1]
              have b1 : ¬ 9223372036854775807 < o.length + 1 := by omega
              have i1 : (q : Int) + 1 < (s.length : Int) := by omega
              have i0 : (0 : Int) ≤ (q : Int) + 1 := by omega
              have i2 : ((q : Int) + 1).toNat = q + 1 := by omega
              have hyB : ∀ h, (⟨s.toArray⟩ : ByteArray)[((q : Int) + 1).toNat]'h = s[q + 1] := fun h => byte_at s q hq1 _ i2 h
              have i3 : decide ((0 : Int) ≤ (q : Int) + 1) = true := by simp; omega
              have i4 : decide ((q : Int) + 1 < (s.length : Int)) = true := by simp; omega
              by_cases d34 : s[q + 1].toNat = 34
              · have HY : Hid (strOf (s.drop p) = (strOf (s.drop (q + 1 + 1))).map (fun y => ((o ++ [s[q + 1]]) ++ y.1, y.2))) := by
                  show _ = _; rw [HS.out, hdr, hdr1, strOf_esc _ h92 (Or.inl d34)]; cases strOf (s.drop (q + 2)) <;> simp
                have p6 : ((s[q + 1].toNat : Int) == 34) = true := by simp; omega
                have p6n : ((s[q + 1].toNat : Int) != 34) = false := by simp; omega
                clear HS hdr h34 h92 hdr1 d34
                go_wp2_with fail
                go_quiet (fail)
                go_wp2_with fail
                go_quiet (fail)
                go_wp2_with fail
                go_quiet (fail)
                go_wp2_with fail
                go_quiet (fail)
                go_wp2
                go_roundw
                case rel => exact ⟨q + 1 + 1, _, false, str_eq, ((((((hT.drewN _).incr hq).drewN _).incr hq1)).any ((Kept.refl _ _).alloc _)), by omega, fun _ => HY.out, (fun e => by cases e), by simp; omega, ((((hK.drewN _).setB 1 _).drewN _).setB 1 _).alloc _⟩
                case measure =>
                  refine Nat.lt_of_le_of_lt (Nat.le_of_eq (congrArg (s.length - ·) (TC.stood (?T : TC b s (q + 1 + 1) false v _)))) ?_
                  case T => exact (((((hT.drewN _).incr hq).drewN _).incr hq1)).any ((Kept.refl _ _).alloc _)
                  rw [HL.out]; omega
              · have p6 : ((s[q + 1].toNat : Int) == 34) = false := by simp; omega
                have p6n : ((s[q + 1].toNat : Int) != 34) = true := by simp; omega
                by_cases d92 : s[q + 1].toNat = 92
                · have HY : Hid (strOf (s.drop p) = (strOf (s.drop (q + 1 + 1))).map (fun y => ((o ++ [s[q + 1]]) ++ y.1, y.2))) := by
                    show _ = _; rw [HS.out, hdr, hdr1, strOf_esc _ h92 (Or.inr d92)]; cases strOf (s.drop (q + 2)) <;> simp
                  have p7 : ((s[q + 1].toNat : Int) == 92) = true := by simp; omega
                  have p7n : ((s[q + 1].toNat : Int) != 92) = false := by simp; omega
                  clear d92
                  clear HS hdr h34 h92 hdr1 d34
                  go_wp2_with fail
                  go_quiet (fail)
                  go_wp2_with fail
                  go_quiet (fail)
                  go_wp2_with fail
                  go_quiet (fail)
                  go_wp2_with fail
                  go_quiet (fail)
                  go_wp2
                  go_roundw
                  case rel => exact ⟨q + 1 + 1, _, false, str_eq, ((((((hT.drewN _).incr hq).drewN _).incr hq1)).any ((Kept.refl _ _).alloc _)), by omega, fun _ => HY.out, (fun e => by cases e), by simp; omega, ((((hK.drewN _).setB 1 _).drewN _).setB 1 _).alloc _⟩
                  case measure =>
                    refine Nat.lt_of_le_of_lt (Nat.le_of_eq (congrArg (s.length - ·) (TC.stood (?T : TC b s (q + 1 + 1) false v _)))) ?_
                    case T => exact (((((hT.drewN _).incr hq).drewN _).incr hq1)).any ((Kept.refl _ _).alloc _)
                    rw [HL.out]; omega
                · have p7 : ((s[q + 1].toNat : Int) == 92) = false := by simp; omega
                  have p7n : ((s[q + 1].toNat : Int) != 92) = true := by simp; omega
                  have HN : Hid (strOf (s.drop p) = none) := by show _ = _; rw [HS.out, hdr, hdr1, strOf_escx _ h92 (by omega)]; rfl
                  clear HS hdr h34 h92 hdr1 d34 d92
                  go_wp2_with fail
                  go_quiet (fail)
                  go_wp2_with fail
                  go_quiet (fail)
                  go_wp2_with fail
                  go_quiet (fail)
                  go_wp2
                  go_ret
                  exact textP_no (x := []) (q := q + 1) HN.out ((((hT.drewN _).incr hq).drewN _).setB true) (by omega) ((((hK.drewN _).setB 1 _).drewN _).setB 2 _)
            · have HN : Hid (strOf (s.drop p) = none) := by show _ = _; rw [HS.out, hdr, List.drop_eq_nil_of_le (show s.length ≤ q + 1 by omega), strOf_esc0 h92]; rfl
              have p5 : (((q : Int) + 1) == (s.length : Int)) = true := by simp; omega
              clear HS hdr h34 h92
              go_wp2_with fail
              go_quiet (fail)
              go_wp2_with fail
              go_quiet (fail)
              go_wp2_with fail
              go_quiet (fail)
              go_wp2
              go_ret
              exact textP_no (x := []) (q := q + 1) HN.out ((((hT.drewN _).incr hq).drewN _).setB true) (by omega) ((((hK.drewN _).setB 1 _).drewN _).setB 2 _)
          · have p2 : ((((⟨s.toArray⟩ : ByteArray)[q]'hqs).toNat : Int) == 92) = false := by rw [hy]; simp; omega
            by_cases hpr : 32 ≤ s[q].toNat ∧ s[q].toNat ≤ 126
            · have HY : Hid (strOf (s.drop p) = (strOf (s.drop (q + 1))).map (fun y => ((o ++ [s[q]]) ++ y.1, y.2))) := by
                show _ = _; rw [HS.out, hdr, strOf_one _ h34 h92 hpr]; cases strOf (s.drop (q + 1)) <;> simp
              have p3 : decide ((((⟨s.toArray⟩ : ByteArray)[q]'hqs).toNat : Int) < 32) = false := by rw [hy]; simp; omega
              have p4 : decide (126 < (((⟨s.toArray⟩ : ByteArray)[q]'hqs).toNat : Int)) = false := by rw [hy]; simp; omega
              have hcv := conv_one wr.heap.size s[q]
              have b1 : ¬ 9223372036854775807 < o.length + 1 := by omega
              rw [hy] at p1 p2 p3 p4
              clear HS hdr h34 h92 hpr
              go_wp2_with fail
              go_quiet (fail)
              go_wp2_with fail
              go_quiet (fail)
              go_wp2
              go_roundw
              case rel => exact ⟨q + 1, _, false, str_eq, (((hT.drewN _).incr hq).any ((Kept.refl _ _).alloc _)), by omega, fun _ => HY.out, (fun e => by cases e), by simp; omega, ((hK.drewN _).setB 1 _).alloc _⟩
              case measure =>
                refine Nat.lt_of_le_of_lt (Nat.le_of_eq (congrArg (s.length - ·) (TC.stood (?T : TC b s (q + 1) false v _)))) ?_
                case T => exact (((hT.drewN _).incr hq).any ((Kept.refl _ _).alloc _))
                rw [HL.out]; omega
            · have HY : Hid (strOf (s.drop p) = none) := by show _ = _; rw [HS.out, hdr, strOf_bad _ h34 h92 hpr]; rfl
              have hcv := conv_one wr.heap.size s[q]
              have b1 : ¬ 9223372036854775807 < o.length + 1 := by omega
              by_cases h32 : s[q].toNat < 32
              · have p3 : decide ((s[q].toNat : Int) < 32) = true := by simp; omega
                rw [hy] at p1 p2
                clear HS hdr h34 h92 hpr h32
                go_wp2_with fail
                go_quiet (fail)
                go_wp2_with fail
                go_quiet (fail)
                go_wp2
                go_roundw
                case rel => exact ⟨q + 1, _, true, str_eq, ((((hT.drewN _).incr hq).setB true).any ((Kept.refl _ _).alloc _)), by omega, (fun e => by cases e), fun _ => HY.out, by simp; omega, (((hK.drewN _).setB 1 _).setB 2 _).alloc _⟩
                case measure =>
                  refine Nat.lt_of_le_of_lt (Nat.le_of_eq (congrArg (s.length - ·) (TC.stood (?T : TC b s (q + 1) true v _)))) ?_
                  case T => exact ((((hT.drewN _).incr hq).setB true).any ((Kept.refl _ _).alloc _))
                  rw [HL.out]; omega
              · have p3 : decide ((s[q].toNat : Int) < 32) = false := by simp; omega
                have p4 : decide (126 < (s[q].toNat : Int)) = true := by simp; omega
                rw [hy] at p1 p2
                clear HS hdr h34 h92 hpr h32
                go_wp2_with fail
                go_quiet (fail)
                go_wp2_with fail
                go_quiet (fail)
                go_wp2
                go_roundw
                case rel => exact ⟨q + 1, _, true, str_eq, ((((hT.drewN _).incr hq).setB true).any ((Kept.refl _ _).alloc _)), by omega, (fun e => by cases e), fun _ => HY.out, by simp; omega, (((hK.drewN _).setB 1 _).setB 2 _).alloc _⟩
                case measure =>
                  refine Nat.lt_of_le_of_lt (Nat.le_of_eq (congrArg (s.length - ·) (TC.stood (?T : TC b s (q + 1) true v _)))) ?_
                  case T => exact ((((hT.drewN _).incr hq).setB true).any ((Kept.refl _ _).alloc _))
                  rw [HL.out]; omega
      · have HN : Hid (strOf (s.drop p) = none) := by show _ = _; rw [HS.out, List.drop_eq_nil_of_le (by omega), strOf_nil]; rfl
        have p0 : decide ((q : Int) < (s.length : Int)) = false := by simp; omega
        clear HS
        go_wp2_with fail
        go_quiet (fail)
        go_wp2
        go_ret
        exact textP_no (x := []) HN.out ((hT.drewN nq).setB true) hpq ((hK.drewN nq).setB 2 _)
end Go.Proofs.YtinnliapfdpfpaaDoor.P
