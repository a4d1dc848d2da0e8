/-
  THE DOCUMENT'S ANSWER: the first line.
-/
import Derived.Test.YtinnliapfdpfpaaGreatDoorSLine
namespace Go.Proofs.YtinnliapfdpfpaaGreatDoor.R
open Go.RowKit
open Go.Proofs.YtinnliapfdpfpaaGreatDoor.C (ret_bool ret_int dec decEnd)

/-- What a first line answers. -/
def fsPost (w : World) (o : Option First) (e : Ending) (w' : World) : Prop :=
  Below w.heap.size w w' ∧ match o with
    | none => ∃ (m p : Bs), e = .returned (.tuple #[.agg #[str m, str p, nilP, nilP, str []], .bool false])
    | some f => ∃ v, e = .returned (.tuple #[.agg #[str f.method, str f.path, v, nilP, str []], .bool true]) ∧ prow w' w.heap.size v f.query
theorem fsPost_no {w w' : World} {o : Option First} (m p : Bs) (h : o = none) (hb : Below w.heap.size w w') : fsPost w o (.returned (.tuple #[.agg #[str m, str p, nilP, nilP, str []], .bool false])) w' := by subst h; exact ⟨hb, m, p, rfl⟩
theorem fsPost_ok {w w' : World} {o : Option First} {f : First} {v : Value} (h : o = some f) (hb : Below w.heap.size w w') (hr : prow w' w.heap.size v f.query) : fsPost w o (.returned (.tuple #[.agg #[str f.method, str f.path, v, nilP, str []], .bool true])) w' := by subst h; exact ⟨hb, v, rfl, hr⟩
theorem method_three {m : Bs} (h : isMethod m = true) : m = [71, 69, 84] ∨ m = [80, 85, 84] ∨ m = [68, 69, 76, 69, 84, 69] := by
  unfold isMethod at h
  simpa [or_assoc] using h
theorem method_none {m : Bs} (h : isMethod m = false) : (m == [71, 69, 84]) = false ∧ (m == [80, 85, 84]) = false ∧ (m == [68, 69, 76, 69, 84, 69]) = false := by
  unfold isMethod at h
  simpa [and_assoc] using h
theorem method_bool {m : Bs} (h : isMethod m = true) : (m == [71, 69, 84]) = true ∨ ((m == [71, 69, 84]) = false ∧ (m == [80, 85, 84]) = true) ∨ ((m == [71, 69, 84]) = false ∧ (m == [80, 85, 84]) = false ∧ (m == [68, 69, 76, 69, 84, 69]) = true) := by
  rcases method_three h with h | h | h
  · exact .inl (by rw [h]; rfl)
  · exact .inr (.inl ⟨by rw [h]; rfl, by rw [h]; rfl⟩)
  · exact .inr (.inr ⟨by rw [h]; rfl, by rw [h]; rfl, by rw [h]; rfl⟩)
/-- Two new requests. -/
abbrev twoReqs (w : World) : World := (w.alloc emptyReq).alloc emptyReq
set_option maxHeartbeats 2000000 in
theorem rfirst_any (l : Bs) (w : World) (hl : l.length ≤ 100000) :
    Calls Tryz.prog 107 #[str l] w fun e w' => fsPost w (firstOf l) e w' := by
  obtain ⟨a1, a2⟩ := cut_le l [32]
  obtain ⟨b1, b2⟩ := cut_le (Lib.cut l [32]).2.1 [63]
  have N1 := @f_no1 l
  have N2 := @f_no2 l
  have N3 := @f_no3 l
  have N4 := @f_no4 l
  have N5 := @f_q l
  have N6 := @f_p l
  have C1 : Hid (_) := rcut_any l [32]
  have C2 : Hid (_) := rcut_any (Lib.cut l [32]).2.1 [63]
  generalize Lib.cut l [32] = c at *
  obtain ⟨m, tg, f1⟩ := c
  simp only at a1 a2 b1 b2 N1 N2 N3 N4 N5 N6 C2
  generalize Lib.cut tg [63] = d at *
  obtain ⟨pa, qu, f2⟩ := d
  simp only at b1 b2 N3 N4 N5 N6
  have D : Hid (_) := rdec_r pa true
  have Q : Hid (_) := rpairs_any qu
  have BA : Below w.heap.size w (twoReqs w) := ((Below.refl _ w).alloc (Nat.le_refl _) _).alloc (by simp) _
  have RA : reqAt (twoReqs w) w.heap.size [] [] nilP nilP [] := (reqAt_new w [] [] nilP nilP []).alloc _
  have TA : reqAt (twoReqs w) (w.heap.size + 1) [] [] nilP nilP [] := by have := reqAt_new (w.alloc emptyReq) [] [] nilP nilP []; simpa using this
  have zA : (twoReqs w).heap.size = w.heap.size + 2 := by simp
  have hne : ¬ w.heap.size = w.heap.size + 1 := by omega
  generalize firstOf l = o at *
  cases f1 with
  | false =>
    have HO := N1 rfl
    clear N1 N2 N3 N4 N5 N6
    go_enter Tryz.func107, Tryz.ntmps107
    go_wp2_with fail
    refine (C1.out _ (by omega) (by simp) (by simp)).mono ?_
    rintro e w' ⟨rfl, n, rfl⟩
    have B1 := below_drewN BA n
    have R1 := RA.drewN n
    have T1 := TA.drewN n
    have z1 : ((twoReqs w).drewN n).heap.size = w.heap.size + 2 := zA
    generalize (twoReqs w).drewN n = W1 at *
    clear BA RA TA zA
    have RX := R1.set [] [] nilP nilP []
    have BX := below_set5 B1 (Nat.le_refl _) (str []) (str []) nilP nilP (str [])
    obtain ⟨t0, t1, t2, t3, t4, tf⟩ := T1
    obtain ⟨r0, r1, r2, r3, r4, rf⟩ := R1
    go_wp2
    refine bodyPost_ret (v := .tuple #[.agg #[str [], str [], nilP, nilP, str []], .bool false]) ?_ rfl (fsPost_no [] [] HO BX)
    obtain ⟨x0, x1, x2, x3, x4, _⟩ := RX
    simp [results, Tryz.results107, go_sem, x0, x1, x2, x3, x4]
  | true =>
    cases hm : isMethod m with
    | false =>
      have HO := N2 hm
      obtain ⟨m1, m2, m3⟩ := method_none hm
      clear N1 N2 N3 N4 N5 N6
      go_enter Tryz.func107, Tryz.ntmps107
      go_wp2_with fail
      refine (C1.out _ (by omega) (by simp) (by simp)).mono ?_
      rintro e w' ⟨rfl, n, rfl⟩
      have B1 := below_drewN BA n
      have R1 := RA.drewN n
      have T1 := TA.drewN n
      have z1 : ((twoReqs w).drewN n).heap.size = w.heap.size + 2 := zA
      generalize (twoReqs w).drewN n = W1 at *
      clear BA RA TA zA
      have RX := R1.set [] [] nilP nilP []
      have BX := below_set5 B1 (Nat.le_refl _) (str []) (str []) nilP nilP (str [])
      obtain ⟨t0, t1, t2, t3, t4, tf⟩ := T1
      obtain ⟨r0, r1, r2, r3, r4, rf⟩ := R1
      go_wp2
      refine bodyPost_ret (v := .tuple #[.agg #[str [], str [], nilP, nilP, str []], .bool false]) ?_ rfl (fsPost_no [] [] HO BX)
      obtain ⟨x0, x1, x2, x3, x4, _⟩ := RX
      simp [results, Tryz.results107, go_sem, x0, x1, x2, x3, x4]
    | true =>
      clear N1 N2
      rcases method_bool hm with m1 | ⟨m1, m2⟩ | ⟨m1, m2, m3⟩
      all_goals
        go_enter Tryz.func107, Tryz.ntmps107
        go_wp2_with fail
        refine (C1.out _ (by omega) (by simp) (by simp)).mono ?_
        rintro e w' ⟨rfl, n, rfl⟩
        have B1 := below_drewN BA n
        have R1 := RA.drewN n
        have T1 := TA.drewN n
        have z1 : ((twoReqs w).drewN n).heap.size = w.heap.size + 2 := zA
        generalize (twoReqs w).drewN n = W1 at *
        have R2 := R1.far (g := w.heap.size + 1) (j := 0) (x := str m) hne
        have T2 : reqAt (W1.setCell ⟨w.heap.size + 1, 0, none⟩ (str m)) (w.heap.size + 1) m [] nilP nilP [] := by
          obtain ⟨t0, t1, t2, t3, t4, tf⟩ := T1
          exact ⟨by simp [go_sem, t0], by simp [go_sem, t1], by simp [go_sem, t2], by simp [go_sem, t3], by simp [go_sem, t4], fun j => by simp [go_sem, tf]⟩
        have B2 := B1.setCell (p := ⟨w.heap.size + 1, 0, none⟩) (show w.heap.size ≤ w.heap.size + 1 by omega) (str m)
        have z2 : (W1.setCell ⟨w.heap.size + 1, 0, none⟩ (str m)).heap.size = w.heap.size + 2 := by simp [z1]
        have t0 := T1.c0
        have tf := T1.fz
        clear BA RA TA zA B1 R1 T1
        go_wp2_with fail
        refine (C2.out _ (by omega) (by simp) (by simp)).mono ?_
        rintro e w' ⟨rfl, n2, rfl⟩
        replace B2 := below_drewN B2 n2
        replace R2 := R2.drewN n2
        replace T2 := T2.drewN n2
        replace z2 : ((W1.setCell ⟨w.heap.size + 1, 0, none⟩ (str m)).drewN n2).heap.size = w.heap.size + 2 := z2
        clear t0 tf z1
        generalize (W1.setCell ⟨w.heap.size + 1, 0, none⟩ (str m)).drewN n2 = W2 at *
        clear C1 C2
        match pa with
        | [] =>
          have HO := N3 (by rfl)
          clear N3 N4 N5 N6 D Q
          have RX := R2.set m [] nilP nilP []
          have BX := below_set5 B2 (Nat.le_refl _) (str m) (str []) nilP nilP (str [])
          obtain ⟨t0, t1, t2, t3, t4, tf⟩ := T2
          obtain ⟨r0, r1, r2, r3, r4, rf⟩ := R2
          go_wp2
          refine bodyPost_ret (v := .tuple #[.agg #[str m, str [], nilP, nilP, str []], .bool false]) ?_ rfl (fsPost_no m [] HO BX)
          obtain ⟨x0, x1, x2, x3, x4, _⟩ := RX
          simp [results, Tryz.results107, go_sem, x0, x1, x2, x3, x4]
        | c :: pa' =>
          have ix : ∀ h, (⟨(c :: pa').toArray⟩ : ByteArray)[0]'h = c := fun _ => rfl
          have hb := c.toNat_lt
          simp only [List.length_cons] at b1
          by_cases hc : c.toNat = 47
          · have t47 : ((c.toNat : Int) != 47) = false := by simp [hc]
            have hc' : Hid (c = 47) := by show _ = _; apply UInt8.toNat_inj.1; rw [hc]; rfl
            have hp : Hid (([47] : Bs).isPrefixOf (c :: pa') = true) := by show _ = _; rw [hc'.out]; rfl
            clear hc N3
            go_wp2_with fail
            refine (D.out W2 (by simp only [List.length_cons]; omega)).mono ?_
            rintro e W3 ⟨rfl, b3⟩
            have B3 := B2.trans (b3.mono (by omega))
            have R3 := R2.below b3 (by omega)
            have T3 := T2.below b3 (by omega)
            have z3 := b3.size
            clear B2 R2 T2 b3 D
            cases hd : dec true (c :: pa') with
            | none =>
              have HO := N4 hd
              clear N4 N5 N6 Q
              simp only [decEnd]
              have RX := R3.set m [] nilP nilP []
              have BX := below_set5 B3 (Nat.le_refl _) (str m) (str []) nilP nilP (str [])
              obtain ⟨t0, t1, t2, t3, t4, tf⟩ := T3
              obtain ⟨r0, r1, r2, r3, r4, rf⟩ := R3
              go_wp2
              refine bodyPost_ret (v := .tuple #[.agg #[str m, str [], nilP, nilP, str []], .bool false]) ?_ rfl (fsPost_no m [] HO BX)
              obtain ⟨x0, x1, x2, x3, x4, _⟩ := RX
              simp [results, Tryz.results107, go_sem, x0, x1, x2, x3, x4]
            | some pt =>
              simp only [decEnd]
              have R4 := R3.far (g := w.heap.size + 1) (j := 1) (x := str pt) hne
              have T4 : reqAt (W3.setCell ⟨w.heap.size + 1, 1, none⟩ (str pt)) (w.heap.size + 1) m pt nilP nilP [] := by
                obtain ⟨t0, t1, t2, t3, t4, tf⟩ := T3
                exact ⟨by simp [go_sem, t0], by simp [go_sem, t1], by simp [go_sem, t2], by simp [go_sem, t3], by simp [go_sem, t4], fun j => by simp [go_sem, tf]⟩
              have B4 := B3.setCell (p := ⟨w.heap.size + 1, 1, none⟩) (show w.heap.size ≤ w.heap.size + 1 by omega) (str pt)
              have z4 : (W3.setCell ⟨w.heap.size + 1, 1, none⟩ (str pt)).heap.size = W3.heap.size := by simp
              cases f2 with
              | false =>
                have HO := N6 (by first | trivial | rfl) hm hp.out hd (by first | trivial | rfl)
                clear N4 N5 N6 Q
                have RX := R4.set m pt nilP nilP []
                have BX := below_set5 B4 (Nat.le_refl _) (str m) (str pt) nilP nilP (str [])
                obtain ⟨r0, r1, r2, r3, r4, rf⟩ := R4
                obtain ⟨t0, t1, t2, t3, t4, tf⟩ := T3
                clear R3 T4
                go_wp2
                refine bodyPost_ret (v := .tuple #[.agg #[str m, str pt, nilP, nilP, str []], .bool true]) ?_ rfl (fsPost_ok HO BX (prow_nil _ _))
                obtain ⟨x0, x1, x2, x3, x4, _⟩ := RX
                simp [results, Tryz.results107, go_sem, x0, x1, x2, x3, x4]
              | true =>
                have HO := N5 (by first | trivial | rfl) hm hp.out hd (by first | trivial | rfl)
                clear N4 N5 N6
                have t1 := T3.c1
                have tf := T3.fz
                clear R3 T3 B3
                go_wp2_with fail
                generalize W3.setCell ⟨w.heap.size + 1, 1, none⟩ (str pt) = W4 at *
                clear t1 tf
                refine (Q.out W4 (by omega)).mono ?_
                rintro e W5 ⟨b5, p5⟩
                have B5 := B4.trans (b5.mono (by omega))
                have R5 := R4.below b5 (by omega)
                have T5 := T4.below b5 (by omega)
                have z5 := b5.size
                clear B4 R4 T4 b5 Q
                cases hq : queryOf qu with
                | none =>
                  rw [hq] at p5 HO
                  simp only at p5
                  subst p5
                  replace HO : o = none := HO
                  have R6 := R5.far (g := w.heap.size + 1) (j := 2) (x := nilP) hne
                  have RX := R6.set m pt nilP nilP []
                  have BX := below_set5 (B5.setCell (p := ⟨w.heap.size + 1, 2, none⟩) (show w.heap.size ≤ w.heap.size + 1 by omega) nilP) (Nat.le_refl _) (str m) (str pt) nilP nilP (str [])
                  obtain ⟨r0, r1, r2, r3, r4, rf⟩ := R6
                  obtain ⟨t0, t1, t2, t3, t4, tf⟩ := T5
                  clear R5
                  go_wp2
                  refine bodyPost_ret (v := .tuple #[.agg #[str m, str pt, nilP, nilP, str []], .bool false]) ?_ rfl (fsPost_no m pt HO BX)
                  obtain ⟨x0, x1, x2, x3, x4, _⟩ := RX
                  simp [results, Tryz.results107, go_sem, x0, x1, x2, x3, x4]
                | some q =>
                  rw [hq] at p5 HO
                  simp only at p5
                  obtain ⟨v, rfl, row5⟩ := p5
                  obtain ⟨_, va, vc, hv⟩ := row5.len
                  subst hv
                  replace HO : o = some { method := m, path := pt, query := q } := HO
                  have R6 := R5.far (g := w.heap.size + 1) (j := 2) (x := .slice va q.length vc) hne
                  have RX := R6.set m pt (.slice va q.length vc) nilP []
                  have BX := below_set5 (B5.setCell (p := ⟨w.heap.size + 1, 2, none⟩) (show w.heap.size ≤ w.heap.size + 1 by omega) (.slice va q.length vc)) (Nat.le_refl _) (str m) (str pt) (.slice va q.length vc) nilP (str [])
                  have rowX := (((row5.set (b := w.heap.size + 1) (by omega) 2 (.slice va q.length vc)).set5 (b := w.heap.size) (by omega) (str m) (str pt) (.slice va q.length vc) nilP (str [])).up (B' := w.heap.size) (by omega))
                  obtain ⟨r0, r1, r2, r3, r4, rf⟩ := R6
                  obtain ⟨t0, t1, t2, t3, t4, tf⟩ := T5
                  clear R5 row5
                  go_wp2
                  refine bodyPost_ret (v := .tuple #[.agg #[str m, str pt, .slice va q.length vc, nilP, str []], .bool true]) ?_ rfl (fsPost_ok HO BX rowX)
                  obtain ⟨x0, x1, x2, x3, x4, _⟩ := RX
                  simp [results, Tryz.results107, go_sem, x0, x1, x2, x3, x4]
          · have HO := N3 (by
              have : ¬ (47 : UInt8) = c := fun h => hc (by rw [← h]; rfl)
              simp [List.isPrefixOf, this])
            have t47 : ((c.toNat : Int) != 47) = true := by simp; omega
            clear N3 N4 N5 N6 hc D Q
            have RX := R2.set m [] nilP nilP []
            have BX := below_set5 B2 (Nat.le_refl _) (str m) (str []) nilP nilP (str [])
            obtain ⟨t0, t1, t2, t3, t4, tf⟩ := T2
            obtain ⟨r0, r1, r2, r3, r4, rf⟩ := R2
            go_wp2
            refine bodyPost_ret (v := .tuple #[.agg #[str m, str [], nilP, nilP, str []], .bool false]) ?_ rfl (fsPost_no m [] HO BX)
            obtain ⟨x0, x1, x2, x3, x4, _⟩ := RX
            simp [results, Tryz.results107, go_sem, x0, x1, x2, x3, x4]
end Go.Proofs.YtinnliapfdpfpaaGreatDoor.R
