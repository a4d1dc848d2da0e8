/-
  THE DOCUMENT's READER OF JSON: any value; a whole text.
-/
import Derived.Test.YtinnliapfdpfpaaDoorQObj
namespace Go.Proofs.YtinnliapfdpfpaaDoor.P
open Go.RowKit

theorem vzero : VAt 0 := by
  intro X b s p bad0 L w d hX h hs hbud hd0 hd
  obtain rfl : d = 7 := by omega
  obtain ⟨v, T, back⟩ := h.cells
  have c2 := T.c2; have f2 := T.f2
  have Q := back p true _ (T.setB true) ((Kept.refl _ w).setB 2 _)
  have HP : Hid (vPost X b s p bad0 L 0 w (.returned (.int .i64 0)) (w.setCell ⟨b, 2, none⟩ (.bool true))) :=
    ⟨0, p, true, [], rfl, ⟨by rw [List.append_nil]; exact Q, ((Kept.refl _ w).setB 2 _).mono (fun g _ e => by subst e; exact h.nX), Nat.le_refl _, by simp⟩, fun _ => rfl, fun _ => rfl⟩
  clear Q back T h
  go_enter Tryd.func86, Tryd.ntmps86
  go_wp2
  go_ret
  exact HP.out
theorem vPost_bad {X : Nat → Prop} {b : Nat} {s : List UInt8} {p q : Nat} {bad0 : Bool} {L M : List Nd} {k : Nat} {w w' : World} {n : Nat} (R : Reads X b s p L w q true M w') (h : bad0 = false → val k (s.drop p) = none) : vPost X b s p bad0 L k w (.returned (.int .i64 (n : Int))) w' := by
  refine ⟨n, q, true, M, rfl, R, fun _ => rfl, fun e => ?_⟩
  rw [h e]
theorem vPost_ok {X : Nat → Prop} {b : Nat} {s : List UInt8} {p q : Nat} {L M : List Nd} {k : Nat} {w w' : World} {n : Nat} {j : J} (R : Reads X b s p L w q false M w') (h : val k (s.drop p) = some (j, s.drop q)) (ht : treeJ k (L ++ M) n j) : vPost X b s p false L k w (.returned (.int .i64 (n : Int))) w' := by
  refine ⟨n, q, false, M, rfl, R, (fun e => by cases e), fun _ => ?_⟩
  rw [h]
  exact ⟨rfl, rfl, ht⟩

theorem add_plain (X : Nat → Prop) (b : Nat) (s : List UInt8) (q : Nat) (bad : Bool) (L : List Nd) (kd : Nat) (t : List UInt8) (w : World) (hX : ∀ g, X g → g < w.heap.size) (h : TS X b s q bad L w) (hl : L.length ≤ 1000000) :
    Calls Tryd.prog 124 #[.pointer (some ⟨b, 0, none⟩), .agg #[.int .u8 (kd : Int), str t, .slice none 0 0, .slice none 0 0]] w (addPost X b s q bad L ⟨kd, t, [], []⟩ w) := by
  refine tadd_any X b s q bad L kd t none 0 0 none 0 0 ⟨kd, t, [], []⟩ w hX (h.others (Kept.refl _ w) ?_) ⟨rfl, rfl, World.ownsRow_nil _ _ _ _, World.ownsRow_nil _ _ _ _, (fun g e => by cases e), (fun g e => by cases e)⟩ hl
  rintro g (e | e | e)
  · exact Or.inl e
  · cases e
  · cases e
theorem Kept.toX {X : Nat → Prop} {b : Nat} {w w' : World} (k : Kept (· = b) w w') (h : ¬ X b) : Kept (fun g => ¬ X g) w w' := k.mono (fun g _ e => by subst e; exact h)
theorem Kept.thenX {X : Nat → Prop} {a b c : World} (h : Kept (fun g => ¬ X g) a b) (k : Kept (fun g => ¬ X g) b c) : Kept (fun g => ¬ X g) a c := h.trans k (fun _ _ e => e)
theorem leaf_tree {k : Nat} {L : List Nd} {nd : Nd} {j : J} (h : match j with | .str s => nd.kind = 34 ∧ nd.text = s ∧ nd.names = [] | .bool _ => nd.kind = 119 ∧ nd.names = [] | .null => nd.kind = 119 ∧ nd.names = [] | _ => False) : treeJ (k + 1) (L ++ [nd]) L.length j := by
  refine ⟨nd, by simp, ?_⟩
  cases j with
  | str s => exact h
  | bool b => exact h
  | null => exact h
  | arr l => exact h.elim
  | obj l => exact h.elim
set_option maxHeartbeats 8000000 in
set_option maxRecDepth 20000 in
theorem vsucc (k : Nat) (hk : k < 7) (IH : VAt k) : VAt (k + 1) := by
  intro X b s p bad0 L w d hX h hs hbud hd0 hd
  have nX := h.nX
  obtain ⟨v, T, back⟩ := h.cells
  have c2 := T.c2; have f2 := T.f2
  have e6 : decide (6 < d) = false := by simp; omega
  have hd' : d + 1 + (k : Int) = 7 := by omega
  cases bad0 with
  | true =>
    have Q := back p true _ (T.setB true) ((Kept.refl _ w).setB 2 _)
    have HP : Hid (vPost X b s p true L (k + 1) w (.returned (.int .i64 0)) (w.setCell ⟨b, 2, none⟩ (.bool true))) :=
      vPost_bad (n := 0) (q := p) (M := []) ⟨by rw [List.append_nil]; exact Q, ((Kept.refl _ w).setB 2 _).toX nX, Nat.le_refl _, by simp⟩ (fun e => by cases e)
    clear Q back T h
    go_enter Tryd.func86, Tryd.ntmps86
    go_wp2
    go_ret
    exact HP.out
  | false =>
    have S1 : Hid (_) := tsees_any b s p false v [123] w T hs (by simp)
    clear T h
    go_enter Tryd.func86, Tryd.ntmps86
    go_wp2_with fail
    refine Calls.mono S1.out ?_
    rintro e w1 ⟨rfl, q1, T1, hq1, hd1, hc1, K1⟩
    clear S1 c2 f2
    have sw1 : sawB [123] (s.drop p) false = (tak [123] (s.drop p)).isSome := by unfold sawB; simp
    rw [sw1] at hd1 hc1 ⊢
    cases h1 : tak [123] (s.drop p) with
    | some r1 =>
      rw [h1] at hd1 hc1
      have hc1 := hc1 rfl
      simp only [List.length_cons, List.length_nil] at hc1
      have hdd : s.drop q1 = r1 := by rw [hd1]; simp only [Option.isSome_some, if_true]; exact taken_some h1
      have le1 := T1.le
      have RO : Hid (_) := rowsObj k IH X b s q1 L w1 d (fun g e => Nat.lt_of_lt_of_le (hX g e) K1.size) (back q1 false w1 T1 K1) hs (by omega) hd0 hd'
      have HVV : Hid (val (k + 1) (s.drop p) = (listOf (memOf (val k)) [125] (s.drop q1)).map (fun p => (J.obj p.1, p.2))) := by show _ = _; rw [val, h1, hdd]
      clear back T1 hd1 hdd
      go_wp2_with fail
      refine Calls.mono RO.out ?_
      rintro e w2 ⟨n, q, bad, M, rfl, ts, kk, hpq, hM, hm⟩
      have HP : Hid (vPost X b s p false L (k + 1) w (.returned (.int .i64 (n : Int))) w2) := by
        have R : ∀ x, bad = x → Reads X b s p L w q x M w2 := fun x hx => by subst hx; exact ⟨ts, (K1.toX nX).thenX kk, by omega, by omega⟩
        cases hl : listOf (memOf (val k)) [125] (s.drop q1) with
        | none => rw [hl] at hm; exact vPost_bad (R true hm) (fun _ => by rw [HVV.out, hl]; rfl)
        | some lr =>
          obtain ⟨l, r⟩ := lr
          rw [hl] at hm
          exact vPost_ok (R false hm.1) (by rw [HVV.out, hl, ← hm.2.1]; rfl) hm.2.2
      clear RO HVV hm ts kk
      go_wp2
      go_ret
      exact HP.out
    | none =>
      rw [h1] at hd1
      simp only [Option.isSome_none, Bool.false_eq_true, if_false] at hd1
      have S2 : Hid (_) := tsees_any b s q1 false v [91] w1 T1 hs (by simp )
      go_wp2_with fail
      refine Calls.mono S2.out ?_
      rintro e w2 ⟨rfl, q2, T2, hqx, hd2, hc2, Kx⟩
      have hq2 : p ≤ q2 := by omega
      have K2 := K1.then Kx
      have sw2 : sawB [91] (s.drop q1) false = (tak [91] (s.drop p)).isSome := by unfold sawB; rw [hd1, tak_skip]; simp
      rw [sw2] at hd2 hc2 ⊢
      rw [show (if (tak [91] (s.drop p)).isSome = true then taken [91] (s.drop q1) else skip (s.drop q1)) = (if (tak [91] (s.drop p)).isSome = true then taken [91] (s.drop p) else skip (s.drop p)) by unfold taken; rw [hd1, tak_skip, skip_skip]] at hd2
      clear S2 Kx T1 K1 hd1 hc1 sw2 sw1
      cases h2 : tak [91] (s.drop p) with
      | some r2 =>
        rw [h2] at hd2 hc2
        have hc2 := hc2 rfl
        simp only [List.length_cons, List.length_nil] at hc2
        have hdd : s.drop q2 = r2 := by rw [hd2]; simp only [Option.isSome_some, if_true]; exact taken_some h2
        have le2 := T2.le
        have RO : Hid (_) := rowsArr k IH X b s q2 L w2 d (fun g e => Nat.lt_of_lt_of_le (hX g e) K2.size) (back q2 false w2 T2 K2) hs (by omega) hd0 hd'
        have HVV : Hid (val (k + 1) (s.drop p) = (listOf (val k) [93] (s.drop q2)).map (fun p => (J.arr p.1, p.2))) := by show _ = _; rw [val, hdd]; simp only [h1, h2]
        clear back T2 hd2 hdd
        go_wp2_with fail
        refine Calls.mono RO.out ?_
        rintro e w3 ⟨n, q, bad, M, rfl, ts, kk, hpq, hM, hm⟩
        have HP : Hid (vPost X b s p false L (k + 1) w (.returned (.int .i64 (n : Int))) w3) := by
          have R : ∀ x, bad = x → Reads X b s p L w q x M w3 := fun x hx => by subst hx; exact ⟨ts, (K2.toX nX).thenX kk, by omega, by omega⟩
          cases hl : listOf (val k) [93] (s.drop q2) with
          | none => rw [hl] at hm; exact vPost_bad (R true hm) (fun _ => by rw [HVV.out, hl]; rfl)
          | some lr =>
            obtain ⟨l, r⟩ := lr
            rw [hl] at hm
            exact vPost_ok (R false hm.1) (by rw [HVV.out, hl, ← hm.2.1]; rfl) hm.2.2
        clear RO HVV hm ts kk
        go_wp2
        go_ret
        exact HP.out
      | none =>
        rw [h2] at hd2
        simp only [Option.isSome_none, Bool.false_eq_true, if_false] at hd2
        have S3 : Hid (_) := tsees_any b s q2 false v [34] w2 T2 hs (by simp )
        go_wp2_with fail
        refine Calls.mono S3.out ?_
        rintro e w3 ⟨rfl, q3, T3, hqx, hd3, hc3, Kx⟩
        have hq3 : p ≤ q3 := by omega
        have K3 := K2.then Kx
        have sw3 : sawB [34] (s.drop q2) false = (tak [34] (s.drop p)).isSome := by unfold sawB; rw [hd2, tak_skip]; simp
        rw [sw3] at hd3 hc3 ⊢
        rw [show (if (tak [34] (s.drop p)).isSome = true then taken [34] (s.drop q2) else skip (s.drop q2)) = (if (tak [34] (s.drop p)).isSome = true then taken [34] (s.drop p) else skip (s.drop p)) by unfold taken; rw [hd2, tak_skip, skip_skip]] at hd3
        clear S3 Kx T2 K2 hd2 hc2 sw3
        cases h3 : tak [34] (s.drop p) with
        | some r3 =>
          rw [h3] at hd3 hc3
          have hc3 := hc3 rfl
          simp only [List.length_cons, List.length_nil] at hc3
          have hdd : s.drop q3 = r3 := by rw [hd3]; simp only [Option.isSome_some, if_true]; exact taken_some h3
          have TX : Hid (_) := ttext_any b s q3 v w3 T3 hs
          have HVV : Hid (val (k + 1) (s.drop p) = (strOf (s.drop q3)).map (fun p => (J.str p.1, p.2))) := by show _ = _; rw [val, hdd]; simp only [h1, h2, h3]
          clear T3 hd3 hdd
          go_wp2_with fail
          refine Calls.mono TX.out ?_
          rintro e w4 ⟨K4, x, q4, bad4, rfl, T4, hq4, hx4⟩
          have le4 := T4.le
          have K5 := K3.then K4
          have AD : Hid (_) := add_plain X b s q4 bad4 L 34 x w4 (fun g e => Nat.lt_of_lt_of_le (hX g e) K5.size) (back q4 bad4 w4 T4 K5) (by omega)
          have HX4 : Hid (match strOf (s.drop q3) with | none => bad4 = true | some (y, r) => bad4 = false ∧ x = y ∧ s.drop q4 = r) := hx4
          clear TX hx4 T4 K4 back
          go_wp2_with fail
          refine Calls.mono AD.out ?_
          rintro e w6 ⟨he, ts, kk⟩
          have HP : Hid (vPost X b s p false L (k + 1) w (.returned (.int .i64 (L.length : Int))) w6) := by
            have R : ∀ x', bad4 = x' → Reads X b s p L w q4 x' [⟨34, x, [], []⟩] w6 := fun x' hx => by subst hx; exact ⟨ts, (K5.toX nX).thenX kk, by omega, by simp⟩
            have hx4 := HX4.out
            cases hl : strOf (s.drop q3) with
            | none => rw [hl] at hx4; exact vPost_bad (R true hx4) (fun _ => by rw [HVV.out, hl]; rfl)
            | some lr =>
              obtain ⟨y, r⟩ := lr
              rw [hl] at hx4
              exact vPost_ok (R false hx4.1) (by rw [HVV.out, hl, ← hx4.2.2]; rfl) (leaf_tree (j := .str y) ⟨rfl, hx4.2.1, rfl⟩)
          obtain rfl := he
          clear AD HVV ts kk
          go_wp2
          go_ret
          exact HP.out
        | none =>
          rw [h3] at hd3
          simp only [Option.isSome_none, Bool.false_eq_true, if_false] at hd3
          have S4 : Hid (_) := tsees_any b s q3 false v tTrue w3 T3 hs (by simp [tTrue])
          go_wp2_with fail
          refine Calls.mono S4.out ?_
          rintro e w4 ⟨rfl, q4, T4, hqx, hd4, hc4, Kx⟩
          have hq4 : p ≤ q4 := by omega
          have K4 := K3.then Kx
          have sw4 : sawB tTrue (s.drop q3) false = (tak tTrue (s.drop p)).isSome := by unfold sawB; rw [hd3, tak_skip]; simp
          rw [sw4] at hd4 hc4 ⊢
          rw [show (if (tak tTrue (s.drop p)).isSome = true then taken tTrue (s.drop q3) else skip (s.drop q3)) = (if (tak tTrue (s.drop p)).isSome = true then taken tTrue (s.drop p) else skip (s.drop p)) by unfold taken; rw [hd3, tak_skip, skip_skip]] at hd4
          clear S4 Kx T3 K3 hd3 hc3 sw4
          cases h4 : tak tTrue (s.drop p) with
          | some r4 =>
            rw [h4] at hd4 hc4
            have hc4 := hc4 rfl
            simp only [tTrue, List.length_cons, List.length_nil] at hc4
            have hdd : s.drop q4 = r4 := by rw [hd4]; simp only [Option.isSome_some, if_true]; exact taken_some h4
            have HVV : Hid (val (k + 1) (s.drop p) = some (J.bool true, s.drop q4)) := by show _ = _; rw [val, hdd]; simp only [h1, h2, h3, h4]
            have le4 := T4.le
            have u2 := T4.c2; have u3 := T4.f2
            have KF := K4.setB 2 (.bool false)
            have AD : Hid (_) := add_plain X b s q4 false L 119 [] _ (fun g e => Nat.lt_of_lt_of_le (hX g e) KF.size) (back q4 false _ (T4.setB false) KF) (by omega)
            clear T4 hd4 hdd back
            go_wp2_with fail
            refine Calls.mono AD.out ?_
            rintro e w9 ⟨he, ts, kk⟩
            have HP : Hid (vPost X b s p false L (k + 1) w (.returned (.int .i64 (L.length : Int))) w9) :=
              vPost_ok (M := [⟨119, [], [], []⟩]) ⟨ts, (KF.toX nX).thenX kk, by omega, by simp⟩ HVV.out (leaf_tree ⟨rfl, rfl⟩)
            obtain rfl := he
            clear AD HVV ts kk
            go_wp2
            go_ret
            exact HP.out
          | none =>
            rw [h4] at hd4
            simp only [Option.isSome_none, Bool.false_eq_true, if_false] at hd4
            have S5 : Hid (_) := tsees_any b s q4 false v tFalse w4 T4 hs (by simp [tFalse])
            go_wp2_with fail
            refine Calls.mono S5.out ?_
            rintro e w5 ⟨rfl, q5, T5, hqx, hd5, hc5, Kx⟩
            have hq5 : p ≤ q5 := by omega
            have K5 := K4.then Kx
            have sw5 : sawB tFalse (s.drop q4) false = (tak tFalse (s.drop p)).isSome := by unfold sawB; rw [hd4, tak_skip]; simp
            rw [sw5] at hd5 hc5 ⊢
            rw [show (if (tak tFalse (s.drop p)).isSome = true then taken tFalse (s.drop q4) else skip (s.drop q4)) = (if (tak tFalse (s.drop p)).isSome = true then taken tFalse (s.drop p) else skip (s.drop p)) by unfold taken; rw [hd4, tak_skip, skip_skip]] at hd5
            clear S5 Kx T4 K4 hd4 hc4 sw5
            cases h5 : tak tFalse (s.drop p) with
            | some r5 =>
              rw [h5] at hd5 hc5
              have hc5 := hc5 rfl
              simp only [tFalse, List.length_cons, List.length_nil] at hc5
              have hdd : s.drop q5 = r5 := by rw [hd5]; simp only [Option.isSome_some, if_true]; exact taken_some h5
              have HVV : Hid (val (k + 1) (s.drop p) = some (J.bool false, s.drop q5)) := by show _ = _; rw [val, hdd]; simp only [h1, h2, h3, h4, h5]
              have le5 := T5.le
              have u2 := T5.c2; have u3 := T5.f2
              have KF := K5.setB 2 (.bool false)
              have AD : Hid (_) := add_plain X b s q5 false L 119 [] _ (fun g e => Nat.lt_of_lt_of_le (hX g e) KF.size) (back q5 false _ (T5.setB false) KF) (by omega)
              clear T5 hd5 hdd back
              go_wp2_with fail
              refine Calls.mono AD.out ?_
              rintro e w9 ⟨he, ts, kk⟩
              have HP : Hid (vPost X b s p false L (k + 1) w (.returned (.int .i64 (L.length : Int))) w9) :=
                vPost_ok (M := [⟨119, [], [], []⟩]) ⟨ts, (KF.toX nX).thenX kk, by omega, by simp⟩ HVV.out (leaf_tree ⟨rfl, rfl⟩)
              obtain rfl := he
              clear AD HVV ts kk
              go_wp2
              go_ret
              exact HP.out
            | none =>
              rw [h5] at hd5
              simp only [Option.isSome_none, Bool.false_eq_true, if_false] at hd5
              have S6 : Hid (_) := tsees_any b s q5 false v tNull w5 T5 hs (by simp [tNull])
              go_wp2_with fail
              refine Calls.mono S6.out ?_
              rintro e w6 ⟨rfl, q6, T6, hqx, hd6, hc6, Kx⟩
              have hq6 : p ≤ q6 := by omega
              have K6 := K5.then Kx
              have sw6 : sawB tNull (s.drop q5) false = (tak tNull (s.drop p)).isSome := by unfold sawB; rw [hd5, tak_skip]; simp
              rw [sw6] at hd6 hc6 ⊢
              rw [show (if (tak tNull (s.drop p)).isSome = true then taken tNull (s.drop q5) else skip (s.drop q5)) = (if (tak tNull (s.drop p)).isSome = true then taken tNull (s.drop p) else skip (s.drop p)) by unfold taken; rw [hd5, tak_skip, skip_skip]] at hd6
              clear S6 Kx T5 K5 hd5 hc5 sw6
              cases h6 : tak tNull (s.drop p) with
              | some r6 =>
                rw [h6] at hd6 hc6
                have hc6 := hc6 rfl
                simp only [tNull, List.length_cons, List.length_nil] at hc6
                have hdd : s.drop q6 = r6 := by rw [hd6]; simp only [Option.isSome_some, if_true]; exact taken_some h6
                have HVV : Hid (val (k + 1) (s.drop p) = some (J.null, s.drop q6)) := by show _ = _; rw [val, hdd]; simp only [h1, h2, h3, h4, h5, h6]
                have le6 := T6.le
                have u2 := T6.c2; have u3 := T6.f2
                have KF := K6.setB 2 (.bool false)
                have AD : Hid (_) := add_plain X b s q6 false L 119 [] _ (fun g e => Nat.lt_of_lt_of_le (hX g e) KF.size) (back q6 false _ (T6.setB false) KF) (by omega)
                clear T6 hd6 hdd back
                go_wp2_with fail
                refine Calls.mono AD.out ?_
                rintro e w9 ⟨he, ts, kk⟩
                have HP : Hid (vPost X b s p false L (k + 1) w (.returned (.int .i64 (L.length : Int))) w9) :=
                  vPost_ok (M := [⟨119, [], [], []⟩]) ⟨ts, (KF.toX nX).thenX kk, by omega, by simp⟩ HVV.out (leaf_tree ⟨rfl, rfl⟩)
                obtain rfl := he
                clear AD HVV ts kk
                go_wp2
                go_ret
                exact HP.out
              | none =>
                have HVV : Hid (val (k + 1) (s.drop p) = none) := by show _ = _; rw [val]; simp only [h1, h2, h3, h4, h5, h6]
                have le6 := T6.le
                have u2 := T6.c2; have u3 := T6.f2
                have KF := K6.setB 2 (.bool true)
                have AD : Hid (_) := add_plain X b s q6 true L 119 [] _ (fun g e => Nat.lt_of_lt_of_le (hX g e) KF.size) (back q6 true _ (T6.setB true) KF) (by omega)
                clear T6 hd6 back
                go_wp2_with fail
                refine Calls.mono AD.out ?_
                rintro e w9 ⟨he, ts, kk⟩
                have HP : Hid (vPost X b s p false L (k + 1) w (.returned (.int .i64 (L.length : Int))) w9) :=
                  vPost_bad (M := [⟨119, [], [], []⟩]) ⟨ts, (KF.toX nX).thenX kk, by omega, by simp⟩ (fun _ => HVV.out)
                obtain rfl := he
                clear AD HVV ts kk
                go_wp2
                go_ret
                exact HP.out
end Go.Proofs.YtinnliapfdpfpaaDoor.P
