/-
  THE FIRST LINE OF A REQUEST, as the program reads it.
-/
import Derived.Test.YtinnliapfdpfpaaGreatDoorRMid
namespace Go.Proofs.YtinnliapfdpfpaaGreatDoor.R
open Go.RowKit
open Go.Proofs.YtinnliapfdpfpaaGreatDoor.C (ret_bool ret_int dec)

theorem pre_r (l p : Bs) (w : World) : Calls Tryz.prog 137 #[str l, str p] w fun e w' => e = .returned (.bool (p.isPrefixOf l)) ∧ w = w' :=
  (Tryz.strings_HasPrefix ⟨l.toArray⟩ ⟨p.toArray⟩ w).mono fun _ _ ⟨h1, h2⟩ => ⟨h1, h2.symm⟩
theorem isMethod_r (l : Bs) (w : World) : Calls Tryz.prog 136 #[str l] w fun e w' => e = .returned (.bool (isMethod l)) ∧ w = w' :=
  (isMethod_any l w).mono fun _ _ ⟨h1, h2⟩ => ⟨h1, h2.symm⟩

theorem f_no1 {t : Bs} (h : (Lib.cut t [32]).2.2 = false) : firstOf t = none := by unfold firstOf; rw [if_neg (by simp [h])]
theorem f_no2 {t : Bs} (h : isMethod (Lib.cut t [32]).1 = false) : firstOf t = none := by unfold firstOf; rw [if_neg (by simp [h])]
theorem f_no3 {t : Bs} (h : ([47] : Bs).isPrefixOf (Lib.cut (Lib.cut t [32]).2.1 [63]).1 = false) : firstOf t = none := by unfold firstOf; rw [if_neg (fun k => by rw [h] at k; exact absurd k.2.2 (by simp))]
theorem f_no4 {t : Bs} (h : dec true (Lib.cut (Lib.cut t [32]).2.1 [63]).1 = none) : firstOf t = none := by unfold firstOf; rw [h]; split <;> rfl
theorem f_q {t p : Bs} (h1 : (Lib.cut t [32]).2.2 = true) (h2 : isMethod (Lib.cut t [32]).1 = true) (h3 : ([47] : Bs).isPrefixOf (Lib.cut (Lib.cut t [32]).2.1 [63]).1 = true) (h4 : dec true (Lib.cut (Lib.cut t [32]).2.1 [63]).1 = some p)
    (h5 : (Lib.cut (Lib.cut t [32]).2.1 [63]).2.2 = true) : firstOf t = (queryOf (Lib.cut (Lib.cut t [32]).2.1 [63]).2.1).map (fun q => { method := (Lib.cut t [32]).1, path := p, query := q }) := by
  unfold firstOf; rw [if_pos ⟨h1, h2, h3⟩, h4]; simp only; rw [if_pos h5]
theorem f_p {t p : Bs} (h1 : (Lib.cut t [32]).2.2 = true) (h2 : isMethod (Lib.cut t [32]).1 = true) (h3 : ([47] : Bs).isPrefixOf (Lib.cut (Lib.cut t [32]).2.1 [63]).1 = true) (h4 : dec true (Lib.cut (Lib.cut t [32]).2.1 [63]).1 = some p)
    (h5 : (Lib.cut (Lib.cut t [32]).2.1 [63]).2.2 = false) : firstOf t = some { method := (Lib.cut t [32]).1, path := p } := by
  unfold firstOf; rw [if_pos ⟨h1, h2, h3⟩, h4]; simp only; rw [if_neg (by simp [h5])]
theorem Env.drewN {w : World} (E : Env w) (n : Nat) : Env (w.drewN n) := E.below (below_drewN (Below.refl w.heap.size w) n) E.sz

/-- How the reading of a first line ends. -/
def fPost (w : World) (o : Option First) (e : Ending) (w' : World) : Prop :=
  Below w.heap.size w w' ∧ match o with
    | none => e = .panicked noR
    | some f => ∃ v, e = .returned (.agg #[str f.method, str f.path, v, .slice none 0 0, str []]) ∧ prow w' w.heap.size v f.query
theorem fPost_no {w w' : World} {o : Option First} (h : o = none) (hb : Below w.heap.size w w') : fPost w o (.panicked noR) w' := by subst h; exact ⟨hb, rfl⟩

theorem cell_alloc {w : World} {b j : Nat} {v : Value} (h : w.cell? ⟨b, j, none⟩ = some v) (o : Obj) : (w.alloc o).cell? ⟨b, j, none⟩ = some v :=
  (((Below.refl w.heap.size w).alloc (Nat.le_refl _) o).cell (p := ⟨b, j, none⟩) (World.block_lt_of_cell? w _ h)).trans h
theorem frozen_alloc {w : World} {b : Nat} (hb : b < w.heap.size) (h : ∀ j : Nat, w.frozen? ⟨b, j, none⟩ = false) (o : Obj) (j : Nat) : (w.alloc o).frozen? ⟨b, j, none⟩ = false :=
  (((Below.refl w.heap.size w).alloc (Nat.le_refl _) o).frozen (p := ⟨b, j, none⟩) hb).trans (h j)
/-- The five cells of a request. -/
structure reqAt (w : World) (b : Nat) (m p : Bs) (q h : Value) (y : Bs) : Prop where
  c0 : w.cell? ⟨b, 0, none⟩ = some (str m)
  c1 : w.cell? ⟨b, 1, none⟩ = some (str p)
  c2 : w.cell? ⟨b, 2, none⟩ = some q
  c3 : w.cell? ⟨b, 3, none⟩ = some h
  c4 : w.cell? ⟨b, 4, none⟩ = some (str y)
  fz : ∀ j : Nat, w.frozen? ⟨b, j, none⟩ = false
theorem reqAt.below {w w' : World} {b B : Nat} {m p : Bs} {q h : Value} {y : Bs} (H : reqAt w b m p q h y) (k : Below B w w') (hb : b < B) : reqAt w' b m p q h y :=
  ⟨(k.cell (p := ⟨b, 0, none⟩) hb).trans H.c0, (k.cell (p := ⟨b, 1, none⟩) hb).trans H.c1, (k.cell (p := ⟨b, 2, none⟩) hb).trans H.c2, (k.cell (p := ⟨b, 3, none⟩) hb).trans H.c3, (k.cell (p := ⟨b, 4, none⟩) hb).trans H.c4, fun j => (k.frozen (p := ⟨b, j, none⟩) hb).trans (H.fz j)⟩
theorem reqAt_new (w : World) (m p : Bs) (q h : Value) (y : Bs) : reqAt (w.alloc (.cells #[str m, str p, q, h, str y] 80)) w.heap.size m p q h y :=
  ⟨by simp [go_sem], by simp [go_sem], by simp [go_sem], by simp [go_sem], by simp [go_sem], fun j => by simp [go_sem]⟩
theorem reqAt.alloc {w : World} {b : Nat} {m p : Bs} {q h : Value} {y : Bs} (H : reqAt w b m p q h y) (o : Obj) : reqAt (w.alloc o) b m p q h y :=
  H.below ((Below.refl w.heap.size w).alloc (Nat.le_refl _) o) (World.block_lt_of_cell? w _ H.c0)
theorem reqAt.drewN {w : World} {b : Nat} {m p : Bs} {q h : Value} {y : Bs} (H : reqAt w b m p q h y) (n : Nat) : reqAt (w.drewN n) b m p q h y := ⟨H.c0, H.c1, H.c2, H.c3, H.c4, H.fz⟩
abbrev set5 (w : World) (b : Nat) (v0 v1 v2 v3 v4 : Value) : World := ((((w.setCell ⟨b, 0, none⟩ v0).setCell ⟨b, 1, none⟩ v1).setCell ⟨b, 2, none⟩ v2).setCell ⟨b, 3, none⟩ v3).setCell ⟨b, 4, none⟩ v4
theorem reqAt.set {w : World} {b : Nat} {m p : Bs} {q h : Value} {y : Bs} (H : reqAt w b m p q h y) (m' p' : Bs) (q' h' : Value) (y' : Bs) : reqAt (set5 w b (str m') (str p') q' h' (str y')) b m' p' q' h' y' := by
  obtain ⟨c0, c1, c2, c3, c4, fz⟩ := H
  exact ⟨by simp [go_sem, c0], by simp [go_sem, c1], by simp [go_sem, c2], by simp [go_sem, c3], by simp [go_sem, c4], fun j => by simp [go_sem, fz]⟩
theorem below_set5 {B : Nat} {a w : World} {b : Nat} (h : Below B a w) (hb : B ≤ b) (v0 v1 v2 v3 v4 : Value) : Below B a (set5 w b v0 v1 v2 v3 v4) :=
  ((((h.setCell (p := ⟨b, 0, none⟩) hb _).setCell (p := ⟨b, 1, none⟩) hb _).setCell (p := ⟨b, 2, none⟩) hb _).setCell (p := ⟨b, 3, none⟩) hb _).setCell (p := ⟨b, 4, none⟩) hb _
theorem prow.set {w : World} {B b : Nat} {v : Value} {l : Ps} (h : prow w B v l) (hb : b < B) (j : Nat) (x : Value) : prow (w.setCell ⟨b, j, none⟩ x) B v l := h.grown (Go.Proofs.YtinnliapfdpfpaaGreatDoor.C.grown_set w b j x) hb
theorem prow.set5 {w : World} {B b : Nat} {v : Value} {l : Ps} (h : prow w B v l) (hb : b < B) (v0 v1 v2 v3 v4 : Value) : prow (set5 w b v0 v1 v2 v3 v4) B v l :=
  ((((h.set hb 0 _).set hb 1 _).set hb 2 _).set hb 3 _).set hb 4 _
theorem reqAt.far {w : World} {b g j : Nat} {m p : Bs} {q h x : Value} {y : Bs} (H : reqAt w b m p q h y) (hne : ¬ b = g) : reqAt (w.setCell ⟨g, j, none⟩ x) b m p q h y := by
  obtain ⟨c0, c1, c2, c3, c4, fz⟩ := H
  exact ⟨by simp [go_sem, c0], by simp [go_sem, c1], by simp [go_sem, c2], by simp [go_sem, c3], by simp [go_sem, c4], fun j => by simp [go_sem, fz]⟩
abbrev emptyReq : Obj := .cells #[str [], str [], .slice none 0 0, .slice none 0 0, str []] 80
set_option maxHeartbeats 1000000 in
theorem readFirstLine_any (l : Bs) (w : World) (E : Env w) (hl : l.length ≤ 100000) :
    Calls Tryz.prog 96 #[str l] w fun e w' => fPost w (firstOf l) e w' := by
  have hE0 := E.sz
  obtain ⟨a1, a2⟩ := cut_le l [32]
  obtain ⟨b1, b2⟩ := cut_le (Lib.cut l [32]).2.1 [63]
  have N1 := @f_no1 l
  have N2 := @f_no2 l
  have N3 := @f_no3 l
  have N4 := @f_no4 l
  have N5 := @f_q l
  have N6 := @f_p l
  have C1 : Hid (_) := cut_r l [32]
  have C2 : Hid (_) := cut_r (Lib.cut l [32]).2.1 [63]
  generalize Lib.cut l [32] = c at *
  obtain ⟨m, tg, f1⟩ := c
  simp only at a1 a2 b1 b2 N1 N2 N3 N4 N5 N6 C2
  generalize Lib.cut tg [63] = d at *
  obtain ⟨pa, qu, f2⟩ := d
  simp only at b1 b2 N3 N4 N5 N6
  have M : Hid (_) := isMethod_r m
  have P : Hid (_) := pre_r pa [47]
  have D : Hid (_) := decode_r pa true
  have Q : Hid (_) := readQuery_any qu
  have B1 : Below w.heap.size w (w.alloc emptyReq) := (Below.refl _ w).alloc (Nat.le_refl _) _
  have E1 := E.below B1 E.sz
  generalize firstOf l = o at *
  cases f1 with
  | false =>
    have HO := N1 rfl
    clear N1 N2 N3 N4 N5 N6
    subst HO
    go_enter Tryz.func96, Tryz.ntmps96
    go_wp2_with (first | (go_at_call 100; refine (C1.out _ E1 (by omega)).mono ?_; rintro e w' ⟨rfl, n, rfl⟩) | (go_at_call 135; refine (need_not _).mono ?_; rintro e w' ⟨rfl, rfl⟩))
    exact ⟨rfl, fPost_no rfl (below_drewN B1 n)⟩
  | true =>
    cases hm : isMethod m with
    | false =>
      have HO := N2 hm
      clear N1 N2 N3 N4 N5 N6
      subst HO
      rw [hm] at M
      go_enter Tryz.func96, Tryz.ntmps96
      go_wp2_with (first | (go_at_call 100; refine (C1.out _ E1 (by omega)).mono ?_; rintro e w' ⟨rfl, n, rfl⟩) | (go_at_call 136; refine (M.out _).mono ?_; rintro e w' ⟨rfl, rfl⟩) | (go_at_call 135; refine (need_not _).mono ?_; rintro e w' ⟨rfl, rfl⟩))
      exact ⟨rfl, fPost_no rfl (below_drewN B1 n)⟩
    | true =>
      rw [hm] at M
      cases hp : ([47] : Bs).isPrefixOf pa with
      | false =>
        have HO := N3 hp
        clear N1 N2 N3 N4 N5 N6
        subst HO
        rw [hp] at P
        go_enter Tryz.func96, Tryz.ntmps96
        go_wp2_with fail
        refine (C1.out _ E1 (by omega)).mono ?_
        rintro e w' ⟨rfl, n, rfl⟩
        go_wp2_with (first | (go_at_call 136; refine (M.out _).mono ?_; rintro e w' ⟨rfl, rfl⟩) | (go_at_call 135; refine (need_yes _).mono ?_; rintro e w' ⟨rfl, rfl⟩))
        refine (C2.out _ (E1.drewN n) (by omega)).mono ?_
        rintro e w' ⟨rfl, n2, rfl⟩
        go_wp2_with (first | (go_at_call 137; refine (P.out _).mono ?_; rintro e w' ⟨rfl, rfl⟩) | (go_at_call 135; refine (need_not _).mono ?_; rintro e w' ⟨rfl, rfl⟩))
        exact ⟨rfl, fPost_no rfl (below_drewN B1 _)⟩
      | true =>
        rw [hp] at P
        have hE2 : gTop ≤ (w.alloc emptyReq).heap.size := E1.sz
        cases hd : dec true pa with
        | none =>
          have HO := N4 hd
          clear N1 N2 N3 N4 N5 N6
          subst HO
          rw [hd] at D
          go_enter Tryz.func96, Tryz.ntmps96
          go_wp2_with fail
          refine (C1.out _ E1 (by omega)).mono ?_
          rintro e w' ⟨rfl, n, rfl⟩
          go_wp2_with (first | (go_at_call 136; refine (M.out _).mono ?_; rintro e w' ⟨rfl, rfl⟩) | (go_at_call 135; refine (need_yes _).mono ?_; rintro e w' ⟨rfl, rfl⟩))
          refine (C2.out _ (E1.drewN n) (by omega)).mono ?_
          rintro e w' ⟨rfl, n2, rfl⟩
          go_wp2_with (first | (go_at_call 137; refine (P.out _).mono ?_; rintro e w' ⟨rfl, rfl⟩) | (go_at_call 135; refine (need_yes _).mono ?_; rintro e w' ⟨rfl, rfl⟩) | (go_at_call 138; refine (D.out _ (by omega)).mono ?_; rintro e w5 ⟨rfl, hb5⟩; simp only [decR]))
          exact ⟨rfl, fPost_no rfl ((below_drewN B1 _).trans (hb5.mono (by simp)))⟩
        | some pt =>
          rw [hd] at D
          cases f2 with
          | false =>
            have HO := N6 rfl hm hp hd rfl
            clear N1 N2 N3 N4 N5 N6
            subst HO
            go_enter Tryz.func96, Tryz.ntmps96
            go_wp2_with fail
            refine (C1.out _ E1 (by omega)).mono ?_
            rintro e w' ⟨rfl, n, rfl⟩
            go_wp2_with (first | (go_at_call 136; refine (M.out _).mono ?_; rintro e w' ⟨rfl, rfl⟩) | (go_at_call 135; refine (need_yes _).mono ?_; rintro e w' ⟨rfl, rfl⟩))
            refine (C2.out _ (E1.drewN n) (by omega)).mono ?_
            rintro e w' ⟨rfl, n2, rfl⟩
            go_wp2_with (first | (go_at_call 137; refine (P.out _).mono ?_; rintro e w' ⟨rfl, rfl⟩) | (go_at_call 135; refine (need_yes _).mono ?_; rintro e w' ⟨rfl, rfl⟩))
            refine (D.out _ (by omega)).mono ?_
            rintro e w5 ⟨rfl, hb5⟩
            simp only [decR]
            have B5 : Below w.heap.size w w5 := (below_drewN B1 _).trans (hb5.mono (by simp))
            have z5 : w.heap.size + 1 ≤ w5.heap.size := by have := hb5.size; simpa using this
            have R5 : reqAt w5 w.heap.size [] [] (.slice none 0 0) (.slice none 0 0) [] := ((reqAt_new w [] [] (.slice none 0 0) (.slice none 0 0) []).drewN _).below hb5 (by simp)
            have q0 := fun o => (R5.alloc o).c0
            have q1 := fun o => (R5.alloc o).c1
            have q2 := fun o => (R5.alloc o).c2
            have q3 := fun o => (R5.alloc o).c3
            have q4 := fun o => (R5.alloc o).c4
            have fz := fun o => (R5.alloc o).fz
            clear hb5 C1 C2 M P D Q E1 B1
            have hne5 : ¬ w.heap.size = w5.heap.size := by omega
            have RX := (R5.alloc (.cells #[str m, str pt, .slice none 0 0, .slice none 0 0, str []] 80)).set m pt (.slice none 0 0) (.slice none 0 0) []
            have BX := below_set5 (B5.alloc (show w.heap.size ≤ w5.heap.size by omega) (.cells #[str m, str pt, .slice none 0 0, .slice none 0 0, str []] 80)) (Nat.le_refl _) (str m) (str pt) (.slice none 0 0) (.slice none 0 0) (str [])
            go_wp2
            refine bodyPost_ret (v := .agg #[str m, str pt, .slice none 0 0, .slice none 0 0, str []]) ?_ rfl ⟨BX, _, rfl, prow_nil _ _⟩
            obtain ⟨x0, x1, x2, x3, x4, _⟩ := RX
            simp [results, Tryz.results96, go_sem, x0, x1, x2, x3, x4]
          | true =>
            have HO := N5 rfl hm hp hd rfl
            clear N1 N2 N3 N4 N5 N6
            subst HO
            go_enter Tryz.func96, Tryz.ntmps96
            go_wp2_with fail
            refine (C1.out _ E1 (by omega)).mono ?_
            rintro e w' ⟨rfl, n, rfl⟩
            go_wp2_with (first | (go_at_call 136; refine (M.out _).mono ?_; rintro e w' ⟨rfl, rfl⟩) | (go_at_call 135; refine (need_yes _).mono ?_; rintro e w' ⟨rfl, rfl⟩))
            refine (C2.out _ (E1.drewN n) (by omega)).mono ?_
            rintro e w' ⟨rfl, n2, rfl⟩
            go_wp2_with (first | (go_at_call 137; refine (P.out _).mono ?_; rintro e w' ⟨rfl, rfl⟩) | (go_at_call 135; refine (need_yes _).mono ?_; rintro e w' ⟨rfl, rfl⟩))
            refine (D.out _ (by omega)).mono ?_
            rintro e w5 ⟨rfl, hb5⟩
            simp only [decR]
            have B5 : Below w.heap.size w w5 := (below_drewN B1 _).trans (hb5.mono (by simp))
            have z5 : w.heap.size + 1 ≤ w5.heap.size := by have := hb5.size; simpa using this
            have R5 : reqAt w5 w.heap.size [] [] (.slice none 0 0) (.slice none 0 0) [] := ((reqAt_new w [] [] (.slice none 0 0) (.slice none 0 0) []).drewN _).below hb5 (by simp)
            have B6 : Below w.heap.size w (w5.alloc (.cells #[str m, str pt, .slice none 0 0, .slice none 0 0, str []] 80)) := B5.alloc (by omega) _
            have E6 := E.below B6 E.sz
            have R6 := R5.alloc (.cells #[str m, str pt, .slice none 0 0, .slice none 0 0, str []] 80)
            have S6 := reqAt_new w5 m pt (.slice none 0 0) (.slice none 0 0) []
            have z6 : (w5.alloc (.cells #[str m, str pt, .slice none 0 0, .slice none 0 0, str []] 80)).heap.size = w5.heap.size + 1 := by simp
            clear hb5 C1 C2 M P D E1 B1
            have hne5 : ¬ w.heap.size = w5.heap.size := by omega
            go_wp2_with fail
            generalize w5.alloc (.cells #[str m, str pt, .slice none 0 0, .slice none 0 0, str []] 80) = w6 at *
            refine (Q.out w6 E6 (by omega)).mono ?_
            rintro e w7 ⟨hb7, hq7⟩
            have B7 : Below w.heap.size w w7 := B6.trans (hb7.mono (by omega))
            cases hqo : queryOf qu with
            | none =>
              rw [hqo] at hq7
              simp only at hq7
              subst hq7
              clear Q hb7 R5 R6 S6 E6
              go_wp2
              exact ⟨rfl, fPost_no (by rw [hqo]; rfl) B7⟩
            | some q =>
              rw [hqo] at hq7
              simp only at hq7
              obtain ⟨v, rfl, hrow⟩ := hq7
              obtain ⟨_, va, vc, hv⟩ := hrow.len
              have HV : Hid (v = .slice va q.length vc) := hv
              clear hv
              have R7 := R6.below hb7 (by omega)
              have S7 := S6.below hb7 (by omega)
              have z7 := hb7.size
              have R8 := R7.far (g := w5.heap.size) (j := 2) (x := v) hne5
              have RX := R8.set m pt v (.slice none 0 0) []
              have BX := below_set5 (B7.setCell (p := ⟨w5.heap.size, 2, none⟩) (show w.heap.size ≤ w5.heap.size by omega) v) (Nat.le_refl _) (str m) (str pt) v (.slice none 0 0) (str [])
              have rowX := (((hrow.set (b := w5.heap.size) (by omega) 2 v).set5 (b := w.heap.size) (by omega) (str m) (str pt) v (.slice none 0 0) (str [])).up (B' := w.heap.size) (by omega))
              obtain ⟨s0, s1, s2, s3, s4, sf⟩ := S7
              obtain ⟨q0, q1, q2, q3, q4, qf⟩ := R8
              clear Q hb7 R5 R6 S6 E6 R7 hrow
              have hv := HV.out
              subst hv
              go_wp2
              refine bodyPost_ret (v := .agg #[str m, str pt, .slice va q.length vc, .slice none 0 0, str []]) ?_ rfl ?_
              · obtain ⟨x0, x1, x2, x3, x4, _⟩ := RX
                simp [results, Tryz.results96, go_sem, x0, x1, x2, x3, x4]
              · rw [hqo]; exact ⟨BX, _, rfl, rowX⟩
end Go.Proofs.YtinnliapfdpfpaaGreatDoor.R
