/-
  A WHOLE REQUEST, as the program reads it: the body's length, the parts, what is given up and caught.
-/
import Derived.Test.YtinnliapfdpfpaaGreatDoorRFirst
namespace Go.Proofs.YtinnliapfdpfpaaGreatDoor.R
open Go.RowKit
open Go.Sort (grow)
open Go.Proofs.YtinnliapfdpfpaaGreatDoor.C (ret_bool ret_int dec grown_trans grown_set grown_then grown_below)

theorem below_grow' (w : World) (k : Nat) (os : Array Obj) : Below w.heap.size w (grow (w.drewN k) os) :=
  ⟨rfl, rfl, rfl, by show w.heap.size ≤ (w.heap ++ os).size; rw [Array.size_append]; omega, fun j hj => by show (w.heap ++ os)[j]? = _; rw [Array.getElem?_append, if_pos hj]⟩
theorem itoa_r (n : Nat) (w : World) (E : Env w) (hn : n ≤ 1000000000000000) : Calls Tryz.prog 44 #[.int .i64 n] w fun e w' => e = .returned (str (Lib.itoa n)) ∧ Below w.heap.size w w' :=
  (Tryz.strconv_Itoa n (by omega) (by omega) w E.tab).mono fun e w' ⟨h1, k, os, h2⟩ => ⟨h1, by rw [h2]; exact below_grow' w k os⟩

abbrev lengthName : Bs := [108, 101, 110, 103, 116, 104]
theorem decDigits_ne (n : Nat) : Lib.decDigits n ≠ [] := by
  rw [Lib.decDigits]; split <;> simp
theorem itoa_ne (n : Nat) : Lib.itoa (n : Int) ≠ [] := by
  unfold Lib.itoa; rw [if_neg (by omega)]; exact decDigits_ne _
theorem len_some {hs : Ps} {body v : Bs} (h : findP hs lengthName = some v) : lenOk hs body = (v == Lib.itoa (body.length : Int)) := by unfold lenOk; rw [h]
theorem len_none {hs : Ps} {body : Bs} (h : findP hs lengthName = none) : lenOk hs body = body.isEmpty := by unfold lenOk; rw [h]
/-- How the look at the body's length ends. -/
def lenEnd : Bool → Ending
  | true => .returned (.tuple #[])
  | false => .panicked noR

set_option maxHeartbeats 1000000 in
theorem needLength_any (m p : Bs) (q v : Value) (hs : Ps) (body : Bs) (B : Nat) (w : World) (E : Env w) (hr : prow w B v hs) (hl : hs.length ≤ 100000) (hb : body.length ≤ 100000) :
    Calls Tryz.prog 99 #[.agg #[str m, str p, q, v, str body]] w fun e w' => e = lenEnd (lenOk hs body) ∧ Below w.heap.size w w' := by
  have hE0 := E.sz
  have B1 : ∀ o, Below w.heap.size w (w.alloc o) := fun o => (Below.refl _ w).alloc (Nat.le_refl _) o
  have F : Hid (_) := find_any v hs lengthName
  have T : Hid (_) := itoa_r body.length
  obtain ⟨_, va, vc, hv⟩ := hr.len
  subst hv
  have hr1 := fun o => hr.alloc o
  have A1 := reqAt_new w m p q (.slice va hs.length vc) body
  go_enter Tryz.func99, Tryz.ntmps99
  go_wp2_with fail
  refine (F.out _ _ (hr1 _).hold (Nat.le_refl _) (by omega)).mono ?_
  rintro e w1 ⟨rfl, hb1⟩
  have A2 := A1.below hb1 (by simp)
  have hz := hb1.size
  have B2 : Below w.heap.size w w1 := (B1 _).trans (hb1.mono (by simp))
  have E2 := E.below B2 E.sz
  obtain ⟨_, _, _, _, a4, _⟩ := A2
  clear A1 hb1 hr1 B1 F
  cases hf : findP hs lengthName with
  | some t =>
    simp only [findEnd]
    cases ht : t == Lib.itoa (body.length : Int) with
    | true =>
      have HX : Hid (lenOk hs body = true) := by show _ = _; rw [len_some hf, ht]
      have het := eq_of_beq ht
      subst het
      clear ht
      go_wp2_with (first | (go_at_call 44; refine (T.out _ E2 (by omega)).mono ?_; rintro e w5 ⟨rfl, hb5⟩) | (go_at_call 135; refine (need_yes _).mono ?_; rintro e w' ⟨rfl, rfl⟩))
      go_end0
      exact ⟨by rw [HX.out]; rfl, B2.trans (hb5.mono B2.size)⟩
    | false =>
      have HX : Hid (lenOk hs body = false) := by show _ = _; rw [len_some hf, ht]
      go_wp2_with (first | (go_at_call 44; refine (T.out _ E2 (by omega)).mono ?_; rintro e w5 ⟨rfl, hb5⟩) | (go_at_call 135; refine (need_not _).mono ?_; rintro e w' ⟨rfl, rfl⟩))
      exact ⟨rfl, by rw [HX.out]; rfl, B2.trans (hb5.mono B2.size)⟩
  | none =>
    simp only [findEnd]
    by_cases hbe : body = []
    · have HX : Hid (lenOk hs body = true) := by show _ = _; rw [len_none hf, hbe]; rfl
      subst hbe
      go_wp2
      go_end0
      exact ⟨by rw [HX.out]; rfl, B2⟩
    · have HX : Hid (lenOk hs body = false) := by show _ = _; rw [len_none hf]; simpa using hbe
      have hie : body.isEmpty = false := by simpa using hbe
      have hni := itoa_ne body.length
      generalize Lib.itoa (body.length : Int) = it at *
      have hit : (([] : Bs) == it) = false := by cases it with
        | nil => exact absurd rfl hni
        | cons a l => rfl
      go_wp2_with (first | (go_at_call 44; refine (T.out _ E2 (by omega)).mono ?_; rintro e w5 ⟨rfl, hb5⟩) | (go_at_call 135; refine (need_not _).mono ?_; rintro e w' ⟨rfl, rfl⟩))
      exact ⟨rfl, by rw [HX.out]; rfl, B2.trans (hb5.mono B2.size)⟩

theorem r_no1 {s : Bs} (h : (Lib.cut s [10]).2.2 = false) : reqOf s = none := by unfold reqOf; rw [if_neg (by simp [h])]
theorem r_no2 {s : Bs} (h : firstOf (Lib.cut s [10]).1 = none) : reqOf s = none := by unfold reqOf; rw [h]; simp
theorem r_no3 {s : Bs} (h : headersFrom 12 [] (Lib.cut s [10]).2.1 = none) : reqOf s = none := by unfold reqOf; rw [h]; split <;> (try split) <;> rfl
theorem r_last {s : Bs} {f : First} {x : Ps × Bs} (h1 : (Lib.cut s [10]).2.2 = true) (h2 : firstOf (Lib.cut s [10]).1 = some f) (h3 : headersFrom 12 [] (Lib.cut s [10]).2.1 = some x) :
    reqOf s = if lenOk x.1 x.2 = true then some { toFirst := f, headers := x.1, body := x.2 } else none := by
  unfold reqOf; rw [if_pos h1, h2, h3]

theorem prow.ne {w : World} {B g : Nat} {v : Value} {l : Ps} (h : prow w B v l) (hg : ∀ k, v.ownBlock = some k → k ≠ g) (j : Nat) (x : Value) : prow (w.setCell ⟨g, j, none⟩ x) B v l :=
  World.ownsRow.kept h (grown_set w g j x) (by
    cases hv : v.ownBlock with
    | none => exact Or.inl rfl
    | some k => right; have := hg k hv; intro e; simp at e; omega)
theorem prow.top {w : World} {B : Nat} {v : Value} {l : Ps} (h : prow w B v l) : ∀ k, v.ownBlock = some k → k < w.heap.size := fun k hk => (World.ownsRow.lt h k hk).2
theorem reqAt.grown {w w' : World} {b g : Nat} {m p : Bs} {q h : Value} {y : Bs} (H : reqAt w b m p q h y) (k : w.grownBy w' (some g)) (hne : ¬ b = g) : reqAt w' b m p q h y := by
  have hb : b < w.heap.size := World.block_lt_of_cell? w _ H.c0
  have hn : some b ≠ some g := by simpa using hne
  exact ⟨k.cell H.c0 hn, k.cell H.c1 hn, k.cell H.c2 hn, k.cell H.c3 hn, k.cell H.c4 hn, fun j => (k.frozen_far ⟨b, j, none⟩ hb hn).trans (H.fz j)⟩
/-- How the reading of a request ends. -/
def rPost (w : World) (b : Nat) (o : Option Req) (e : Ending) (w' : World) : Prop :=
  w.grownBy w' (some b) ∧ match o with
    | none => e = .panicked noR
    | some r => ∃ vq vh M, e = .returned (.agg #[str r.method, str r.path, vq, vh, str r.body]) ∧ prow w' w.heap.size vq r.query ∧ w.heap.size ≤ M ∧ prow w' M vh r.headers ∧ ∀ k, vq.ownBlock = some k → k < M
theorem rPost_no {w w' : World} {b : Nat} {o : Option Req} (h : o = none) (hg : w.grownBy w' (some b)) : rPost w b o (.panicked noR) w' := by subst h; exact ⟨hg, rfl⟩
theorem headers_cap : ∀ (k : Nat) (l : Ps) (rest : Bs) (x : Ps × Bs), headersFrom k l rest = some x → x.1.length ≤ k + l.length ∧ x.2.length ≤ rest.length := by
  intro k
  induction k with
  | zero =>
    intro l rest x h
    have hc := cut_le rest [10]
    unfold headersFrom at h
    split at h
    · cases h
    · split at h
      · cases h; exact ⟨by simp, hc.2⟩
      · cases h
  | succ k ih =>
    intro l rest x h
    have hc := cut_le rest [10]
    unfold headersFrom at h
    split at h
    · cases h
    · split at h
      · cases h; exact ⟨by simp, hc.2⟩
      · simp only at h
        split at h
        · cases h
        · split at h
          · cases h
          · rename_i p _ _ l' hl'
            have e : l' = l ++ [p] := by
              unfold addP at hl'
              split at hl'
              · cases hl'; rfl
              · cases hl'
            obtain ⟨i1, i2⟩ := ih l' _ x h
            rw [e] at i1
            simp at i1
            exact ⟨by omega, by omega⟩

set_option maxHeartbeats 1000000 in
theorem readRequest_any (b : Nat) (l : Bs) (w : World) (h : rdr w b l) (E : Env w) (hb0 : gTop ≤ b) (hl : l.length ≤ 100000) :
    Calls Tryz.prog 58 #[.pointer (some ⟨b, 0, none⟩)] w fun e w' => rPost w b (reqOf l) e w' := by
  have hbw := h.lt
  obtain ⟨n1, n2⟩ := cut_le l [10]
  have N1 := @r_no1 l
  have N2 := @r_no2 l
  have N3 := @r_no3 l
  have N4 := @r_last l
  have L1 : Hid (_) := readLine_ok b l
  have L2 : Hid (_) := readLine_no b l
  have F : Hid (_) := readFirstLine_any (Lib.cut l [10]).1
  have HD : Hid (_) := readHeaders_any b (Lib.cut l [10]).2.1
  have HC := headers_cap 12 [] (Lib.cut l [10]).2.1
  generalize Lib.cut l [10] = c at *
  obtain ⟨line, rest, f⟩ := c
  simp only at n1 n2 N1 N2 N3 N4 F HD HC
  have B1 : Below w.heap.size w (w.alloc emptyReq) := (Below.refl _ w).alloc (Nat.le_refl _) _
  have G1 : w.grownBy (w.alloc emptyReq) (some b) := grown_below B1 (Nat.le_refl _)
  have E1 := E.below B1 E.sz
  have h1 : rdr (w.alloc emptyReq) b l := h.below hbw B1
  have R1 : reqAt (w.alloc emptyReq) w.heap.size [] [] (.slice none 0 0) (.slice none 0 0) [] := reqAt_new w [] [] (.slice none 0 0) (.slice none 0 0) []
  have z1 : (w.alloc emptyReq).heap.size = w.heap.size + 1 := by simp
  have hbR : ¬ w.heap.size = b := by omega
  generalize reqOf l = o at *
  go_enter Tryz.func58, Tryz.ntmps58
  go_wp2_with fail
  generalize w.alloc emptyReq = w1 at *
  cases f with
  | false =>
    have HO := N1 rfl
    clear N1 N2 N3 N4
    refine (L2.out w1 h1 E1 hl rfl).mono ?_
    rintro e w2 ⟨rfl, g2⟩
    have G2 := grown_trans G1 g2
    clear h1 E1 g2 R1 L1 L2 F HD HC
    go_wp2
    exact ⟨rfl, rPost_no HO G2⟩
  | true =>
    refine (L1.out w1 h1 E1 hl rfl).mono ?_
    rintro e w2 ⟨rfl, h2, g2⟩
    have G2 := grown_trans G1 g2
    have E2 := E.grown G2 hb0
    have R2 := R1.grown g2 hbR
    have z2 := g2.size
    clear h1 E1 g2 R1 L1 L2 G1 B1
    go_wp2_with fail
    refine (F.out w2 E2 (by omega)).mono ?_
    rintro e w3 ⟨b3, p3⟩
    have G3 := grown_then G2 (b3.mono (by omega))
    have h3 := h2.below (by omega) b3
    have R3 := R2.below b3 (by omega)
    have z3 := b3.size
    cases hfo : firstOf line with
    | none =>
      have HO := N2 hfo
      rw [hfo] at p3
      simp only at p3
      subst p3
      clear N1 N2 N3 N4 E2 h2 R2 R3 h3 b3 F HD HC
      go_wp2
      exact ⟨rfl, rPost_no HO G3⟩
    | some fi =>
      rw [hfo] at p3
      simp only at p3
      obtain ⟨v, rfl, row3⟩ := p3
      obtain ⟨_, va, vc, hv⟩ := row3.len
      subst hv
      have top3 := row3.top
      have row4 := row3.alloc (.cells #[str fi.method, str fi.path, .slice va fi.query.length vc, .slice none 0 0, str []] 80)
      have R4 := R3.alloc (.cells #[str fi.method, str fi.path, .slice va fi.query.length vc, .slice none 0 0, str []] 80)
      have S4 := reqAt_new w3 fi.method fi.path (.slice va fi.query.length vc) (.slice none 0 0) []
      have G4 : w.grownBy (w3.alloc (.cells #[str fi.method, str fi.path, .slice va fi.query.length vc, .slice none 0 0, str []] 80)) (some b) := grown_then G3 ((Below.refl _ _).alloc (by omega) _)
      have h4 : rdr (w3.alloc (.cells #[str fi.method, str fi.path, .slice va fi.query.length vc, .slice none 0 0, str []] 80)) b rest := h3.below (B := w3.heap.size) (by omega) ((Below.refl _ _).alloc (Nat.le_refl _) _)
      have z4 : (w3.alloc (.cells #[str fi.method, str fi.path, .slice va fi.query.length vc, .slice none 0 0, str []] 80)).heap.size = w3.heap.size + 1 := by simp
      have E4 := E.grown G4 hb0
      clear E2 h2 R2 R3 h3 b3 F row3
      go_wp2_with fail
      generalize w3.alloc (.cells #[str fi.method, str fi.path, .slice va fi.query.length vc, .slice none 0 0, str []] 80) = w4 at *
      refine (HD.out w4 h4 E4 hb0 (by omega)).mono ?_
      rintro e w5 ⟨g5, p5⟩
      have G5 := grown_trans G4 g5
      have z5 := g5.size
      have R5 := R4.grown g5 hbR
      have S5 := S4.grown g5 (by omega)
      have row5 := row4.grown g5 (by omega)
      clear h4 R4 S4 row4 E4 HD
      cases hho : headersFrom 12 [] rest with
      | none =>
        have HO := N3 hho
        rw [hho] at p5
        simp only at p5
        subst p5
        clear N1 N2 N3 N4 R5 S5 row5 HC
        go_wp2
        exact ⟨rfl, rPost_no HO G5⟩
      | some x =>
        have HO := N4 (by first | trivial | rfl) hfo hho
        obtain ⟨k1, k2⟩ := HC x hho
        rw [hho] at p5
        simp only at p5
        obtain ⟨vh, rfl, hrow5, h5⟩ := p5
        obtain ⟨hs, body⟩ := x
        simp only at HO k1 k2 hrow5 h5
        obtain ⟨_, ha, hc, hv⟩ := hrow5.len
        subst hv
        clear N1 N2 N3 N4 HC
        have hneT : ¬ b = w3.heap.size := by omega
        obtain ⟨s0, s1, s2, s3, s4, sf⟩ := S5
        obtain ⟨d0, d1⟩ := h5
        have S7 : reqAt ((w5.setCell ⟨w3.heap.size, 3, none⟩ (.slice ha hs.length hc)).setCell ⟨w3.heap.size, 4, none⟩ (str body)) w3.heap.size fi.method fi.path (.slice va fi.query.length vc) (.slice ha hs.length hc) body :=
          ⟨by simp [go_sem, s0], by simp [go_sem, s1], by simp [go_sem, s2], by simp [go_sem, s3], by simp [go_sem, s4], fun j => by simp [go_sem, sf]⟩
        have B57 : Below w.heap.size w5 ((w5.setCell ⟨w3.heap.size, 3, none⟩ (.slice ha hs.length hc)).setCell ⟨w3.heap.size, 4, none⟩ (str body)) := ((Below.refl _ _).setCell (p := ⟨w3.heap.size, 3, none⟩) (show w.heap.size ≤ w3.heap.size by omega) _).setCell (p := ⟨w3.heap.size, 4, none⟩) (show w.heap.size ≤ w3.heap.size by omega) _
        have G7 := grown_then G5 B57
        have R7 := (R5.far (g := w3.heap.size) (j := 3) (x := .slice ha hs.length hc) (by omega)).far (g := w3.heap.size) (j := 4) (x := str body) (by omega)
        have row7 := (row5.ne (g := w3.heap.size) (fun k hk => by have := top3 k hk; omega) 3 (.slice ha hs.length hc)).ne (g := w3.heap.size) (fun k hk => by have := top3 k hk; omega) 4 (str body)
        have hrow7 := (hrow5.set (b := w3.heap.size) (by omega) 3 (.slice ha hs.length hc)).set (b := w3.heap.size) (by omega) 4 (str body)
        have E7 := E.grown G7 hb0
        have z7 : ((w5.setCell ⟨w3.heap.size, 3, none⟩ (.slice ha hs.length hc)).setCell ⟨w3.heap.size, 4, none⟩ (str body)).heap.size = w5.heap.size := by simp
        have NL : Hid (_) := needLength_any fi.method fi.path (.slice va fi.query.length vc) (.slice ha hs.length hc) hs body
        clear R5 row5 hrow5
        go_wp2_with fail
        generalize (w5.setCell ⟨w3.heap.size, 3, none⟩ (.slice ha hs.length hc)).setCell ⟨w3.heap.size, 4, none⟩ (str body) = w7 at *
        refine (NL.out _ w7 E7 hrow7 (by simp at k1; omega) (by omega)).mono ?_
        rintro e w8 ⟨rfl, b8⟩
        have G8 := grown_then G7 (b8.mono (by omega))
        have R8 := R7.below b8 (by omega)
        have S8 := S7.below b8 (by omega)
        have row8 := row7.below b8
        have hrow8 := hrow7.below b8
        have z8 := b8.size
        clear R7 S7 row7 hrow7 E7 NL b8 B57 s0 s1 s2 s3 s4 sf d0 d1
        cases hlo : lenOk hs body with
        | false =>
          rw [hlo] at HO
          simp only [Bool.false_eq_true, if_false] at HO
          simp only [lenEnd]
          clear R8 S8 row8 hrow8
          go_wp2
          exact ⟨rfl, rPost_no HO G8⟩
        | true =>
          rw [hlo] at HO
          simp only [if_true] at HO
          simp only [lenEnd]
          have RX := R8.set fi.method fi.path (.slice va fi.query.length vc) (.slice ha hs.length hc) body
          have GX := grown_then G8 (below_set5 (B := w.heap.size) (Below.refl w.heap.size w8) (Nat.le_refl _) (str fi.method) (str fi.path) (.slice va fi.query.length vc) (.slice ha hs.length hc) (str body))
          have rowX := (row8.set5 (b := w.heap.size) (by omega) (str fi.method) (str fi.path) (.slice va fi.query.length vc) (.slice ha hs.length hc) (str body)).up (B' := w.heap.size) (by omega)
          have hrowX := hrow8.set5 (b := w.heap.size) (by omega) (str fi.method) (str fi.path) (.slice va fi.query.length vc) (.slice ha hs.length hc) (str body)
          obtain ⟨s0, s1, s2, s3, s4, sf⟩ := S8
          obtain ⟨q0, q1, q2, q3, q4, qf⟩ := R8
          clear row8 hrow8 G8 G7 G5 G4 G3 G2
          have HT : Hid (∀ k, (Value.slice va fi.query.length vc).ownBlock = some k → k < w3.heap.size) := top3
          clear top3
          go_wp2
          refine bodyPost_ret (v := .agg #[str fi.method, str fi.path, .slice va fi.query.length vc, .slice ha hs.length hc, str body]) ?_ rfl ?_
          · obtain ⟨x0, x1, x2, x3, x4, _⟩ := RX
            simp [results, Tryz.results58, go_sem, x0, x1, x2, x3, x4]
          · rw [HO]
            exact ⟨GX, _, _, w4.heap.size, rfl, rowX, by omega, hrowX, fun k hk => by have := HT.out k hk; omega⟩
end Go.Proofs.YtinnliapfdpfpaaGreatDoor.R
