/-
  THE DOCUMENT'S ANSWER: a whole request.
-/
import Derived.Test.YtinnliapfdpfpaaGreatDoorSDec
namespace Go.Proofs.YtinnliapfdpfpaaGreatDoor.R
open Go.RowKit
open Go.Proofs.YtinnliapfdpfpaaGreatDoor.C (ret_bool ret_int dec grown_trans grown_set grown_then grown_below)

theorem prow.any {w : World} {B : Nat} {v : Value} {l : Ps} (h : prow w B v l) : ∃ a n c, v = .slice a n c ∧ Hid (n = l.length) := by
  obtain ⟨_, a, c, hv⟩ := h.len
  exact ⟨a, _, c, hv, rfl⟩
/-- What a request answers. -/
def rqPost (w : World) (o : Option Req) (e : Ending) (w' : World) : Prop :=
  Below w.heap.size w w' ∧ match o with
    | none => ∃ (m p y : Bs) (a a' : Option Addr) (n c n' c' : Nat), e = .returned (.tuple #[.agg #[str m, str p, .slice a n c, .slice a' n' c', str y], .bool false])
    | some r => ∃ vq vh, e = .returned (.tuple #[.agg #[str r.method, str r.path, vq, vh, str r.body], .bool true]) ∧ prow w' w.heap.size vq r.query ∧ prow w' w.heap.size vh r.headers
theorem rqPost_no {w w' : World} {o : Option Req} {m p y : Bs} {a a' : Option Addr} {n c n' c' : Nat} (h : o = none) (hb : Below w.heap.size w w') :
    rqPost w o (.returned (.tuple #[.agg #[str m, str p, .slice a n c, .slice a' n' c', str y], .bool false])) w' := by subst h; exact ⟨hb, m, p, y, a, a', n, c, n', c', rfl⟩
theorem rqPost_ok {w w' : World} {o : Option Req} {r : Req} {vq vh : Value} (h : o = some r) (hb : Below w.heap.size w w') (h1 : prow w' w.heap.size vq r.query) (h2 : prow w' w.heap.size vh r.headers) :
    rqPost w o (.returned (.tuple #[.agg #[str r.method, str r.path, vq, vh, str r.body], .bool true])) w' := by subst h; exact ⟨hb, vq, vh, rfl, h1, h2⟩
/-- How many headers a request in memory has. -/
def hdLen (w : World) (b : Nat) : Nat := match w.cell? ⟨b, 3, none⟩ with
  | some v => slLen v
  | none => 0
theorem reqAt.hdLen {w : World} {b : Nat} {m p : Bs} {q h : Value} {y : Bs} (H : reqAt w b m p q h y) : hdLen w b = slLen h := by unfold R.hdLen; rw [H.c3]
theorem prow.stay {w w' : World} {B g : Nat} {v : Value} {l : Ps} (h : prow w B v l) (k : w.grownBy w' (some g)) (hg : ∀ k, v.ownBlock = some k → k ≠ g) : prow w' B v l :=
  World.ownsRow.kept h k (by
    cases hv : v.ownBlock with
    | none => exact Or.inl rfl
    | some k => right; have := hg k hv; intro e; simp at e; omega)
theorem headers_next {k : Nat} {hs : Ps} {l : Bs} {p : Bs × Bs} (hf : (Lib.cut l [10]).2.2 = true) (h : (Lib.cut l [10]).1 ≠ []) (hh : headerOf (Lib.cut l [10]).1 = some p) (ha : findP hs p.1 = none) :
    headersFrom (k + 1) hs l = headersFrom k (hs ++ [p]) (Lib.cut l [10]).2.1 := by rw [headers_go hf, hstep_next h hh ha]
theorem headers_end {k : Nat} {hs : Ps} {l : Bs} (hf : (Lib.cut l [10]).2.2 = true) (h : (Lib.cut l [10]).1 = []) : headersFrom k hs l = some (hs, (Lib.cut l [10]).2.1) := by rw [headers_go hf, h, hstep_end]
theorem headers_bad {k : Nat} {hs : Ps} {l : Bs} (hf : (Lib.cut l [10]).2.2 = true) (h : (Lib.cut l [10]).1 ≠ []) (hh : headerOf (Lib.cut l [10]).1 = none) : headersFrom k hs l = none := by rw [headers_go hf, hstep_bad h hh]
theorem headers_two {k : Nat} {hs : Ps} {l : Bs} {p : Bs × Bs} (hf : (Lib.cut l [10]).2.2 = true) (h : (Lib.cut l [10]).1 ≠ []) (hh : headerOf (Lib.cut l [10]).1 = some p) (ha : ¬ findP hs p.1 = none) : headersFrom k hs l = none := by rw [headers_go hf, hstep_two h hh ha]
theorem headers_full {hs : Ps} {l : Bs} (hf : (Lib.cut l [10]).2.2 = true) (h : (Lib.cut l [10]).1 ≠ []) : headersFrom 0 hs l = none := by rw [headers_go hf, hstep_full h]

/-- What the loop over the header lines holds: the request at b, its rows, all else as it was in the world w4. -/
structure hdInv (w4 wr : World) (b r0 : Nat) (m p : Bs) (vq v : Value) (hs : Ps) : Prop where
  T : reqAt wr b m p vq v []
  R : reqAt wr r0 [] [] nilP nilP []
  row : prow wr w4.heap.size v hs
  G : w4.grownBy wr (some b)

theorem hdInv.below {w4 wr w' : World} {b r0 : Nat} {m p : Bs} {vq v : Value} {hs : Ps} (I : hdInv w4 wr b r0 m p vq v hs) (k : Below wr.heap.size wr w') : hdInv w4 w' b r0 m p vq v hs :=
  ⟨I.T.below k (World.block_lt_of_cell? wr _ I.T.c0), I.R.below k (World.block_lt_of_cell? wr _ I.R.c0), I.row.below k, grown_then I.G (k.mono I.G.size)⟩
theorem hdInv.alloc {w4 wr : World} {b r0 : Nat} {m p : Bs} {vq v : Value} {hs : Ps} (I : hdInv w4 wr b r0 m p vq v hs) (o : Obj) : hdInv w4 (wr.alloc o) b r0 m p vq v hs := I.below ((Below.refl _ _).alloc (Nat.le_refl _) o)
theorem hdInv.drewN {w4 wr : World} {b r0 : Nat} {m p : Bs} {vq v : Value} {hs : Ps} (I : hdInv w4 wr b r0 m p vq v hs) (n : Nat) : hdInv w4 (wr.drewN n) b r0 m p vq v hs := I.below (below_drewN (Below.refl _ _) n)
theorem hdInv.next {w4 wr w' : World} {b r0 : Nat} {m p : Bs} {vq v v' : Value} {hs hs' : Ps} (I : hdInv w4 wr b r0 m p vq v hs) (k : Below w4.heap.size wr w') (row : prow w' w4.heap.size v' hs') (hb : b < w4.heap.size) (hr : r0 < w4.heap.size) (hne : ¬ r0 = b) :
    hdInv w4 (w'.setCell ⟨b, 3, none⟩ v') b r0 m p vq v' hs' := by
  have T := I.T.below k hb
  have R := I.R.below k hr
  refine ⟨?_, R.far hne, row.set hb 3 v', grown_trans (grown_then I.G k) (grown_set _ b 3 v')⟩
  obtain ⟨t0, t1, t2, t3, t4, tf⟩ := T
  exact ⟨by simp [go_sem, t0], by simp [go_sem, t1], by simp [go_sem, t2], by simp [go_sem, t3], by simp [go_sem, t4], fun j => by simp [go_sem, tf]⟩

set_option maxHeartbeats 2000000 in
theorem rrequest_any (l : Bs) (w : World) (hl : l.length ≤ 100000) :
    Calls Tryz.prog 65 #[str l] w fun e w' => rqPost w (reqOf l) e w' := by
  obtain ⟨n1, n2⟩ := cut_le l [10]
  have N1 := @r_no1 l
  have N2 := @r_no2 l
  have N3 := @r_no3 l
  have N4 := @r_last l
  have C1 : Hid (_) := rcut_any l [10]
  have F : Hid (_) := rfirst_any (Lib.cut l [10]).1
  generalize Lib.cut l [10] = c at *
  obtain ⟨line, rest, f⟩ := c
  simp only at n1 n2 N1 N2 N3 N4 F
  have B1 : Below w.heap.size w (w.alloc emptyReq) := (Below.refl _ w).alloc (Nat.le_refl _) _
  have R1 : reqAt (w.alloc emptyReq) w.heap.size [] [] nilP nilP [] := reqAt_new w [] [] nilP nilP []
  have z1 : (w.alloc emptyReq).heap.size = w.heap.size + 1 := by simp
  generalize reqOf l = o at *
  go_enter Tryz.func65, Tryz.ntmps65
  go_wp2_with fail
  refine (C1.out _ (by omega) (by simp) (by simp)).mono ?_
  rintro e w' ⟨rfl, n, rfl⟩
  replace B1 := below_drewN B1 n
  replace R1 := R1.drewN n
  replace z1 : ((w.alloc emptyReq).drewN n).heap.size = w.heap.size + 1 := z1
  generalize (w.alloc emptyReq).drewN n = w1 at *
  clear C1
  cases f with
  | false =>
    have HO := N1 rfl
    clear N1 N2 N3 N4 F
    have RX := R1.set [] [] nilP nilP []
    have BX := below_set5 B1 (Nat.le_refl _) (str []) (str []) nilP nilP (str [])
    obtain ⟨r0, r1, r2, r3, r4, rf⟩ := R1
    go_wp2
    refine bodyPost_ret (v := .tuple #[.agg #[str [], str [], nilP, nilP, str []], .bool false]) ?_ rfl (rqPost_no HO BX)
    obtain ⟨x0, x1, x2, x3, x4, _⟩ := RX
    simp [results, Tryz.results65, go_sem, x0, x1, x2, x3, x4]
  | true =>
    go_wp2_with fail
    refine (F.out w1 (by omega)).mono ?_
    rintro e w3 ⟨b3, p3⟩
    have B3 := B1.trans (b3.mono (by omega))
    have R3 := R1.below b3 (by omega)
    have z3 := b3.size
    clear F B1 R1 b3
    have hne : ¬ w.heap.size = w3.heap.size := by omega
    cases hfo : firstOf line with
    | none =>
      have HO := N2 hfo
      rw [hfo] at p3
      simp only at p3
      obtain ⟨m, p, rfl⟩ := p3
      clear N1 N2 N3 N4
      have RX := (R3.alloc (.cells #[str m, str p, nilP, nilP, str []] 80)).set m p nilP nilP []
      have BX := below_set5 (B3.alloc (show w.heap.size ≤ w3.heap.size by omega) (.cells #[str m, str p, nilP, nilP, str []] 80)) (Nat.le_refl _) (str m) (str p) nilP nilP (str [])
      have q0 := fun o => (R3.alloc o).c0
      have q1 := fun o => (R3.alloc o).c1
      have q2 := fun o => (R3.alloc o).c2
      have q3 := fun o => (R3.alloc o).c3
      have q4 := fun o => (R3.alloc o).c4
      have qf := fun o => (R3.alloc o).fz
      go_wp2
      refine bodyPost_ret (v := .tuple #[.agg #[str m, str p, nilP, nilP, str []], .bool false]) ?_ rfl (rqPost_no HO BX)
      obtain ⟨x0, x1, x2, x3, x4, _⟩ := RX
      simp [results, Tryz.results65, go_sem, x0, x1, x2, x3, x4]
    | some fi =>
      rw [hfo] at p3
      simp only at p3
      obtain ⟨v3, rfl, row3⟩ := p3
      obtain ⟨_, va, vc, hv⟩ := row3.len
      subst hv
      have top3 : Hid (_) := row3.top
      have row4 := row3.alloc (.cells #[str fi.method, str fi.path, .slice va fi.query.length vc, nilP, str []] 80)
      have R4 := R3.alloc (.cells #[str fi.method, str fi.path, .slice va fi.query.length vc, nilP, str []] 80)
      have T4 := reqAt_new w3 fi.method fi.path (.slice va fi.query.length vc) nilP []
      have B4 := B3.alloc (show w.heap.size ≤ w3.heap.size by omega) (.cells #[str fi.method, str fi.path, .slice va fi.query.length vc, nilP, str []] 80)
      have z4 : (w3.alloc (.cells #[str fi.method, str fi.path, .slice va fi.query.length vc, nilP, str []] 80)).heap.size = w3.heap.size + 1 := by simp
      clear R3 B3 row3
      go_wp2
      generalize w3.alloc (.cells #[str fi.method, str fi.path, .slice va fi.query.length vc, nilP, str []] 80) = w4 at *
      go_loopw [5] (fun x wr => ∃ (k : Nat) (hs : Ps) (rs : Bs) (v : Value), x = str rs ∧ hdInv w4 wr w3.heap.size w.heap.size fi.method fi.path (.slice va fi.query.length vc) v hs ∧ headersFrom 12 [] rest = headersFrom k hs rs ∧ k + hs.length = 12 ∧ rs.length ≤ 100000) (fun _ wr => 13 - hdLen wr w3.heap.size)
      case atStart => exact ⟨12, [], rest, nilP, rfl, ⟨T4, R4, prow_nil _ _, grown_below (Below.refl _ _) (Nat.le_refl _)⟩, rfl, rfl, by omega⟩
      case round =>
        obtain ⟨k, hs, rs, v, rfl, I, heq, hk, hrs⟩ := hrel
        clear T4 R4
        have HQ : Hid (headersFrom 12 [] rest = headersFrom k hs rs) := heq
        clear heq
        obtain ⟨m1, m2⟩ := cut_le rs [10]
        have C2 : Hid (_) := rcut_any rs [10]
        have H1 := @headers_no k hs rs
        have H2 := @headers_end k hs rs
        have H3 := @headers_bad k hs rs
        have H4 := @headers_two k hs rs
        have H5 := @headers_full hs rs
        have H6 := fun k p => @headers_next k hs rs p
        have HM : Hid (hdLen wr w3.heap.size = slLen v) := I.T.hdLen
        obtain ⟨hlen, ha, hc, hv⟩ := I.row.len
        subst hv
        generalize Lib.cut rs [10] = c at *
        obtain ⟨h, rs', f⟩ := c
        simp only at m1 m2 H1 H2 H3 H4 H5 H6
        go_wp2_with fail
        refine (C2.out wr (by omega) (by simp) (by simp)).mono ?_
        rintro e w' ⟨rfl, n2, rfl⟩
        replace I := I.drewN n2
        generalize wr.drewN n2 = wA at *
        clear C2
        cases f with
        | false =>
          have HO := N3 (by rw [HQ.out, H1 rfl])
          clear N1 N2 N3 N4 H1 H2 H3 H4 H5 H6
          have BX := below_set5 (B4.grown I.G (by omega) (fun k hk => by simp at hk; omega)) (Nat.le_refl _) (str fi.method) (str fi.path) (.slice va fi.query.length vc) (.slice ha hs.length hc) (str [])
          have RX := I.R.set fi.method fi.path (.slice va fi.query.length vc) (.slice ha hs.length hc) []
          obtain ⟨⟨t0, t1, t2, t3, t4, tf⟩, ⟨r0, r1, r2, r3, r4, rf⟩, hrow, _⟩ := I
          go_wp2
          refine bodyPost_ret (v := .tuple #[.agg #[str fi.method, str fi.path, .slice va fi.query.length vc, .slice ha hs.length hc, str []], .bool false]) ?_ rfl (rqPost_no HO BX)
          obtain ⟨x0, x1, x2, x3, x4, _⟩ := RX
          simp [results, Tryz.results65, go_sem, x0, x1, x2, x3, x4]
        | true =>
          by_cases hh : h = []
          · subst hh
            have HO := N4 (by first | trivial | rfl) hfo (by rw [HQ.out, H2 (by first | trivial | rfl) rfl])
            simp only at HO
            clear N1 N2 N3 N4 H1 H2 H3 H4 H5 H6 HQ HM
            have T5 : reqAt (wA.setCell ⟨w3.heap.size, 4, none⟩ (str rs')) w3.heap.size fi.method fi.path (.slice va fi.query.length vc) (.slice ha hs.length hc) rs' := by
              obtain ⟨t0, t1, t2, t3, t4, tf⟩ := I.T
              exact ⟨by simp [go_sem, t0], by simp [go_sem, t1], by simp [go_sem, t2], by simp [go_sem, t3], by simp [go_sem, t4], fun j => by simp [go_sem, tf]⟩
            have R5 := I.R.far (g := w3.heap.size) (j := 4) (x := str rs') hne
            have rowq := (row4.stay I.G (fun k hk => by have := top3.out k hk; omega)).ne (g := w3.heap.size) (fun k hk => by have := top3.out k hk; omega) 4 (str rs')
            have rowh := I.row.set (b := w3.heap.size) (by omega) 4 (str rs')
            have B5 := (B4.grown I.G (by omega) (fun k hk => by simp at hk; omega)).setCell (p := ⟨w3.heap.size, 4, none⟩) (show w.heap.size ≤ w3.heap.size by omega) (str rs')
            have t4 := I.T.c4
            have t3 := I.T.c3
            have tf := I.T.fz
            have zA := I.G.size
            have zE : (wA.setCell ⟨w3.heap.size, 4, none⟩ (str rs')).heap.size = wA.heap.size := by simp
            clear I
            go_wp2_with fail
            generalize wA.setCell ⟨w3.heap.size, 4, none⟩ (str rs') = wE at *
            clear t3 t4 tf
            refine (rfind_r _ hs lengthName _ wE rowh.hold (by omega)).mono ?_
            rintro e w' ⟨rfl, rfl⟩
            have RX := R5.set fi.method fi.path (.slice va fi.query.length vc) (.slice ha hs.length hc) rs'
            have BX := below_set5 B5 (Nat.le_refl _) (str fi.method) (str fi.path) (.slice va fi.query.length vc) (.slice ha hs.length hc) (str rs')
            have rowqX := (rowq.set5 (b := w.heap.size) (by omega) (str fi.method) (str fi.path) (.slice va fi.query.length vc) (.slice ha hs.length hc) (str rs')).up (B' := w.heap.size) (by omega)
            have rowhX := (rowh.set5 (b := w.heap.size) (by omega) (str fi.method) (str fi.path) (.slice va fi.query.length vc) (.slice ha hs.length hc) (str rs')).up (B' := w.heap.size) (by omega)
            cases hfl : findP hs lengthName with
            | none =>
              simp only [findEnd]
              rw [len_none hfl] at HO
              obtain ⟨t0, t1, t2, t3, t4, tf⟩ := T5
              obtain ⟨r0, r1, r2, r3, r4, rf⟩ := R5
              clear rowq rowh
              by_cases hre : rs' = []
              · subst hre
                simp only [List.isEmpty_nil, if_true] at HO
                go_wp2
                refine bodyPost_ret (v := .tuple #[.agg #[str fi.method, str fi.path, .slice va fi.query.length vc, .slice ha hs.length hc, str []], .bool true]) ?_ rfl (rqPost_ok HO BX rowqX rowhX)
                obtain ⟨x0, x1, x2, x3, x4, _⟩ := RX
                simp [results, Tryz.results65, go_sem, x0, x1, x2, x3, x4]
              · have hie : rs'.isEmpty = false := by simpa using hre
                rw [hie] at HO
                simp only [Bool.false_eq_true, if_false] at HO
                go_wp2
                refine bodyPost_ret (v := .tuple #[.agg #[str fi.method, str fi.path, .slice va fi.query.length vc, .slice ha hs.length hc, str rs'], .bool false]) ?_ rfl (rqPost_no HO BX)
                obtain ⟨x0, x1, x2, x3, x4, _⟩ := RX
                simp [results, Tryz.results65, go_sem, x0, x1, x2, x3, x4]
            | some t =>
              simp only [findEnd]
              rw [len_some hfl] at HO
              have DC : Hid (_) := rdecimal_any rs'.length
              have hit : Lib.itoa (rs'.length : Int) = Lib.decDigits rs'.length := by unfold Lib.itoa; rw [if_neg (by omega)]; simp
              rw [hit] at HO
              generalize Lib.decDigits rs'.length = dd at *
              have RXN : Hid (_) := fun m => (R5.drewN m).set fi.method fi.path (.slice va fi.query.length vc) (.slice ha hs.length hc) rs'
              have BXN : Hid (_) := fun m => below_set5 (below_drewN B5 m) (Nat.le_refl _) (str fi.method) (str fi.path) (.slice va fi.query.length vc) (.slice ha hs.length hc) (str rs')
              have QXN : Hid (_) := fun m => ((show prow (wE.drewN m) _ _ _ from rowq).set5 (b := w.heap.size) (by omega) (str fi.method) (str fi.path) (.slice va fi.query.length vc) (.slice ha hs.length hc) (str rs')).up (B' := w.heap.size) (by omega)
              have HXN : Hid (_) := fun m => ((show prow (wE.drewN m) _ _ _ from rowh).set5 (b := w.heap.size) (by omega) (str fi.method) (str fi.path) (.slice va fi.query.length vc) (.slice ha hs.length hc) (str rs')).up (B' := w.heap.size) (by omega)
              obtain ⟨t0, t1, t2, t3, t4, tf⟩ := T5
              obtain ⟨r0, r1, r2, r3, r4, rf⟩ := R5
              clear rowq rowh hit RX BX rowqX rowhX
              cases htd : t == dd with
              | true =>
                rw [htd] at HO
                simp only [if_true] at HO
                go_wp2
                go_region_with ((go_at_call 76; refine (DC.out _ (by omega)).mono ?_; rintro e w' ⟨rfl, n9, rfl⟩))
                all_goals
                  go_wp2
                  refine bodyPost_ret (v := .tuple #[.agg #[str fi.method, str fi.path, .slice va fi.query.length vc, .slice ha hs.length hc, str rs'], .bool true]) ?_ rfl (rqPost_ok HO (BXN.out _) (QXN.out _) (HXN.out _))
                  obtain ⟨x0, x1, x2, x3, x4, _⟩ := RXN.out (1 + n9)
                  simp [results, Tryz.results65, go_sem, x0, x1, x2, x3, x4]
              | false =>
                rw [htd] at HO
                simp only [Bool.false_eq_true, if_false] at HO
                go_wp2
                go_region_with ((go_at_call 76; refine (DC.out _ (by omega)).mono ?_; rintro e w' ⟨rfl, n9, rfl⟩))
                all_goals
                  go_wp2
                  refine bodyPost_ret (v := .tuple #[.agg #[str fi.method, str fi.path, .slice va fi.query.length vc, .slice ha hs.length hc, str rs'], .bool false]) ?_ rfl (rqPost_no HO (BXN.out _))
                  obtain ⟨x0, x1, x2, x3, x4, _⟩ := RXN.out (1 + n9)
                  simp [results, Tryz.results65, go_sem, x0, x1, x2, x3, x4]
          · have hie : h.isEmpty = false := by simpa using hh
            have LN : Hid (_) := rline_any h
            go_wp2_with fail
            refine (LN.out wA (by omega)).mono ?_
            rintro e wB ⟨bB, pB⟩
            replace I := I.below bB
            rw [← header_line h] at pB
            clear bB LN
            cases hho : headerOf h with
            | none =>
              have HO := N3 (by rw [HQ.out, H3 (by first | trivial | rfl) hh hho])
              clear N1 N2 N3 N4 H1 H2 H3 H4 H5 H6
              rw [hho] at pB
              simp only at pB
              obtain ⟨a, b, rfl⟩ := pB
              replace I := I.alloc (.cells #[str a, str b] 117)
              have p0 : (wB.alloc (.cells #[str a, str b] 117)).cell? ⟨wB.heap.size, 0, none⟩ = some (str a) := by simp [go_sem]
              have p1 : (wB.alloc (.cells #[str a, str b] 117)).cell? ⟨wB.heap.size, 1, none⟩ = some (str b) := by simp [go_sem]
              have zC : (wB.alloc (.cells #[str a, str b] 117)).heap.size = wB.heap.size + 1 := by simp
              have t3 := I.T.c3
              go_wp2_with fail
              clear t3
              generalize wB.alloc (.cells #[str a, str b] 117) = wC at *
              refine (rfind_r _ hs a _ wC I.row.hold (by omega)).mono ?_
              rintro e w' ⟨rfl, rfl⟩
              rw [findEnd_eq]
              have BX := below_set5 (B4.grown I.G (by omega) (fun k hk => by simp at hk; omega)) (Nat.le_refl _) (str fi.method) (str fi.path) (.slice va fi.query.length vc) (.slice ha hs.length hc) (str [])
              have RX := I.R.set fi.method fi.path (.slice va fi.query.length vc) (.slice ha hs.length hc) []
              obtain ⟨⟨t0, t1, t2, t3, t4, tf⟩, ⟨r0, r1, r2, r3, r4, rf⟩, hrow, _⟩ := I
              go_wp2
              refine bodyPost_ret (v := .tuple #[.agg #[str fi.method, str fi.path, .slice va fi.query.length vc, .slice ha hs.length hc, str []], .bool false]) ?_ rfl (rqPost_no HO BX)
              obtain ⟨x0, x1, x2, x3, x4, _⟩ := RX
              simp [results, Tryz.results65, go_sem, x0, x1, x2, x3, x4]
            | some pr =>
              rw [hho] at pB
              simp only at pB
              subst pB
              replace I := I.alloc (.cells #[str pr.1, str pr.2] 117)
              have p0 : (wB.alloc (.cells #[str pr.1, str pr.2] 117)).cell? ⟨wB.heap.size, 0, none⟩ = some (str pr.1) := by simp [go_sem]
              have p1 : (wB.alloc (.cells #[str pr.1, str pr.2] 117)).cell? ⟨wB.heap.size, 1, none⟩ = some (str pr.2) := by simp [go_sem]
              have zC : (wB.alloc (.cells #[str pr.1, str pr.2] 117)).heap.size = wB.heap.size + 1 := by simp
              have t3 := I.T.c3
              go_wp2_with fail
              clear t3
              generalize wB.alloc (.cells #[str pr.1, str pr.2] 117) = wC at *
              refine (rfind_r _ hs pr.1 _ wC I.row.hold (by omega)).mono ?_
              rintro e w' ⟨rfl, rfl⟩
              by_cases hap : findP hs pr.1 = none
              · have HF : Hid (findEnd (findP hs pr.1) = .returned (.tuple #[str [], .bool false])) := by show _ = _; rw [hap]; rfl
                rw [HF.out]
                match k with
                | 0 =>
                  have HO := N3 (by rw [HQ.out, H5 (by first | trivial | rfl) hh])
                  have h12 : (hs.length : Int) = 12 := by omega
                  clear N1 N2 N3 N4 H1 H2 H3 H4 H5 H6
                  have BX := below_set5 (B4.grown I.G (by omega) (fun k hk => by simp at hk; omega)) (Nat.le_refl _) (str fi.method) (str fi.path) (.slice va fi.query.length vc) (.slice ha hs.length hc) (str [])
                  have RX := I.R.set fi.method fi.path (.slice va fi.query.length vc) (.slice ha hs.length hc) []
                  obtain ⟨⟨t0, t1, t2, t3, t4, tf⟩, ⟨r0, r1, r2, r3, r4, rf⟩, hrow, _⟩ := I
                  go_wp2
                  refine bodyPost_ret (v := .tuple #[.agg #[str fi.method, str fi.path, .slice va fi.query.length vc, .slice ha hs.length hc, str []], .bool false]) ?_ rfl (rqPost_no HO BX)
                  obtain ⟨x0, x1, x2, x3, x4, _⟩ := RX
                  simp [results, Tryz.results65, go_sem, x0, x1, x2, x3, x4]
                | k + 1 =>
                  have HX : Hid (headersFrom 12 [] rest = headersFrom k (hs ++ [pr]) rs') := by show _ = _; rw [HQ.out, H6 k pr (by first | trivial | rfl) hh hho hap]
                  have h12 : ((hs.length : Int) == 12) = false := by simp; omega
                  clear N1 N2 N3 N4 H1 H2 H3 H4 H5 H6
                  have HI : Hid (hdInv w4 wC w3.heap.size w.heap.size fi.method fi.path (.slice va fi.query.length vc) (.slice ha hs.length hc) hs) := I
                  have zI := I.G.size
                  clear zC
                  obtain ⟨⟨t0, t1, t2, t3, t4, tf⟩, ⟨r0, r1, r2, r3, r4, rf⟩, hrow, _⟩ := I
                  go_wp2_with (at_builtin; refine papp_law rfl _ _ rfl w4.heap.size hs pr _ rfl (hrow.alloc _) _ rfl _ (heap_alloc_new _ _) (by omega) (by simp; omega) ?_; intro v' w7 row7 hb7; obtain ⟨xa, xn, xc, hv7, hxn⟩ := row7.any; subst hv7; have T7 := (HI.out.T.alloc _).below hb7 (by omega); have c73 := T7.c3; have f73 := T7.fz)
                  have HJ := (HI.out.alloc _).next hb7 row7 (by omega) (by omega) (by omega)
                  have HM2 : Hid (_) := HJ.T.hdLen
                  go_roundw
                  case rel => exact ⟨k, hs ++ [pr], rs', _, rfl, HJ, HX.out, by simp; omega, by omega⟩
                  case measure => rw [HM.out, HM2.out, hlen]; show 13 - xn < _; rw [hxn.out]; simp; omega
              · have HO := N3 (by rw [HQ.out, H4 (by first | trivial | rfl) hh hho hap])
                have HF : Hid (findEnd (findP hs pr.1) = .returned (.tuple #[str ((findP hs pr.1).getD []), .bool true])) := by show _ = _; rw [findEnd_eq]; cases hx : findP hs pr.1 with
                  | none => exact absurd hx hap
                  | some y => rfl
                rw [HF.out]
                clear N1 N2 N3 N4 H1 H2 H3 H4 H5 H6
                have BX := below_set5 (B4.grown I.G (by omega) (fun k hk => by simp at hk; omega)) (Nat.le_refl _) (str fi.method) (str fi.path) (.slice va fi.query.length vc) (.slice ha hs.length hc) (str [])
                have RX := I.R.set fi.method fi.path (.slice va fi.query.length vc) (.slice ha hs.length hc) []
                obtain ⟨⟨t0, t1, t2, t3, t4, tf⟩, ⟨r0, r1, r2, r3, r4, rf⟩, hrow, _⟩ := I
                go_wp2
                refine bodyPost_ret (v := .tuple #[.agg #[str fi.method, str fi.path, .slice va fi.query.length vc, .slice ha hs.length hc, str []], .bool false]) ?_ rfl (rqPost_no HO BX)
                obtain ⟨x0, x1, x2, x3, x4, _⟩ := RX
                simp [results, Tryz.results65, go_sem, x0, x1, x2, x3, x4]
end Go.Proofs.YtinnliapfdpfpaaGreatDoor.R
