/-
  PARSE, the program's: the reader behind its face, what is caught.
-/
import Derived.Test.YtinnliapfdpfpaaGreatDoorRParse
namespace Go.Proofs.YtinnliapfdpfpaaGreatDoor.R
open Go.RowKit
open Go.Proofs.YtinnliapfdpfpaaGreatDoor.C (ret_bool ret_int dec grown_trans grown_set grown_then grown_below)

set_option maxHeartbeats 400000 in
theorem clone_r (l : Bs) (w : World) (hl : l.length ≤ 1000000) : Calls Tryz.prog 57 #[str l] w fun e w' => e = .returned (str l) ∧ Below w.heap.size w w' := by
  have C : Hid (_) := Tryz.stringslite_Clone ⟨l.toArray⟩
  go_enter Tryz.func57, Tryz.ntmps57
  go_wp2_with (go_at_call 95; refine (C.out _ (by simp [ByteArray.size]; omega)).mono ?_; rintro e w' ⟨rfl, hb⟩)
  go_ret
  exact ⟨rfl, hb⟩

abbrev nilP : Value := .slice none 0 0
set_option maxHeartbeats 1000000 in
theorem catch_panicking (a b : Nat) (m p : Bs) (q h : Value) (y : Bs) (x : Int) (u : TypeId) (pv : Value) (older : List PanicEntry) (w : World) (R : reqAt w a m p q h y)
   (hc2 : w.cell? ⟨b, 0, none⟩ = some (.int .i64 x)) (hz2 : w.frozen? ⟨b, 0, none⟩ = false) (hab : ¬ b = a) :
    CallsD Tryz.prog 56 #[.pointer (some ⟨a, 0, none⟩), .pointer (some ⟨b, 0, none⟩)] (.panicking ({ v := .iface u pv, recovered := false } :: older)) w fun e u' w' =>
      e = .returned (.tuple #[]) ∧ u' = .panicking ({ v := .iface u pv, recovered := true } :: older) ∧ w' = (set5 w a (str []) (str []) nilP nilP (str [])).setCell ⟨b, 0, none⟩ (.int .i64 2) := by
  obtain ⟨c0, c1, c2, c3, c4, fz⟩ := R
  refine callsD_of_wpS Tryz.func56 rfl fun c₀ cs hu => ?_
  apply wpS_seq
  apply wpS_region
  simp [wpOpsS, go_sem, recoverD, hu, Tryz.ntmps56, Exit.thenS]
  refine wpS_cond (t := true) (by simp [Act.eval, Array.replicate]) ?_
  simp only [if_true]
  apply wpS_region
  simp [wpOpsS, go_sem, c0, c1, c2, c3, c4, fz, hc2, hz2, bodyPostS, results, Tryz.results56]

set_option maxHeartbeats 400000 in
theorem catch_idle (a b : Nat) (w : World) :
    CallsD Tryz.prog 56 #[.pointer (some ⟨a, 0, none⟩), .pointer (some ⟨b, 0, none⟩)] .returning w fun e u' w' => e = .returned (.tuple #[]) ∧ u' = .returning ∧ w' = w := by
  refine callsD_of_wpS Tryz.func56 rfl fun c₀ cs hu => ?_
  apply wpS_seq
  apply wpS_region
  simp [wpOpsS, go_sem, recoverD, hu, Tryz.ntmps56, Exit.thenS]
  refine wpS_cond (t := false) (by simp [Act.eval, Array.replicate]) ?_
  simp only [Bool.false_eq_true, if_false]
  refine wpS_of_wp (wp_skip ?_)
  cases c₀
  simp_all [bodyPostS, results, Tryz.results56]

/-- How a parsing ends: the request's parts, two rows of their own, the error's number. -/
def pPost (w : World) (x : Int × Req) (e : Ending) (w' : World) : Prop :=
  Below w.heap.size w w' ∧ ∃ vq vh M, e = .returned (.tuple #[.agg #[str x.2.method, str x.2.path, vq, vh, str x.2.body], .int .i64 x.1]) ∧
    prow w' w.heap.size vq x.2.query ∧ w.heap.size ≤ M ∧ prow w' M vh x.2.headers ∧ ∀ k, vq.ownBlock = some k → k < M
theorem pPost_err {w w' : World} {x : Int × Req} (n : Int) (hx : x = (n, {})) (hb : Below w.heap.size w w') : pPost w x (.returned (.tuple #[.agg #[str [], str [], nilP, nilP, str []], .int .i64 n])) w' := by
  subst hx
  exact ⟨hb, nilP, nilP, w.heap.size, rfl, prow_nil _ _, Nat.le_refl _, prow_nil _ _, fun k hk => by cases hk⟩
theorem pPost_ok {w w' : World} {x : Int × Req} {r : Req} {vq vh : Value} (M : Nat) (hx : x = (0, r)) (hb : Below w.heap.size w w') (h1 : prow w' w.heap.size vq r.query) (hM : w.heap.size ≤ M) (h2 : prow w' M vh r.headers) (ht : ∀ k, vq.ownBlock = some k → k < M) :
    pPost w x (.returned (.tuple #[.agg #[str r.method, str r.path, vq, vh, str r.body], .int .i64 0])) w' := by
  subst hx
  exact ⟨hb, vq, vh, M, rfl, h1, hM, h2, ht⟩
theorem p_long {s : Bs} (h : 2000 < s.length) : parseOf s = (1, {}) := by unfold parseOf; rw [if_pos h]
theorem p_none {s : Bs} (h : ¬ 2000 < s.length) (hr : reqOf s = none) : parseOf s = (2, {}) := by unfold parseOf; rw [if_neg h, hr]
theorem p_body {s : Bs} {r : Req} (h : ¬ 2000 < s.length) (hr : reqOf s = some r) (hb : 300 < r.body.length) : parseOf s = (1, {}) := by unfold parseOf; rw [if_neg h, hr]; simp only; rw [if_pos hb]
theorem p_ok {s : Bs} {r : Req} (h : ¬ 2000 < s.length) (hr : reqOf s = some r) (hb : ¬ 300 < r.body.length) : parseOf s = (0, r) := by unfold parseOf; rw [if_neg h, hr]; simp only; rw [if_neg hb]
abbrev zeroErr : Obj := .cells #[.int .i64 0] 22
set_option maxHeartbeats 1000000 in
theorem parse_any (l : Bs) (w : World) (E : Env w) (hl : l.length ≤ 1000000000000) :
    Calls Tryz.prog 36 #[str l] w fun e w' => pPost w (parseOf l) e w' := by
  have hmf : ∀ (fn : Fn) (first cap : Array Value) (w : World), (Instr.makeFunc fn first cap).run Tryz.prog w = .ok (.func fn first cap) w := fun _ _ _ _ => rfl
  have hE0 := E.sz
  have BA : Below w.heap.size w ((w.alloc emptyReq).alloc zeroErr) := ((Below.refl _ w).alloc (Nat.le_refl _) _).alloc (by simp) _
  have RA : reqAt ((w.alloc emptyReq).alloc zeroErr) w.heap.size [] [] nilP nilP [] := (reqAt_new w [] [] nilP nilP []).alloc _
  have zA : ((w.alloc emptyReq).alloc zeroErr).heap.size = w.heap.size + 1 + 1 := by simp
  have cA : ((w.alloc emptyReq).alloc zeroErr).cell? ⟨w.heap.size + 1, 0, none⟩ = some (.int .i64 0) := by simp [go_sem]
  have fA : ((w.alloc emptyReq).alloc zeroErr).frozen? ⟨w.heap.size + 1, 0, none⟩ = false := by simp [go_sem]
  have hne : ¬ w.heap.size + 1 = w.heap.size := by omega
  by_cases hlong : 2000 < l.length
  · have HP : Hid (parseOf l = (1, {})) := p_long hlong
    have hlong' : (2000 : Int) < (l.length : Int) := by omega
    have BX : Below w.heap.size w ((w.alloc emptyReq).alloc (.cells #[.int .i64 1] 22)) := ((Below.refl _ w).alloc (Nat.le_refl _) _).alloc (by simp) _
    have PX := pPost_err 1 HP.out BX
    clear hlong
    go_enter_defers Tryz.func36, Tryz.ntmps36
    go_wp2
    refine leaves_cons (f := 56) (args := #[.pointer (some ⟨w.heap.size, 0, none⟩), .pointer (some ⟨w.heap.size + 1, 0, none⟩)]) (by simp) (by simp [go_sem]) ?_
    refine (catch_idle w.heap.size (w.heap.size + 1) _).mono ?_
    rintro e u' w'' ⟨rfl, rfl, rfl⟩
    simp [Leaves, settle, results, Tryz.results36, go_sem]
    exact PX
  · have hlong' : ¬ ((2000 : Int) < (l.length : Int)) := by omega
    have CL : Hid (_) := clone_r l
    have RR : Hid (_) := fun b => readRequest_any b l
    have N1 := @p_none l hlong
    have N2 := fun r => @p_body l r hlong
    have N3 := fun r => @p_ok l r hlong
    generalize parseOf l = x at *
    go_enter_defers Tryz.func36, Tryz.ntmps36
    go_wp2_with fail
    generalize hwA : (w.alloc emptyReq).alloc zeroErr = wA at *
    clear hwA
    refine (CL.out wA (by omega)).mono ?_
    rintro e wB ⟨rfl, bB⟩
    have zB := bB.size
    have RB := RA.below bB (by omega)
    have cB := (bB.cell (p := ⟨w.heap.size + 1, 0, none⟩) (show w.heap.size + 1 < wA.heap.size by omega)).trans cA
    have fB := (bB.frozen (p := ⟨w.heap.size + 1, 0, none⟩) (show w.heap.size + 1 < wA.heap.size by omega)).trans fA
    have BB : Below w.heap.size w wB := BA.trans (bB.mono (by omega))
    clear RA cA fA BA bB CL
    have BC : Below w.heap.size w (wB.alloc (.cells #[str l] 110)) := BB.alloc (by omega) _
    have RC := RB.alloc (.cells #[str l] 110)
    have cC := cell_alloc cB (.cells #[str l] 110)
    have fC : (wB.alloc (.cells #[str l] 110)).frozen? ⟨w.heap.size + 1, 0, none⟩ = false := (((Below.refl wB.heap.size wB).alloc (Nat.le_refl _) _).frozen (p := ⟨w.heap.size + 1, 0, none⟩) (show w.heap.size + 1 < wB.heap.size by omega)).trans fB
    have hC : rdr (wB.alloc (.cells #[str l] 110)) wB.heap.size l := ⟨by simp [go_sem], by simp [go_sem]⟩
    have EC := E.below BC E.sz
    have zC : (wB.alloc (.cells #[str l] 110)).heap.size = wB.heap.size + 1 := by simp
    clear RB cB fB BB
    go_wp2_with fail
    generalize wB.alloc (.cells #[str l] 110) = wC at *
    refine (RR.out wB.heap.size wC hC EC (by omega) (by omega)).mono ?_
    rintro e wD ⟨gD, pD⟩
    have BD : Below w.heap.size w wD := BC.grown gD (by omega) (fun k hk => by simp at hk; omega)
    have RD := RC.grown gD (by omega)
    have cD := gD.cell cC (by simp; omega)
    have fD := (gD.frozen_far ⟨w.heap.size + 1, 0, none⟩ (show w.heap.size + 1 < wC.heap.size by omega) (by simp; omega)).trans fC
    have zD := gD.size
    clear RC cC fC hC EC gD BC
    cases hr : reqOf l with
    | none =>
      have HX := N1 hr
      rw [hr] at pD
      simp only at pD
      subst pD
      clear N1 N2 N3
      have PX := pPost_err 2 HX ((below_set5 BD (Nat.le_refl _) (str []) (str []) nilP nilP (str [])).setCell (p := ⟨w.heap.size + 1, 0, none⟩) (Nat.le_succ _) (.int .i64 2))
      have RX := (RD.set [] [] nilP nilP []).far (g := w.heap.size + 1) (j := 0) (x := .int .i64 2) (by omega)
      go_wp2
      refine leaves_cons (f := 56) (args := #[.pointer (some ⟨w.heap.size, 0, none⟩), .pointer (some ⟨w.heap.size + 1, 0, none⟩)]) (by simp) (by simp [go_sem]) ?_
      refine (catch_panicking w.heap.size (w.heap.size + 1) [] [] nilP nilP [] 0 284 _ [] _ RD cD fD hne).mono ?_
      rintro e u' w'' ⟨rfl, rfl, rfl⟩
      obtain ⟨x0, x1, x2, x3, x4, _⟩ := RX
      simp [Leaves, settle, results, Tryz.results36, go_sem, x0, x1, x2, x3, x4, cD]
      exact PX
    | some r =>
      rw [hr] at pD
      simp only at pD
      obtain ⟨vq, vh, M, rfl, rowD, hM, hrowD, htop⟩ := pD
      obtain ⟨_, va, vc, hv⟩ := rowD.len
      subst hv
      obtain ⟨_, ha, hc, hv⟩ := hrowD.len
      subst hv
      have RE := RD.set r.method r.path (.slice va r.query.length vc) (.slice ha r.headers.length hc) r.body
      have BE := below_set5 BD (Nat.le_refl _) (str r.method) (str r.path) (.slice va r.query.length vc) (.slice ha r.headers.length hc) (str r.body)
      have rowE := rowD.set5 (b := w.heap.size) (by omega) (str r.method) (str r.path) (.slice va r.query.length vc) (.slice ha r.headers.length hc) (str r.body)
      have hrowE := hrowD.set5 (b := w.heap.size) (by omega) (str r.method) (str r.path) (.slice va r.query.length vc) (.slice ha r.headers.length hc) (str r.body)
      have cE : (set5 wD w.heap.size (str r.method) (str r.path) (.slice va r.query.length vc) (.slice ha r.headers.length hc) (str r.body)).cell? ⟨w.heap.size + 1, 0, none⟩ = some (.int .i64 0) := by simp [go_sem, cD]
      have fE : (set5 wD w.heap.size (str r.method) (str r.path) (.slice va r.query.length vc) (.slice ha r.headers.length hc) (str r.body)).frozen? ⟨w.heap.size + 1, 0, none⟩ = false := by simp [go_sem, fD]
      have zE : (set5 wD w.heap.size (str r.method) (str r.path) (.slice va r.query.length vc) (.slice ha r.headers.length hc) (str r.body)).heap.size = wD.heap.size := by simp
      have HT : Hid (∀ k, (Value.slice va r.query.length vc).ownBlock = some k → k < M) := htop
      clear htop rowD hrowD
      have N2' : Hid (300 < r.body.length → x = (1, {})) := N2 r hr
      have N3' : Hid (¬ 300 < r.body.length → x = (0, r)) := N3 r hr
      clear N1 N2 N3
      have HRD : Hid (reqAt wD w.heap.size [] [] nilP nilP []) := RD
      obtain ⟨d0, d1, d2, d3, d4, df⟩ := RD
      by_cases hb : 300 < r.body.length
      · have HX := N2'.out hb
        have hb' : (300 : Int) < (r.body.length : Int) := by omega
        have PX := pPost_err 1 HX ((below_set5 BE (Nat.le_refl _) (str []) (str []) nilP nilP (str [])).setCell (p := ⟨w.heap.size + 1, 0, none⟩) (Nat.le_succ _) (.int .i64 1))
        have RX := (RE.set [] [] nilP nilP []).far (g := w.heap.size + 1) (j := 0) (x := .int .i64 1) (by omega)
        have HPX : Hid (pPost w x (.returned (.tuple #[.agg #[str [], str [], nilP, nilP, str []], .int .i64 1])) _) := PX
        have HRX : Hid (reqAt _ w.heap.size [] [] nilP nilP []) := RX
        clear PX RX RE BE rowE hrowE cE fE zE N2' N3' hb HRD HX
        go_wp2
        refine leaves_cons (f := 56) (args := #[.pointer (some ⟨w.heap.size, 0, none⟩), .pointer (some ⟨w.heap.size + 1, 0, none⟩)]) (by simp) (by simp [go_sem]) ?_
        refine (catch_idle w.heap.size (w.heap.size + 1) _).mono ?_
        rintro e u' w'' ⟨rfl, rfl, rfl⟩
        obtain ⟨x0, x1, x2, x3, x4, _⟩ := HRX.out
        simp [Leaves, settle, results, Tryz.results36, go_sem, x0, x1, x2, x3, x4, cD]
        exact HPX.out
      · have HX := N3'.out hb
        have hb' : ¬ ((300 : Int) < (r.body.length : Int)) := by omega
        have BF := (below_set5 BE (Nat.le_refl _) (str r.method) (str r.path) (.slice va r.query.length vc) (.slice ha r.headers.length hc) (str r.body)).setCell (p := ⟨w.heap.size + 1, 0, none⟩) (Nat.le_succ _) (.int .i64 0)
        have rowF := ((rowE.set5 (b := w.heap.size) (by omega) (str r.method) (str r.path) (.slice va r.query.length vc) (.slice ha r.headers.length hc) (str r.body)).set (b := w.heap.size + 1) (by omega) 0 (.int .i64 0)).up (B' := w.heap.size) (by omega)
        have hrowF := (hrowE.set5 (b := w.heap.size) (by omega) (str r.method) (str r.path) (.slice va r.query.length vc) (.slice ha r.headers.length hc) (str r.body)).set (b := w.heap.size + 1) (by omega) 0 (.int .i64 0)
        have RX := (RE.set r.method r.path (.slice va r.query.length vc) (.slice ha r.headers.length hc) r.body).far (g := w.heap.size + 1) (j := 0) (x := .int .i64 0) (by omega)
        have HPX : Hid (pPost w x (.returned (.tuple #[.agg #[str r.method, str r.path, .slice va r.query.length vc, .slice ha r.headers.length hc, str r.body], .int .i64 0])) _) := pPost_ok M HX BF rowF (by omega) hrowF HT.out
        have HRX : Hid (reqAt _ w.heap.size r.method r.path (.slice va r.query.length vc) (.slice ha r.headers.length hc) r.body) := RX
        clear RX RE BE rowE hrowE cE fE zE N2' N3' hb HRD HX BF rowF hrowF
        go_wp2
        refine leaves_cons (f := 56) (args := #[.pointer (some ⟨w.heap.size, 0, none⟩), .pointer (some ⟨w.heap.size + 1, 0, none⟩)]) (by simp) (by simp [go_sem]) ?_
        refine (catch_idle w.heap.size (w.heap.size + 1) _).mono ?_
        rintro e u' w'' ⟨rfl, rfl, rfl⟩
        obtain ⟨x0, x1, x2, x3, x4, _⟩ := HRX.out
        simp [Leaves, settle, results, Tryz.results36, go_sem, x0, x1, x2, x3, x4, cD]
        exact HPX.out
end Go.Proofs.YtinnliapfdpfpaaGreatDoor.R
