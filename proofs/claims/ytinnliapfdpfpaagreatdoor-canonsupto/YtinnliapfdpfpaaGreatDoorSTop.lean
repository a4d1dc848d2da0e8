/-
  THE DOCUMENT'S ANSWER: Parse.
-/
import Derived.Test.YtinnliapfdpfpaaGreatDoorSReq
namespace Go.Proofs.YtinnliapfdpfpaaGreatDoor.R
open Go.RowKit
open Go.Proofs.YtinnliapfdpfpaaGreatDoor.C (ret_bool ret_int dec)

/-- What the document's parsing answers. -/
def psPost (w : World) (x : Int × Req) (e : Ending) (w' : World) : Prop :=
  Below w.heap.size w w' ∧ ∃ vq vh, e = .returned (.tuple #[.agg #[str x.2.method, str x.2.path, vq, vh, str x.2.body], .int .i64 x.1]) ∧ prow w' w.heap.size vq x.2.query ∧ prow w' w.heap.size vh x.2.headers
theorem psPost_err {w w' : World} {x : Int × Req} (n : Int) (hx : x = (n, {})) (hb : Below w.heap.size w w') : psPost w x (.returned (.tuple #[.agg #[str [], str [], nilP, nilP, str []], .int .i64 n])) w' := by
  subst hx
  exact ⟨hb, nilP, nilP, rfl, prow_nil _ _, prow_nil _ _⟩
theorem psPost_ok {w w' : World} {x : Int × Req} {r : Req} {vq vh : Value} (hx : x = (0, r)) (hb : Below w.heap.size w w') (h1 : prow w' w.heap.size vq r.query) (h2 : prow w' w.heap.size vh r.headers) :
    psPost w x (.returned (.tuple #[.agg #[str r.method, str r.path, vq, vh, str r.body], .int .i64 0])) w' := by
  subst hx
  exact ⟨hb, vq, vh, rfl, h1, h2⟩

set_option maxHeartbeats 2000000 in
theorem rparse_any (l : Bs) (w : World) (hl : l.length ≤ 1000000000000) :
    Calls Tryz.prog 38 #[str l] w fun e w' => psPost w (parseOf l) e w' := by
  have BA : Below w.heap.size w ((w.alloc emptyReq).alloc emptyReq) := ((Below.refl _ w).alloc (Nat.le_refl _) _).alloc (by simp) _
  have RA : reqAt ((w.alloc emptyReq).alloc emptyReq) w.heap.size [] [] nilP nilP [] := (reqAt_new w [] [] nilP nilP []).alloc _
  have TA : reqAt ((w.alloc emptyReq).alloc emptyReq) (w.heap.size + 1) [] [] nilP nilP [] := by have := reqAt_new (w.alloc emptyReq) [] [] nilP nilP []; simpa using this
  have zA : ((w.alloc emptyReq).alloc emptyReq).heap.size = w.heap.size + 2 := by simp
  have hne : ¬ w.heap.size = w.heap.size + 1 := by omega
  by_cases hlong : 2000 < l.length
  · have HP : Hid (parseOf l = (1, {})) := p_long hlong
    have hlong' : (2000 : Int) < (l.length : Int) := by omega
    clear hlong
    go_enter Tryz.func38, Tryz.ntmps38
    go_wp2
    refine bodyPost_ret (v := .tuple #[.agg #[str [], str [], nilP, nilP, str []], .int .i64 1]) ?_ rfl (psPost_err 1 HP.out BA)
    simp [results, Tryz.results38, go_sem]
  · have hlong' : ¬ ((2000 : Int) < (l.length : Int)) := by omega
    have C : Hid (_) := rrequest_any l
    have N1 := @p_none l hlong
    have N2 := fun r => @p_body l r hlong
    have N3 := fun r => @p_ok l r hlong
    generalize parseOf l = x at *
    go_enter Tryz.func38, Tryz.ntmps38
    go_wp2_with fail
    generalize (w.alloc emptyReq).alloc emptyReq = wA at *
    refine (C.out wA (by omega)).mono ?_
    rintro e wB ⟨bB, pB⟩
    have BB := BA.trans (bB.mono (by omega))
    have RB := RA.below bB (by omega)
    have TB := TA.below bB (by omega)
    have zB := bB.size
    have hnB : ¬ w.heap.size = wB.heap.size := by omega
    have hnT : ¬ w.heap.size + 1 = wB.heap.size := by omega
    clear BA RA TA bB C
    cases hr : reqOf l with
    | none =>
      have HX := N1 hr
      rw [hr] at pB
      simp only at pB
      obtain ⟨m, p, y, a, a', n, c, n', c', rfl⟩ := pB
      clear N1 N2 N3
      have RC := RB.alloc (.cells #[str m, str p, .slice a n c, .slice a' n' c', str y] 80)
      have TC := TB.alloc (.cells #[str m, str p, .slice a n c, .slice a' n' c', str y] 80)
      have BC := BB.alloc (show w.heap.size ≤ wB.heap.size by omega) (.cells #[str m, str p, .slice a n c, .slice a' n' c', str y] 80)
      have RX := RC.set [] [] nilP nilP []
      have BX := below_set5 BC (Nat.le_refl _) (str []) (str []) nilP nilP (str [])
      obtain ⟨t0, t1, t2, t3, t4, tf⟩ := TC
      obtain ⟨r0, r1, r2, r3, r4, rf⟩ := RC
      clear RB TB
      go_wp2
      refine bodyPost_ret (v := .tuple #[.agg #[str [], str [], nilP, nilP, str []], .int .i64 2]) ?_ rfl (psPost_err 2 HX BX)
      obtain ⟨x0, x1, x2, x3, x4, _⟩ := RX
      simp [results, Tryz.results38, go_sem, x0, x1, x2, x3, x4]
    | some r =>
      rw [hr] at pB
      simp only at pB
      obtain ⟨vq, vh, rfl, rowq, rowh⟩ := pB
      obtain ⟨_, va, vc, hv⟩ := rowq.len
      subst hv
      obtain ⟨_, ha, hc, hv⟩ := rowh.len
      subst hv
      have N2' : Hid (300 < r.body.length → x = (1, {})) := N2 r hr
      have N3' : Hid (¬ 300 < r.body.length → x = (0, r)) := N3 r hr
      clear N1 N2 N3
      have RC := RB.alloc (.cells #[str r.method, str r.path, .slice va r.query.length vc, .slice ha r.headers.length hc, str r.body] 80)
      have TC := TB.alloc (.cells #[str r.method, str r.path, .slice va r.query.length vc, .slice ha r.headers.length hc, str r.body] 80)
      have SC := reqAt_new wB r.method r.path (.slice va r.query.length vc) (.slice ha r.headers.length hc) r.body
      have BC := BB.alloc (show w.heap.size ≤ wB.heap.size by omega) (.cells #[str r.method, str r.path, .slice va r.query.length vc, .slice ha r.headers.length hc, str r.body] 80)
      have rowqC := rowq.alloc (.cells #[str r.method, str r.path, .slice va r.query.length vc, .slice ha r.headers.length hc, str r.body] 80)
      have rowhC := rowh.alloc (.cells #[str r.method, str r.path, .slice va r.query.length vc, .slice ha r.headers.length hc, str r.body] 80)
      clear RB TB rowq rowh BB
      by_cases hb : 300 < r.body.length
      · have HX := N2'.out hb
        have hb' : (300 : Int) < (r.body.length : Int) := by omega
        have RX := RC.set [] [] nilP nilP []
        have BX := below_set5 BC (Nat.le_refl _) (str []) (str []) nilP nilP (str [])
        obtain ⟨t0, t1, t2, t3, t4, tf⟩ := TC
        obtain ⟨r0, r1, r2, r3, r4, rf⟩ := RC
        clear SC hb N2' N3' rowqC rowhC
        go_wp2
        refine bodyPost_ret (v := .tuple #[.agg #[str [], str [], nilP, nilP, str []], .int .i64 1]) ?_ rfl (psPost_err 1 HX BX)
        obtain ⟨x0, x1, x2, x3, x4, _⟩ := RX
        simp [results, Tryz.results38, go_sem, x0, x1, x2, x3, x4]
      · have HX := N3'.out hb
        have hb' : ¬ ((300 : Int) < (r.body.length : Int)) := by omega
        have RX := RC.set r.method r.path (.slice va r.query.length vc) (.slice ha r.headers.length hc) r.body
        have BX := below_set5 BC (Nat.le_refl _) (str r.method) (str r.path) (.slice va r.query.length vc) (.slice ha r.headers.length hc) (str r.body)
        have rowqX := (rowqC.set5 (b := w.heap.size) (by omega) (str r.method) (str r.path) (.slice va r.query.length vc) (.slice ha r.headers.length hc) (str r.body)).up (B' := w.heap.size) (by omega)
        have rowhX := (rowhC.set5 (b := w.heap.size) (by omega) (str r.method) (str r.path) (.slice va r.query.length vc) (.slice ha r.headers.length hc) (str r.body)).up (B' := w.heap.size) (by omega)
        obtain ⟨r0, r1, r2, r3, r4, rf⟩ := RC
        clear TC SC hb N2' N3' rowqC rowhC
        go_wp2
        refine bodyPost_ret (v := .tuple #[.agg #[str r.method, str r.path, .slice va r.query.length vc, .slice ha r.headers.length hc, str r.body], .int .i64 0]) ?_ rfl (psPost_ok HX BX rowqX rowhX)
        obtain ⟨x0, x1, x2, x3, x4, _⟩ := RX
        simp [results, Tryz.results38, go_sem, x0, x1, x2, x3, x4]
end Go.Proofs.YtinnliapfdpfpaaGreatDoor.R
