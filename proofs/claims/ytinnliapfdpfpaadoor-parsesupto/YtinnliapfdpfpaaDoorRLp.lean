/-
  PARSE at the program's face.
-/
import Derived.Test.YtinnliapfdpfpaaDoorRTop
namespace Go.Proofs.YtinnliapfdpfpaaDoor.R
open Go.RowKit

set_option maxHeartbeats 1000000 in
theorem lparse_any (l : Bs) (w : World) (E : Env w) (hl : l.length ≤ 1000000000000) :
    Calls Tryd.prog 12 #[str l] w fun e w' => pPost w (parseOf l) e w' := by
  have BA : Below w.heap.size w (w.alloc emptyReq) := (Below.refl _ w).alloc (Nat.le_refl _) _
  have RA : reqAt (w.alloc emptyReq) w.heap.size [] [] nilP nilP [] := reqAt_new w [] [] nilP nilP []
  have zA : (w.alloc emptyReq).heap.size = w.heap.size + 1 := by simp
  have EA := E.below BA E.sz
  have C : Hid (_) := parse_any l
  generalize parseOf l = x at *
  go_enter Tryd.func12, Tryd.ntmps12
  go_wp2_with fail
  generalize w.alloc emptyReq = wA at *
  refine (C.out wA EA hl).mono ?_
  rintro e wB ⟨bB, vq, vh, M, rfl, rowB, hM, hrowB, htop⟩
  obtain ⟨_, va, vc, hv⟩ := rowB.len
  subst hv
  obtain ⟨_, ha, hc, hv⟩ := hrowB.len
  subst hv
  have RB := RA.below bB (by omega)
  have BB := BA.trans (bB.mono (by omega))
  have RX := RB.set x.2.method x.2.path (.slice va x.2.query.length vc) (.slice ha x.2.headers.length hc) x.2.body
  have BX := below_set5 BB (Nat.le_refl _) (str x.2.method) (str x.2.path) (.slice va x.2.query.length vc) (.slice ha x.2.headers.length hc) (str x.2.body)
  have rowX := (rowB.set5 (b := w.heap.size) (by omega) (str x.2.method) (str x.2.path) (.slice va x.2.query.length vc) (.slice ha x.2.headers.length hc) (str x.2.body)).up (B' := w.heap.size) (by omega)
  have hrowX := hrowB.set5 (b := w.heap.size) (by omega) (str x.2.method) (str x.2.path) (.slice va x.2.query.length vc) (.slice ha x.2.headers.length hc) (str x.2.body)
  have HP : Hid (pPost w x (.returned (.tuple #[.agg #[str x.2.method, str x.2.path, .slice va x.2.query.length vc, .slice ha x.2.headers.length hc, str x.2.body], .int .i64 x.1])) _) := ⟨BX, _, _, M, rfl, rowX, by omega, hrowX, htop⟩
  have HRX : Hid (reqAt _ w.heap.size x.2.method x.2.path (.slice va x.2.query.length vc) (.slice ha x.2.headers.length hc) x.2.body) := RX
  clear RX BX rowX hrowX rowB hrowB htop C EA RA BA
  obtain ⟨d0, d1, d2, d3, d4, df⟩ := RB
  go_wp2
  refine bodyPost_ret (v := .tuple #[.agg #[str x.2.method, str x.2.path, .slice va x.2.query.length vc, .slice ha x.2.headers.length hc, str x.2.body], .int .i64 x.1]) ?_ rfl HP.out
  obtain ⟨x0, x1, x2, x3, x4, _⟩ := HRX.out
  simp [results, Tryd.results12, go_sem, x0, x1, x2, x3, x4]
end Go.Proofs.YtinnliapfdpfpaaDoor.R
