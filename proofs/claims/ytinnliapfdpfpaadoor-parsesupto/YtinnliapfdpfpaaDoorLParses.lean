/-
  THE LAW PARSES, WALKED.
-/
import Derived.Test.YtinnliapfdpfpaaDoorLLook
import Derived.Test.YtinnliapfdpfpaaDoorRLp
namespace Go.Proofs.YtinnliapfdpfpaaDoor.R
open Go.RowKit
open Go.Proofs.YtinnliapfdpfpaaDoor.C (ret_bool)

set_option maxHeartbeats 400000 in
theorem num_any (x : Int) (w : World) : Calls Tryd.prog 16 #[.int .i64 x] w fun e w' => e = .returned (.int .i64 x) ∧ w = w' := by
  go_enter Tryd.func16, Tryd.ntmps16
  go_wp2
  go_ret
  exact ⟨rfl, rfl⟩
theorem reqAt.via {w w' : World} {b : Nat} {m p : Bs} {q h : Value} {y : Bs} (H : reqAt w b m p q h y) (hb : w'.heap[b]? = w.heap[b]?) : reqAt w' b m p q h y :=
  ⟨(World.cell?_of_block (a := ⟨b, 0, none⟩) hb).trans H.c0, (World.cell?_of_block (a := ⟨b, 1, none⟩) hb).trans H.c1, (World.cell?_of_block (a := ⟨b, 2, none⟩) hb).trans H.c2, (World.cell?_of_block (a := ⟨b, 3, none⟩) hb).trans H.c3, (World.cell?_of_block (a := ⟨b, 4, none⟩) hb).trans H.c4, fun j => (World.frozen?_of_block (a := ⟨b, j, none⟩) hb).trans (H.fz j)⟩
theorem reqAt.lt {w : World} {b : Nat} {m p : Bs} {q h : Value} {y : Bs} (H : reqAt w b m p q h y) : b < w.heap.size := World.block_lt_of_cell? w _ H.c0
theorem book.drewN {w : World} {b B : Nat} {vL vM : Value} {K : List (Value × Bs)} {nx : Nat} (I : book w b B vL vM K nx) (n : Nat) : book (w.drewN n) b B vL vM K nx := I.below (below_drewN (Below.refl _ _) n)
theorem St.below {w0 w : World} {b B : Nat} {vL0 vM0 vL vM v : Value} {K0 K : List (Value × Bs)} {nx n xb N : Nat} {m : Bs} (S : St w0 w b B vL0 vM0 K0 vL vM K nx v n m xb N) {C : Nat} (hC : C ≤ w0.heap.size) (hb : C ≤ b)
    (hL : ∀ k, vL0.ownBlock = some k → C ≤ k) (hM : ∀ k, vM0.ownBlock = some k → C ≤ k) (hv : ∀ k, v.ownBlock = some k → C ≤ k) : Below C w0 w :=
  ⟨S.io.1, S.io.2.1, S.io.2.2, S.size, fun k hk => S.block k (by omega) (by omega) (fun e => by have := hL k e; omega) (fun e => by have := hM k e; omega) (fun e => by have := hv k e; omega)⟩
theorem queryFrom_cap : ∀ (ps : List Bs) (l q : Ps), queryFrom l ps = some q → q.length ≤ l.length + ps.length := by
  intro ps
  induction ps with
  | nil => intro l q h; simp [queryFrom] at h; subst h; simp
  | cons t r ih =>
    intro l q h
    unfold queryFrom at h
    split at h
    · cases h
    · rename_i p _
      unfold addP at h
      split at h
      · cases h
      · rename_i l' hl'
        split at hl'
        · cases hl'
          have := ih _ _ h
          simp at this ⊢; omega
        · cases hl'
theorem first_cap {t : Bs} {f : First} (h : firstOf t = some f) : f.query.length ≤ t.length + 1 := by
  unfold firstOf at h
  have c1 := (cut_le t [32]).2
  have c2 := (cut_le (Lib.cut t [32]).2.1 [63]).2
  split at h
  · split at h
    · cases h
    · split at h
      · rw [Option.map_eq_some_iff] at h
        obtain ⟨q, hq, rfl⟩ := h
        have := queryFrom_cap _ _ _ hq
        have h2 := split_len (Lib.cut (Lib.cut t [32]).2.1 [63]).2.1 [38] (by simp)
        simp at this ⊢
        omega
      · cases h; simp
  · cases h
theorem req_cap {s : Bs} {r : Req} (h : reqOf s = some r) : r.query.length ≤ s.length + 1 ∧ r.headers.length ≤ 12 := by
  unfold reqOf at h
  have c1 := (cut_le s [10]).1
  split at h
  · split at h
    · cases h
    · rename_i f hf
      split at h
      · cases h
      · rename_i x hs body hx
        split at h
        · cases h
          have h1 := first_cap hf
          have h2 := headers_cap _ _ _ _ hx
          simp at h2 ⊢
          omega
        · cases h
  · cases h
theorem parse_cap (s : Bs) : (parseOf s).2.query.length ≤ 2001 ∧ (parseOf s).2.headers.length ≤ 12 := by
  unfold parseOf
  split
  · simp
  · split
    · simp
    · rename_i hl _ r hr
      have := req_cap hr
      split
      · simp
      · simp; omega
abbrev emptyBook : Obj := .cells #[.slice none 0 0, .slice none 0 0, .int .i64 0] 32

set_option maxRecDepth 20000 in
set_option maxHeartbeats 4000000 in
theorem parses_any (A : Option Addr) (C : Nat) (ts : List Bs) (w : World) (E : Env w) (hc : ∀ k (hk : k < ts.length), ∃ b o, A = some ⟨b, o, none⟩ ∧ b < w.heap.size ∧ w.cell? ⟨b, o + k, none⟩ = some (str ts[k]))
    (hN : ts.length ≤ 1048576) (ht : ∀ t ∈ ts, t.length ≤ 1048576) :
    Calls Tryd.prog 4 #[.slice A ts.length C] w fun e w' => e = .returned (.bool true) ∧ Below w.heap.size w w' := by
  have hE0 := E.sz
  have B0 : Below w.heap.size w (w.alloc emptyBook) := (Below.refl _ w).alloc (Nat.le_refl _) _
  have z0 : (w.alloc emptyBook).heap.size = w.heap.size + 1 := by simp
  have I0 : book (w.alloc emptyBook) w.heap.size (w.heap.size + 1) nilP nilP [] 0 :=
    ⟨by simp [go_sem], by simp [go_sem], by simp [go_sem], fun j => by simp [go_sem], World.ownsRow_nil _ _ _ _, srow_nil _ _, by omega, by omega, (fun g hg => by cases hg), (fun x hx => by cases hx), (fun x hx => by cases hx)⟩
  go_enter Tryd.func4, Tryd.ntmps4
  go_wp2
  generalize w.alloc emptyBook = w0 at *
  go_loopw [4] (fun i wr => ∃ (k : Nat) (vL vM : Value) (K : List (Value × Bs)), k ≤ ts.length ∧ i = .int .i64 k ∧ book wr w.heap.size (w.heap.size + 1) vL vM K (2 * k) ∧ K.length = 8 * k ∧ Below w.heap.size w wr) (fun i _ => ts.length - (intOf i).toNat)
  case atStart => exact ⟨0, nilP, nilP, [], Nat.zero_le _, rfl, I0, rfl, B0⟩
  case round =>
    obtain ⟨k, vL, vM, K, hk, rfl, I, hK, BR⟩ := hrel
    clear I0 B0 z0
    by_cases hlt : k < ts.length
    · obtain ⟨b0, o0, rfl, hb0, hcell⟩ := hc k hlt
      have htl := ht ts[k] (List.getElem_mem hlt)
      clear hc ht
      generalize ts[k] = t at *
      have ER := E.below BR E.sz
      have zR := BR.size
      have wB := I.wB
      have hcR := (BR.cell (p := ⟨b0, o0 + k, none⟩) hb0).trans hcell
      have P1 : Hid (_) := lparse_any t
      have P2 : Hid (_) := rparse_any t
      obtain ⟨cap1, cap2⟩ := parse_cap t
      generalize parseOf t = x at *
      go_wp2_with fail
      refine (P1.out wr ER (by omega)).mono ?_
      rintro e w1 ⟨b1, vq, vh, M, rfl, rq1, hM, rh1, top⟩
      obtain ⟨_, qa, qc, hv⟩ := rq1.len
      subst hv
      obtain ⟨_, ha, hc, hv⟩ := rh1.len
      subst hv
      have z1 := b1.size
      have Lb : Hid (∀ j, vL.ownBlock = some j → w.heap.size + 1 ≤ j ∧ j < wr.heap.size) := I.blkL
      have Mb : Hid (∀ j, vM.ownBlock = some j → w.heap.size + 1 ≤ j ∧ j < wr.heap.size) := I.blkM
      have Kb : Hid (∀ y ∈ K, ∀ j, y.1.ownBlock = some j → j < wr.heap.size) := fun y hy j hj => (I.good y hy).blk j hj
      have Qb : Hid (∀ j, (Value.slice qa x.2.query.length qc).ownBlock = some j → wr.heap.size ≤ j ∧ j < w1.heap.size) := World.ownsRow.lt rq1
      have Hb : Hid (∀ j, (Value.slice ha x.2.headers.length hc).ownBlock = some j → M ≤ j ∧ j < w1.heap.size) := World.ownsRow.lt rh1
      have TP : Hid (∀ j, (Value.slice qa x.2.query.length qc).ownBlock = some j → j < M) := top
      clear top
      -- the program's request, in memory
      have I2 := (I.below b1).below ((Below.refl w1.heap.size w1).alloc (Nat.le_refl _) (.cells #[str x.2.method, str x.2.path, .slice qa x.2.query.length qc, .slice ha x.2.headers.length hc, str x.2.body] 35))
      have A2 := reqAt_new w1 x.2.method x.2.path (.slice qa x.2.query.length qc) (.slice ha x.2.headers.length hc) x.2.body
      have rq2 := rq1.alloc (.cells #[str x.2.method, str x.2.path, .slice qa x.2.query.length qc, .slice ha x.2.headers.length hc, str x.2.body] 35)
      have rh2 := rh1.alloc (.cells #[str x.2.method, str x.2.path, .slice qa x.2.query.length qc, .slice ha x.2.headers.length hc, str x.2.body] 35)
      have B2 : Below w.heap.size w (w1.alloc (.cells #[str x.2.method, str x.2.path, .slice qa x.2.query.length qc, .slice ha x.2.headers.length hc, str x.2.body] 35)) := (BR.trans (b1.mono zR)).alloc (by omega) _
      have hc2 := (B2.cell (p := ⟨b0, o0 + k, none⟩) hb0).trans hcell
      have z2 : (w1.alloc (.cells #[str x.2.method, str x.2.path, .slice qa x.2.query.length qc, .slice ha x.2.headers.length hc, str x.2.body] 35)).heap.size = w1.heap.size + 1 := by simp
      clear I rq1 rh1 b1 BR hcR ER P1
      go_wp2_with fail
      clear hc2
      generalize w1.alloc (.cells #[str x.2.method, str x.2.path, .slice qa x.2.query.length qc, .slice ha x.2.headers.length hc, str x.2.body] 35) = w2 at *
      refine (P2.out w2 (by omega)).mono ?_
      rintro e w3 ⟨b3, wq, wh, rfl, sq3, sh3⟩
      obtain ⟨_, qa', qc', hv⟩ := sq3.len
      subst hv
      obtain ⟨_, ha', hc', hv⟩ := sh3.len
      subst hv
      have z3 := b3.size
      have Qb' : Hid (∀ j, (Value.slice qa' x.2.query.length qc').ownBlock = some j → w2.heap.size ≤ j ∧ j < w3.heap.size) := World.ownsRow.lt sq3
      have Hb' : Hid (∀ j, (Value.slice ha' x.2.headers.length hc').ownBlock = some j → w2.heap.size ≤ j ∧ j < w3.heap.size) := World.ownsRow.lt sh3
      have I4 := (I2.below b3).below ((Below.refl w3.heap.size w3).alloc (Nat.le_refl _) (.cells #[str x.2.method, str x.2.path, .slice qa' x.2.query.length qc', .slice ha' x.2.headers.length hc', str x.2.body] 35))
      have A4 := (A2.below b3 (by omega)).alloc (.cells #[str x.2.method, str x.2.path, .slice qa' x.2.query.length qc', .slice ha' x.2.headers.length hc', str x.2.body] 35)
      have D4 := reqAt_new w3 x.2.method x.2.path (.slice qa' x.2.query.length qc') (.slice ha' x.2.headers.length hc') x.2.body
      have rq4 := (rq2.below b3).alloc (.cells #[str x.2.method, str x.2.path, .slice qa' x.2.query.length qc', .slice ha' x.2.headers.length hc', str x.2.body] 35)
      have rh4 := (rh2.below b3).alloc (.cells #[str x.2.method, str x.2.path, .slice qa' x.2.query.length qc', .slice ha' x.2.headers.length hc', str x.2.body] 35)
      have sq4 := sq3.alloc (.cells #[str x.2.method, str x.2.path, .slice qa' x.2.query.length qc', .slice ha' x.2.headers.length hc', str x.2.body] 35)
      have sh4 := sh3.alloc (.cells #[str x.2.method, str x.2.path, .slice qa' x.2.query.length qc', .slice ha' x.2.headers.length hc', str x.2.body] 35)
      have B4 : Below w.heap.size w (w3.alloc (.cells #[str x.2.method, str x.2.path, .slice qa' x.2.query.length qc', .slice ha' x.2.headers.length hc', str x.2.body] 35)) := (B2.trans (b3.mono (by omega))).alloc (by omega) _
      have z4 : (w3.alloc (.cells #[str x.2.method, str x.2.path, .slice qa' x.2.query.length qc', .slice ha' x.2.headers.length hc', str x.2.body] 35)).heap.size = w3.heap.size + 1 := by simp
      clear I2 A2 rq2 rh2 sq3 sh3 b3 B2 P2
      have y2 := A4.c2
      have y3 := A4.c3
      go_wp2_with fail
      clear y2 y3
      generalize w3.alloc (.cells #[str x.2.method, str x.2.path, .slice qa' x.2.query.length qc', .slice ha' x.2.headers.length hc', str x.2.body] 35) = w4 at *
      refine (samePairs_any _ _ x.2.query _ _ w4 rq4.hold sq4.hold (by omega)).mono ?_
      rintro e w' ⟨rfl, n4, rfl⟩
      replace I4 := I4.drewN n4
      replace A4 := A4.drewN n4
      replace D4 := D4.drewN n4
      replace rq4 : prow (w4.drewN n4) _ _ _ := rq4
      replace rh4 : prow (w4.drewN n4) _ _ _ := rh4
      replace sh4 : prow (w4.drewN n4) _ _ _ := sh4
      replace B4 := below_drewN B4 n4
      replace z4 : (w4.drewN n4).heap.size = w3.heap.size + 1 := z4
      clear sq4
      generalize w4.drewN n4 = W4 at *
      have y2 := A4.c2
      go_wp2_with fail
      clear y2
      refine (owns_any w.heap.size (w.heap.size + 1) vL vM K (2 * k) qa qc x.2.query W4 I4 (rq4.up (by omega))
        (fun g hg => ⟨fun e => by have := (Lb.out g e).2; have := (Qb.out g hg).1; omega, fun e => by have := (Mb.out g e).2; have := (Qb.out g hg).1; omega⟩)
        (fun y hy g hg e => by have := Kb.out y hy g e; have := (Qb.out g hg).1; omega) (by omega) (by omega) (by omega)).mono ?_
      rintro e w5 ⟨rfl, vL1, vM1, K1, m1, xb1, N1, S1, hK1⟩
      have A5 := A4.via (S1.block w1.heap.size (by omega) (by omega) (fun e => by have := (Lb.out _ e).2; omega) (fun e => by have := (Mb.out _ e).2; omega) (fun e => by have := (Qb.out _ e).2; omega))
      have D5 := D4.via (S1.block w3.heap.size (by omega) (by omega) (fun e => by have := (Lb.out _ e).2; omega) (fun e => by have := (Mb.out _ e).2; omega) (fun e => by have := (Qb.out _ e).2; omega))
      have rh5 : prow w5 M (.slice ha x.2.headers.length hc) x.2.headers := owns_via rh4 (fun j hj => by
        have h1 := Hb.out j hj
        exact S1.block j (by omega) (by omega) (fun e => by have := (Lb.out j e).2; omega) (fun e => by have := (Mb.out j e).2; omega) (fun e => by have := TP.out j e; omega))
      have sh5 : prow w5 w2.heap.size (.slice ha' x.2.headers.length hc') x.2.headers := owns_via sh4 (fun j hj => by
        have h1 := Hb'.out j hj
        exact S1.block j (by omega) (by omega) (fun e => by have := (Lb.out j e).2; omega) (fun e => by have := (Mb.out j e).2; omega) (fun e => by have := (Qb.out j e).2; omega))
      have B5 := B4.trans (S1.below (C := w.heap.size) (by omega) (Nat.le_refl _) (fun j e => by have := (Lb.out j e).1; omega) (fun j e => by have := (Mb.out j e).1; omega) (fun j e => by have := (Qb.out j e).1; omega))
      have nL : Hid (∀ g, g < W4.heap.size → vL.ownBlock ≠ some g → vL1.ownBlock ≠ some g) := S1.newL
      have nM : Hid (∀ g, g < W4.heap.size → vM.ownBlock ≠ some g → vM1.ownBlock ≠ some g) := S1.newM
      have nK : Hid (∀ y ∈ K1, ∀ g, g < W4.heap.size → y.1.ownBlock = some g → (Value.slice qa x.2.query.length qc).ownBlock = some g ∨ ∃ z ∈ K, z.1.ownBlock = some g) := S1.newK
      have I5 := S1.I
      have z5 := S1.size
      have Lb1 : Hid (∀ j, vL1.ownBlock = some j → w.heap.size + 1 ≤ j ∧ j < w5.heap.size) := I5.blkL
      have Mb1 : Hid (∀ j, vM1.ownBlock = some j → w.heap.size + 1 ≤ j ∧ j < w5.heap.size) := I5.blkM
      clear S1 A4 D4 rh4 sh4 B4 I4 rq4
      have y2 := A5.c3
      have y3 := D5.c3
      go_wp2_with fail
      clear y2 y3
      refine (samePairs_any _ _ x.2.headers _ _ w5 rh5.hold sh5.hold (by omega)).mono ?_
      rintro e w' ⟨rfl, n5, rfl⟩
      replace I5 := I5.drewN n5
      replace A5 := A5.drewN n5
      replace D5 := D5.drewN n5
      replace rh5 : prow (w5.drewN n5) _ _ _ := rh5
      replace B5 := below_drewN B5 n5
      have z6 : (w5.drewN n5).heap.size = w5.heap.size := rfl
      clear sh5
      generalize w5.drewN n5 = W5 at *
      have y2 := A5.c3
      go_wp2_with fail
      clear y2
      refine (owns_any w.heap.size (w.heap.size + 1) vL1 vM1 K1 (2 * k + 1) ha hc x.2.headers W5 I5 (rh5.up (by omega))
        (fun g hg => by
          have h1 := Hb.out g hg
          exact ⟨nL.out g (by omega) (fun e => by have := (Lb.out g e).2; omega), nM.out g (by omega) (fun e => by have := (Mb.out g e).2; omega)⟩)
        (fun y hy g hg e => by
          have h1 := Hb.out g hg
          rcases nK.out y hy g (by omega) e with h | ⟨z, hz, h⟩
          · have := TP.out g h; omega
          · have := Kb.out z hz g h; omega) (by omega) (by omega) (by omega)).mono ?_
      rintro e w7 ⟨rfl, vL2, vM2, K2, m2, xb2, N2, S2, hK2⟩
      have A7 := A5.via (S2.block w1.heap.size (by omega) (by omega) (nL.out _ (by omega) (fun e => by have := (Lb.out _ e).2; omega)) (nM.out _ (by omega) (fun e => by have := (Mb.out _ e).2; omega)) (fun e => by have := (Hb.out _ e).2; omega))
      have D7 := D5.via (S2.block w3.heap.size (by omega) (by omega) (nL.out _ (by omega) (fun e => by have := (Lb.out _ e).2; omega)) (nM.out _ (by omega) (fun e => by have := (Mb.out _ e).2; omega)) (fun e => by have := (Hb.out _ e).2; omega))
      have B7 := B5.trans (S2.below (C := w.heap.size) (by omega) (Nat.le_refl _) (fun j e => by have := (Lb1.out j e).1; omega) (fun j e => by have := (Mb1.out j e).1; omega) (fun j e => by have := (Hb.out j e).1; omega))
      have I7 := S2.I
      clear S2 A5 D5 rh5 B5 I5
      obtain ⟨a0, a1, a2, a3, a4, af⟩ := A7
      obtain ⟨d0, d1, d2, d3, d4, df⟩ := D7
      go_wp2_with (first | (go_at_call 16; refine (num_any _ _).mono ?_; rintro e w' ⟨rfl, rfl⟩) | (go_at_call 17; refine (looks_any w.heap.size (w.heap.size + 1) vL2 vM2 K2 (2 * k + 1 + 1) _ I7 (by omega)).mono ?_; rintro e w' ⟨rfl, n7, rfl⟩))
      go_roundw
      case rel => exact ⟨k + 1, vL2, vM2, K2, by omega, by go_num, by have := I7.drewN n7; rwa [show 2 * k + 1 + 1 = 2 * (k + 1) from by omega] at this, by omega, below_drewN B7 n7⟩
      case measure => simp [intOf]; omega
    · go_wp2
      go_ret
      exact ⟨rfl, BR⟩
end Go.Proofs.YtinnliapfdpfpaaDoor.R
