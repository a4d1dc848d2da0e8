/-
  POLICIES: the face that reads a text.
-/
import Derived.Test.YtinnliapfdpfpaaDoorPPol
import Derived.BigRegion
namespace Go.Proofs.YtinnliapfdpfpaaDoor.P
open Go.RowKit

set_option maxHeartbeats 400000 in
theorem rcatch_panicking (a b : Nat) (v : Value) (x : Int) (u : TypeId) (pv : Value) (older : List PanicEntry) (w : World) (hc : w.cell? ⟨a, 0, none⟩ = some v) (hz : w.frozen? ⟨a, 0, none⟩ = false)
   (hc2 : w.cell? ⟨b, 0, none⟩ = some (.int .i64 x)) (hz2 : w.frozen? ⟨b, 0, none⟩ = false) (_hab : ¬ b = a) :
    CallsD Tryd.prog 55 #[.pointer (some ⟨a, 0, none⟩), .pointer (some ⟨b, 0, none⟩)] (.panicking ({ v := .iface u pv, recovered := false } :: older)) w fun e u' w' =>
      e = .returned (.tuple #[]) ∧ u' = .panicking ({ v := .iface u pv, recovered := true } :: older) ∧ w' = (w.setCell ⟨a, 0, none⟩ (.slice none 0 0)).setCell ⟨b, 0, none⟩ (.int .i64 3) := by
  refine callsD_of_wpS Tryd.func55 rfl fun c₀ cs hu => ?_
  apply wpS_seq
  apply wpS_region
  simp [wpOpsS, go_sem, recoverD, hu, Tryd.ntmps55, Exit.thenS]
  refine wpS_cond (t := true) (by simp [Act.eval, Array.replicate]) ?_
  simp only [if_true]
  apply wpS_region
  have hc3 : (w.setCell ⟨a, 0, none⟩ (.slice none 0 0)).cell? ⟨b, 0, none⟩ = some (.int .i64 x) := by rw [World.cell?_setCell_other _ _ _ _ (by simp)]; exact hc2
  simp [wpOpsS, go_sem, hc, hz, hz2, hc3, bodyPostS, results, Tryd.results55]

set_option maxHeartbeats 400000 in
theorem rcatch_idle (a b : Nat) (w : World) :
    CallsD Tryd.prog 55 #[.pointer (some ⟨a, 0, none⟩), .pointer (some ⟨b, 0, none⟩)] .returning w fun e u' w' => e = .returned (.tuple #[]) ∧ u' = .returning ∧ w' = w := by
  refine callsD_of_wpS Tryd.func55 rfl fun c₀ cs hu => ?_
  apply wpS_seq
  apply wpS_region
  simp [wpOpsS, go_sem, recoverD, hu, Tryd.ntmps55, Exit.thenS]
  refine wpS_cond (t := false) (by simp [Act.eval, Array.replicate]) ?_
  simp only [Bool.false_eq_true, if_false]
  refine wpS_of_wp (wp_skip ?_)
  cases c₀
  simp_all [bodyPostS, results, Tryd.results55]
/-- What the reading of a policy answers. -/
def rdPost (w : World) (o : Int × List RuleP) (e : Ending) (w' : World) : Prop :=
  Below w.heap.size w w' ∧ ∃ sl, e = .returned (.tuple #[.agg #[sl], .int .i64 o.1]) ∧ policyAt w' sl o.2
theorem policyAt_nil (w : World) : policyAt w (.slice none 0 0) [] := ⟨[], World.ownsRow_nil _ _ _ _, fun g e => (by cases e), trivial⟩
theorem rdPost_of {w w' : World} {o o' : Int × List RuleP} {e : Ending} (h : o = o') (k : rdPost w o' e w') : rdPost w o e w' := by rw [h]; exact k
abbrev rstarted (w : World) : World :=
  (w.alloc (.cells #[.slice none 0 0] 65)).alloc (.cells #[.int .i64 0] 36)
theorem rstart_cells (w : World) : (rstarted w).cell? ⟨w.heap.size, 0, none⟩ = some (.slice none 0 0) ∧ (rstarted w).cell? ⟨w.heap.size + 1, 0, none⟩ = some (.int .i64 0) ∧
    (rstarted w).frozen? ⟨w.heap.size, 0, none⟩ = false ∧ (rstarted w).frozen? ⟨w.heap.size + 1, 0, none⟩ = false ∧ (rstarted w).heap.size = w.heap.size + 1 + 1 := by
  refine ⟨?_, ?_, ?_, ?_, ?_⟩ <;> simp [go_sem]
theorem rstarted_below (w : World) : Below w.heap.size w (rstarted w) :=
  ((Below.refl _ _).alloc (Nat.le_refl _) _).alloc (by simp) _
set_option maxHeartbeats 2000000 in
theorem rread_any (s : List UInt8) (w : World) (hs : s.length ≤ 9223372036854775807) :
    Calls Tryd.prog 34 #[str s] w (rdPost w (rulesOf s)) := by
  have hmf : ∀ (fn : Fn) (first cap : Array Value) (w : World), (Instr.makeFunc fn first cap).run Tryd.prog w = .ok (.func fn first cap) w := fun _ _ _ _ => rfl
  obtain ⟨c1, c2, f1, f2, z⟩ := rstart_cells w
  have SB := rstarted_below w
  by_cases hlong : 300 < s.length
  · have HO : Hid (rulesOf s = (1, [])) := by show _ = _; unfold rulesOf; rw [if_pos hlong]
    have t1 : decide (300 < (s.length : Int)) = true := by simp; omega
    clear hlong
    go_enter_defers Tryd.func34, Tryd.ntmps34
    go_wp2
    refine leaves_cons (f := 55) (args := #[.pointer (some ⟨w.heap.size, 0, none⟩), .pointer (some ⟨w.heap.size + 1, 0, none⟩)]) (by simp) (by simp [go_sem]) ?_
    refine (rcatch_idle w.heap.size (w.heap.size + 1) _).mono ?_
    rintro e u' w'' ⟨rfl, rfl, rfl⟩
    rw [HO.out]
    simp [Leaves, settle, results, Tryd.results34, go_sem]
    exact ⟨((Below.refl _ _).alloc (Nat.le_refl _) _).alloc (by simp) _, _, rfl, policyAt_nil _⟩
  · have t1 : decide (300 < (s.length : Int)) = false := by simp; omega
    have R : Hid (_) := read_any s
    have hs3 : s.length ≤ 4000 := by omega
    cases hj : readJ s with
    | none =>
      have HO : Hid (rulesOf s = (2, [])) := by show _ = _; unfold rulesOf; rw [if_neg hlong, hj]
      clear hlong
      go_enter_defers Tryd.func34, Tryd.ntmps34
      go_wp2_with fail
      refine (R.out _ hs3).mono ?_
      rw [hj]
      rintro e w1 ⟨b1, rfl⟩
      have d1 := (b1.cell (p := ⟨w.heap.size, 0, none⟩) (show w.heap.size < _ by rw [z]; omega)).trans c1
      have d2 := (b1.cell (p := ⟨w.heap.size + 1, 0, none⟩) (show w.heap.size + 1 < _ by rw [z]; omega)).trans c2
      have g1 := (b1.frozen (p := ⟨w.heap.size, 0, none⟩) (show w.heap.size < _ by rw [z]; omega)).trans f1
      have g2 := (b1.frozen (p := ⟨w.heap.size + 1, 0, none⟩) (show w.heap.size + 1 < _ by rw [z]; omega)).trans f2
      have K1 : Below w.heap.size w w1 := below_trans SB b1
      clear c1 c2 f1 f2 z SB b1 R
      go_wp2_with fail
      go_region
      all_goals go_wp2
      refine leaves_cons (f := 55) (args := #[.pointer (some ⟨w.heap.size, 0, none⟩), .pointer (some ⟨w.heap.size + 1, 0, none⟩)]) (by simp) (by simp [go_sem]) ?_
      refine (rcatch_idle w.heap.size (w.heap.size + 1) _).mono ?_
      rintro e u' w'' ⟨rfl, rfl, rfl⟩
      rw [HO.out]
      simp [Leaves, settle, results, Tryd.results34, go_sem, d1, d2]
      exact ⟨(((K1.setCell (p := ⟨w.heap.size + 1, 0, none⟩) (Nat.le_succ _) _).setCell (p := ⟨w.heap.size, 0, none⟩) (Nat.le_refl _) _).setCell (p := ⟨w.heap.size + 1, 0, none⟩) (Nat.le_succ _) _).drew, _, rfl, policyAt_nil _⟩
    | some j =>
      have PY : Hid (_) := readPolicy_any 7
      have HO : Hid (rulesOf s = match policyJ j with | none => (3, []) | some l => (0, l)) := by show _ = _; unfold rulesOf; rw [if_neg hlong, hj]; rfl
      clear hlong
      go_enter_defers Tryd.func34, Tryd.ntmps34
      go_wp2_with fail
      refine (R.out _ hs3).mono ?_
      rw [hj]
      rintro e w1 ⟨b1, v, rfl, rj⟩
      obtain ⟨vt, vx, rfl⟩ := repJ.iface 7 rj
      have z1 := b1.size
      have rj1 : repJ 7 (w1.setCell ⟨w.heap.size + 1, 0, none⟩ (.int .i64 0)) (inW (w1.setCell ⟨w.heap.size + 1, 0, none⟩ (.int .i64 0))) (.iface vt vx) j := by
        refine repJ.mono 7 (repJ.kept 7 (repJ.inb 7 rj) (Kept.of_grown1 (grown_set _ _ _ _)) (fun g hg e => ?_)) (fun g hg => ?_)
        · rw [z] at hg; omega
        · show g < _
          simp; exact hg.2
      have d1 := (b1.cell (p := ⟨w.heap.size, 0, none⟩) (show w.heap.size < _ by rw [z]; omega)).trans c1
      have d2 := (b1.cell (p := ⟨w.heap.size + 1, 0, none⟩) (show w.heap.size + 1 < _ by rw [z]; omega)).trans c2
      have g1 := (b1.frozen (p := ⟨w.heap.size, 0, none⟩) (show w.heap.size < _ by rw [z]; omega)).trans f1
      have g2 := (b1.frozen (p := ⟨w.heap.size + 1, 0, none⟩) (show w.heap.size + 1 < _ by rw [z]; omega)).trans f2
      have K1 : Below w.heap.size w w1 := below_trans SB b1
      rw [z] at z1
      have K2 := K1.setCell (p := ⟨w.heap.size + 1, 0, none⟩) (Nat.le_succ _) (.int .i64 0)
      have x1 : (w1.setCell ⟨w.heap.size + 1, 0, none⟩ (.int .i64 0)).cell? ⟨w.heap.size, 0, none⟩ = some (.slice none 0 0) := by simp [go_sem, d1]
      have x2 : (w1.setCell ⟨w.heap.size + 1, 0, none⟩ (.int .i64 0)).cell? ⟨w.heap.size + 1, 0, none⟩ = some (.int .i64 0) := by simp [go_sem, d2]
      have y1 : (w1.setCell ⟨w.heap.size + 1, 0, none⟩ (.int .i64 0)).frozen? ⟨w.heap.size, 0, none⟩ = false := by simp [go_sem, g1]
      have y2 : (w1.setCell ⟨w.heap.size + 1, 0, none⟩ (.int .i64 0)).frozen? ⟨w.heap.size + 1, 0, none⟩ = false := by simp [go_sem, g2]
      have z2 : w.heap.size + 1 + 1 ≤ (w1.setCell ⟨w.heap.size + 1, 0, none⟩ (.int .i64 0)).heap.size := by simpa using z1
      clear c1 c2 f1 f2 z SB b1 R rj K1
      go_wp2_with fail
      clear d1 d2 g1 g2 z1
      generalize (w1.setCell ⟨w.heap.size + 1, 0, none⟩ (.int .i64 0)) = W at *
      refine (PY.out (.iface vt vx) j W rj1).mono ?_
      clear PY rj1
      cases hp : policyJ j with
      | none =>
        rintro e w2 ⟨b2, rfl⟩
        rw [hp] at HO
        have d1 := (b2.cell (p := ⟨w.heap.size, 0, none⟩) (show w.heap.size < _ by omega)).trans x1
        have d2 := (b2.cell (p := ⟨w.heap.size + 1, 0, none⟩) (show w.heap.size + 1 < _ by omega)).trans x2
        have g1 := (b2.frozen (p := ⟨w.heap.size, 0, none⟩) (show w.heap.size < _ by omega)).trans y1
        have g2 := (b2.frozen (p := ⟨w.heap.size + 1, 0, none⟩) (show w.heap.size + 1 < _ by omega)).trans y2
        have K3 := below_trans K2 b2
        clear x1 x2 y1 y2 z2 b2 K2
        go_wp2
        refine leaves_cons (f := 55) (args := #[.pointer (some ⟨w.heap.size, 0, none⟩), .pointer (some ⟨w.heap.size + 1, 0, none⟩)]) (by simp) (by simp [go_sem]) ?_
        refine (rcatch_panicking w.heap.size (w.heap.size + 1) (.slice none 0 0) 0 162 _ [] _ d1 g1 d2 g2 (by omega)).mono ?_
        rintro e u' w'' ⟨rfl, rfl, rfl⟩
        rw [HO.out]
        simp [Leaves, settle, results, Tryd.results34, go_sem, d1, d2]
        exact ⟨(K3.setCell (p := ⟨w.heap.size, 0, none⟩) (Nat.le_refl _) _).setCell (p := ⟨w.heap.size + 1, 0, none⟩) (Nat.le_succ _) _, _, rfl, policyAt_nil _⟩
      | some rs =>
        rintro e w2 ⟨b2, sl, rfl, hpol⟩
        rw [hp] at HO
        have z3 := b2.size
        have d1 := (b2.cell (p := ⟨w.heap.size, 0, none⟩) (show w.heap.size < _ by omega)).trans x1
        have d2 := (b2.cell (p := ⟨w.heap.size + 1, 0, none⟩) (show w.heap.size + 1 < _ by omega)).trans x2
        have g1 := (b2.frozen (p := ⟨w.heap.size, 0, none⟩) (show w.heap.size < _ by omega)).trans y1
        have g2 := (b2.frozen (p := ⟨w.heap.size + 1, 0, none⟩) (show w.heap.size + 1 < _ by omega)).trans y2
        have K3 := below_trans K2 b2
        have hpol2 : policyAt ((w2.setCell ⟨w.heap.size, 0, none⟩ sl).setCell ⟨w.heap.size + 1, 0, none⟩ (.int .i64 0)) sl rs := by
          refine ((hpol.inb.kept (Kept.of_grown1 (grown_set _ _ _ _)) (fun g hg e => by omega)).kept (Kept.of_grown1 (grown_set _ _ _ _)) (fun g hg e => by omega)).mono (fun g hg => ?_)
          show g < _
          simp; exact hg.2
        obtain ⟨av, nv, rfl⟩ : ∃ a c, sl = .slice a rs.length c := by
          obtain ⟨us, h1, _⟩ := hpol
          obtain ⟨a, c, e, _⟩ := row_view h1
          exact ⟨a, c, e⟩
        clear x1 x2 y1 y2 z2 b2 K2 hpol
        go_wp2
        refine leaves_cons (f := 55) (args := #[.pointer (some ⟨w.heap.size, 0, none⟩), .pointer (some ⟨w.heap.size + 1, 0, none⟩)]) (by simp) (by simp [go_sem]) ?_
        refine (rcatch_idle w.heap.size (w.heap.size + 1) _).mono ?_
        rintro e u' w'' ⟨rfl, rfl, rfl⟩
        rw [HO.out]
        simp [Leaves, settle, results, Tryd.results34, go_sem, d1, d2]
        exact ⟨(K3.setCell (p := ⟨w.heap.size, 0, none⟩) (Nat.le_refl _) _).setCell (p := ⟨w.heap.size + 1, 0, none⟩) (Nat.le_succ _) _, _, rfl, hpol2⟩
end Go.Proofs.YtinnliapfdpfpaaDoor.P
