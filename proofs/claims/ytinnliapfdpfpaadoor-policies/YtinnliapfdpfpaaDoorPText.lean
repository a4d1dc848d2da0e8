/-
  THE READER OF JSON: a whole text; the face that catches what gives up.
-/
import Derived.Test.YtinnliapfdpfpaaDoorPVal
namespace Go.Proofs.YtinnliapfdpfpaaDoor.P
open Go.RowKit

theorem val_all : ∀ k, k ≤ 7 → ValAt k
  | 0, _ => val_zero
  | k + 1, h => val_succ k (by omega) (val_all k (by omega))
def textPost (w : World) (b : Nat) (o : Option J) (e : Ending) (w' : World) : Prop :=
  match o with
  | none => e = .panicked noJ ∧ w.grownBy w' (some b)
  | some j => ∃ v, e = .returned v ∧ w.grownBy w' (some b) ∧ repJ 7 w' (fun g => w.heap.size ≤ g) v j
theorem textPost_no {w w' : World} {b : Nat} {o : Option J} (h : o = none) (g : w.grownBy w' (some b)) : textPost w b o (.panicked noJ) w' := by subst h; exact ⟨rfl, g⟩
theorem textPost_ok {w w' : World} {b : Nat} {o : Option J} {j : J} {v : Value} (h : o = some j) (g : w.grownBy w' (some b)) (r : repJ 7 w' (fun g => w.heap.size ≤ g) v j) : textPost w b o (.returned v) w' := by subst h; exact ⟨v, rfl, g, r⟩
set_option maxHeartbeats 1000000 in
theorem readText_any (b : Nat) (s : List UInt8) (w : World) (h : rdr w b s) (hs : s.length ≤ 4000) :
    Calls Tryd.prog 80 #[.pointer (some ⟨b, 0, none⟩)] w (textPost w b (readJ s)) := by
  have hb := h.lt
  go_enter Tryd.func80, Tryd.ntmps80
  go_wp2_with fail
  refine Calls.mono (val_all 7 (Nat.le_refl _) b s w 0 h hs (by omega) (by omega)) ?_
  cases hv : val 7 s with
  | none =>
    rintro e w1 ⟨rfl, g1⟩
    have HN : Hid (readJ s = none) := by show _ = _; unfold readJ; rw [hv]
    go_wp2
    exact ⟨rfl, textPost_no HN.out g1⟩
  | some p =>
    obtain ⟨j, r⟩ := p
    rintro e w1 ⟨v, rfl, r1, g1, j1⟩
    go_wp2_with fail
    refine (skip_any b r w1 r1).mono ?_
    rintro e w2 ⟨rfl, r2, g2⟩
    have c2 := r2.1
    have G := grown_trans g1 g2
    have z1 := g1.size
    have j2 := repJ.kept 7 j1 (Kept.of_grown1 g2) (fun g hg e => by have : g = b := e; omega)
    cases hr : skip r with
    | nil =>
      have HY : Hid (readJ s = some j) := by show _ = _; unfold readJ; rw [hv]; simp only; rw [if_pos hr]
      rw [hr] at c2
      go_wp2_with (go_at_call 115; refine (need_ok _).mono ?_; rintro e w' ⟨rfl, rfl⟩)
      go_ret
      exact textPost_ok HY.out G j2
    | cons x y =>
      have HN : Hid (readJ s = none) := by show _ = _; unfold readJ; rw [hv]; simp only; rw [if_neg (by rw [hr]; simp)]
      rw [hr] at c2
      go_wp2_with (go_at_call 115; refine (need_no _).mono ?_; rintro e w' ⟨rfl, rfl⟩)
      exact ⟨rfl, textPost_no HN.out G⟩

set_option maxHeartbeats 400000 in
theorem jcatch_panicking (a b : Nat) (v : Value) (x : Int) (u : TypeId) (pv : Value) (older : List PanicEntry) (w : World) (hc : w.cell? ⟨a, 0, none⟩ = some v) (hz : w.frozen? ⟨a, 0, none⟩ = false)
   (hc2 : w.cell? ⟨b, 0, none⟩ = some (.int .i64 x)) (hz2 : w.frozen? ⟨b, 0, none⟩ = false) (_hab : ¬ b = a) :
    CallsD Tryd.prog 79 #[.pointer (some ⟨a, 0, none⟩), .pointer (some ⟨b, 0, none⟩)] (.panicking ({ v := .iface u pv, recovered := false } :: older)) w fun e u' w' =>
      e = .returned (.tuple #[]) ∧ u' = .panicking ({ v := .iface u pv, recovered := true } :: older) ∧ w' = (w.setCell ⟨a, 0, none⟩ .nilIface).setCell ⟨b, 0, none⟩ (.int .i64 2) := by
  refine callsD_of_wpS Tryd.func79 rfl fun c₀ cs hu => ?_
  apply wpS_seq
  apply wpS_region
  simp [wpOpsS, go_sem, recoverD, hu, Tryd.ntmps79, Exit.thenS]
  refine wpS_cond (t := true) (by simp [Act.eval, Array.replicate]) ?_
  simp only [if_true]
  apply wpS_region
  have hc3 : (w.setCell ⟨a, 0, none⟩ .nilIface).cell? ⟨b, 0, none⟩ = some (.int .i64 x) := by rw [World.cell?_setCell_other _ _ _ _ (by simp)]; exact hc2
  simp [wpOpsS, go_sem, hc, hz, hz2, hc3, bodyPostS, results, Tryd.results79]

set_option maxHeartbeats 400000 in
theorem jcatch_idle (a b : Nat) (w : World) :
    CallsD Tryd.prog 79 #[.pointer (some ⟨a, 0, none⟩), .pointer (some ⟨b, 0, none⟩)] .returning w fun e u' w' => e = .returned (.tuple #[]) ∧ u' = .returning ∧ w' = w := by
  refine callsD_of_wpS Tryd.func79 rfl fun c₀ cs hu => ?_
  apply wpS_seq
  apply wpS_region
  simp [wpOpsS, go_sem, recoverD, hu, Tryd.ntmps79, Exit.thenS]
  refine wpS_cond (t := false) (by simp [Act.eval, Array.replicate]) ?_
  simp only [Bool.false_eq_true, if_false]
  refine wpS_of_wp (wp_skip ?_)
  cases c₀
  simp_all [bodyPostS, results, Tryd.results79]
/-- What a reading answers. -/
def readPost (w : World) (o : Option J) (e : Ending) (w' : World) : Prop :=
  Below w.heap.size w w' ∧ match o with
  | none => e = .returned (.tuple #[.nilIface, .int .i64 2])
  | some j => ∃ v, e = .returned (.tuple #[v, .int .i64 0]) ∧ repJ 7 w' (fun g => w.heap.size ≤ g) v j
abbrev jstarted (w : World) (s : List UInt8) : World :=
  ((w.alloc (.cells #[.nilIface] 94)).alloc (.cells #[.int .i64 0] 36)).alloc (.cells #[str s] 131)
theorem jstart_rd (w : World) (s : List UInt8) : rdr (jstarted w s) (w.heap.size + 1 + 1) s := by
  refine ⟨?_, ?_⟩ <;> simp [go_sem]
theorem jstart_cells (w : World) (s : List UInt8) : (jstarted w s).cell? ⟨w.heap.size, 0, none⟩ = some .nilIface ∧ (jstarted w s).cell? ⟨w.heap.size + 1, 0, none⟩ = some (.int .i64 0) ∧
    (jstarted w s).frozen? ⟨w.heap.size, 0, none⟩ = false ∧ (jstarted w s).frozen? ⟨w.heap.size + 1, 0, none⟩ = false ∧ (jstarted w s).heap.size = w.heap.size + 1 + 1 + 1 := by
  refine ⟨?_, ?_, ?_, ?_, ?_⟩ <;> simp [go_sem]
theorem jstarted_below (w : World) (s : List UInt8) : Below w.heap.size w (jstarted w s) :=
  (((Below.refl _ _).alloc (Nat.le_refl _) _).alloc (by simp) _).alloc (by simp; omega) _
set_option maxHeartbeats 1000000 in
theorem read_any (s : List UInt8) (w : World) (hs : s.length ≤ 4000) :
    Calls Tryd.prog 56 #[str s] w (readPost w (readJ s)) := by
  have hmf : ∀ (fn : Fn) (first cap : Array Value) (w : World), (Instr.makeFunc fn first cap).run Tryd.prog w = .ok (.func fn first cap) w := fun _ _ _ _ => rfl
  have S := jstart_rd w s
  obtain ⟨c1, c2, f1, f2, z⟩ := jstart_cells w s
  have SB := jstarted_below w s
  go_enter_defers Tryd.func56, Tryd.ntmps56
  go_wp2_with fail
  refine (readText_any (w.heap.size + 1 + 1) s _ S hs).mono ?_
  cases hd : readJ s with
  | none =>
    rintro e w1 ⟨rfl, hg⟩
    have d1 : w1.cell? ⟨w.heap.size, 0, none⟩ = some .nilIface := hg.cell c1 (by first | (simp; done) | (simp; omega))
    have d2 : w1.cell? ⟨w.heap.size + 1, 0, none⟩ = some (.int .i64 0) := hg.cell c2 (by simp)
    have g1 : w1.frozen? ⟨w.heap.size, 0, none⟩ = false := (hg.frozen_far _ (by first | (simp; done) | (simp; omega)) (by first | (simp; done) | (simp; omega))).trans f1
    have g2 : w1.frozen? ⟨w.heap.size + 1, 0, none⟩ = false := (hg.frozen_far _ (by first | (simp; done) | (simp; omega)) (by first | (simp; done) | (simp; omega))).trans f2
    have z1 : w.heap.size + 1 + 1 + 1 ≤ w1.heap.size := by have := hg.size; omega
    have KB : Below w.heap.size w w1 := SB.grown hg (by omega) (by intro k hk; simp at hk; omega)
    clear S c1 c2 f1 f2 z SB hg
    go_wp2
    refine leaves_cons (f := 79) (args := #[.pointer (some ⟨w.heap.size, 0, none⟩), .pointer (some ⟨w.heap.size + 1, 0, none⟩)]) (by simp) (by simp [go_sem]) ?_
    refine (jcatch_panicking w.heap.size (w.heap.size + 1) .nilIface 0 180 _ [] _ d1 g1 d2 g2 (by omega)).mono ?_
    rintro e u' w'' ⟨rfl, rfl, rfl⟩
    have KB2 := (KB.setCell (p := ⟨w.heap.size, 0, none⟩) (Nat.le_refl _) .nilIface).setCell (p := ⟨w.heap.size + 1, 0, none⟩) (Nat.le_succ _) (.int .i64 2)
    simp [Leaves, settle, results, Tryd.results56, go_sem, readPost, d1, d2, KB2]
  | some j =>
    rintro e w1 ⟨v, rfl, hg, hj⟩
    obtain ⟨vt, vx, rfl⟩ := repJ.iface 7 hj
    have d1 : w1.cell? ⟨w.heap.size, 0, none⟩ = some .nilIface := hg.cell c1 (by first | (simp; done) | (simp; omega))
    have d2 : w1.cell? ⟨w.heap.size + 1, 0, none⟩ = some (.int .i64 0) := hg.cell c2 (by simp)
    have g1 : w1.frozen? ⟨w.heap.size, 0, none⟩ = false := (hg.frozen_far _ (by first | (simp; done) | (simp; omega)) (by first | (simp; done) | (simp; omega))).trans f1
    have g2 : w1.frozen? ⟨w.heap.size + 1, 0, none⟩ = false := (hg.frozen_far _ (by first | (simp; done) | (simp; omega)) (by first | (simp; done) | (simp; omega))).trans f2
    have z1 : w.heap.size + 1 + 1 + 1 ≤ w1.heap.size := by have := hg.size; omega
    have KB : Below w.heap.size w w1 := SB.grown hg (by omega) (by intro k hk; simp at hk; omega)
    rw [z] at hj
    have hj2 : repJ 7 ((w1.setCell ⟨w.heap.size, 0, none⟩ (.iface vt vx)).setCell ⟨w.heap.size + 1, 0, none⟩ (.int .i64 0)) (fun g => w.heap.size ≤ g) (.iface vt vx) j :=
      repJ.mono 7 (repJ.kept 7 (repJ.kept 7 hj (Kept.of_grown1 (grown_set _ _ _ _)) (fun g hg e => by omega)) (Kept.of_grown1 (grown_set _ _ _ _)) (fun g hg e => by omega)) (fun g hg => by omega)
    clear S c1 c2 f1 f2 z SB hg hj
    go_wp2
    refine leaves_cons (f := 79) (args := #[.pointer (some ⟨w.heap.size, 0, none⟩), .pointer (some ⟨w.heap.size + 1, 0, none⟩)]) (by simp) (by simp [go_sem]) ?_
    refine (jcatch_idle w.heap.size (w.heap.size + 1) _).mono ?_
    rintro e u' w'' ⟨rfl, rfl, rfl⟩
    have KB2 := (KB.setCell (p := ⟨w.heap.size, 0, none⟩) (Nat.le_refl _) (.iface vt vx)).setCell (p := ⟨w.heap.size + 1, 0, none⟩) (Nat.le_succ _) (.int .i64 0)
    simp [Leaves, settle, results, Tryd.results56, go_sem, readPost, d1, d2, KB2]
    rw [hd]
    exact hj2
end Go.Proofs.YtinnliapfdpfpaaDoor.P
