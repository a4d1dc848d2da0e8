import Derived.Test.YtaeabbmekmjcaaaGreatDoorCAll
namespace Go.Proofs.YtaeabbmekmjcaaaGreatDoor.C
open Go.RowKit
set_option maxHeartbeats 400000 in
theorem catch_panicking (a b : Nat) (s : ByteArray) (x : Int) (u : TypeId) (pv : Value) (older : List PanicEntry) (w : World) (hc : w.cell? ⟨a, 0, none⟩ = some (.string s)) (hz : w.frozen? ⟨a, 0, none⟩ = false)
   (hc2 : w.cell? ⟨b, 0, none⟩ = some (.int .i64 x)) (hz2 : w.frozen? ⟨b, 0, none⟩ = false) (_hab : ¬ b = a) :
    CallsD Tryz.prog 122 #[.pointer (some ⟨a, 0, none⟩), .pointer (some ⟨b, 0, none⟩)] (.panicking ({ v := .iface u pv, recovered := false } :: older)) w fun e u' w' =>
      e = .returned (.tuple #[]) ∧ u' = .panicking ({ v := .iface u pv, recovered := true } :: older) ∧ w' = (w.setCell ⟨a, 0, none⟩ (.string ⟨#[]⟩)).setCell ⟨b, 0, none⟩ (.int .i64 2) := by
  refine callsD_of_wpS Tryz.func122 rfl fun c₀ cs hu => ?_
  apply wpS_seq
  apply wpS_region
  simp [wpOpsS, go_sem, recoverD, hu, Tryz.ntmps122, Exit.thenS]
  refine wpS_cond (t := true) (by simp [Act.eval, Array.replicate]) ?_
  simp only [if_true]
  apply wpS_region
  have hc3 : (w.setCell ⟨a, 0, none⟩ (.string ⟨#[]⟩)).cell? ⟨b, 0, none⟩ = some (.int .i64 x) := by rw [World.cell?_setCell_other _ _ _ _ (by simp)]; exact hc2
  simp [wpOpsS, go_sem, hc, hz, hz2, hc3, bodyPostS, results, Tryz.results122]

set_option maxHeartbeats 400000 in
theorem catch_idle (a b : Nat) (w : World) :
    CallsD Tryz.prog 122 #[.pointer (some ⟨a, 0, none⟩), .pointer (some ⟨b, 0, none⟩)] .returning w fun e u' w' => e = .returned (.tuple #[]) ∧ u' = .returning ∧ w' = w := by
  refine callsD_of_wpS Tryz.func122 rfl fun c₀ cs hu => ?_
  apply wpS_seq
  apply wpS_region
  simp [wpOpsS, go_sem, recoverD, hu, Tryz.ntmps122, Exit.thenS]
  refine wpS_cond (t := false) (by simp [Act.eval, Array.replicate]) ?_
  simp only [Bool.false_eq_true, if_false]
  refine wpS_of_wp (wp_skip ?_)
  cases c₀
  simp_all [bodyPostS, results, Tryz.results122]
/-- What a decoding answers. -/
def decEnd : Option (List UInt8) → Ending
  | some t => .returned (.tuple #[.string ⟨t.toArray⟩, .int .i64 0])
  | none => .returned (.tuple #[.string ⟨#[]⟩, .int .i64 2])

abbrev started (w : World) (s : ByteArray) (p : Bool) : World :=
  ((w.alloc (.cells #[.string ⟨#[]⟩] 9)).alloc (.cells #[.int .i64 0] 22)).alloc (.cells #[.string s, .bool p] 142)
theorem start_rd (w : World) (s : ByteArray) (p : Bool) : rdOk (w.heap.size + 1 + 1) p (started w s p) s.data.toList := by
  refine ⟨?_, ?_, ?_⟩
  · simp [go_sem, rest]
  · simp [go_sem]
  · simp [go_sem]
theorem start_cells (w : World) (s : ByteArray) (p : Bool) : (started w s p).cell? ⟨w.heap.size, 0, none⟩ = some (.string ⟨#[]⟩) ∧ (started w s p).cell? ⟨w.heap.size + 1, 0, none⟩ = some (.int .i64 0) ∧
    (started w s p).frozen? ⟨w.heap.size, 0, none⟩ = false ∧ (started w s p).frozen? ⟨w.heap.size + 1, 0, none⟩ = false ∧ (started w s p).heap.size = w.heap.size + 1 + 1 + 1 := by
  refine ⟨?_, ?_, ?_, ?_, ?_⟩ <;> simp [go_sem]
theorem started_below (w : World) (s : ByteArray) (p : Bool) : Below w.heap.size w (started w s p) :=
  (((Below.refl _ _).alloc (Nat.le_refl _) _).alloc (by simp) _).alloc (by simp; omega) _

set_option maxHeartbeats 400000 in
theorem decode_any (s : ByteArray) (p : Bool) (w : World) (hs : s.size ≤ 4000000000) :
    Calls Tryz.prog 93 #[.string s, .bool p] w fun e w' => e = decEnd (dec p s.data.toList) ∧ Below w.heap.size w w' := by
  have hmf : ∀ (fn : Fn) (first cap : Array Value) (w : World), (Instr.makeFunc fn first cap).run Tryz.prog w = .ok (.func fn first cap) w := fun _ _ _ _ => rfl
  have S := start_rd w s p
  obtain ⟨c1, c2, f1, f2, z⟩ := start_cells w s p
  have SB := started_below w s p
  go_enter_defers Tryz.func93, Tryz.ntmps93
  go_wp2_with fail
  refine (readAll_any (w.heap.size + 1 + 1) p s.data.toList _ S (by rw [z]; omega) (by simpa using hs)).mono ?_
  rintro e w1 ⟨rfl, hg⟩
  have d1 : w1.cell? ⟨w.heap.size, 0, none⟩ = some (.string ⟨#[]⟩) := hg.cell c1 (by first | (simp; done) | (simp; omega))
  have d2 : w1.cell? ⟨w.heap.size + 1, 0, none⟩ = some (.int .i64 0) := hg.cell c2 (by simp)
  have g1 : w1.frozen? ⟨w.heap.size, 0, none⟩ = false := (hg.frozen_far _ (by first | (simp; done) | (simp; omega)) (by first | (simp; done) | (simp; omega))).trans f1
  have g2 : w1.frozen? ⟨w.heap.size + 1, 0, none⟩ = false := (hg.frozen_far _ (by first | (simp; done) | (simp; omega)) (by first | (simp; done) | (simp; omega))).trans f2
  have z1 : w.heap.size + 1 + 1 + 1 ≤ w1.heap.size := by have := hg.size; omega
  have KB : Below w.heap.size w w1 := SB.grown hg (by omega) (by intro k hk; simp at hk; omega)
  clear S c1 c2 f1 f2 z SB hg
  cases hd : dec p s.data.toList with
  | none =>
    simp only [rdEnd]
    go_wp2
    refine leaves_cons (f := 122) (args := #[.pointer (some ⟨w.heap.size, 0, none⟩), .pointer (some ⟨w.heap.size + 1, 0, none⟩)]) (by simp) (by simp [go_sem]) ?_
    refine (catch_panicking w.heap.size (w.heap.size + 1) ⟨#[]⟩ 0 165 _ [] _ d1 g1 d2 g2 (by omega)).mono ?_
    rintro e u' w'' ⟨rfl, rfl, rfl⟩
    have KB2 := (KB.setCell (p := ⟨w.heap.size, 0, none⟩) (Nat.le_refl _) (.string ⟨#[]⟩)).setCell (p := ⟨w.heap.size + 1, 0, none⟩) (Nat.le_succ _) (.int .i64 2)
    rw [hd]
    simp [Leaves, settle, results, Tryz.results93, go_sem, decEnd, d1, d2, KB2]
  | some t =>
    simp only [rdEnd]
    go_wp2
    refine leaves_cons (f := 122) (args := #[.pointer (some ⟨w.heap.size, 0, none⟩), .pointer (some ⟨w.heap.size + 1, 0, none⟩)]) (by simp) (by simp [go_sem]) ?_
    refine (catch_idle w.heap.size (w.heap.size + 1) _).mono ?_
    rintro e u' w'' ⟨rfl, rfl, rfl⟩
    have KB2 := (KB.setCell (p := ⟨w.heap.size, 0, none⟩) (Nat.le_refl _) (.string ⟨t.toArray⟩)).setCell (p := ⟨w.heap.size + 1, 0, none⟩) (Nat.le_succ _) (.int .i64 0)
    rw [hd]
    simp [Leaves, settle, results, Tryz.results93, go_sem, decEnd, d1, d2, KB2]
end Go.Proofs.YtaeabbmekmjcaaaGreatDoor.C
