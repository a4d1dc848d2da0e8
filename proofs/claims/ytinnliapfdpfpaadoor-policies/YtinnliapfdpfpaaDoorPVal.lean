/-
  THE READER OF JSON: an object; any value.
-/
import Derived.Test.YtinnliapfdpfpaaDoorPObj
namespace Go.Proofs.YtinnliapfdpfpaaDoor.P
open Go.RowKit

def objPost (k : Nat) (w : World) (b : Nat) (o : Option (List (List UInt8 × J) × List UInt8)) (e : Ending) (w' : World) : Prop :=
  match o with
  | none => e = .panicked noJ ∧ w.grownBy w' (some b)
  | some (l, r) => ∃ sl, e = .returned sl ∧ rdr w' b r ∧ w.grownBy w' (some b) ∧ repJ (k + 1) w' (fun g => w.heap.size ≤ g) (.iface 138 sl) (.obj l)
theorem OQ.start (k b : Nat) (d : Int) (w : World) (hb : b < w.heap.size) :
    OQ k b w.heap.size (w.heap.size + 1) (w.heap.size + 1 + 1) (w.heap.size + 1 + 1 + 1) d w [] (((w.alloc (.cells #[.pointer (some ⟨b, 0, none⟩)] 159)).alloc (.cells #[.int .i64 d] 3)).alloc (.cells #[.slice none 0 0] 138)) := by
  refine ⟨by omega, by omega, by omega, by omega, by omega, by omega, by omega, by omega, by omega, by simp, by omega, by omega, ?_, ?_, ?_, ?_, .slice none 0 0, [], ?_, World.ownsRow_nil _ _ _ _, trivial⟩
  · simp [go_sem]
  · simp [go_sem]
  · simp [go_sem]
  · exact (((Kept.refl (· = b) w).alloc _).alloc _).alloc _ |>.grown
  · simp [go_sem]
theorem OQ.done {k b R O V B : Nat} {d : Int} {w0 : World} {acc : List (List UInt8 × J)} {w : World} (q : OQ k b R O V B d w0 acc w) :
    ∃ sl, w.cell? ⟨V, 0, none⟩ = some sl ∧ repJ (k + 1) w (fun g => w0.heap.size ≤ g) (.iface 138 sl) (.obj acc) := by
  obtain ⟨sl, us, h1, h2, h3⟩ := q.vals
  have := q.oldB
  refine ⟨sl, h1, sl, us, rfl, row_mono h2, fun g hg => by have := (World.ownsRow.lt h2 g hg).1; omega, all2_mono (fun _ _ hr => ⟨hr.1, repJ.mono k hr.2 (fun g hg => ⟨by omega, hg.2⟩)⟩) h3⟩
set_option maxHeartbeats 1000000 in
theorem readObject_any (k b : Nat) (d : Int) (s : List UInt8) (w : World) (IH : ValAt k) (hd : d + k = 7) (hd0 : 0 ≤ d) (h : rdr w b s) (hs : s.length ≤ 4000) :
    Calls Tryd.prog 139 #[.pointer (some ⟨b, 0, none⟩), .int .i64 d] w (objPost k w b (listOf (memOf (val k)) [125] s)) := by
  have hmf : ∀ (fn : Fn) (first cap : Array Value) (w : World), (Instr.makeFunc fn first cap).run Tryd.prog w = .ok (.func fn first cap) w := fun _ _ _ _ => rfl
  have q0 := OQ.start k b d w h.lt
  have r0 : rdr (((w.alloc (.cells #[.pointer (some ⟨b, 0, none⟩)] 159)).alloc (.cells #[.int .i64 d] 3)).alloc (.cells #[.slice none 0 0] 138)) b s :=
    ((((Kept.refl (fun _ => False) w).alloc _).alloc _).alloc _).rdr h (fun e => e)
  have C : Hid (_) := readList_any (memOf (val k)) (memOf_shrinks (val_shrinks k)) (memOf_skip _) b 154 #[.pointer (some ⟨w.heap.size, 0, none⟩), .pointer (some ⟨w.heap.size + 1 + 1, 0, none⟩), .pointer (some ⟨w.heap.size + 1, 0, none⟩)] [125]
    (enters_of Tryd.func154 (by kernel_rfl) rfl)
    (OQ k b w.heap.size (w.heap.size + 1) (w.heap.size + 1 + 1) (w.heap.size + 1 + 1 + 1) d w) (fun w' => w.grownBy w' (some b)) (fun _ _ _ q h => q.grown h) (fun _ _ q => q.kept)
    (fun acc s w1 q r hl => objOne k b _ _ _ _ d w IH hd hd0 acc s w1 q r hl) s
  go_enter Tryd.func139, Tryd.ntmps139
  go_wp2_with fail
  refine (C.out _ r0 hs q0).mono ?_
  clear C
  cases hl : listOf (memOf (val k)) [125] s with
  | none =>
    rintro e w1 ⟨rfl, g1⟩
    go_wp2
    exact ⟨rfl, rfl, g1⟩
  | some p =>
    obtain ⟨l, r⟩ := p
    rintro e w1 ⟨rfl, r1, q1⟩
    obtain ⟨sl, c1, j1⟩ := q1.done
    have g1 := q1.kept
    clear q1 q0 r0
    go_wp2
    go_ret
    rw [hl]
    exact ⟨sl, rfl, r1, g1, j1⟩

theorem valPost_no {k : Nat} {w w' : World} {b : Nat} {o : Option (J × List UInt8)} (h : o = none) (g : w.grownBy w' (some b)) : valPost k w b o (.panicked noJ) w' := by subst h; exact ⟨rfl, g⟩
theorem valPost_ok {k : Nat} {w w' : World} {b : Nat} {o : Option (J × List UInt8)} {j : J} {r : List UInt8} {v : Value} (h : o = some (j, r)) (h1 : rdr w' b r) (h2 : w.grownBy w' (some b)) (h3 : repJ k w' (fun g => w.heap.size ≤ g) v j) : valPost k w b o (.returned v) w' := by
  subst h; exact ⟨v, rfl, h1, h2, h3⟩
set_option maxHeartbeats 1000000 in
theorem val_zero : ValAt 0 := by
  intro b s w d h hs hd0 hd
  obtain rfl : d = 7 := by omega
  go_enter Tryd.func113, Tryd.ntmps113
  go_wp2_with (go_at_call 115; refine (need_no _).mono ?_; rintro e w' ⟨rfl, rfl⟩)
  exact ⟨rfl, valPost_no rfl (grown_refl _ _)⟩
theorem repJ_up {k : Nat} {w w' w1 : World} {v : Value} {j : J} (h : repJ k w' (fun g => w1.heap.size ≤ g) v j) (hs : w.heap.size ≤ w1.heap.size) : repJ k w' (fun g => w.heap.size ≤ g) v j :=
  repJ.mono k h (fun g hg => by omega)
set_option maxHeartbeats 4000000 in
set_option maxRecDepth 20000 in
theorem val_succ (k : Nat) (hk : k < 7) (IH : ValAt k) : ValAt (k + 1) := by
  intro b s w d h hs hd0 hd
  have e7 : decide (d ≤ 6) = true := by simp; omega
  have hd1 : d + 1 + (k : Int) = 7 := by omega
  have hd2 : 0 ≤ d + 1 := by omega
  go_enter Tryd.func113, Tryd.ntmps113
  go_wp2_with (go_at_call 115; refine (need_ok _).mono ?_; rintro e w' ⟨rfl, rfl⟩)
  refine (take_any b s [123] w h).mono ?_
  rintro e w1 ⟨rfl, r1, g1⟩
  clear h
  cases h1 : tak [123] s with
  | some s1 =>
    rw [taken_some h1] at r1
    have hl := tak_len h1
    simp only [List.length_cons, List.length_nil] at hl
    have HV : Hid (val (k + 1) s = (listOf (memOf (val k)) [125] s1).map (fun p => (J.obj p.1, p.2))) := by show _ = _; rw [val]; simp only [h1]
    go_wp2_with fail
    refine (readObject_any k b (d + 1) s1 _ IH hd1 hd2 r1 (by omega)).mono ?_
    cases hx : listOf (memOf (val k)) [125] s1 with
    | none =>
      rintro e w' ⟨rfl, g'⟩
      rw [hx] at HV
      go_wp2
      exact ⟨rfl, valPost_no HV.out (grown_trans g1 g')⟩
    | some p =>
      obtain ⟨l, r⟩ := p
      rintro e w' ⟨sl, rfl, r', g', j'⟩
      rw [hx] at HV
      have z' := g1.size
      go_wp2
      go_ret
      exact valPost_ok HV.out r' (grown_trans g1 g') (repJ_up j' z')
  | none =>
    rw [taken_none h1] at r1
    go_wp2_with fail
    refine (take_any b (skip s) [91] _ r1).mono ?_
    rintro e w2 ⟨rfl, r2, k2⟩
    have g2 := grown_trans g1 k2
    rw [tak_skip]
    rw [show taken [91] (skip s) = taken [91] s by unfold taken; rw [tak_skip, skip_skip]] at r2
    clear k2 g1 r1
    cases h2 : tak [91] s with
    | some s2 =>
      rw [taken_some h2] at r2
      have hl := tak_len h2
      simp only [List.length_cons, List.length_nil] at hl
      have HV : Hid (val (k + 1) s = (listOf (val k) [93] s2).map (fun p => (J.arr p.1, p.2))) := by show _ = _; rw [val]; simp only [h1, h2]
      go_wp2_with fail
      refine (readArray_any k b (d + 1) s2 _ IH hd1 hd2 r2 (by omega)).mono ?_
      cases hx : listOf (val k) [93] s2 with
      | none =>
        rintro e w' ⟨rfl, g'⟩
        rw [hx] at HV
        go_wp2
        exact ⟨rfl, valPost_no HV.out (grown_trans g2 g')⟩
      | some p =>
        obtain ⟨l, r⟩ := p
        rintro e w' ⟨sl, rfl, r', g', j'⟩
        rw [hx] at HV
        have z' := g2.size
        go_wp2
        go_ret
        exact valPost_ok HV.out r' (grown_trans g2 g') (repJ_up j' z')
    | none =>
      rw [taken_none h2] at r2
      go_wp2_with fail
      refine (take_any b (skip s) [34] _ r2).mono ?_
      rintro e w3 ⟨rfl, r3, k3⟩
      have g3 := grown_trans g2 k3
      rw [tak_skip]
      rw [show taken [34] (skip s) = taken [34] s by unfold taken; rw [tak_skip, skip_skip]] at r3
      clear k3 g2 r2
      cases h3 : tak [34] s with
      | some s3 =>
        rw [taken_some h3] at r3
        have hl := tak_len h3
        simp only [List.length_cons, List.length_nil] at hl
        have HV : Hid (val (k + 1) s = (strOf s3).map (fun p => (J.str p.1, p.2))) := by show _ = _; rw [val]; simp only [h1, h2, h3]
        go_wp2_with fail
        refine (readString_any b s3 _ r3 (by omega)).mono ?_
        cases hx : strOf s3 with
        | none =>
          rintro e w' ⟨rfl, g'⟩
          rw [hx] at HV
          go_wp2
          exact ⟨rfl, valPost_no HV.out (grown_trans g3 g')⟩
        | some p =>
          obtain ⟨l, r⟩ := p
          rintro e w' ⟨rfl, r', g'⟩
          rw [hx] at HV
          go_wp2
          go_ret
          exact valPost_ok HV.out r' (grown_trans g3 g') ⟨rfl, by have := strOf_len _ s3 (Nat.le_refl _) l r hx; show l.length ≤ 4000; omega⟩
      | none =>
        rw [taken_none h3] at r3
        go_wp2_with fail
        refine (take_any b (skip s) tTrue _ r3).mono ?_
        rintro e w4 ⟨rfl, r4, k4⟩
        have g4 := grown_trans g3 k4
        rw [tak_skip]
        rw [show taken tTrue (skip s) = taken tTrue s by unfold taken; rw [tak_skip, skip_skip]] at r4
        clear k4 g3 r3
        cases h4 : tak tTrue s with
        | some s4 =>
          have HV : Hid (val (k + 1) s = some (J.bool true, s4)) := by show _ = _; rw [val]; simp only [h1, h2, h3, h4]
          rw [taken_some h4] at r4
          go_wp2
          go_ret
          exact valPost_ok HV.out r4 g4 rfl
        | none =>
          rw [taken_none h4] at r4
          go_wp2_with fail
          refine (take_any b (skip s) tFalse _ r4).mono ?_
          rintro e w5 ⟨rfl, r5, k5⟩
          have g5 := grown_trans g4 k5
          rw [tak_skip]
          rw [show taken tFalse (skip s) = taken tFalse s by unfold taken; rw [tak_skip, skip_skip]] at r5
          clear k5 g4 r4
          cases h5 : tak tFalse s with
          | some s5 =>
            have HV : Hid (val (k + 1) s = some (J.bool false, s5)) := by show _ = _; rw [val]; simp only [h1, h2, h3, h4, h5]
            rw [taken_some h5] at r5
            go_wp2
            go_ret
            exact valPost_ok HV.out r5 g5 rfl
          | none =>
            rw [taken_none h5] at r5
            go_wp2_with fail
            refine (take_any b (skip s) tNull _ r5).mono ?_
            rintro e w6 ⟨rfl, r6, k6⟩
            have g6 := grown_trans g5 k6
            rw [tak_skip]
            rw [show taken tNull (skip s) = taken tNull s by unfold taken; rw [tak_skip, skip_skip]] at r6
            clear k6 g5 r5
            cases h6 : tak tNull s with
            | some s6 =>
              have HV : Hid (val (k + 1) s = some (J.null, s6)) := by show _ = _; rw [val]; simp only [h1, h2, h3, h4, h5, h6]
              rw [taken_some h6] at r6
              go_wp2
              go_ret
              exact valPost_ok HV.out r6 g6 rfl
            | none =>
              have HV : Hid (val (k + 1) s = none) := by show _ = _; rw [val]; simp only [h1, h2, h3, h4, h5, h6]
              go_wp2
              exact ⟨rfl, valPost_no HV.out g6⟩
end Go.Proofs.YtinnliapfdpfpaaDoor.P
