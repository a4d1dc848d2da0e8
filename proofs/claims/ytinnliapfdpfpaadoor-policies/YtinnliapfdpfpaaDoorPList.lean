/-
  THE READER OF JSON: lists of things with commas between.
-/
import Derived.Test.YtinnliapfdpfpaaDoorPTake
namespace Go.Proofs.YtinnliapfdpfpaaDoor.P
open Go.RowKit

/-- Behind a thing of a list. -/
def behind {X : Type} (one : List UInt8 → Option (X × List UInt8)) (shut : List UInt8) (n : Nat) (acc : List X) (r : List UInt8) : Option (List X × List UInt8) :=
  match tak shut r with
  | some r' => some (acc, r')
  | none => match tak [44] r with
    | none => none
    | some r' => (more one shut n r').map (fun p => (acc ++ p.1, p.2))
theorem more_behind {X : Type} {one : List UInt8 → Option (X × List UInt8)} {shut s r : List UInt8} {x : X} (n : Nat) (h : one s = some (x, r)) : more one shut (n + 1) s = behind one shut n [x] r := by
  rw [more, h]; unfold behind; simp only
  cases tak shut r with
  | some r' => rfl
  | none => simp only; cases tak [44] r <;> rfl
theorem more_none {X : Type} {one : List UInt8 → Option (X × List UInt8)} {shut s : List UInt8} (n : Nat) (h : one s = none) : more one shut (n + 1) s = none := by rw [more, h]
theorem behind_end {X : Type} {one : List UInt8 → Option (X × List UInt8)} {shut r r' : List UInt8} (n : Nat) (acc : List X) (h : tak shut r = some r') : behind one shut n acc r = some (acc, r') := by unfold behind; rw [h]
theorem behind_no {X : Type} {one : List UInt8 → Option (X × List UInt8)} {shut r : List UInt8} (n : Nat) (acc : List X) (h : tak shut r = none) (h2 : tak [44] r = none) : behind one shut n acc r = none := by unfold behind; rw [h, h2]
theorem behind_bad {X : Type} {one : List UInt8 → Option (X × List UInt8)} {shut r r' : List UInt8} (n : Nat) (acc : List X) (h : tak shut r = none) (h2 : tak [44] r = some r') (h3 : one r' = none) : behind one shut (n + 1) acc r = none := by
  unfold behind; rw [h, h2]; simp only; rw [more_none n h3]; rfl
theorem behind_on {X : Type} {one : List UInt8 → Option (X × List UInt8)} {shut r r' r2 : List UInt8} {x : X} (n : Nat) (acc : List X) (h : tak shut r = none) (h2 : tak [44] r = some r') (h3 : one r' = some (x, r2)) :
    behind one shut (n + 1) acc r = behind one shut n (acc ++ [x]) r2 := by
  unfold behind; rw [h, h2]; simp only; rw [more_behind n h3]; unfold behind
  cases tak shut r2 with
  | some r3 => rfl
  | none => simp only; cases tak [44] r2 with
    | none => rfl
    | some r3 => simp only; cases more one shut n r3 <;> simp
/-- How the reading of a list ends. -/
def listPost {X : Type} (b : Nat) (Q : List X → World → Prop) (G : World → Prop) (o : Option (List X × List UInt8)) (e : Ending) (w' : World) : Prop :=
  match o with
  | none => e = .panicked noJ ∧ G w'
  | some (l, r) => e = .returned (.tuple #[]) ∧ rdr w' b r ∧ Q l w'
theorem listPost_no {X : Type} {b : Nat} {Q : List X → World → Prop} {G : World → Prop} {o : Option (List X × List UInt8)} {w' : World} (h : o = none) (g : G w') : listPost b Q G o (.panicked noJ) w' := by subst h; exact ⟨rfl, g⟩
theorem listPost_ok {X : Type} {b : Nat} {Q : List X → World → Prop} {G : World → Prop} {o : Option (List X × List UInt8)} {w' : World} {l : List X} {r : List UInt8} (h : o = some (l, r)) (k : rdr w' b r) (q : Q l w') : listPost b Q G o (.returned (.tuple #[])) w' := by subst h; exact ⟨rfl, k, q⟩
/-- What one call of the function adds. -/
def onePost {X : Type} (b : Nat) (Q : List X → World → Prop) (G : World → Prop) (acc : List X) (o : Option (X × List UInt8)) (e : Ending) (w' : World) : Prop :=
  match o with
  | none => e = .panicked noJ ∧ G w'
  | some (x, r) => e = .returned (.tuple #[]) ∧ rdr w' b r ∧ Q (acc ++ [x]) w'
theorem taken_some {t s r : List UInt8} (h : tak t s = some r) : taken t s = r := by unfold taken; rw [h]; rfl
theorem taken_none {t s : List UInt8} (h : tak t s = none) : taken t s = skip s := by unfold taken; rw [h]; rfl

set_option maxHeartbeats 1000000 in
theorem readList_any {X : Type} (one : List UInt8 → Option (X × List UInt8)) (hsh : shrinks one) (hsp : ∀ s, one (skip s) = one s) (b g : Nat) (caps : Array Value) (shut : List UInt8)
    (eg : ∀ args w, (callFunc g args).run Tryd.prog w = .ok (.enter g args) w)
    (Q : List X → World → Prop) (G : World → Prop) (hQ : ∀ acc w w', Q acc w → w.grownBy w' (some b) → Q acc w') (hG : ∀ acc w, Q acc w → G w)
    (H : ∀ acc s w, Q acc w → rdr w b s → acc.length + s.length ≤ 4000 → Calls Tryd.prog g caps w (onePost b Q G acc (one s)))
    (s : List UInt8) (w : World) (h : rdr w b s) (hs : s.length ≤ 4000) (q : Q [] w) :
    Calls Tryd.prog 153 #[.pointer (some ⟨b, 0, none⟩), str shut, .func (.func g) #[] caps] w (listPost b Q G (listOf one shut s)) := by
  cases h1 : tak shut s with
  | some r =>
    have HL : Hid (listOf one shut s = some ([], r)) := by show _ = _; unfold listOf; rw [h1]
    go_enter Tryd.func153, Tryd.ntmps153
    go_wp2_with fail
    refine (take_any b s shut w h).mono ?_
    rintro e w1 ⟨rfl, r1, k1⟩
    rw [h1]
    rw [taken_some h1] at r1
    go_wp2
    go_end0
    exact listPost_ok HL.out r1 (hQ _ _ _ q k1)
  | none =>
    have HL : Hid (listOf one shut s = more one shut (s.length + 1) s) := by show _ = _; unfold listOf; rw [h1]
    have hsk := skip_len s
    have HO : Hid (listOf one shut s = more one shut (s.length + 1) s) := HL.out
    clear HL
    go_enter Tryd.func153, Tryd.ntmps153
    go_wp2_with fail
    refine (take_any b s shut w h).mono ?_
    rintro e w1 ⟨rfl, r1, k1⟩
    rw [h1]
    rw [taken_none h1] at r1
    have q1 := hQ _ _ _ q k1
    clear h q k1
    go_wp2_with fail
    refine (H [] (skip s) w1 q1 r1 (by simp; omega)).mono ?_
    rw [hsp]
    cases h2 : one s with
    | none =>
      rintro e w2 ⟨rfl, g2⟩
      have HN : Hid (listOf one shut s = none) := by show _ = _; rw [HO.out, more_none _ h2]
      clear HO
      go_wp2
      exact ⟨rfl, listPost_no HN.out g2⟩
    | some p =>
      obtain ⟨x, r2⟩ := p
      rintro e w2 ⟨rfl, d2, q2⟩
      have hl2 := hsh _ _ _ h2
      have HB : Hid (listOf one shut s = behind one shut s.length [x] r2) := by show _ = _; rw [HO.out, more_behind _ h2]
      clear HO
      go_wp2
      go_loopw [] (fun wr => ∃ acc r n, rdr wr b r ∧ Q acc wr ∧ r.length < n ∧ acc.length + r.length ≤ 4000 ∧ listOf one shut s = behind one shut n acc r) (fun wr => left b wr)
      case atStart => exact ⟨[x], r2, s.length, d2, by simpa using q2, hl2, by simp; omega, HB.out⟩
      case round =>
        obtain ⟨acc, r, n, d, q, hn, hl, hB⟩ := hrel
        have HB : Hid (listOf one shut s = behind one shut n acc r) := hB
        have HL2 : Hid (left b wr = r.length) := left_of d
        clear hB
        cases h3 : tak shut r with
        | some r' =>
          have HE : Hid (listOf one shut s = some (acc, r')) := by show _ = _; rw [HB.out, behind_end _ _ h3]
          clear HB
          go_wp2_with fail
          refine (take_any b r shut _ d).mono ?_
          rintro e w3 ⟨rfl, d3, k3⟩
          rw [h3]
          rw [taken_some h3] at d3
          go_wp2
          go_end0
          exact listPost_ok HE.out d3 (hQ _ _ _ q k3)
        | none =>
          go_wp2_with fail
          refine (take_any b r shut _ d).mono ?_
          rintro e w3 ⟨rfl, d3, k3⟩
          rw [h3]
          rw [taken_none h3] at d3
          have q3 := hQ _ _ _ q k3
          clear q k3 d
          cases h4 : tak [44] r with
          | none =>
            have HN : Hid (listOf one shut s = none) := by show _ = _; rw [HB.out, behind_no _ _ h3 h4]
            clear HB
            go_wp2_with fail
            refine (take_any b (skip r) [44] _ d3).mono ?_
            rintro e w4 ⟨rfl, d4, k4⟩
            rw [tak_skip, h4]
            go_wp2_with (go_at_call 115; refine (need_no _).mono ?_; rintro e w' ⟨rfl, rfl⟩)
            exact ⟨rfl, listPost_no HN.out (hG _ _ (hQ _ _ _ q3 k4))⟩
          | some r' =>
            have hl4 := tak_len h4
            simp only [List.length_cons, List.length_nil] at hl4
            obtain ⟨m, rfl⟩ : ∃ m, n = m + 1 := ⟨n - 1, by omega⟩
            go_wp2_with fail
            refine (take_any b (skip r) [44] _ d3).mono ?_
            rintro e w4 ⟨rfl, d4, k4⟩
            rw [tak_skip, h4]
            rw [show taken [44] (skip r) = r' from taken_some (by rw [tak_skip, h4])] at d4
            have q4 := hQ _ _ _ q3 k4
            clear q3 k4 d3
            go_wp2_with (go_at_call 115; refine (need_ok _).mono ?_; rintro e w' ⟨rfl, rfl⟩)
            refine (H acc r' _ q4 d4 (by omega)).mono ?_
            cases h5 : one r' with
            | none =>
              rintro e w5 ⟨rfl, g5⟩
              have HN : Hid (listOf one shut s = none) := by show _ = _; rw [HB.out, behind_bad _ _ h3 h4 h5]
              clear HB
              go_wp2
              exact ⟨rfl, listPost_no HN.out g5⟩
            | some p =>
              obtain ⟨y, r5⟩ := p
              rintro e w5 ⟨rfl, d5, q5⟩
              have hl5 := hsh _ _ _ h5
              have HB2 : Hid (listOf one shut s = behind one shut m (acc ++ [y]) r5) := by show _ = _; rw [HB.out, behind_on _ _ h3 h4 h5]
              clear HB
              have HL5 := left_of d5
              go_wp2
              go_roundw
              case rel => exact ⟨acc ++ [y], r5, m, d5, q5, by omega, by simp; omega, HB2.out⟩
              case measure => have := HL2.out; omega
end Go.Proofs.YtinnliapfdpfpaaDoor.P
