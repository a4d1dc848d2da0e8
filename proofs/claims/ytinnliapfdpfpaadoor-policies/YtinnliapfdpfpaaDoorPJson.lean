/-
  THE PLAIN MATHEMATICS OF JSON: values, and the reading of a text. It imports nothing of the program.
-/
import Derived.WalkKit
namespace Go.Proofs.YtinnliapfdpfpaaDoor.P

/-- A JSON value. -/
inductive J where
  | obj (l : List (List UInt8 × J))
  | arr (l : List J)
  | str (s : List UInt8)
  | bool (b : Bool)
  | null

def spc (c : UInt8) : Bool := c == 32 || c == 10
def skip : List UInt8 → List UInt8
  | [] => []
  | c :: r => if spc c then skip r else c :: r
theorem skip_skip : ∀ s, skip (skip s) = skip s
  | [] => rfl
  | c :: r => by
    cases h : spc c
    · simp [skip, h]
    · simp only [skip, h, if_true]; exact skip_skip r
theorem skip_len : ∀ s, (skip s).length ≤ s.length
  | [] => Nat.le_refl _
  | c :: r => by
    cases h : spc c
    · simp [skip, h]
    · simp only [skip, h, if_true, List.length_cons]; have := skip_len r; omega
/-- What stands behind a token, if it comes next. -/
def cutP (t s : List UInt8) : Option (List UInt8) := if t.isPrefixOf s then some (s.drop t.length) else none
def tak (t s : List UInt8) : Option (List UInt8) := cutP t (skip s)
theorem tak_skip (t s : List UInt8) : tak t (skip s) = tak t s := by unfold tak; rw [skip_skip]
theorem cutP_some {t s r : List UInt8} (h : cutP t s = some r) : s = t ++ r := by
  unfold cutP at h
  split at h
  · rename_i hp
    rw [List.isPrefixOf_iff_prefix] at hp
    obtain ⟨z, rfl⟩ := hp
    simp at h; rw [h]
  · cases h
theorem tak_len {t s r : List UInt8} (h : tak t s = some r) : r.length + t.length ≤ s.length := by
  have := cutP_some h
  have h2 := skip_len s
  rw [this, List.length_append] at h2; omega
/-- Where the reader stands behind 'take'. -/
def taken (t s : List UInt8) : List UInt8 := (tak t s).getD (skip s)
theorem taken_len (t s : List UInt8) : (taken t s).length ≤ s.length := by
  unfold taken
  cases h : tak t s with
  | none => exact skip_len s
  | some r => have := tak_len h; simp; omega
theorem tak_two {c d : UInt8} (s : List UInt8) (h : c ≠ d) {r : List UInt8} (hr : tak [c] s = some r) : tak [d] s = none := by
  have h2 := cutP_some hr
  unfold tak cutP
  rw [h2]; simp [List.isPrefixOf]; exact fun e => absurd e.symm h

/-- What stands behind a string's first quote. -/
def strOf : List UInt8 → Option (List UInt8 × List UInt8)
  | [] => none
  | c :: r =>
    if c.toNat = 34 then some ([], r)
    else if c.toNat = 92 then
      match r with
      | [] => none
      | d :: r' => if d.toNat = 34 ∨ d.toNat = 92 then (strOf r').map (fun p => (d :: p.1, p.2)) else none
    else if 32 ≤ c.toNat ∧ c.toNat ≤ 126 then (strOf r).map (fun p => (c :: p.1, p.2)) else none
theorem strOf_len : ∀ (n : Nat) (s : List UInt8), s.length ≤ n → ∀ t r, strOf s = some (t, r) → t.length + r.length < s.length
  | 0, [], _, t, r, h => by simp [strOf] at h
  | n + 1, [], _, t, r, h => by simp [strOf] at h
  | n + 1, c :: s, hn, t, r, h => by
    rw [strOf.eq_def] at h; simp only at h
    split at h
    · simp at h; obtain ⟨rfl, rfl⟩ := h; simp
    · split at h
      · match s, h with
        | [], h => cases h
        | d :: s', h =>
          simp only at h
          split at h
          · cases hs : strOf s' with
            | none => rw [hs] at h; cases h
            | some p =>
              rw [hs] at h
              simp at h; obtain ⟨rfl, rfl⟩ := h
              have := strOf_len n s' (by simp at hn; omega) p.1 p.2 hs
              simp; omega
          · cases h
      · split at h
        · cases hs : strOf s with
          | none => rw [hs] at h; cases h
          | some p =>
            rw [hs] at h
            simp at h; obtain ⟨rfl, rfl⟩ := h
            have := strOf_len n s (by simp at hn; omega) p.1 p.2 hs
            simp; omega
        · cases h
theorem strOf_nil : strOf [] = none := by simp [strOf]
theorem strOf_end {c : UInt8} (r : List UInt8) (h : c.toNat = 34) : strOf (c :: r) = some ([], r) := by rw [strOf.eq_def]; simp [h]
theorem strOf_esc0 {c : UInt8} (h : c.toNat = 92) : strOf [c] = none := by rw [strOf.eq_def]; simp [h]
theorem strOf_esc {c d : UInt8} (r : List UInt8) (h : c.toNat = 92) (hd : d.toNat = 34 ∨ d.toNat = 92) : strOf (c :: d :: r) = (strOf r).map (fun p => (d :: p.1, p.2)) := by rw [strOf.eq_def]; simp [h, hd]
theorem strOf_escx {c d : UInt8} (r : List UInt8) (h : c.toNat = 92) (hd : ¬ (d.toNat = 34 ∨ d.toNat = 92)) : strOf (c :: d :: r) = none := by rw [strOf.eq_def]; simp [h, hd]
theorem strOf_one {c : UInt8} (r : List UInt8) (h : ¬ c.toNat = 34) (h2 : ¬ c.toNat = 92) (h3 : 32 ≤ c.toNat ∧ c.toNat ≤ 126) : strOf (c :: r) = (strOf r).map (fun p => (c :: p.1, p.2)) := by rw [strOf.eq_def]; simp [h, h2, h3]
theorem strOf_bad {c : UInt8} (r : List UInt8) (h : ¬ c.toNat = 34) (h2 : ¬ c.toNat = 92) (h3 : ¬ (32 ≤ c.toNat ∧ c.toNat ≤ 126)) : strOf (c :: r) = none := by
  rw [strOf.eq_def]; simp only [h, h2, if_false]; rw [if_neg h3]

/-- One thing or more, commas between, the end behind them. -/
def more {X : Type} (one : List UInt8 → Option (X × List UInt8)) (shut : List UInt8) : Nat → List UInt8 → Option (List X × List UInt8)
  | 0, _ => none
  | n + 1, s => match one s with
    | none => none
    | some (x, r) => match tak shut r with
      | some r' => some ([x], r')
      | none => match tak [44] r with
        | none => none
        | some r' => (more one shut n r').map (fun p => (x :: p.1, p.2))
def listOf {X : Type} (one : List UInt8 → Option (X × List UInt8)) (shut : List UInt8) (s : List UInt8) : Option (List X × List UInt8) :=
  match tak shut s with
  | some r => some ([], r)
  | none => more one shut (s.length + 1) s
/-- What a reader takes is not nothing. -/
def shrinks {X : Type} (one : List UInt8 → Option (X × List UInt8)) : Prop := ∀ s x r, one s = some (x, r) → r.length < s.length
theorem more_len {X : Type} {one : List UInt8 → Option (X × List UInt8)} (h1 : shrinks one) (shut : List UInt8) : ∀ n s l r, more one shut n s = some (l, r) → r.length < s.length ∧ l.length ≤ s.length
  | 0, s, l, r, h => by simp [more] at h
  | n + 1, s, l, r, h => by
    rw [more] at h
    cases h2 : one s with
    | none => rw [h2] at h; cases h
    | some p =>
      obtain ⟨x, r1⟩ := p
      rw [h2] at h
      have a1 := h1 _ _ _ h2
      simp only at h
      cases h3 : tak shut r1 with
      | some r' =>
        rw [h3] at h
        simp at h; obtain ⟨rfl, rfl⟩ := h
        have := tak_len h3
        simp; omega
      | none =>
        rw [h3] at h
        simp only at h
        cases h4 : tak [44] r1 with
        | none => rw [h4] at h; cases h
        | some r2 =>
          rw [h4] at h
          have a4 := tak_len h4
          simp only at h
          cases h5 : more one shut n r2 with
          | none => rw [h5] at h; cases h
          | some q =>
            rw [h5] at h
            simp at h; obtain ⟨rfl, rfl⟩ := h
            have := more_len h1 shut n r2 q.1 q.2 h5
            simp at a4 ⊢; omega
theorem listOf_len {X : Type} {one : List UInt8 → Option (X × List UInt8)} (h1 : shrinks one) {shut s : List UInt8} {l : List X} {r : List UInt8} (h : listOf one shut s = some (l, r)) : r.length ≤ s.length ∧ l.length ≤ s.length := by
  unfold listOf at h
  cases h3 : tak shut s with
  | some r' => rw [h3] at h; simp at h; obtain ⟨rfl, rfl⟩ := h; have := tak_len h3; simp; omega
  | none => rw [h3] at h; have := more_len h1 shut _ _ _ _ h; omega

def memOf {X : Type} (v : List UInt8 → Option (X × List UInt8)) (s : List UInt8) : Option ((List UInt8 × X) × List UInt8) :=
  match tak [34] s with
  | none => none
  | some r => match strOf r with
    | none => none
    | some (n, r) => match tak [58] r with
      | none => none
      | some r => (v r).map (fun p => ((n, p.1), p.2))
theorem memOf_some {X : Type} {v : List UInt8 → Option (X × List UInt8)} {s : List UInt8} {y : (List UInt8 × X) × List UInt8} (h : memOf v s = some y) :
    ∃ r1 n r2 r3 x r4, tak [34] s = some r1 ∧ strOf r1 = some (n, r2) ∧ tak [58] r2 = some r3 ∧ v r3 = some (x, r4) ∧ y = ((n, x), r4) := by
  unfold memOf at h
  cases h1 : tak [34] s with
  | none => rw [h1] at h; cases h
  | some r1 =>
    rw [h1] at h; simp only at h
    cases h2 : strOf r1 with
    | none => rw [h2] at h; cases h
    | some p =>
      obtain ⟨n, r2⟩ := p
      rw [h2] at h; simp only at h
      cases h3 : tak [58] r2 with
      | none => rw [h3] at h; cases h
      | some r3 =>
        rw [h3] at h; simp only at h
        cases h4 : v r3 with
        | none => rw [h4] at h; cases h
        | some q =>
          rw [h4] at h; simp at h
          exact ⟨r1, n, r2, r3, q.1, q.2, rfl, h2, h3, h4, h.symm⟩
theorem memOf_shrinks {X : Type} {v : List UInt8 → Option (X × List UInt8)} (hv : shrinks v) : shrinks (memOf v) := by
  intro s x r h
  obtain ⟨r1, n, r2, r3, y, r4, a1, a2, a3, a4, a5⟩ := memOf_some h
  have := tak_len a1
  have := strOf_len _ r1 (Nat.le_refl _) _ _ a2
  have := tak_len a3
  have := hv _ _ _ a4
  simp at a5; obtain ⟨rfl, rfl⟩ := a5
  simp at *; omega

def tTrue : List UInt8 := [116, 114, 117, 101]
def tFalse : List UInt8 := [102, 97, 108, 115, 101]
def tNull : List UInt8 := [110, 117, 108, 108]
/-- A value, so many more of which may stand within it. -/
def val : Nat → List UInt8 → Option (J × List UInt8)
  | 0, _ => none
  | k + 1, s => match tak [123] s with
    | some r => (listOf (memOf (val k)) [125] r).map (fun p => (.obj p.1, p.2))
    | none => match tak [91] s with
      | some r => (listOf (val k) [93] r).map (fun p => (.arr p.1, p.2))
      | none => match tak [34] s with
        | some r => (strOf r).map (fun p => (.str p.1, p.2))
        | none => match tak tTrue s with
          | some r => some (.bool true, r)
          | none => match tak tFalse s with
            | some r => some (.bool false, r)
            | none => match tak tNull s with
              | some r => some (.null, r)
              | none => none
theorem val_shrinks : ∀ k, shrinks (val k)
  | 0 => by intro s x r h; simp [val] at h
  | k + 1 => by
    intro s x r h
    have ih := val_shrinks k
    rw [val] at h
    cases h1 : tak [123] s with
    | some r1 =>
      rw [h1] at h; simp only at h
      have := tak_len h1
      cases h2 : listOf (memOf (val k)) [125] r1 with
      | none => rw [h2] at h; cases h
      | some p =>
        rw [h2] at h; simp at h
        have := listOf_len (memOf_shrinks ih) (l := p.1) (r := p.2) h2
        obtain ⟨-, rfl⟩ := h; simp at *; omega
    | none =>
      rw [h1] at h; simp only at h
      cases h2 : tak [91] s with
      | some r1 =>
        rw [h2] at h; simp only at h
        have := tak_len h2
        cases h3 : listOf (val k) [93] r1 with
        | none => rw [h3] at h; cases h
        | some p =>
          rw [h3] at h; simp at h
          have := listOf_len ih (l := p.1) (r := p.2) h3
          obtain ⟨-, rfl⟩ := h; simp at *; omega
      | none =>
        rw [h2] at h; simp only at h
        cases h3 : tak [34] s with
        | some r1 =>
          rw [h3] at h; simp only at h
          have := tak_len h3
          cases h4 : strOf r1 with
          | none => rw [h4] at h; cases h
          | some p =>
            rw [h4] at h; simp at h
            have := strOf_len _ r1 (Nat.le_refl _) p.1 p.2 h4
            obtain ⟨-, rfl⟩ := h; simp at *; omega
        | none =>
          rw [h3] at h; simp only at h
          cases h4 : tak tTrue s with
          | some r1 =>
            rw [h4] at h; simp at h
            have := tak_len h4
            obtain ⟨-, rfl⟩ := h; simp [tTrue] at *; omega
          | none =>
            rw [h4] at h; simp only at h
            cases h5 : tak tFalse s with
            | some r1 =>
              rw [h5] at h; simp at h
              have := tak_len h5
              obtain ⟨-, rfl⟩ := h; simp [tFalse] at *; omega
            | none =>
              rw [h5] at h; simp only at h
              cases h6 : tak tNull s with
              | some r1 =>
                rw [h6] at h; simp at h
                have := tak_len h6
                obtain ⟨-, rfl⟩ := h; simp [tNull] at *; omega
              | none => rw [h6] at h; cases h
/-- A whole text. -/
def readJ (s : List UInt8) : Option J := match val 7 s with
  | none => none
  | some (j, r) => if skip r = [] then some j else none
end Go.Proofs.YtinnliapfdpfpaaDoor.P
