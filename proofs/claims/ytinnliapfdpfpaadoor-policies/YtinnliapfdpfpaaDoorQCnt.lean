/-
  THE DOCUMENT's POLICIES: members that are there just once. Plain mathematics over the table of nodes.
-/
import Derived.Test.YtinnliapfdpfpaaDoorQTxt
import Derived.Test.YtinnliapfdpfpaaDoorPRul
namespace Go.Proofs.YtinnliapfdpfpaaDoor.P

theorem memAt_cnt (l : List (List UInt8 × J)) (kids : List Nat) (nm : List UInt8) : ∀ k, k ≤ l.length → (memAt (l.map (·.1)) kids nm k).2 = cntM (l.take k) nm
  | 0, _ => rfl
  | k + 1, h => by
    have ih := memAt_cnt l kids nm k (by omega)
    rw [memAt_succ, take_snoc' (show k < l.length by omega), cntM_snoc, List.getElem?_map, List.getElem?_eq_getElem (show k < l.length by omega)]
    simp only [Option.map_some, Option.some.injEq]
    by_cases e : l[k].1 = nm
    · rw [if_pos e, if_pos e, ih]
    · rw [if_neg e, if_neg e, ih, Nat.add_zero]
theorem cnt_zero_take {l : List (List UInt8 × J)} {nm : List UInt8} {k : Nat} (h : cntM (l.take k) nm = 0) : ∀ i (hi : i < l.length), i < k → l[i].1 ≠ nm := by
  intro i hi hik e
  have : l[i] ∈ (l.take k).filter (fun p => p.1 == nm) := by
    rw [List.mem_filter]
    refine ⟨?_, by simp [e]⟩
    rw [List.mem_take_iff_getElem]
    exact ⟨i, by omega, rfl⟩
  unfold cntM at h
  rw [List.length_eq_zero_iff] at h
  rw [h] at this; cases this
/-- Where the name is there once: its place. -/
theorem mem_once (l : List (List UInt8 × J)) (kids : List Nat) (nm : List UInt8) (hk : kids.length = l.length) : ∀ k, k ≤ l.length → (memAt (l.map (·.1)) kids nm k).2 = 1 →
    ∃ i, ∃ hi : i < l.length, i < k ∧ l[i].1 = nm ∧ (memAt (l.map (·.1)) kids nm k).1 = kids.getD i 0 ∧ (∀ j (hj : j < l.length), j < i → l[j].1 ≠ nm)
  | 0, _, h => by cases h
  | k + 1, hkl, h => by
    have hlt : k < l.length := by omega
    rw [memAt_succ, List.getElem?_map, List.getElem?_eq_getElem hlt] at h ⊢
    simp only [Option.map_some, Option.some.injEq] at h ⊢
    by_cases e : l[k].1 = nm
    · rw [if_pos e] at h ⊢
      refine ⟨k, hlt, by omega, e, rfl, ?_⟩
      have h0 : cntM (l.take k) nm = 0 := by
        rw [← memAt_cnt l kids nm k (by omega)]
        simpa using h
      exact cnt_zero_take h0
    · rw [if_neg e] at h ⊢
      obtain ⟨i, hi, h1, h2, h3, h4⟩ := mem_once l kids nm hk k (by omega) h
      exact ⟨i, hi, by omega, h2, h3, h4⟩
theorem find_first : ∀ (l : List (List UInt8 × J)) (nm : List UInt8) (i : Nat) (hi : i < l.length), l[i].1 = nm → (∀ j (hj : j < l.length), j < i → l[j].1 ≠ nm) → findM l nm = some l[i].2
  | (m, j) :: l, nm, 0, _, h, _ => by
    have e : m = nm := h
    simp [findM, e]
  | (m, j) :: l, nm, i + 1, hi, h, hno => by
    have h0 : m ≠ nm := hno 0 (by simp) (by omega)
    rw [findM, if_neg h0]
    exact find_first l nm i (by simpa using hi) h (fun j hj hji => hno (j + 1) (by simp; omega) (by omega))
/-- A member that is there once: its node is what 'find' finds. -/
theorem once_find {k : Nat} {M : List Nd} {kids : List Nat} {l : List (List UInt8 × J)} (hall : all2 (fun i (j : List UInt8 × J) => treeJ k M i j.2) kids l) (nm : List UInt8) (h : cntM l nm = 1) :
    ∃ j, findM l nm = some j ∧ treeJ k M (memAt (l.map (·.1)) kids nm (l.map (·.1)).length).1 j := by
  have hk := all2_len hall
  have hc := memAt_cnt l kids nm l.length (Nat.le_refl _)
  rw [List.take_length] at hc
  obtain ⟨i, hi, _, h2, h3, h4⟩ := mem_once l kids nm hk l.length (Nat.le_refl _) (by rw [hc, h])
  refine ⟨l[i].2, find_first l nm i hi h2 h4, ?_⟩
  rw [List.length_map, h3]
  have hki : i < kids.length := by omega
  have := all2_get hall i hki hi
  rwa [List.getD, List.getElem?_eq_getElem hki, Option.getD_some]
theorem cnt_all {l : List (List UInt8 × J)} (kids : List Nat) (nm : List UInt8) : (memAt (l.map (·.1)) kids nm (l.map (·.1)).length).2 = cntM l nm := by
  have := memAt_cnt l kids nm l.length (Nat.le_refl _)
  rw [List.take_length] at this
  rw [List.length_map, this]
/-- A rule has its four names. -/
theorem ruleL_finds {l : List (List UInt8 × J)} {r : RuleP} (h : ruleL l = some r) : findM l sEffect ≠ none ∧ findM l sWho ≠ none ∧ findM l sDo ≠ none ∧ findM l sOn ≠ none := by
  unfold ruleL at h
  refine ⟨?_, ?_, ?_, ?_⟩
  · intro e; rw [e] at h; cases h
  · intro e; rw [e] at h
    cases h1 : findM l sEffect with
    | none => rw [h1] at h; cases h
    | some x => rw [h1] at h; simp only at h; cases h2 : effJ x <;> rw [h2] at h <;> cases h
  · intro e; rw [e] at h
    cases h1 : findM l sEffect with
    | none => rw [h1] at h; cases h
    | some x =>
      rw [h1] at h; simp only at h
      cases h2 : effJ x with
      | none => rw [h2] at h; cases h
      | some d =>
        rw [h2] at h; simp only at h
        cases h3 : findM l sWho with
        | none => rw [h3] at h; cases h
        | some y => rw [h3] at h; simp only at h; cases h4 : goodJ whoP y <;> rw [h4] at h <;> cases h
  · intro e; rw [e] at h
    cases h1 : findM l sEffect with
    | none => rw [h1] at h; cases h
    | some x =>
      rw [h1] at h; simp only at h
      cases h2 : effJ x with
      | none => rw [h2] at h; cases h
      | some d =>
        rw [h2] at h; simp only at h
        cases h3 : findM l sWho with
        | none => rw [h3] at h; cases h
        | some y =>
          rw [h3] at h; simp only at h
          cases h4 : goodJ whoP y with
          | none => rw [h4] at h; cases h
          | some y' =>
            rw [h4] at h; simp only at h
            cases h5 : findM l sDo with
            | none => rw [h5] at h; cases h
            | some z => rw [h5] at h; simp only at h; cases h6 : goodJ actP z <;> rw [h6] at h <;> cases h
/-- Some name is not there just once: no rule. -/
theorem no_rule {l : List (List UInt8 × J)} (h4 : l.length = 4) (h : ¬ (cntM l sEffect = 1 ∧ cntM l sWho = 1 ∧ cntM l sDo = 1 ∧ cntM l sOn = 1)) : ruleL l = none := by
  cases hr : ruleL l with
  | none => rfl
  | some r =>
    obtain ⟨a, b, c, d⟩ := ruleL_finds hr
    exact absurd (names_once h4 a b c d) h
end Go.Proofs.YtinnliapfdpfpaaDoor.P
