/-
  HOW LONG THE PARTS OF A PARSED REQUEST ARE. It speaks of no program.
-/
import Derived.Test.YtinnliapfdpfpaaGreatDoorFSmall
namespace Go.Proofs.YtinnliapfdpfpaaGreatDoor.R
open Go.Proofs.YtinnliapfdpfpaaGreatDoor.C (dec enc enc_len dec_short)

def small (M : Nat) (l : Ps) : Prop := ∀ p ∈ l, p.1.length ≤ M ∧ p.2.length ≤ M
theorem small_nil (M : Nat) : small M [] := fun p hp => by cases hp
theorem small_snoc {M : Nat} {l : Ps} {p : Bs × Bs} (h : small M l) (h1 : p.1.length ≤ M) (h2 : p.2.length ≤ M) : small M (l ++ [p]) := by
  intro x hx
  rcases List.mem_append.1 hx with hx | hx
  · exact h x hx
  · rw [List.mem_singleton] at hx; subst hx; exact ⟨h1, h2⟩
theorem dec_le {p : Bool} {l t : Bs} (h : dec p l = some t) : t.length ≤ l.length := Nat.le_trans (enc_len p t).1 (dec_short h)
theorem pairOf_le {t : Bs} {p : Bs × Bs} (h : pairOf t = some p) : p.1.length ≤ t.length ∧ p.2.length ≤ t.length := by
  have hc := cut_le t [61]
  unfold pairOf at h
  split at h
  · rename_i n v h1 h2
    split at h
    · cases h
    · cases h; exact ⟨Nat.le_trans (dec_le h1) hc.1, Nat.le_trans (dec_le h2) hc.2⟩
  · cases h
theorem addP_eq {l l' : Ps} {p : Bs × Bs} (h : addP l p = some l') : l' = l ++ [p] := by
  unfold addP at h
  split at h
  · cases h; rfl
  · cases h
theorem query_small {M : Nat} : ∀ (ps : List Bs) (l q : Ps), small M l → (∀ t ∈ ps, t.length ≤ M) → queryFrom l ps = some q → small M q ∧ q.length ≤ l.length + ps.length := by
  intro ps
  induction ps with
  | nil => intro l q hl _ h; cases h; exact ⟨hl, by simp⟩
  | cons t r ih =>
    intro l q hl ht h
    unfold queryFrom at h
    split at h
    · cases h
    · rename_i p hp
      split at h
      · cases h
      · rename_i l' hl'
        have e := addP_eq hl'
        subst e
        have hp' := pairOf_le hp
        have ht' := ht t (by simp)
        obtain ⟨h1, h2⟩ := ih _ _ (small_snoc hl (by omega) (by omega)) (fun x hx => ht x (by simp [hx])) h
        refine ⟨h1, ?_⟩
        simp only [List.length_append, List.length_cons, List.length_nil] at h2 ⊢
        omega
theorem queryOf_small {M : Nat} {s : Bs} {q : Ps} (hs : s.length ≤ M) (h : queryOf s = some q) : small M q ∧ q.length ≤ s.length + 1 := by
  obtain ⟨h1, h2⟩ := query_small (M := M) _ _ _ (small_nil M) (fun t ht => Nat.le_trans (split_mem (by simp) ht) hs) h
  have := split_len s [38] (by simp)
  refine ⟨h1, ?_⟩
  simp only [List.length_nil] at h2
  omega
theorem headerOf_le {t : Bs} {p : Bs × Bs} (h : headerOf t = some p) : p.1.length ≤ t.length ∧ p.2.length ≤ t.length := by
  have hc := cut_le t [58, 32]
  unfold headerOf at h
  split at h
  · cases h; exact hc
  · cases h
theorem headers_small {M : Nat} : ∀ (k : Nat) (l : Ps) (rest : Bs) (x : Ps × Bs), small M l → rest.length ≤ M → headersFrom k l rest = some x → small M x.1 ∧ x.1.length ≤ k + l.length := by
  intro k
  induction k with
  | zero =>
    intro l rest x hl _ h
    unfold headersFrom at h
    split at h
    · cases h
    · split at h
      · cases h; exact ⟨hl, by simp⟩
      · cases h
  | succ k ih =>
    intro l rest x hl hr h
    have hc := cut_le rest [10]
    unfold headersFrom at h
    split at h
    · cases h
    · split at h
      · cases h; exact ⟨hl, by simp⟩
      · simp only at h
        split at h
        · cases h
        · rename_i p hp
          split at h
          · cases h
          · rename_i l' hl'
            have e := addP_eq hl'
            subst e
            have hp' := headerOf_le hp
            obtain ⟨h1, h2⟩ := ih _ _ _ (small_snoc hl (by omega) (by omega)) (by omega) h
            refine ⟨h1, ?_⟩
            simp only [List.length_append, List.length_cons, List.length_nil] at h2
            omega
theorem first_small {t : Bs} {f : First} (h : firstOf t = some f) : f.method.length ≤ t.length ∧ f.path.length ≤ t.length ∧ small t.length f.query ∧ f.query.length ≤ t.length + 1 := by
  have c1 := cut_le t [32]
  have c2 := cut_le (Lib.cut t [32]).2.1 [63]
  unfold firstOf at h
  split at h
  · split at h
    · cases h
    · rename_i p hp
      have hp' := dec_le hp
      split at h
      · rw [Option.map_eq_some_iff] at h
        obtain ⟨q, hq, rfl⟩ := h
        obtain ⟨h1, h2⟩ := queryOf_small (M := t.length) (Nat.le_trans c2.2 c1.2) hq
        exact ⟨c1.1, Nat.le_trans hp' (Nat.le_trans c2.1 c1.2), h1, by simp only; omega⟩
      · cases h
        exact ⟨c1.1, Nat.le_trans hp' (Nat.le_trans c2.1 c1.2), small_nil _, by simp⟩
  · cases h
/-- What a parsed request keeps to. -/
structure Fits (r : Req) : Prop where
  m : r.method.length ≤ 1000000
  p : r.path.length ≤ 1000000
  q : r.query.length ≤ 1000000
  qs : small 1000000 r.query
  h : r.headers.length ≤ 1000000
  hs : small 1000000 r.headers
  y : r.body.length ≤ 1000000
theorem small_up {M N : Nat} {l : Ps} (h : small M l) (k : M ≤ N) : small N l := fun p hp => ⟨Nat.le_trans (h p hp).1 k, Nat.le_trans (h p hp).2 k⟩
theorem fits_none : Fits {} := ⟨by simp, by simp, by simp, small_nil _, by simp, small_nil _, by simp⟩
theorem parse_fits (s : Bs) : Fits (parseOf s).2 := by
  unfold parseOf
  split
  · exact fits_none
  · rename_i hl
    split
    · exact fits_none
    · rename_i r hr
      split
      · exact fits_none
      · rename_i hb
        have c0 := cut_le s [10]
        unfold reqOf at hr
        split at hr
        · split at hr
          · cases hr
          · rename_i f hf
            split at hr
            · cases hr
            · rename_i hs body hx
              split at hr
              · cases hr
                obtain ⟨h1, h2, h3, h4⟩ := first_small hf
                obtain ⟨h5, h6⟩ := headers_small (M := 2000) _ _ _ _ (small_nil _) (by omega) hx
                simp only [List.length_nil] at h6
                exact ⟨by simp only; omega, by simp only; omega, by simp only; omega, small_up h3 (by omega), by simp only; omega, small_up h5 (by omega), by simp only at hb ⊢; omega⟩
              · cases hr
        · cases hr
end Go.Proofs.YtinnliapfdpfpaaGreatDoor.R
