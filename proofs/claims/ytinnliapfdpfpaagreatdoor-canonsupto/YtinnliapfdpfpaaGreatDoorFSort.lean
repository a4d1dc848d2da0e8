/-
  THE DOCUMENT'S ANSWER: texts sorted, each put in its place.
-/
import Derived.Test.YtinnliapfdpfpaaGreatDoorFSmall
import Derived.Sort.Walk0
namespace Go.Proofs.YtinnliapfdpfpaaGreatDoor.R
open Go.RowKit
open Go.Proofs.YtinnliapfdpfpaaGreatDoor.C (ret_bool ret_int)

theorem srow.len {w : World} {B : Nat} {v : Value} {l : List Bs} (h : srow w B v l) : ∃ a c, v = .slice a l.length c := by
  obtain ⟨h1, ⟨rfl, hn⟩ | ⟨g, cap, cur, rfl, hg, _⟩⟩ := h
  · exact ⟨none, 0, by rw [hn]⟩
  · exact ⟨_, cap, rfl⟩
theorem shold.at {w : World} {B n c : Nat} {a : Option Addr} {l : List Bs} (h : shold w B (.slice a n c) l) {k : Nat} (hk : k < l.length) : ∃ g, some ⟨g, 0, none⟩ = a ∧ g < B ∧ w.cell? ⟨g, k, none⟩ = some (str l[k]) := by
  rcases h with ⟨_, rfl⟩ | ⟨g, cap, h1, hg, hc⟩
  · exact absurd hk (by simp)
  · cases h1; exact ⟨g, rfl, hg, hc k hk⟩
theorem le_cases (a b : Bs) : (a ≤ b ∧ Op.bytesLess a b = true) ∨ (a ≤ b ∧ Op.bytesLess a b = false ∧ (a == b) = true) ∨ (¬ a ≤ b ∧ Op.bytesLess a b = false ∧ (a == b) = false) := by
  rw [bytesLess_eq]
  by_cases h : a < b
  · exact .inl ⟨List.le_of_lt h, by simpa using h⟩
  · refine .inr ?_
    by_cases e : a = b
    · subst e; exact .inl ⟨List.le_refl _, by simp, by simp⟩
    · refine .inr ⟨fun k => ?_, by simpa using h, by simpa using e⟩
      rcases List.le_iff_lt_or_eq.1 k with k | k
      · exact h k
      · exact e k
theorem up_to {out : List Bs} {x : Bs} {m : Nat} (h0 : ∀ j (h : j < out.length), j < m → out[j] ≤ x) {hm : m < out.length} (h1 : out[m] ≤ x) : ∀ j (h : j < out.length), j < m + 1 → out[j] ≤ x := by
  intro j hj hjm
  by_cases h : j < m
  · exact h0 j hj h
  · obtain rfl : j = m := by omega
    exact h1
theorem mid_snoc {a out : List Bs} {q p : Nat} (h1 : q ≤ p) (h2 : p < out.length) : a ++ (out.drop q).take (p + 1 - q) = a ++ (out.drop q).take (p - q) ++ [out[p]] := by
  have e : p + 1 - q = (p - q) + 1 := by omega
  rw [e, List.take_succ_eq_append_getElem (by simp; omega), List.append_assoc]
  congr 3
  rw [List.getElem_drop]
  congr 1
  omega
theorem takeWhile_at {α : Type} (p : α → Bool) : ∀ (l : List α) (k : Nat), k ≤ l.length → (∀ j (h : j < l.length), j < k → p l[j] = true) → (∀ h : k < l.length, p l[k] = false) → l.takeWhile p = l.take k ∧ l.dropWhile p = l.drop k := by
  intro l
  induction l with
  | nil => intro k hk _ _; simp
  | cons a l ih =>
    intro k hk h1 h2
    cases k with
    | zero =>
      have := h2 (by simp)
      simp only [List.getElem_cons_zero] at this
      simp [this]
    | succ k =>
      have h0 := h1 0 (by simp) (by omega)
      simp only [List.getElem_cons_zero] at h0
      obtain ⟨e1, e2⟩ := ih k (by simpa using hk) (fun j h hj => h1 (j + 1) (by simpa using h) (by omega)) (fun h => h2 (by simpa using h))
      simp [h0, e1, e2]
theorem insP_at {x : Bs} {out : List Bs} {k : Nat} (hk : k ≤ out.length) (h1 : ∀ j (h : j < out.length), j < k → out[j] ≤ x) (h2 : ∀ h : k < out.length, ¬ out[k] ≤ x) : insP x out = out.take k ++ x :: out.drop k := by
  obtain ⟨e1, e2⟩ := takeWhile_at (fun y => decide (y ≤ x)) out k hk (fun j h hj => by simpa using h1 j h hj) (fun h => by simpa using h2 h)
  unfold insP
  rw [e1, e2]
theorem sortL_take {l : List Bs} {k : Nat} (h : k < l.length) : sortL (l.take (k + 1)) = insP l[k] (sortL (l.take k)) := by
  rw [List.take_succ_eq_append_getElem h, sortL, List.foldl_append]; rfl
theorem sortL_len (l : List Bs) : (sortL l).length = l.length := by
  rw [sortL_eq, List.length_mergeSort]

set_option maxRecDepth 20000 in
set_option maxHeartbeats 4000000 in
theorem rsorted_any (v : Value) (l : List Bs) (w : World) (h : shold w w.heap.size v l) (hl : l.length ≤ 1000000) :
    Calls Tryz.prog 71 #[v] w fun e w' => ∃ v', e = .returned v' ∧ srow w' w.heap.size v' (sortL l) ∧ Below w.heap.size w w' := by
  rcases h with ⟨rfl, rfl⟩ | ⟨g, cap, rfl, hg, hc⟩
  · go_enter Tryz.func71, Tryz.ntmps71
    go_wp2
    go_loop [3, 4] (fun o i => o = .slice none 0 0 ∧ i = .int .i64 0) (fun _ _ => 0)
    case atStart => exact ⟨rfl, rfl⟩
    case round =>
      obtain ⟨rfl, rfl⟩ := hrel
      go_wp2
      go_ret
      exact ⟨_, rfl, srow_nil _ _, Below.refl _ _⟩
  · go_enter Tryz.func71, Tryz.ntmps71
    go_wp2
    go_loopw [3, 4] (fun o i wr => ∃ (k : Nat), k ≤ l.length ∧ i = .int .i64 k ∧ srow wr w.heap.size o (sortL (l.take k)) ∧ Below w.heap.size w wr) (fun _ i _ => l.length - (intOf i).toNat)
    case atStart => exact ⟨0, Nat.zero_le _, rfl, srow_nil _ _, Below.refl _ _⟩
    case round =>
      obtain ⟨k, hk, rfl, hrow, hb⟩ := hrel
      obtain ⟨W, rfl⟩ : ∃ W, W = wr := ⟨_, rfl⟩
      by_cases hlt : k < l.length
      · have c1 := (hb.cell (p := ⟨g, k, none⟩) hg).trans (hc k hlt)
        have HS : Hid (sortL (l.take (k + 1)) = insP l[k] (sortL (l.take k))) := sortL_take hlt
        have hol := sortL_len (l.take k)
        rw [List.length_take, Nat.min_eq_left hk] at hol
        have hsz := hb.size
        obtain ⟨x, hx⟩ : ∃ x, l[k] = x := ⟨_, rfl⟩
        rw [hx] at c1 HS
        clear hx
        generalize sortL (l.take k) = out at *
        have hol' : out.length ≤ 1000000 := by omega
        clear hol
        have hhold := hrow.hold
        obtain ⟨a, cp, rfl⟩ := hrow.len
        go_wp2
        go_loopw [5] (fun i w2 => ∃ (m n : Nat), m ≤ out.length ∧ i = .int .i64 m ∧ w2 = W.drewN n ∧ ∀ j (h : j < out.length), j < m → out[j] ≤ x) (fun i _ => out.length - (intOf i).toNat)
        case atStart => exact ⟨0, 0, Nat.zero_le _, rfl, rfl, fun j _ hj => absurd hj (by omega)⟩
        case round =>
          obtain ⟨m, n, hm, rfl, rfl, hlo⟩ := hrel
          have HLO : Hid (∀ j (h : j < out.length), j < m → out[j] ≤ x) := hlo
          clear hlo
          by_cases hmo : m < out.length
          · obtain ⟨g2, rfl, hg2, c2⟩ := hhold.at hmo
            rcases le_cases out[m] x with ⟨hle, hbl⟩ | ⟨hle, hbl1, hbl2⟩ | ⟨hle, hbl1, hbl2⟩
            · have HLE : Hid (∀ j (h : j < out.length), j < m + 1 → out[j] ≤ x) := up_to HLO.out hle
              clear hle
              go_wp2
              go_region
              go_wp2
              go_roundw
              case rel => exact ⟨m + 1, n + 1, by omega, by go_num, rfl, HLE.out⟩
              case measure => simp [intOf]; omega
            · have HLE : Hid (∀ j (h : j < out.length), j < m + 1 → out[j] ≤ x) := up_to HLO.out hle
              clear hle
              go_wp2
              go_region
              go_wp2
              go_roundw
              case rel => exact ⟨m + 1, n + 1, by omega, by go_num, rfl, HLE.out⟩
              case measure => simp [intOf]; omega
            · have HIN : Hid (insP x out = out.take m ++ x :: out.drop m) := insP_at hm HLO.out (fun _ => hle)
              clear hle HLO
              go_wp2
              go_region
              go_wp2
              go_loopw [6, 7] (fun v i w3 => ∃ (q : Nat), q ≤ m ∧ i = .int .i64 q ∧ srow w3 W.heap.size v (out.take q) ∧ Below W.heap.size W w3) (fun _ i _ => m - (intOf i).toNat)
              case atStart => exact ⟨0, Nat.zero_le _, rfl, srow_nil _ _, show Below _ _ (W.drewN (n + 1)) from below_drewN (Below.refl _ _) _⟩
              case round =>
                obtain ⟨q, hq, rfl, hrow3, hb3⟩ := hrel
                have hz3 := hb3.size
                by_cases hqm : q < m
                · obtain ⟨g3, e3, hg3, c3⟩ := hhold.at (show q < out.length by omega)
                  cases e3
                  have c3' := (hb3.cell (p := ⟨_, q, none⟩) hg3).trans c3
                  have HTQ : Hid (out.take (q + 1) = out.take q ++ [out[q]'(by omega)]) := List.take_succ_eq_append_getElem _
                  have hlq : (out.take q).length ≤ 1000000 := by rw [List.length_take]; omega
                  go_wp2_with (at_builtin; refine sapp_law rfl _ _ rfl W.heap.size (out.take q) (out[q]'(by omega)) _ rfl (hrow3.alloc _) _ rfl _ (heap_alloc_new _ _) (by omega) (by simp; omega) ?_; intro v' w4 hrow4 _ hb4)
                  go_roundw
                  case rel => exact ⟨q + 1, by omega, by go_num, by rw [HTQ.out]; exact hrow4, (hb3.alloc (by omega) _).trans hb4⟩
                  case measure => simp [intOf]; omega
                · obtain rfl : q = m := by omega
                  have c1' := (hb3.cell (p := ⟨g, k, none⟩) (show g < W.heap.size by omega)).trans c1
                  have hlq : (out.take q).length ≤ 1000000 := by rw [List.length_take]; omega
                  go_wp2_with (at_builtin; refine sapp_law rfl _ _ rfl W.heap.size (out.take q) x _ rfl (hrow3.alloc _) _ rfl _ (heap_alloc_new _ _) (by omega) (by simp; omega) ?_; intro v' w4 hrow4 _ hb4)
                  have hb5 := (hb3.alloc (by omega) _).trans hb4
                  clear hb3 hb4 hrow3 c1' hz3
                  go_loopw [6, 8] (fun v i w5 => ∃ (p : Nat), q ≤ p ∧ p ≤ out.length ∧ i = .int .i64 p ∧ srow w5 W.heap.size v (out.take q ++ [x] ++ (out.drop q).take (p - q)) ∧ Below W.heap.size W w5) (fun _ i _ => out.length - (intOf i).toNat)
                  case atStart => exact ⟨q, Nat.le_refl _, hm, rfl, by simpa using hrow4, hb5⟩
                  case round =>
                    clear hrow4 hb5
                    obtain ⟨p, hqp, hp, rfl, hrow5, hb5⟩ := hrel
                    have hz5 := hb5.size
                    by_cases hpo : p < out.length
                    · obtain ⟨g3, e3, hg3, c3⟩ := hhold.at hpo
                      cases e3
                      have c3' := (hb5.cell (p := ⟨_, p, none⟩) hg3).trans c3
                      have HTQ : Hid (out.take q ++ [x] ++ (out.drop q).take (p + 1 - q) = out.take q ++ [x] ++ (out.drop q).take (p - q) ++ [out[p]]) := mid_snoc hqp hpo
                      have hlq : (out.take q ++ [x] ++ (out.drop q).take (p - q)).length ≤ 2000002 := by simp only [List.length_append, List.length_take, List.length_drop, List.length_cons, List.length_nil]; omega
                      generalize out.take q ++ [x] ++ (out.drop q).take (p - q) = mid at *
                      go_wp2_with (at_builtin; refine sapp_law rfl _ _ rfl W.heap.size mid (out[p]) _ rfl (hrow5.alloc _) _ rfl _ (heap_alloc_new _ _) (by omega) (by simp; omega) ?_; intro v' w6 hrow6 _ hb6)
                      go_roundw
                      case rel => exact ⟨p + 1, by omega, by omega, by go_num, by rw [HTQ.out]; exact hrow6, (hb5.alloc (by omega) _).trans hb6⟩
                      case measure => simp [intOf]; omega
                    · have HX : Hid (out.take q ++ [x] ++ (out.drop q).take (p - q) = sortL (l.take (k + 1))) := by
                        show _ = _
                        have e : (out.drop q).take (p - q) = out.drop q := List.take_of_length_le (by rw [List.length_drop]; omega)
                        rw [HS.out, HIN.out, e]; simp
                      go_wp2
                      go_roundw
                      case rel => exact ⟨k + 1, by omega, by go_num, by rw [← HX.out]; exact hrow5.up hsz, hb.trans (hb5.mono hsz)⟩
                      case measure => simp [intOf]; omega
          · have HIN : Hid (insP x out = out.take m ++ x :: out.drop m) := insP_at hm HLO.out (fun h => absurd h hmo)
            clear HLO
            go_wp2
            go_region
            go_wp2
            go_loopw [6, 7] (fun v i w3 => ∃ (q : Nat), q ≤ m ∧ i = .int .i64 q ∧ srow w3 W.heap.size v (out.take q) ∧ Below W.heap.size W w3) (fun _ i _ => m - (intOf i).toNat)
            case atStart => exact ⟨0, Nat.zero_le _, rfl, srow_nil _ _, show Below _ _ (W.drewN (n + 1)) from below_drewN (Below.refl _ _) _⟩
            case round =>
              obtain ⟨q, hq, rfl, hrow3, hb3⟩ := hrel
              have hz3 := hb3.size
              by_cases hqm : q < m
              · obtain ⟨g3, e3, hg3, c3⟩ := hhold.at (show q < out.length by omega)
                cases e3
                have c3' := (hb3.cell (p := ⟨_, q, none⟩) hg3).trans c3
                have HTQ : Hid (out.take (q + 1) = out.take q ++ [out[q]'(by omega)]) := List.take_succ_eq_append_getElem _
                have hlq : (out.take q).length ≤ 1000000 := by rw [List.length_take]; omega
                go_wp2_with (at_builtin; refine sapp_law rfl _ _ rfl W.heap.size (out.take q) (out[q]'(by omega)) _ rfl (hrow3.alloc _) _ rfl _ (heap_alloc_new _ _) (by omega) (by simp; omega) ?_; intro v' w4 hrow4 _ hb4)
                go_roundw
                case rel => exact ⟨q + 1, by omega, by go_num, by rw [HTQ.out]; exact hrow4, (hb3.alloc (by omega) _).trans hb4⟩
                case measure => simp [intOf]; omega
              · obtain rfl : q = m := by omega
                have c1' := (hb3.cell (p := ⟨g, k, none⟩) (show g < W.heap.size by omega)).trans c1
                have hlq : (out.take q).length ≤ 1000000 := by rw [List.length_take]; omega
                go_wp2_with (at_builtin; refine sapp_law rfl _ _ rfl W.heap.size (out.take q) x _ rfl (hrow3.alloc _) _ rfl _ (heap_alloc_new _ _) (by omega) (by simp; omega) ?_; intro v' w4 hrow4 _ hb4)
                have hb5 := (hb3.alloc (by omega) _).trans hb4
                clear hb3 hb4 hrow3 c1' hz3
                go_loopw [6, 8] (fun v i w5 => ∃ (p : Nat), q ≤ p ∧ p ≤ out.length ∧ i = .int .i64 p ∧ srow w5 W.heap.size v (out.take q ++ [x] ++ (out.drop q).take (p - q)) ∧ Below W.heap.size W w5) (fun _ i _ => out.length - (intOf i).toNat)
                case atStart => exact ⟨q, Nat.le_refl _, hm, rfl, by simpa using hrow4, hb5⟩
                case round =>
                  clear hrow4 hb5
                  obtain ⟨p, hqp, hp, rfl, hrow5, hb5⟩ := hrel
                  have hz5 := hb5.size
                  by_cases hpo : p < out.length
                  · exact absurd hpo (by omega)
                  · have HX : Hid (out.take q ++ [x] ++ (out.drop q).take (p - q) = sortL (l.take (k + 1))) := by
                      show _ = _
                      have e : (out.drop q).take (p - q) = out.drop q := List.take_of_length_le (by rw [List.length_drop]; omega)
                      rw [HS.out, HIN.out, e]; simp
                    go_wp2
                    go_roundw
                    case rel => exact ⟨k + 1, by omega, by go_num, by rw [← HX.out]; exact hrow5.up hsz, hb.trans (hb5.mono hsz)⟩
                    case measure => simp [intOf]; omega
      · have HT : Hid (sortL (l.take k) = sortL l) := by show _ = _; rw [List.take_of_length_le (by omega)]
        go_wp2
        go_ret
        exact ⟨_, rfl, by rw [← HT.out]; exact hrow, hb⟩
end Go.Proofs.YtinnliapfdpfpaaGreatDoor.R
