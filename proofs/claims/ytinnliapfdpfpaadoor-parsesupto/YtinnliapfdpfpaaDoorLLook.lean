/-
  THE LAW'S LOOKS: are two lists the same; do all lists hold what was written.
-/
import Derived.Test.YtinnliapfdpfpaaDoorLOwns
namespace Go.Proofs.YtinnliapfdpfpaaDoor.R
open Go.RowKit
open Go.Proofs.YtinnliapfdpfpaaDoor.C (ret_bool)

theorem phold.form {w : World} {B : Nat} {v : Value} {l : Ps} (h : phold w B v l) : ∃ a c, v = .slice a l.length c ∧ ∀ k (hk : k < l.length), ∃ g, a = some ⟨g, 0, none⟩ ∧ w.cell? ⟨g, k * 2, none⟩ = some (str l[k].1) ∧ w.cell? ⟨g, k * 2 + 1, none⟩ = some (str l[k].2) := by
  rcases h with ⟨rfl, rfl⟩ | ⟨g, cap, rfl, hg, hc⟩
  · exact ⟨none, 0, rfl, fun k hk => absurd hk (by simp)⟩
  · exact ⟨some ⟨g, 0, none⟩, cap, rfl, fun k hk => ⟨g, rfl, hc k hk⟩⟩

set_option maxHeartbeats 1000000 in
theorem samePairs_any (va vb : Value) (l : Ps) (B B' : Nat) (w : World) (h1 : phold w B va l) (h2 : phold w B' vb l) (hl : l.length ≤ 1000000) :
    Calls Tryd.prog 14 #[va, vb] w fun e w' => e = .returned (.bool true) ∧ ∃ n, w' = w.drewN n := by
  obtain ⟨a, ca, rfl, fa⟩ := h1.form
  obtain ⟨b, cb, rfl, fb⟩ := h2.form
  clear h1 h2
  go_enter Tryd.func14, Tryd.ntmps14
  go_wp2
  go_loopw [5] (fun i wr => ∃ k n : Nat, k ≤ l.length ∧ i = .int .i64 k ∧ wr = w.drewN n) (fun i _ => l.length - (intOf i).toNat)
  case atStart => exact ⟨0, 0, Nat.zero_le _, rfl, rfl⟩
  case round =>
    obtain ⟨k, n, hk, rfl, rfl⟩ := hrel
    by_cases hlt : k < l.length
    · obtain ⟨g, rfl, x0, x1⟩ := fa k hlt
      obtain ⟨h, rfl, y0, y1⟩ := fb k hlt
      clear fa fb
      generalize l[k] = p at *
      obtain ⟨p1, p2⟩ := p
      simp only at x0 x1 y0 y1
      go_wp2
      go_quiet (fail)
      go_wp2
      go_roundw
      case rel => exact ⟨k + 1, n + nq, by omega, by go_num, rfl⟩
      case measure => simp [intOf]; omega
    · go_wp2
      go_ret
      exact ⟨rfl, n, rfl⟩

theorem book.formL {w : World} {b B : Nat} {vL vM : Value} {K : List (Value × Bs)} {nx : Nat} (I : book w b B vL vM K nx) : ∃ a c, vL = .slice a K.length c ∧ ∀ k (hk : k < K.length), ∃ g, a = some ⟨g, 0, none⟩ ∧ w.cell? ⟨g, k, none⟩ = some K[k].1 := by
  have h := I.rL
  have hc := fun g hv => World.ownsRow.cells h (g := g) hv
  obtain ⟨h1, ⟨rfl, hn⟩ | ⟨g, cap, cur, rfl, hg, _⟩⟩ := h
  · exact ⟨none, 0, by rw [hn], fun k hk => absurd hk (by omega)⟩
  · refine ⟨some ⟨g, 0, none⟩, cap, rfl, fun k hk => ⟨g, rfl, ?_⟩⟩
    have c1 := hc g rfl k K[k].1 (by simp [hk])
    simpa [Addr.add_lit] using c1
theorem book.formM {w : World} {b B : Nat} {vL vM : Value} {K : List (Value × Bs)} {nx : Nat} (I : book w b B vL vM K nx) : ∃ a c, vM = .slice a K.length c ∧ ∀ k (hk : k < K.length), ∃ g, a = some ⟨g, 0, none⟩ ∧ w.cell? ⟨g, k, none⟩ = some (str K[k].2) := by
  have h := I.rM
  unfold srow at h
  have hc := fun g hv => World.ownsRow.cells h (g := g) hv
  obtain ⟨h1, ⟨rfl, hn⟩ | ⟨g, cap, cur, rfl, hg, _⟩⟩ := h
  · simp at hn
    exact ⟨none, 0, by rw [hn]; rfl, fun k hk => absurd hk (by simp [hn])⟩
  · refine ⟨some ⟨g, 0, none⟩, cap, by simp, fun k hk => ⟨g, rfl, ?_⟩⟩
    have c1 := hc g rfl k (str K[k].2) (by simp [hk])
    simpa [Addr.add_lit] using c1
set_option maxHeartbeats 4000000 in
theorem looks_any (b B : Nat) (vL vM : Value) (K : List (Value × Bs)) (nx : Nat) (w : World) (I : book w b B vL vM K nx) (hK : K.length ≤ 100000000) :
    Calls Tryd.prog 17 #[.pointer (some ⟨b, 0, none⟩)] w fun e w' => e = .returned (.bool true) ∧ ∃ n, w' = w.drewN n := by
  obtain ⟨aL, cL, hvL, fL⟩ := I.formL
  obtain ⟨aM, cM, hvM, fM⟩ := I.formM
  have c0 := I.c0
  have c1 := I.c1
  have good := I.good
  clear I
  subst hvL hvM
  go_enter Tryd.func17, Tryd.ntmps17
  go_wp2
  go_loopw [3] (fun i wr => ∃ k n : Nat, k ≤ K.length ∧ i = .int .i64 k ∧ wr = w.drewN n) (fun i _ => K.length - (intOf i).toNat)
  case atStart => exact ⟨0, 0, Nat.zero_le _, rfl, rfl⟩
  case round =>
    obtain ⟨k, n, hk, rfl, rfl⟩ := hrel
    by_cases hlt : k < K.length
    · obtain ⟨gL, rfl, xL⟩ := fL k hlt
      obtain ⟨gM, rfl, xM⟩ := fM k hlt
      have hgd := good K[k] (List.getElem_mem hlt)
      clear fL fM good
      generalize K[k] = x at *
      obtain ⟨v, m⟩ := x
      simp only at xL xM hgd
      obtain ⟨n', hn', ph⟩ := hgd
      obtain ⟨a, c, rfl, fa⟩ := ph.form
      simp only [List.length_replicate] at xL fa
      clear ph
      go_wp2
      go_loopw [4] (fun i wr => ∃ j n2 : Nat, j ≤ n' ∧ i = .int .i64 j ∧ wr = w.drewN n2) (fun i _ => n' - (intOf i).toNat)
      case atStart => exact ⟨0, n, Nat.zero_le _, rfl, rfl⟩
      case round =>
        obtain ⟨j, n2, hj, rfl, rfl⟩ := hrel
        by_cases hjl : j < n'
        · obtain ⟨g, rfl, y0, y1⟩ := fa j hjl
          simp only [List.getElem_replicate] at y0 y1
          clear fa
          go_wp2
          go_quiet (fail)
          go_wp2
          go_roundw
          case rel => exact ⟨j + 1, n2 + nq, by omega, by go_num, rfl⟩
          case measure => simp [intOf]; omega
        · go_wp2
          go_roundw
          case rel => exact ⟨k + 1, n2, by omega, by go_num, rfl⟩
          case measure => simp [intOf]; omega
    · go_wp2
      go_ret
      exact ⟨rfl, n, rfl⟩
end Go.Proofs.YtinnliapfdpfpaaDoor.R
