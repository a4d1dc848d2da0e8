/-
  THE DOCUMENT's POLICIES: the tree that has been read; members by their names.
-/
import Derived.Test.YtinnliapfdpfpaaDoorQRead
import Derived.Test.YtinnliapfdpfpaaDoorPSays
namespace Go.Proofs.YtinnliapfdpfpaaDoor.P
open Go.RowKit
open Go.Proofs.YtinnliapfdpfpaaDoor.C (ret_bool ret_int ret_str)

/-- The tree that has been read: nothing changes it any more. -/
def TV (b : Nat) (M : List Nd) (w : World) : Prop := ∃ v us, w.cell? ⟨b, 3, none⟩ = some v ∧ w.ownsRow 0 104 4 v M.length (ncells us) ∧ all2 (nodeAt w (inW w)) us M
theorem TS.view {X : Nat → Prop} {b : Nat} {s : List UInt8} {q : Nat} {bad : Bool} {M : List Nd} {w : World} (h : TS X b s q bad M w) : TV b M w := by
  obtain ⟨v, us, h1, h2, _, h4⟩ := h.vals
  exact ⟨v, us, h1.c3, h2, all2_mono (fun _ _ hr => hr.inb.mono (fun g hg => hg.2)) h4⟩
theorem TV.below {b : Nat} {M : List Nd} {w w' : World} (h : TV b M w) (k : Below w.heap.size w w') : TV b M w' := by
  obtain ⟨v, us, h1, h2, h3⟩ := h
  have hb : b < w.heap.size := World.block_lt_of_cell? w ⟨b, 3, none⟩ h1
  exact ⟨v, us, (k.cell (p := ⟨b, 3, none⟩) hb).trans h1, (Kept.of_below k).row h2 (fun g hg e => by have := (World.ownsRow.lt h2 g hg).2; omega),
    all2_mono (fun _ _ hr => (hr.kept (Kept.of_below k) (fun g hg e => by unfold inW at hg; omega)).mono (fun g hg => by have := k.size; unfold inW at *; omega)) h3⟩
theorem ncells_at : ∀ (l : List RawN) (k : Nat) (h : k < l.length), (ncells l)[k * 4]? = some (.int .u8 (l[k].1 : Int)) ∧ (ncells l)[k * 4 + 1]? = some (str l[k].2.1) ∧ (ncells l)[k * 4 + 2]? = some l[k].2.2.1 ∧ (ncells l)[k * 4 + 3]? = some l[k].2.2.2
  | p :: l, 0, _ => ⟨rfl, rfl, rfl, rfl⟩
  | p :: l, k + 1, h => by
    have := ncells_at l k (by simpa using h)
    rw [show (k + 1) * 4 = k * 4 + 1 + 1 + 1 + 1 by omega]
    exact this
/-- A node, as the walk reads it. -/
structure NV (b : Nat) (M : List Nd) (n : Nat) (nd : Nd) (g cap : Nat) (a1 : Option Addr) (c1 : Nat) (a2 : Option Addr) (c2 : Nat) (w : World) : Prop where
  lt : n < M.length
  cb : w.cell? ⟨b, 3, none⟩ = some (.slice (some ⟨g, 0, none⟩) M.length cap)
  d0 : w.cell? ⟨g, n * 4, none⟩ = some (.int .u8 (nd.kind : Int))
  d1 : w.cell? ⟨g, n * 4 + 1, none⟩ = some (str nd.text)
  d2 : w.cell? ⟨g, n * 4 + 2, none⟩ = some (.slice a1 nd.names.length c1)
  d3 : w.cell? ⟨g, n * 4 + 3, none⟩ = some (.slice a2 nd.kids.length c2)
  rn : srow w 0 (.slice a1 nd.names.length c1) nd.names
  rk : irow w (.slice a2 nd.kids.length c2) nd.kids
theorem TV.node {b : Nat} {M : List Nd} {w : World} (h : TV b M w) {n : Nat} {nd : Nd} (hn : M[n]? = some nd) : ∃ g cap a1 c1 a2 c2, NV b M n nd g cap a1 c1 a2 c2 w := by
  obtain ⟨v, us, h1, h2, h3⟩ := h
  obtain ⟨hlt, hget⟩ := List.getElem?_eq_some_iff.1 hn
  have hu : n < us.length := by rw [all2_len h3]; exact hlt
  have hr := all2_get h3 n hu hlt
  rw [hget] at hr
  obtain ⟨m0, m1, m2, m3⟩ := ncells_at us n hu
  obtain ⟨a, cap, rfl, hcap, hc⟩ := row_view h2
  obtain ⟨g, rfl, d0, _⟩ := hc _ _ m0
  obtain ⟨g1, e1, d1, _⟩ := hc _ _ m1
  obtain rfl : g = g1 := by simpa using e1
  obtain ⟨g2, e2, d2, _⟩ := hc _ _ m2
  obtain rfl : g = g2 := by simpa using e2
  obtain ⟨g3, e3, d3, _⟩ := hc _ _ m3
  obtain rfl : g = g3 := by simpa using e3
  obtain ⟨a1, c1, ea⟩ := nrow_slice hr.names
  obtain ⟨a2, c2, eb⟩ := irow_slice hr.kids
  rw [ea] at d2; rw [eb] at d3; rw [hr.kind] at d0; rw [hr.text] at d1
  have rn := hr.names; rw [ea] at rn
  have rk := hr.kids; rw [eb] at rk
  exact ⟨g, cap, a1, c1, a2, c2, hlt, h1, d0, d1, d2, d3, rn, rk⟩
set_option maxHeartbeats 1000000 in
theorem named_any (v : Value) (l : List (List UInt8)) (s : List UInt8) (w : World) (h : srow w 0 v l) (hl : l.length ≤ 1000000) :
    Calls Tryd.prog 90 #[v, str s] w fun e w' => e = .returned (.bool (l.any (fun y => y == s))) ∧ w = w' := by
  obtain ⟨a, cap, rfl, hcap, hcells⟩ := row_view h
  have HC : Hid (∀ j u, (l.map str)[j]? = some u → ∃ g, a = some ⟨g, 0, none⟩ ∧ w.cell? ⟨g, j, none⟩ = some u ∧ g < w.heap.size) := hcells
  clear hcells h
  go_enter Tryd.func90, Tryd.ntmps90
  go_wp2
  go_loop [5] (fun i => ∃ k : Nat, k ≤ l.length ∧ i = .int .i64 k ∧ (l.take k).any (fun y => y == s) = false) (fun i => l.length - (intOf i).toNat)
  case atStart => exact ⟨0, Nat.zero_le _, rfl, by simp⟩
  case round =>
    obtain ⟨k, hk, rfl, hno⟩ := hrel
    have HN : Hid ((l.take k).any (fun y => y == s) = false) := hno
    clear hno
    by_cases hlt : k < l.length
    · obtain ⟨g, rfl, c1, hg⟩ := HC.out k (str l[k]) (by rw [List.getElem?_map, List.getElem?_eq_getElem hlt]; rfl)
      cases he : (l[k] == s) with
      | true =>
        have HY : Hid (l.any (fun y => y == s) = true) := any_hit _ l k hlt he
        clear HN
        go_wp2
        go_ret
        exact ⟨ret_bool HY.out.symm, rfl⟩
      | false =>
        have HY : Hid ((l.take (k + 1)).any (fun y => y == s) = false) := any_take_succ _ l k hlt HN.out he
        clear HN
        go_wp2
        go_round
        case rel => exact ⟨k + 1, by omega, by go_num, HY.out⟩
        case measure => simp [intOf]; omega
    · have HT : Hid (l.any (fun y => y == s) = false) := by
        show _ = _
        have := HN.out
        rwa [List.take_of_length_le (by omega)] at this
      clear HN
      go_wp2
      go_ret
      exact ⟨ret_bool HT.out.symm, rfl⟩
/-- The last of the name, and how many there are. -/
def memAt (names : List (List UInt8)) (kids : List Nat) (nm : List UInt8) (k : Nat) : Nat × Nat :=
  (List.range k).foldl (fun (p : Nat × Nat) i => if names[i]? = some nm then (kids.getD i 0, p.2 + 1) else p) (0, 0)
theorem memAt_succ (names : List (List UInt8)) (kids : List Nat) (nm : List UInt8) (k : Nat) : memAt names kids nm (k + 1) = if names[k]? = some nm then (kids.getD k 0, (memAt names kids nm k).2 + 1) else memAt names kids nm k := by
  unfold memAt; rw [List.range_succ, List.foldl_append]; rfl
theorem memAt_le (names : List (List UInt8)) (kids : List Nat) (nm : List UInt8) : ∀ k, (memAt names kids nm k).2 ≤ k
  | 0 => Nat.le_refl _
  | k + 1 => by
    have := memAt_le names kids nm k
    rw [memAt_succ]; split
    · simp; omega
    · omega
def memPost (nd : Nd) (nm : List UInt8) (w : World) (e : Ending) (w' : World) : Prop :=
  e = .returned (.tuple #[.int .i64 ((memAt nd.names nd.kids nm nd.names.length).1 : Int), .bool (nd.kind == 123 && (memAt nd.names nd.kids nm nd.names.length).2 == 1)]) ∧ Below w.heap.size w w'
end Go.Proofs.YtinnliapfdpfpaaDoor.P
