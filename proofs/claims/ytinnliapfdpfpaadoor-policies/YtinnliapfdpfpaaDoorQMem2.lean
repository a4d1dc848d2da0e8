/-
  THE DOCUMENT's POLICIES: member.
-/
import Derived.Test.YtinnliapfdpfpaaDoorQMem
namespace Go.Proofs.YtinnliapfdpfpaaDoor.P
open Go.RowKit
open Go.Proofs.YtinnliapfdpfpaaDoor.C (ret_bool ret_int ret_str)

theorem NV.below {b : Nat} {M : List Nd} {n : Nat} {nd : Nd} {g cap : Nat} {a1 : Option Addr} {c1 : Nat} {a2 : Option Addr} {c2 : Nat} {w w' : World} (h : NV b M n nd g cap a1 c1 a2 c2 w) (k : Below w.heap.size w w') : NV b M n nd g cap a1 c1 a2 c2 w' := by
  have hb : b < w.heap.size := World.block_lt_of_cell? w ⟨b, 3, none⟩ h.cb
  have hg : g < w.heap.size := World.block_lt_of_cell? w ⟨g, n * 4, none⟩ h.d0
  exact ⟨h.lt, (k.cell (p := ⟨b, 3, none⟩) hb).trans h.cb, (k.cell (p := ⟨g, n * 4, none⟩) hg).trans h.d0, (k.cell (p := ⟨g, n * 4 + 1, none⟩) hg).trans h.d1, (k.cell (p := ⟨g, n * 4 + 2, none⟩) hg).trans h.d2, (k.cell (p := ⟨g, n * 4 + 3, none⟩) hg).trans h.d3, srow.below h.rn k,
    (Kept.of_below k).row h.rk (fun x hx e => by have := (World.ownsRow.lt h.rk x hx).2; omega)⟩
set_option maxHeartbeats 4000000 in
set_option maxRecDepth 20000 in
theorem member_any (b : Nat) (M : List Nd) (n : Nat) (nd : Nd) (nm : List UInt8) (w : World) (hT : TV b M w) (hn : M[n]? = some nd) (hnk : nd.names.length ≤ nd.kids.length) (hnl : nd.names.length ≤ 100000) :
    Calls Tryd.prog 59 #[.pointer (some ⟨b, 0, none⟩), .int .i64 (n : Int), str nm] w (memPost nd nm w) := by
  obtain ⟨g, cap, a1, c1, a2, c2, V⟩ := hT.node hn
  have lt := V.lt; have cb := V.cb; have d0 := V.d0; have d1 := V.d1; have d2 := V.d2; have d3 := V.d3
  have bA : Below w.heap.size w (w.alloc (.cells #[.int .u8 (nd.kind : Int), str nd.text, .slice a1 nd.names.length c1, .slice a2 nd.kids.length c2] 104)) := (Below.refl _ _).alloc (Nat.le_refl _) _
  have VA := V.below bA
  have x0 : (w.alloc (.cells #[.int .u8 (nd.kind : Int), str nd.text, .slice a1 nd.names.length c1, .slice a2 nd.kids.length c2] 104)).cell? ⟨w.heap.size, 0, none⟩ = some (.int .u8 (nd.kind : Int)) := by simp [go_sem]
  have x2 : (w.alloc (.cells #[.int .u8 (nd.kind : Int), str nd.text, .slice a1 nd.names.length c1, .slice a2 nd.kids.length c2] 104)).cell? ⟨w.heap.size, 2, none⟩ = some (.slice a1 nd.names.length c1) := by simp [go_sem]
  have x3 : (w.alloc (.cells #[.int .u8 (nd.kind : Int), str nd.text, .slice a1 nd.names.length c1, .slice a2 nd.kids.length c2] 104)).cell? ⟨w.heap.size, 3, none⟩ = some (.slice a2 nd.kids.length c2) := by simp [go_sem]
  obtain ⟨_, _, en, _, hcn⟩ := row_view VA.rn
  obtain ⟨_, _, ek, _, hck⟩ := row_view VA.rk
  simp only [Value.slice.injEq] at en ek
  obtain ⟨rfl, -, rfl⟩ := en
  obtain ⟨rfl, -, rfl⟩ := ek
  have HCN : Hid (_) := hcn
  have HCK : Hid (_) := hck
  clear hcn hck V VA hT
  go_enter Tryd.func59, Tryd.ntmps59
  go_wp2
  clear cb d0 d1 d2 d3
  generalize (w.alloc (.cells #[.int .u8 (nd.kind : Int), str nd.text, .slice a1 nd.names.length c1, .slice a2 nd.kids.length c2] 104)) = W at *
  go_loop [9, 10, 11] (fun av mv i => ∃ k : Nat, k ≤ nd.names.length ∧ i = .int .i64 k ∧ av = .int .i64 ((memAt nd.names nd.kids nm k).1 : Int) ∧ mv = .int .i64 ((memAt nd.names nd.kids nm k).2 : Int)) (fun _ _ i => nd.names.length - (intOf i).toNat)
  case atStart => exact ⟨0, Nat.zero_le _, rfl, rfl, rfl⟩
  case round =>
    obtain ⟨k, hk, rfl, rfl, rfl⟩ := hrel
    have hle := memAt_le nd.names nd.kids nm k
    by_cases hlt : k < nd.names.length
    · obtain ⟨gn, rfl, en1, _⟩ := HCN.out k (str nd.names[k]) (by rw [List.getElem?_map, List.getElem?_eq_getElem hlt]; rfl)
      have hkk : k < nd.kids.length := by omega
      obtain ⟨gk, rfl, ek1, _⟩ := HCK.out k (kidV nd.kids[k]) (by rw [List.getElem?_map, List.getElem?_eq_getElem hkk]; rfl)
      unfold kidV at ek1
      have HS : Hid (memAt nd.names nd.kids nm (k + 1) = if nd.names[k] = nm then (nd.kids[k], (memAt nd.names nd.kids nm k).2 + 1) else memAt nd.names nd.kids nm k) := by
        show _ = _
        rw [memAt_succ, List.getElem?_eq_getElem hlt]
        simp [List.getD, List.getElem?_eq_getElem hkk]
      cases he : (nd.names[k] == nm) with
      | true =>
        have H1 : Hid ((memAt nd.names nd.kids nm (k + 1)).1 = nd.kids[k]) := by show _ = _; rw [HS.out, if_pos (eq_of_beq he)]
        have H2 : Hid ((memAt nd.names nd.kids nm (k + 1)).2 = (memAt nd.names nd.kids nm k).2 + 1) := by show _ = _; rw [HS.out, if_pos (eq_of_beq he)]
        clear HS
        go_wp2
        go_round
        case rel => exact ⟨k + 1, by omega, by go_num, by rw [H1.out], by rw [H2.out]; simp⟩
        case measure => simp [intOf]; omega
      | false =>
        have H1 : Hid (memAt nd.names nd.kids nm (k + 1) = memAt nd.names nd.kids nm k) := by show _ = _; rw [HS.out, if_neg (by simpa using he)]
        clear HS
        go_wp2
        go_round
        case rel => exact ⟨k + 1, by omega, by go_num, by rw [H1.out], by rw [H1.out]⟩
        case measure => simp [intOf]; omega
    · obtain rfl : k = nd.names.length := by omega
      by_cases h123 : nd.kind = 123
      · have p1 : ((nd.kind : Int) == 123) = true := by simp; omega
        go_wp2
        go_ret2
        refine ⟨?_, bA⟩
        rw [h123]; simp
        rw [Bool.eq_iff_iff]; simp only [beq_iff_eq]; omega
      · have p1 : ((nd.kind : Int) == 123) = false := by simp; omega
        go_wp2
        go_ret2
        refine ⟨?_, bA⟩
        rw [show (nd.kind == 123) = false by simpa using h123]; rfl
end Go.Proofs.YtinnliapfdpfpaaDoor.P
