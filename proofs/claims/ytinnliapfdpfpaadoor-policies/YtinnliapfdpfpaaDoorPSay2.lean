/-
  WHAT A POLICY SAYS, as the program has it: rules, policies.
-/
import Derived.Test.YtinnliapfdpfpaaDoorPSays
namespace Go.Proofs.YtinnliapfdpfpaaDoor.P
open Go.RowKit
open Go.Proofs.YtinnliapfdpfpaaDoor.C (ret_bool ret_int ret_str)

theorem speaks_no1 {r : RuleP} {u a k : List UInt8} (h : inL r.who u = false) : speaksP r u a k = false := by unfold speaksP; rw [h]; rfl
theorem speaks_no2 {r : RuleP} {u a k : List UInt8} (h : inL r.act a = false) : speaksP r u a k = false := by unfold speaksP; rw [h, Bool.and_false]; rfl
theorem speaks_yes {r : RuleP} {u a k : List UInt8} (h : inL r.who u = true) (h2 : inL r.act a = true) : speaksP r u a k = r.on.any (like · k) := by unfold speaksP; rw [h, h2]; rfl
set_option maxHeartbeats 2000000 in
set_option maxRecDepth 20000 in
theorem speaks_any (x : Int) (a1 : Option Addr) (n1 e1 : Nat) (a2 : Option Addr) (n2 e2 : Nat) (a3 : Option Addr) (n3 e3 : Nat) (r : RuleP) (u a key : List UInt8) (w : World) (h : relR w (inW w) (x, .slice a1 n1 e1, .slice a2 n2 e2, .slice a3 n3 e3) r) (hk : key.length ≤ 140737488355328) :
    Calls Tryd.prog 61 #[.agg #[.int .i64 x, .slice a1 n1 e1, .slice a2 n2 e2, .slice a3 n3 e3], str u, str a, str key] w fun e w' => e = .returned (.bool (speaksP r u a key)) ∧ Below w.heap.size w w' := by
  have hmf : ∀ (fn : Fn) (first cap : Array Value) (w : World), (Instr.makeFunc fn first cap).run Tryd.prog w = .ok (.func fn first cap) w := fun _ _ _ _ => rfl
  obtain ⟨s1, s2, s3, s4⟩ := h.sz
  have b0 : Below w.heap.size w ((w.alloc (.cells #[.int .i64 x, .slice a1 n1 e1, .slice a2 n2 e2, .slice a3 n3 e3] 113)).alloc (.cells #[str key] 9)) :=
    ((Below.refl _ _).alloc (Nat.le_refl _) _).alloc (by simp) _
  have rw0 := srow.below h.who b0
  have ra0 := srow.below h.act b0
  have ro0 := srow.below h.on b0
  have c1 : ((w.alloc (.cells #[.int .i64 x, .slice a1 n1 e1, .slice a2 n2 e2, .slice a3 n3 e3] 113)).alloc (.cells #[str key] 9)).cell? ⟨w.heap.size, 1, none⟩ = some (.slice a1 n1 e1) := by simp [go_sem]
  have c2 : ((w.alloc (.cells #[.int .i64 x, .slice a1 n1 e1, .slice a2 n2 e2, .slice a3 n3 e3] 113)).alloc (.cells #[str key] 9)).cell? ⟨w.heap.size, 2, none⟩ = some (.slice a2 n2 e2) := by simp [go_sem]
  have c3 : ((w.alloc (.cells #[.int .i64 x, .slice a1 n1 e1, .slice a2 n2 e2, .slice a3 n3 e3] 113)).alloc (.cells #[str key] 9)).cell? ⟨w.heap.size, 3, none⟩ = some (.slice a3 n3 e3) := by simp [go_sem]
  have cK : ((w.alloc (.cells #[.int .i64 x, .slice a1 n1 e1, .slice a2 n2 e2, .slice a3 n3 e3] 113)).alloc (.cells #[str key] 9)).cell? ⟨w.heap.size + 1, 0, none⟩ = some (str key) := by simp [go_sem]
  have H1 : Hid (_) := has_any (.slice a1 n1 e1) r.who u
  have H2 : Hid (_) := has_any (.slice a2 n2 e2) r.act a
  have H3 : Hid (_) := containsFunc_any (w.heap.size + 1) key (.slice a3 n3 e3) r.on
  clear h
  go_enter Tryd.func61, Tryd.ntmps61
  go_wp2_with fail
  generalize ((w.alloc (.cells #[.int .i64 x, .slice a1 n1 e1, .slice a2 n2 e2, .slice a3 n3 e3] 113)).alloc (.cells #[str key] 9)) = W at *
  refine (H1.out W rw0 (by omega)).mono ?_
  cases hA : inL r.who u with
  | false =>
    have HY : Hid (speaksP r u a key = false) := speaks_no1 hA
    rintro e w1 ⟨rfl, b1⟩
    go_wp2
    go_ret
    exact ⟨ret_bool HY.out.symm, below_trans b0 b1⟩
  | true =>
    rintro e w1 ⟨rfl, b1⟩
    have hl2 : w.heap.size + 1 < W.heap.size := World.block_lt_of_cell? W ⟨w.heap.size + 1, 0, none⟩ cK
    replace ra0 := ra0.below b1
    replace ro0 := ro0.below b1
    replace c2 := (b1.cell (p := ⟨w.heap.size, 2, none⟩) (show w.heap.size < W.heap.size by omega)).trans c2
    replace c3 := (b1.cell (p := ⟨w.heap.size, 3, none⟩) (show w.heap.size < W.heap.size by omega)).trans c3
    replace cK := (b1.cell (p := ⟨w.heap.size + 1, 0, none⟩) hl2).trans cK
    have z1 := b1.size
    replace b0 := below_trans b0 b1
    clear b1 c1
    go_wp2_with fail
    refine (H2.out w1 ra0 (by omega)).mono ?_
    cases hB : inL r.act a with
    | false =>
      have HY : Hid (speaksP r u a key = false) := speaks_no2 hB
      rintro e w2 ⟨rfl, b2⟩
      go_wp2
      go_ret
      exact ⟨ret_bool HY.out.symm, below_trans b0 b2⟩
    | true =>
      have HY : Hid (speaksP r u a key = r.on.any (like · key)) := speaks_yes hA hB
      rintro e w2 ⟨rfl, b2⟩
      replace ro0 := ro0.below b2
      replace c3 := (b2.cell (p := ⟨w.heap.size, 3, none⟩) (show w.heap.size < w1.heap.size by omega)).trans c3
      replace cK := (b2.cell (p := ⟨w.heap.size + 1, 0, none⟩) (show w.heap.size + 1 < w1.heap.size by omega)).trans cK
      replace b0 := below_trans b0 b2
      clear b2 c2
      go_wp2_with fail
      refine (H3.out w2 ro0 (by omega) cK s4 hk).mono ?_
      rintro e w3 ⟨rfl, b3⟩
      go_wp2
      go_ret
      exact ⟨ret_bool (by rw [HY.out]), below_trans b0 b3⟩
theorem rcells_at : ∀ (l : List Quad) (k : Nat) (h : k < l.length), (rcells l)[k * 4]? = some (.int .i64 l[k].1) ∧ (rcells l)[k * 4 + 1]? = some l[k].2.1 ∧ (rcells l)[k * 4 + 2]? = some l[k].2.2.1 ∧ (rcells l)[k * 4 + 3]? = some l[k].2.2.2
  | p :: l, 0, _ => ⟨rfl, rfl, rfl, rfl⟩
  | p :: l, k + 1, h => by
    have := rcells_at l k (by simpa using h)
    rw [show (k + 1) * 4 = k * 4 + 1 + 1 + 1 + 1 by omega]
    exact this
theorem says_nil (u a k : List UInt8) : saysP [] u a k = 0 := rfl
theorem says_no {l : List RuleP} {i : Nat} (u a k : List UInt8) (hi : i < l.length) (h : speaksP l[i] u a k = false) : saysP (l.take (i + 1)) u a k = saysP (l.take i) u a k := by
  rw [take_snoc' hi]; unfold saysP; simp only [List.any_append, List.any_cons, List.any_nil, h, Bool.and_false, Bool.or_false]
theorem says_yes {l : List RuleP} {i : Nat} (u a k : List UInt8) (hi : i < l.length) (h : speaksP l[i] u a k = true) : saysP (l.take (i + 1)) u a k = max (saysP (l.take i) u a k) (if l[i].deny then 2 else 1) := by
  rw [take_snoc' hi]; unfold saysP; simp only [List.any_append, List.any_cons, List.any_nil, h, Bool.and_true, Bool.or_false, Bool.or_true, if_true]
  cases (l.take i).any (fun r => r.deny && speaksP r u a k) <;> cases l[i].deny <;> simp only [Bool.or_false, Bool.or_true, Bool.false_eq_true, if_true, if_false] <;> first | rfl | (split <;> rfl)
theorem says_bd (l : List RuleP) (u a k : List UInt8) : 0 ≤ saysP l u a k ∧ saysP l u a k ≤ 2 := by unfold saysP; split <;> (try split) <;> omega
theorem policyIn.below {w w' : World} {sl : Value} {rs : List RuleP} (h : policyAt w sl rs) (b : Below w.heap.size w w') : policyAt w' sl rs :=
  (policyIn.kept h (Kept.of_below b) (fun g hg e => by unfold inW at hg; omega)).mono (fun g hg => by have := b.size; unfold inW at *; omega)
set_option maxHeartbeats 2000000 in
set_option maxRecDepth 20000 in
theorem says_any (sl : Value) (rs : List RuleP) (u a key : List UInt8) (w : World) (h : policyAt w sl rs) (hr4 : rs.length ≤ 1000000) (hk : key.length ≤ 140737488355328) :
    Calls Tryd.prog 36 #[.agg #[sl], str u, str a, str key] w fun e w' => e = .returned (.int .i64 (saysP rs u a key)) ∧ Below w.heap.size w w' := by
  have b0 : Below w.heap.size w (w.alloc (.cells #[sl] 65)) := (Below.refl _ _).alloc (Nat.le_refl _) _
  have h1 := policyIn.below h b0
  obtain ⟨us, hrow, _, hall⟩ := h1
  have hlen := all2_len hall
  obtain ⟨av, cap, rfl, hcap, hcells⟩ := row_view hrow
  clear h
  go_enter Tryd.func36, Tryd.ntmps36
  go_wp2
  generalize hW : (w.alloc (.cells #[.slice av rs.length cap] 65)) = W at *
  have HC : Hid (∀ j u, (rcells us)[j]? = some u → ∃ g, av = some ⟨g, 0, none⟩ ∧ W.cell? ⟨g, j, none⟩ = some u ∧ g < W.heap.size) := hcells
  have HA : Hid (all2 (relR W (inW W)) us rs) := hall
  clear hcells hall hrow hW
  go_loopw [9, 15] (fun sv i wr => ∃ n : Nat, n ≤ rs.length ∧ i = .int .i64 n ∧ sv = .int .i64 (saysP (rs.take n) u a key) ∧ Below W.heap.size W wr) (fun _ i _ => rs.length - (intOf i).toNat)
  case atStart => exact ⟨0, Nat.zero_le _, rfl, rfl, Below.refl _ _⟩
  case round =>
    obtain ⟨n, hn, rfl, rfl, hb⟩ := hrel
    have hsz := hb.size
    have bd := says_bd (rs.take n) u a key
    by_cases hlt : n < rs.length
    · have hu : n < us.length := by omega
      obtain ⟨m0, m1, m2, m3⟩ := rcells_at us n hu
      have hr0 := all2_get HA.out n hu hlt
      have hr : relR wr (inW wr) us[n] rs[n] := (hr0.kept (Kept.of_below hb) (fun g hg e => by unfold inW at hg; omega)).mono (fun g hg => by unfold inW at *; omega)
      obtain ⟨x, a1, n1, e1, a2, n2, e2, a3, n3, e3, hq⟩ := relR.slices hr
      have hx : Hid (x = if rs[n].deny then 2 else 1) := by have := hr.says; rw [hq] at this; exact this
      rw [hq] at m0 m1 m2 m3 hr
      obtain ⟨g, rfl, d0, hg⟩ := HC.out _ _ m0
      obtain ⟨g1, e1', d1, _⟩ := HC.out _ _ m1
      obtain rfl : g = g1 := by simpa using e1'
      obtain ⟨g2, e2', d2, _⟩ := HC.out _ _ m2
      obtain rfl : g = g2 := by simpa using e2'
      obtain ⟨g3, e3', d3, _⟩ := HC.out _ _ m3
      obtain rfl : g = g3 := by simpa using e3'
      replace d0 := (hb.cell (p := ⟨g, n * 4, none⟩) hg).trans d0
      replace d1 := (hb.cell (p := ⟨g, n * 4 + 1, none⟩) hg).trans d1
      replace d2 := (hb.cell (p := ⟨g, n * 4 + 2, none⟩) hg).trans d2
      replace d3 := (hb.cell (p := ⟨g, n * 4 + 3, none⟩) hg).trans d3
      clear m0 m1 m2 m3 e1' e2' e3' hq hr0
      have SP : Hid (_) := speaks_any x a1 n1 e1 a2 n2 e2 a3 n3 e3 rs[n] u a key
      have bA : Below wr.heap.size wr (wr.alloc (.cells #[.int .i64 x, .slice a1 n1 e1, .slice a2 n2 e2, .slice a3 n3 e3] 113)) := (Below.refl _ _).alloc (Nat.le_refl _) _
      have hrA : relR (wr.alloc (.cells #[.int .i64 x, .slice a1 n1 e1, .slice a2 n2 e2, .slice a3 n3 e3] 113)) (inW (wr.alloc (.cells #[.int .i64 x, .slice a1 n1 e1, .slice a2 n2 e2, .slice a3 n3 e3] 113))) (x, .slice a1 n1 e1, .slice a2 n2 e2, .slice a3 n3 e3) rs[n] :=
        (hr.kept (Kept.of_below bA) (fun g hg e => by unfold inW at hg; omega)).mono (fun g hg => by have := bA.size; unfold inW at *; omega)
      have cx : (wr.alloc (.cells #[.int .i64 x, .slice a1 n1 e1, .slice a2 n2 e2, .slice a3 n3 e3] 113)).cell? ⟨wr.heap.size, 0, none⟩ = some (.int .i64 x) := by simp [go_sem]
      have hzA : wr.heap.size < (wr.alloc (.cells #[.int .i64 x, .slice a1 n1 e1, .slice a2 n2 e2, .slice a3 n3 e3] 113)).heap.size := by simp
      go_wp2_with fail
      refine (SP.out _ hrA hk).mono ?_
      rintro e w1 ⟨rfl, b1⟩
      replace cx := (b1.cell (p := ⟨wr.heap.size, 0, none⟩) hzA).trans cx
      have KB : Below W.heap.size W w1 := hb.trans ((below_trans bA b1).mono hsz)
      clear SP bA hrA hzA b1 d0 d1 d2 d3 hr
      cases hs : speaksP rs[n] u a key with
      | false =>
        have HY : Hid (saysP (rs.take (n + 1)) u a key = saysP (rs.take n) u a key) := says_no u a key hlt hs
        go_wp2
        go_roundw
        case rel => exact ⟨n + 1, by omega, by go_num, by rw [HY.out], KB⟩
        case measure => simp [intOf]; omega
      | true =>
        have HY : Hid (saysP (rs.take (n + 1)) u a key = max (saysP (rs.take n) u a key) x) := by show _ = _; rw [says_yes u a key hlt hs, ← hx.out]
        have hx2 : 1 ≤ x ∧ x ≤ 2 := by rw [hx.out]; split <;> omega
        clear hx
        go_wp2
        go_roundw
        case rel => exact ⟨n + 1, by omega, by go_num, by rw [HY.out], KB⟩
        case measure => simp [intOf]; omega
    · obtain rfl : n = rs.length := by omega
      have HT : Hid (saysP (rs.take rs.length) u a key = saysP rs u a key) := by show _ = _; rw [List.take_length]
      go_wp2
      go_ret
      exact ⟨ret_int HT.out, below_trans b0 hb⟩
end Go.Proofs.YtinnliapfdpfpaaDoor.P
