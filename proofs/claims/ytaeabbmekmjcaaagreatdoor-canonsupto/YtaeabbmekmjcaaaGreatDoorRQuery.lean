/-
  THE QUERY OF A REQUEST, as the program reads it.
-/
import Derived.Test.YtaeabbmekmjcaaaGreatDoorRHead
namespace Go.Proofs.YtaeabbmekmjcaaaGreatDoor.R
open Go.RowKit
open Go.Proofs.YtaeabbmekmjcaaaGreatDoor.C (ret_bool ret_int dec)

theorem str_of (b : ByteArray) : Value.string b = str b.data.toList := rfl
theorem split_cells (l sep : Bs) (h : 1 ≤ sep.length) :
    (Lib.splitB ⟨sep.toArray⟩ 0 (Lib.countB ⟨l.toArray⟩ ⟨sep.toArray⟩) ⟨l.toArray⟩).map Value.string = (Lib.split l sep).map str ∧ Lib.countB ⟨l.toArray⟩ ⟨sep.toArray⟩ + 1 = (Lib.split l sep).length := by
  have e := Lib.splitB_data ⟨sep.toArray⟩ 0 (Lib.countB ⟨l.toArray⟩ ⟨sep.toArray⟩) ⟨l.toArray⟩
  have e2 := Lib.splitB_all ⟨sep.toArray⟩ (by simpa [ByteArray.size] using h) 0 _ ⟨l.toArray⟩ rfl
  have e3 : Lib.splitK sep 0 (Lib.countB ⟨l.toArray⟩ ⟨sep.toArray⟩) l = Lib.split l sep := rfl
  have e4 : (Lib.splitB ⟨sep.toArray⟩ 0 (Lib.countB ⟨l.toArray⟩ ⟨sep.toArray⟩) ⟨l.toArray⟩).map (·.data.toList) = Lib.split l sep := e.trans e3
  constructor
  · rw [← e4, List.map_map]; rfl
  · rw [← e2, ← e4, List.length_map]
theorem split_r (l sep : Bs) (w : World) (E : Env w) (hl : l.length ≤ 1000000) (h1 : 1 ≤ sep.length) :
    Calls Tryz.prog 94 #[str l, str sep] w fun e w' => e = .returned (.slice (some ⟨w.heap.size, 0, none⟩) (Lib.split l sep).length (Lib.split l sep).length) ∧ w' = w.alloc (.cells ((Lib.split l sep).map str).toArray 9) := by
  obtain ⟨⟨m, hm⟩, _, _⟩ := E
  have := Tryz.strings_Split ⟨l.toArray⟩ ⟨sep.toArray⟩ m w (by simp [ByteArray.size]; omega) hm (by simpa [ByteArray.size] using h1)
  obtain ⟨e1, e2⟩ := split_cells l sep h1
  rw [e1, e2] at this
  exact this

theorem pair_no1 {t : Bs} (h : dec false (Lib.cut t [61]).1 = none) : pairOf t = none := by unfold pairOf; rw [h]
theorem pair_no2 {t : Bs} (h : dec false (Lib.cut t [61]).2.1 = none) : pairOf t = none := by unfold pairOf; rw [h]; split <;> first | rfl | simp_all
theorem pair_no3 {t v : Bs} (h : dec false (Lib.cut t [61]).1 = some []) (h2 : dec false (Lib.cut t [61]).2.1 = some v) : pairOf t = none := by unfold pairOf; rw [h, h2]; rfl
theorem pair_ok {t n v : Bs} (h : dec false (Lib.cut t [61]).1 = some n) (h2 : dec false (Lib.cut t [61]).2.1 = some v) (hn : n ≠ []) : pairOf t = some (n, v) := by unfold pairOf; rw [h, h2]; simp [hn]
theorem q_bad {l : Ps} {t : Bs} {r : List Bs} (h : pairOf t = none) : queryFrom l (t :: r) = none := by simp [queryFrom, h]
theorem q_two {l : Ps} {t : Bs} {r : List Bs} {p : Bs × Bs} (h : pairOf t = some p) (ha : ¬ findP l p.1 = none) : queryFrom l (t :: r) = none := by simp [queryFrom, h, addP, ha]
theorem q_next {l : Ps} {t : Bs} {r : List Bs} {p : Bs × Bs} (h : pairOf t = some p) (ha : findP l p.1 = none) : queryFrom l (t :: r) = queryFrom (l ++ [p]) r := by simp [queryFrom, h, addP, ha]

/-- How the reading of a query ends. -/
def qPost (w : World) (o : Option Ps) (e : Ending) (w' : World) : Prop :=
  Below w.heap.size w w' ∧ match o with
    | none => e = .panicked noR
    | some q => ∃ v, e = .returned v ∧ prow w' w.heap.size v q

set_option maxHeartbeats 1000000 in
theorem readQuery_any (l : Bs) (w : World) (E : Env w) (hl : l.length ≤ 100000) :
    Calls Tryz.prog 70 #[str l] w fun e w' => qPost w (queryOf l) e w' := by
  have hps : (Lib.split l [38]).length ≤ l.length + 1 := split_len l [38] (by simp)
  have hmem : ∀ t ∈ Lib.split l [38], t.length ≤ l.length := fun t h => split_mem (by simp) h
  have C : Hid (_) := split_r l [38]
  unfold queryOf
  generalize Lib.split l [38] = ps at *
  have hE0 := E.sz
  go_enter Tryz.func70, Tryz.ntmps70
  go_wp2_with fail
  refine (C.out w E (by omega) (by simp)).mono ?_
  rintro e w1 ⟨rfl, rfl⟩
  clear C
  have hcell : ∀ (k : Nat) (h : k < ps.length), (w.alloc (.cells (ps.map str).toArray 9)).cell? ⟨w.heap.size, k, none⟩ = some (str ps[k]) := by
    intro k h; simp [go_sem, h]
  have hB : Below w.heap.size w (w.alloc (.cells (ps.map str).toArray 9)) := (Below.refl _ w).alloc (Nat.le_refl _) _
  have hz : (w.alloc (.cells (ps.map str).toArray 9)).heap.size = w.heap.size + 1 := by simp
  generalize w.alloc (.cells (ps.map str).toArray 9) = w1 at *
  have E1 := E.below hB E.sz
  go_wp2
  go_loopw [3, 13] (fun v i wr => ∃ (k : Nat) (q : Ps), k ≤ ps.length ∧ i = .int .i64 k ∧ prow wr (w.heap.size + 1) v q ∧ Below (w.heap.size + 1) w1 wr ∧ queryFrom [] ps = queryFrom q (ps.drop k) ∧ q.length ≤ k) (fun _ i _ => ps.length - (intOf i).toNat)
  case atStart => exact ⟨0, [], Nat.zero_le _, rfl, prow_nil _ _, Below.refl _ _, by simp, by simp⟩
  case round =>
    obtain ⟨k, q, hk, rfl, hrow, hb, hq, hqk⟩ := hrel
    have HQ : Hid (queryFrom [] ps = queryFrom q (ps.drop k)) := hq
    clear hq
    have hsz := hb.size
    rw [hz] at hsz
    have E2 := E1.below hb (by omega)
    have HB : Below w.heap.size w wr := hB.trans (hb.mono (by omega))
    by_cases hlt : k < ps.length
    · have hc := (hb.cell (p := ⟨w.heap.size, k, none⟩) (show w.heap.size < w.heap.size + 1 by omega)).trans (hcell k hlt)
      have ht := hmem ps[k] (List.getElem_mem hlt)
      have hd : ps.drop k = ps[k] :: ps.drop (k + 1) := List.drop_eq_getElem_cons hlt
      have HD : Hid (queryFrom [] ps = queryFrom q (ps[k] :: ps.drop (k + 1))) := by show _ = _; rw [HQ.out, hd]
      clear hd HQ hmem hcell
      generalize ps[k] = t at *
      obtain ⟨n1, n2⟩ := cut_le t [61]
      have C2 : Hid (_) := cut_r t [61]
      have N1 := @pair_no1 t
      have N2 := @pair_no2 t
      have N3 := @pair_no3 t
      have N4 := @pair_ok t
      generalize Lib.cut t [61] = c at *
      obtain ⟨a, b, f⟩ := c
      simp only at n1 n2 N1 N2 N3 N4
      have D1 : Hid (_) := decode_r a false
      have D2 : Hid (_) := decode_r b false
      cases hd1 : dec false a with
      | none =>
        have HP : Hid (queryFrom [] ps = none) := by show _ = _; rw [HD.out, q_bad (N1 hd1)]
        rw [hd1] at D1
        clear N1 N2 N3 N4
        go_wp2_with (first | (go_at_call 45; refine (C2.out _ E2 (by omega)).mono ?_; rintro e w' ⟨rfl, n, rfl⟩) | (go_at_call 69; refine (D1.out _ (by omega)).mono ?_; rintro e w' ⟨rfl, hb5⟩; simp only [decR]))
        have HB5 := below_drewN (n := n) HB |>.trans (hb5.mono (by simp; omega))
        exact ⟨rfl, HB5, by rw [HP.out]⟩
      | some na =>
        cases hd2 : dec false b with
        | none =>
          have HP : Hid (queryFrom [] ps = none) := by show _ = _; rw [HD.out, q_bad (N2 hd2)]
          rw [hd1] at D1
          rw [hd2] at D2
          clear N1 N2 N3 N4
          go_wp2_with (go_at_call 45; refine (C2.out _ E2 (by omega)).mono ?_; rintro e w' ⟨rfl, n, rfl⟩)
          refine (D1.out _ (by omega)).mono ?_
          rintro e w5 ⟨rfl, hb5⟩
          simp only [decR]
          go_wp2_with fail
          refine (D2.out _ (by omega)).mono ?_
          rintro e w6 ⟨rfl, hb6⟩
          simp only [decR]
          have z5 := hb5.size
          have HB6 : Below w.heap.size w w6 := ((below_drewN HB n).trans (hb5.mono (by simp; omega))).trans (hb6.mono (by simp at z5; omega))
          clear hb5 hb6
          go_wp2
          exact ⟨rfl, HB6, by rw [HP.out]⟩
        | some vb =>
          rw [hd1] at D1
          rw [hd2] at D2
          have hrowN : prow (wr.drewN 0) (w.heap.size + 1) u3 q := hrow
          go_wp2_with (go_at_call 45; refine (C2.out _ E2 (by omega)).mono ?_; rintro e w' ⟨rfl, n, rfl⟩)
          refine (D1.out _ (by omega)).mono ?_
          rintro e w5 ⟨rfl, hb5⟩
          simp only [decR]
          go_wp2_with fail
          refine (D2.out _ (by omega)).mono ?_
          rintro e w6 ⟨rfl, hb6⟩
          simp only [decR]
          have z5 := hb5.size
          have z6 := hb6.size
          simp only [World.heap_drewN] at z5 hb5
          have hrow6 : prow w6 (w.heap.size + 1) u3 q := ((show prow (wr.drewN n) (w.heap.size + 1) u3 q from hrow).below hb5).below hb6
          have k6 : Below (w.heap.size + 1) w1 w6 := ((below_drewN hb n).trans (hb5.mono (by omega))).trans (hb6.mono (by omega))
          have HB6 : Below w.heap.size w w6 := hB.trans (k6.mono (by omega))
          clear hb5 hb6 hrow hrowN hb HB C2 D1 D2 E2 hc
          have BA : Below w.heap.size w (w6.alloc (.cells #[str na, str vb] 53)) := HB6.alloc (by omega) _
          have kA : Below (w.heap.size + 1) w1 (w6.alloc (.cells #[str na, str vb] 53)) := k6.alloc (by omega) _
          by_cases hna : na = []
          · subst hna
            have HP : Hid (queryFrom [] ps = none) := by show _ = _; rw [HD.out, q_bad (N3 hd1 hd2)]
            clear N1 N2 N3 N4
            go_wp2_with (go_at_call 66; refine (need_not _).mono ?_; rintro e w' ⟨rfl, rfl⟩)
            exact ⟨rfl, BA, by rw [HP.out]⟩
          · have hie : na.isEmpty = false := by simpa using hna
            have hpo := N4 hd1 hd2 hna
            by_cases ha : findP q na = none
            · have HP : Hid (queryFrom [] ps = queryFrom (q ++ [(na, vb)]) (ps.drop (k + 1))) := by show _ = _; rw [HD.out, q_next hpo ha]
              clear N1 N2 N3 N4 hpo HD
              go_wp2_with (first | (go_at_call 66; refine (need_yes _).mono ?_; rintro e w' ⟨rfl, rfl⟩) | (go_at_call 71; refine (addPair_ok u3 q (na, vb) (w.heap.size + 1) _ (hrow6.alloc _) (by simp; omega) (by omega) ha).mono ?_; rintro e w7 ⟨v7, rfl, hrow7, hb7⟩))
              go_roundw
              case rel => exact ⟨k + 1, q ++ [(na, vb)], by omega, by go_num, hrow7, kA.trans hb7, HP.out, by simp; omega⟩
              case measure => simp [intOf]; omega
            · have HP : Hid (queryFrom [] ps = none) := by show _ = _; rw [HD.out, q_two hpo ha]
              clear N1 N2 N3 N4 hpo HD
              go_wp2_with (first | (go_at_call 66; refine (need_yes _).mono ?_; rintro e w' ⟨rfl, rfl⟩) | (go_at_call 71; refine (addPair_no u3 q (na, vb) (w.heap.size + 1) _ (hrow6.alloc _) (by omega) ha).mono ?_; rintro e w7 ⟨rfl, hb7⟩))
              exact ⟨rfl, BA.trans (hb7.mono (by simp; omega)), by rw [HP.out]⟩
    · have HX : Hid (queryFrom [] ps = some q) := by show _ = _; rw [HQ.out, List.drop_eq_nil_of_le (by omega)]; rfl
      have HP : Hid (qPost w (queryFrom [] ps) (.returned u3) wr) := by
        show qPost _ _ _ _
        rw [HX.out]; exact ⟨HB, _, rfl, hrow.up (by omega)⟩
      go_wp2
      go_ret
      exact HP.out
end Go.Proofs.YtaeabbmekmjcaaaGreatDoor.R
