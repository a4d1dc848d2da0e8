/-
  THE DOCUMENT'S ANSWER: the pairs of a query.
-/
import Derived.Test.YtinnliapfdpfpaaGreatDoorSCut
namespace Go.Proofs.YtinnliapfdpfpaaGreatDoor.R
open Go.RowKit
open Go.Proofs.YtinnliapfdpfpaaGreatDoor.C (ret_bool ret_int dec decEnd rdecode_any)

theorem rdec_r (l : Bs) (p : Bool) (w : World) (hl : l.length ≤ 1000000) : Calls Tryz.prog 149 #[str l, .bool p] w fun e w' => e = decEnd (dec p l) ∧ Below w.heap.size w w' :=
  rdecode_any ⟨l.toArray⟩ p w (by simp [ByteArray.size]; omega)
theorem phold_nil (w : World) (B : Nat) : phold w B (.slice none 0 0) [] := .inl ⟨rfl, rfl⟩
theorem rfind_r (v : Value) (l : Ps) (n : Bs) (B : Nat) (w : World) (h : phold w B v l) (hl : l.length ≤ 1000000000) :
    Calls Tryz.prog 67 #[v, str n] w fun e w' => e = findEnd (findP l n) ∧ w = w' := (rfind_any v l n B w h hl).mono fun _ _ ⟨h1, h2⟩ => ⟨h1, h2.symm⟩
theorem findEnd_eq (x : Option Bs) : findEnd x = .returned (.tuple #[str (x.getD []), .bool x.isSome]) := by cases x <;> rfl
/-- What the pairs of a query answer. -/
def prPost (w : World) (o : Option Ps) (e : Ending) (w' : World) : Prop :=
  Below w.heap.size w w' ∧ match o with
    | none => e = .returned (.tuple #[nilP, .bool false])
    | some q => ∃ v, e = .returned (.tuple #[v, .bool true]) ∧ prow w' w.heap.size v q
theorem prPost_no {w w' : World} {o : Option Ps} (h : o = none) (hb : Below w.heap.size w w') : prPost w o (.returned (.tuple #[nilP, .bool false])) w' := by subst h; exact ⟨hb, rfl⟩
theorem split_ne (s sep : Bs) (hs : sep ≠ []) : Lib.split s sep ≠ [] := by rw [split_rec s sep hs]; split <;> simp

set_option maxHeartbeats 1000000 in
theorem rpairs_any (l : Bs) (w : World) (hl : l.length ≤ 100000) :
    Calls Tryz.prog 150 #[str l] w fun e w' => prPost w (queryOf l) e w' := by
  have hps : (Lib.split l [38]).length ≤ l.length + 1 := split_len l [38] (by simp)
  have hmem : ∀ t ∈ Lib.split l [38], t.length ≤ l.length := fun t h => split_mem (by simp) h
  have hpn := split_ne l [38] (by simp)
  have C : Hid (_) := rsplit_any l [38]
  unfold queryOf
  generalize Lib.split l [38] = ps at *
  go_enter Tryz.func150, Tryz.ntmps150
  go_wp2_with fail
  refine (C.out w (by omega) (by simp) (by simp)).mono ?_
  rintro e w1 ⟨v1, rfl, hsr, hB⟩
  obtain ⟨g, cap, rfl, hg0, hg1, hcell⟩ := hsr.form hpn
  clear C hsr
  have hz := hB.size
  go_wp2
  go_loopw [4, 6] (fun v i wr => ∃ (k : Nat) (q : Ps), k ≤ ps.length ∧ i = .int .i64 k ∧ prow wr w1.heap.size v q ∧ Below w1.heap.size w1 wr ∧ queryFrom [] ps = queryFrom q (ps.drop k) ∧ q.length ≤ k) (fun _ i _ => ps.length - (intOf i).toNat)
  case atStart => exact ⟨0, [], Nat.zero_le _, rfl, prow_nil _ _, Below.refl _ _, by simp, by simp⟩
  case round =>
    obtain ⟨k, q, hk, rfl, hrow, hb, hq, hqk⟩ := hrel
    have HQ : Hid (queryFrom [] ps = queryFrom q (ps.drop k)) := hq
    clear hq
    have hsz := hb.size
    have HB : Below w.heap.size w wr := hB.trans (hb.mono hz)
    by_cases hlt : k < ps.length
    · have hc := (hb.cell (p := ⟨g, k, none⟩) hg1).trans (hcell k hlt)
      have ht := hmem ps[k] (List.getElem_mem hlt)
      have hd : ps.drop k = ps[k] :: ps.drop (k + 1) := List.drop_eq_getElem_cons hlt
      have HD : Hid (queryFrom [] ps = queryFrom q (ps[k] :: ps.drop (k + 1))) := by show _ = _; rw [HQ.out, hd]
      clear hd HQ hmem hcell hpn
      generalize ps[k] = t at *
      obtain ⟨n1, n2⟩ := cut_le t [61]
      have C2 : Hid (_) := rcut_any t [61]
      have N1 := @pair_no1 t
      have N2 := @pair_no2 t
      have N3 := @pair_no3 t
      have N4 := @pair_ok t
      generalize Lib.cut t [61] = c at *
      obtain ⟨a, b, f⟩ := c
      simp only at n1 n2 N1 N2 N3 N4
      have D1 : Hid (_) := rdec_r a false
      have D2 : Hid (_) := rdec_r b false
      go_wp2_with (go_at_call 106; refine (C2.out _ (by omega) (by simp) (by simp)).mono ?_; rintro e w' ⟨rfl, n, rfl⟩)
      refine (D1.out _ (by omega)).mono ?_
      rintro e w5 ⟨rfl, hb5⟩
      simp only [World.heap_drewN] at hb5
      have z5 := hb5.size
      have row5 : prow w5 w1.heap.size u4 q := (show prow (wr.drewN n) w1.heap.size u4 q from hrow).below hb5
      have k5 : Below w1.heap.size w1 w5 := (below_drewN hb n).trans (hb5.mono hsz)
      clear hb5 hrow hb hc
      cases hd1 : dec false a with
      | none =>
        have HP : Hid (queryFrom [] ps = none) := by show _ = _; rw [HD.out, q_bad (N1 hd1)]
        clear N1 N2 N3 N4
        simp only [decEnd]
        go_wp2_with fail
        refine (D2.out _ (by omega)).mono ?_
        rintro e w6 ⟨rfl, hb6⟩
        have z6 := hb6.size
        have row6 := row5.below hb6
        have k6 := k5.trans (hb6.mono (by simp only [World.heap_drewN] at z5; omega))
        have HB6 : Below w.heap.size w w6 := hB.trans (k6.mono hz)
        clear hb6 row5 k5
        cases hd2 : dec false b with
        | none =>
          simp only [decEnd]
          have HB7 : Hid (Below w.heap.size w w6) := HB6
          go_wp2_with (go_at_call 67; refine (rfind_r u4 q [] _ _ row6.hold (by omega)).mono ?_; rintro e w' ⟨rfl, rfl⟩; rw [findEnd_eq])
          go_ret2
          exact prPost_no HP.out HB6
        | some vb =>
          simp only [decEnd]
          have HB7 : Hid (Below w.heap.size w w6) := HB6
          go_wp2_with (go_at_call 67; refine (rfind_r u4 q [] _ _ row6.hold (by omega)).mono ?_; rintro e w' ⟨rfl, rfl⟩; rw [findEnd_eq])
          go_ret2
          exact prPost_no HP.out HB6
      | some na =>
        simp only [decEnd]
        go_wp2_with fail
        refine (D2.out _ (by omega)).mono ?_
        rintro e w6 ⟨rfl, hb6⟩
        have z6 := hb6.size
        have row6 := row5.below hb6
        have k6 := k5.trans (hb6.mono (by simp only [World.heap_drewN] at z5; omega))
        have HB6 : Below w.heap.size w w6 := hB.trans (k6.mono hz)
        clear hb6 row5 k5
        cases hd2 : dec false b with
        | none =>
          have HP : Hid (queryFrom [] ps = none) := by show _ = _; rw [HD.out, q_bad (N2 hd2)]
          clear N1 N2 N3 N4
          simp only [decEnd]
          have HB7 : Hid (Below w.heap.size w w6) := HB6
          go_wp2_with (go_at_call 67; refine (rfind_r u4 q na _ _ row6.hold (by omega)).mono ?_; rintro e w' ⟨rfl, rfl⟩; rw [findEnd_eq])
          go_ret2
          exact prPost_no HP.out HB6
        | some vb =>
          simp only [decEnd]
          by_cases hna : na = []
          · subst hna
            have HP : Hid (queryFrom [] ps = none) := by show _ = _; rw [HD.out, q_bad (N3 hd1 hd2)]
            clear N1 N2 N3 N4
            have HB7 : Hid (Below w.heap.size w w6) := HB6
            go_wp2_with (go_at_call 67; refine (rfind_r u4 q [] _ _ row6.hold (by omega)).mono ?_; rintro e w' ⟨rfl, rfl⟩; rw [findEnd_eq])
            go_ret2
            exact prPost_no HP.out HB6
          · have hie : na.isEmpty = false := by simpa using hna
            have hpo := N4 hd1 hd2 hna
            by_cases ha : findP q na = none
            · have HP : Hid (queryFrom [] ps = queryFrom (q ++ [(na, vb)]) (ps.drop (k + 1))) := by show _ = _; rw [HD.out, q_next hpo ha]
              have HF : Hid (findEnd (findP q na) = .returned (.tuple #[str [], .bool false])) := by show _ = _; rw [ha]; rfl
              clear N1 N2 N3 N4 hpo HD
              simp only [World.heap_drewN] at z5
              go_wp2_with (first | (go_at_call 67; refine (rfind_r u4 q na _ _ row6.hold (by omega)).mono ?_; rintro e w' ⟨rfl, rfl⟩; rw [HF.out]) | (at_builtin; refine papp_law rfl _ _ rfl w1.heap.size q (na, vb) _ rfl (row6.alloc _) _ rfl _ (heap_alloc_new _ _) (by omega) (by simp; omega) ?_; intro v' w7 row7 hb7))
              go_roundw
              case rel => exact ⟨k + 1, q ++ [(na, vb)], by omega, by go_num, row7, (k6.alloc (by omega) _).trans hb7, HP.out, by simp; omega⟩
              case measure => simp [intOf]; omega
            · have HP : Hid (queryFrom [] ps = none) := by show _ = _; rw [HD.out, q_two hpo ha]
              have HF : Hid (findEnd (findP q na) = .returned (.tuple #[str ((findP q na).getD []), .bool true])) := by show _ = _; rw [findEnd_eq]; cases hx : findP q na with
                | none => exact absurd hx ha
                | some y => rfl
              clear N1 N2 N3 N4 hpo HD
              go_wp2_with (go_at_call 67; refine (rfind_r u4 q na _ _ row6.hold (by omega)).mono ?_; rintro e w' ⟨rfl, rfl⟩; rw [HF.out])
              go_ret2
              exact prPost_no HP.out HB6
    · have HX : Hid (queryFrom [] ps = some q) := by show _ = _; rw [HQ.out, List.drop_eq_nil_of_le (by omega)]; rfl
      have HP : Hid (prPost w (queryFrom [] ps) (.returned (.tuple #[u4, .bool true])) wr) := by
        show prPost _ _ _ _
        rw [HX.out]; exact ⟨HB, _, rfl, hrow.up hz⟩
      go_wp2
      go_ret2
      exact HP.out
end Go.Proofs.YtinnliapfdpfpaaGreatDoor.R
