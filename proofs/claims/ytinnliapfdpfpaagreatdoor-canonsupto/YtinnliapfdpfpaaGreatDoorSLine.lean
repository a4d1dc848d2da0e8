/-
  THE DOCUMENT'S ANSWER: header lines.
-/
import Derived.Test.YtinnliapfdpfpaaGreatDoorSPairs
namespace Go.Proofs.YtinnliapfdpfpaaGreatDoor.R
open Go.RowKit
open Go.Proofs.YtinnliapfdpfpaaGreatDoor.C (ret_bool ret_int dec hasB in_any)

abbrev nameSet : Bs := [48, 49, 50, 51, 52, 53, 54, 55, 56, 57, 97, 98, 99, 100, 101, 102, 103, 104, 105, 106, 107, 108, 109, 110, 111, 112, 113, 114, 115, 116, 117, 118, 119, 120, 121, 122, 45]
theorem name_len : nameSet.length ≤ 1000 := by decide +kernel
theorem name_fin : ∀ n : Fin 256, hasB nameSet (n.val : Int) = nameB (UInt8.ofNat n.val) := by decide +kernel
theorem name_in (c : UInt8) : hasB nameSet (c.toNat : Int) = nameB c := by
  have := name_fin ⟨c.toNat, c.toNat_lt⟩
  simpa using this
theorem in_r (c : UInt8) (set : Bs) (w : World) (h : set.length ≤ 1000) : Calls Tryz.prog 153 #[.int .u8 c.toNat, str set] w fun e w' => e = .returned (.bool (hasB set (c.toNat : Int))) ∧ w = w' :=
  (in_any (c.toNat : Int) ⟨set.toArray⟩ w (by simp [ByteArray.size]; omega)).mono fun _ _ ⟨h1, h2⟩ => ⟨h1, h2.symm⟩

set_option maxHeartbeats 1000000 in
theorem rall_any (l set : Bs) (f : UInt8 → Bool) (hf : ∀ c, hasB set (c.toNat : Int) = f c) (w : World) (hl : l.length ≤ 1000000000) (hs : set.length ≤ 1000) :
    Calls Tryz.prog 151 #[str l, str set] w fun e w' => e = .returned (.bool (l.all f)) ∧ w = w' := by
  go_enter Tryz.func151, Tryz.ntmps151
  go_wp2
  go_loop [5] (fun i => ∃ k : Nat, k ≤ l.length ∧ i = .int .i64 k ∧ (l.take k).all f = true) (fun i => l.length - (intOf i).toNat)
  case atStart => exact ⟨0, Nat.zero_le _, rfl, by simp⟩
  case round =>
    obtain ⟨k, hk, rfl, hall⟩ := hrel
    have HA : Hid ((l.take k).all f = true) := hall
    clear hall
    by_cases hlt : k < l.length
    · have HS : Hid ((l.take (k + 1)).all f = ((l.take k).all f && f l[k])) := all_snoc hlt
      have HN : Hid (f l[k] = false → l.all f = false) := all_not hlt
      obtain ⟨c, hc⟩ : ∃ c, l[k] = c := ⟨_, rfl⟩
      have ix : ∀ h, (⟨l.toArray⟩ : ByteArray)[k]'h = c := fun _ => hc
      rw [hc] at HS HN
      clear hc
      have C : Hid (_) := in_r c set
      rw [hf c] at C
      have hb := c.toNat_lt
      cases hfc : f c with
      | true =>
        rw [hfc] at C HS
        go_wp2_with (go_at_call 153; refine (C.out _ hs).mono ?_; rintro e w' ⟨rfl, rfl⟩)
        go_round
        case rel => exact ⟨k + 1, by omega, by go_num, by rw [HS.out, HA.out]; rfl⟩
        case measure => simp [intOf]; omega
      | false =>
        rw [hfc] at C
        go_wp2_with (go_at_call 153; refine (C.out _ hs).mono ?_; rintro e w' ⟨rfl, rfl⟩)
        go_ret
        exact ⟨ret_bool (HN.out hfc).symm, rfl⟩
    · have HT : Hid (l.all f = true) := by have := HA.out; rwa [List.take_of_length_le (by omega)] at this
      go_wp2
      go_ret
      exact ⟨ret_bool HT.out.symm, rfl⟩

set_option maxHeartbeats 400000 in
theorem rshown_any (l : Bs) (w : World) (hl : l.length ≤ 1000000000) : Calls Tryz.prog 152 #[str l] w fun e w' => e = .returned (.bool (l.all showB)) ∧ w = w' := by
  go_enter Tryz.func152, Tryz.ntmps152
  go_wp2
  go_loop [3] (fun i => ∃ k : Nat, k ≤ l.length ∧ i = .int .i64 k ∧ (l.take k).all showB = true) (fun i => l.length - (intOf i).toNat)
  case atStart => exact ⟨0, Nat.zero_le _, rfl, by simp⟩
  case round =>
    obtain ⟨k, hk, rfl, hall⟩ := hrel
    have HA : Hid ((l.take k).all showB = true) := hall
    clear hall
    by_cases hlt : k < l.length
    · have HS : Hid ((l.take (k + 1)).all showB = ((l.take k).all showB && showB l[k])) := all_snoc hlt
      have HN : Hid (showB l[k] = false → l.all showB = false) := all_not hlt
      obtain ⟨c, hc⟩ : ∃ c, l[k] = c := ⟨_, rfl⟩
      have ix : ∀ h, (⟨l.toArray⟩ : ByteArray)[k]'h = c := fun _ => hc
      rw [hc] at HS HN
      clear hc
      have hb := c.toNat_lt
      go_wp2
      · go_ret
        exact ⟨ret_bool (HN.out (by simp [showB]; omega)).symm, rfl⟩
      · go_round
        case rel => exact ⟨k + 1, by omega, by go_num, by rw [HS.out, HA.out]; simp [showB]; omega⟩
        case measure => simp [intOf]; omega
      · go_ret
        exact ⟨ret_bool (HN.out (by simp [showB]; omega)).symm, rfl⟩
    · go_wp2
      go_ret
      exact ⟨ret_bool (by rw [← HA.out, List.take_of_length_le (by omega)]), rfl⟩

/-- What a line answers. -/
def lnPost (w : World) (o : Option (Bs × Bs)) (e : Ending) (w' : World) : Prop :=
  Below w.heap.size w w' ∧ match o with
    | none => ∃ a b : Bs, e = .returned (.tuple #[.agg #[str a, str b], .bool false])
    | some p => e = .returned (.tuple #[.agg #[str p.1, str p.2], .bool true])
theorem lnPost_no {w w' : World} {o : Option (Bs × Bs)} (a b : Bs) (h : o = none) (hb : Below w.heap.size w w') : lnPost w o (.returned (.tuple #[.agg #[str a, str b], .bool false])) w' := by subst h; exact ⟨hb, a, b, rfl⟩
theorem lnPost_ok {w w' : World} {o : Option (Bs × Bs)} (a b : Bs) (h : o = some (a, b)) (hb : Below w.heap.size w w') : lnPost w o (.returned (.tuple #[.agg #[str a, str b], .bool true])) w' := by subst h; exact ⟨hb, rfl⟩
theorem ln_no1 {l : Bs} (h : (Lib.cut l [58]).2.2 = false) : lineOf l = none := by unfold lineOf; rw [if_neg (by simp [h])]
theorem ln_no2 {l : Bs} (h : hname (Lib.cut l [58]).1 = false) : lineOf l = none := by unfold lineOf; rw [if_neg (by simp [h])]
theorem ln_no3 {l : Bs} (h : ¬ (Lib.cut l [58]).2.1.head? = some 32) : lineOf l = none := by unfold lineOf; rw [if_neg (fun k => h k.2.2.1)]
theorem ln_no4 {l : Bs} (h : (Lib.cut l [58]).2.1.all showB = false) : lineOf l = none := by unfold lineOf; rw [if_neg (fun k => by have := k.2.2.2; rw [h] at this; cases this)]
theorem ln_ok {l v : Bs} (h1 : (Lib.cut l [58]).2.2 = true) (h2 : hname (Lib.cut l [58]).1 = true) (h3 : (Lib.cut l [58]).2.1 = 32 :: v) (h4 : (Lib.cut l [58]).2.1.all showB = true) : lineOf l = some ((Lib.cut l [58]).1, v) := by
  unfold lineOf; rw [if_pos ⟨h1, h2, by rw [h3]; rfl, h4⟩, h3]; rfl
abbrev emptyPair : Obj := .cells #[str [], str []] 117
set_option maxRecDepth 20000 in
set_option maxHeartbeats 1000000 in
theorem rline_any (l : Bs) (w : World) (hl : l.length ≤ 100000) :
    Calls Tryz.prog 108 #[str l] w fun e w' => lnPost w (lineOf l) e w' := by
  obtain ⟨n1, n2⟩ := cut_le l [58]
  have C : Hid (_) := rcut_any l [58]
  have N1 := @ln_no1 l
  have N2 := @ln_no2 l
  have N3 := @ln_no3 l
  have N4 := @ln_no4 l
  have N5 := @ln_ok l
  generalize Lib.cut l [58] = c at *
  obtain ⟨a, v, f⟩ := c
  simp only at n1 n2 N1 N2 N3 N4 N5
  generalize lineOf l = o at *
  have B1 : Below w.heap.size w (w.alloc emptyPair) := (Below.refl _ w).alloc (Nat.le_refl _) _
  have A1 : Hid (_) := rall_any a nameSet nameB name_in
  have A2 : Hid (_) := rshown_any v
  cases f with
  | false =>
    have HO := N1 rfl
    clear N1 N2 N3 N4 N5
    go_enter Tryz.func108, Tryz.ntmps108
    go_wp2_with (first | (go_at_call 106; refine (C.out _ (by omega) (by simp) (by simp)).mono ?_; rintro e w' ⟨rfl, n, rfl⟩) | (go_at_call 151; refine (A1.out _ (by omega) name_len).mono ?_; rintro e w' ⟨rfl, rfl⟩) | (go_at_call 152; refine (A2.out _ (by first | omega | (simp only [List.length_cons]; omega))).mono ?_; rintro e w' ⟨rfl, rfl⟩))
    refine bodyPost_ret (v := .tuple #[.agg #[str [], str []], .bool false]) ?_ rfl (lnPost_no [] [] HO (((below_drewN B1 n).setCell (p := ⟨w.heap.size, 0, none⟩) (Nat.le_refl _) _).setCell (p := ⟨w.heap.size, 1, none⟩) (Nat.le_refl _) _))
    simp [results, Tryz.results108, go_sem]
  | true =>
    by_cases ha : a = []
    · have HO := N2 (by rw [ha]; rfl)
      subst ha
      clear N1 N2 N3 N4 N5
      go_enter Tryz.func108, Tryz.ntmps108
      go_wp2_with (first | (go_at_call 106; refine (C.out _ (by omega) (by simp) (by simp)).mono ?_; rintro e w' ⟨rfl, n, rfl⟩) | (go_at_call 151; refine (A1.out _ (by omega) name_len).mono ?_; rintro e w' ⟨rfl, rfl⟩) | (go_at_call 152; refine (A2.out _ (by first | omega | (simp only [List.length_cons]; omega))).mono ?_; rintro e w' ⟨rfl, rfl⟩))
      refine bodyPost_ret (v := .tuple #[.agg #[str [], str []], .bool false]) ?_ rfl (lnPost_no [] [] HO (((below_drewN B1 n).setCell (p := ⟨w.heap.size, 0, none⟩) (Nat.le_refl _) _).setCell (p := ⟨w.heap.size, 1, none⟩) (Nat.le_refl _) _))
      simp [results, Tryz.results108, go_sem]
    · have hia : a.isEmpty = false := by simpa using ha
      by_cases ha2 : 20 < a.length
      · have HO := N2 (by unfold hname; rw [Bool.and_eq_false_iff]; right; simp; omega)
        have ha3 : (20 : Int) < (a.length : Int) := by omega
        clear N1 N2 N3 N4 N5
        go_enter Tryz.func108, Tryz.ntmps108
        go_wp2_with (first | (go_at_call 106; refine (C.out _ (by omega) (by simp) (by simp)).mono ?_; rintro e w' ⟨rfl, n, rfl⟩) | (go_at_call 151; refine (A1.out _ (by omega) name_len).mono ?_; rintro e w' ⟨rfl, rfl⟩) | (go_at_call 152; refine (A2.out _ (by first | omega | (simp only [List.length_cons]; omega))).mono ?_; rintro e w' ⟨rfl, rfl⟩))
        refine bodyPost_ret (v := .tuple #[.agg #[str [], str []], .bool false]) ?_ rfl (lnPost_no [] [] HO (((below_drewN B1 n).setCell (p := ⟨w.heap.size, 0, none⟩) (Nat.le_refl _) _).setCell (p := ⟨w.heap.size, 1, none⟩) (Nat.le_refl _) _))
        simp [results, Tryz.results108, go_sem]
      · have ha3 : ¬ ((20 : Int) < (a.length : Int)) := by omega
        have d20 : decide ((20 : Int) < (a.length : Int)) = false := by simp; omega
        match v with
        | [] =>
          have HO := N3 (by simp)
          clear N1 N2 N3 N4 N5
          go_enter Tryz.func108, Tryz.ntmps108
          go_wp2_with (first | (go_at_call 106; refine (C.out _ (by omega) (by simp) (by simp)).mono ?_; rintro e w' ⟨rfl, n, rfl⟩) | (go_at_call 151; refine (A1.out _ (by omega) name_len).mono ?_; rintro e w' ⟨rfl, rfl⟩) | (go_at_call 152; refine (A2.out _ (by first | omega | (simp only [List.length_cons]; omega))).mono ?_; rintro e w' ⟨rfl, rfl⟩))
          refine bodyPost_ret (v := .tuple #[.agg #[str [], str []], .bool false]) ?_ rfl (lnPost_no [] [] HO (((below_drewN B1 n).setCell (p := ⟨w.heap.size, 0, none⟩) (Nat.le_refl _) _).setCell (p := ⟨w.heap.size, 1, none⟩) (Nat.le_refl _) _))
          simp [results, Tryz.results108, go_sem]
        | c :: v' =>
          have ix : ∀ h, (⟨(c :: v').toArray⟩ : ByteArray)[0]'h = c := fun _ => rfl
          have hb := c.toNat_lt
          by_cases hc : c.toNat = 32
          · have t32 : ((c.toNat : Int) != 32) = false := by simp [hc]
            have hc' : Hid (c = 32) := by show _ = _; apply UInt8.toNat_inj.1; rw [hc]; rfl
            have hn : hname a = a.all nameB := by unfold hname; have : 1 ≤ a.length := List.length_pos_iff.2 ha; simp; omega
            simp only [List.length_cons] at n2
            have X1 : (⟨(c :: v').toArray⟩ : ByteArray).extract 1 (v'.length + 1) = ⟨v'.toArray⟩ := by rw [ext_drop_take]; simp
            cases h1 : a.all nameB with
            | false =>
              have HO := N2 (by rw [hn, h1])
              rw [h1] at A1
              clear N1 N2 N3 N4 N5 hc
              go_enter Tryz.func108, Tryz.ntmps108
              go_wp2_with (first | (go_at_call 106; refine (C.out _ (by omega) (by simp) (by simp)).mono ?_; rintro e w' ⟨rfl, n, rfl⟩) | (go_at_call 151; refine (A1.out _ (by omega) name_len).mono ?_; rintro e w' ⟨rfl, rfl⟩) | (go_at_call 152; refine (A2.out _ (by first | omega | (simp only [List.length_cons]; omega))).mono ?_; rintro e w' ⟨rfl, rfl⟩))
              refine bodyPost_ret (v := .tuple #[.agg #[str a, str v'], .bool false]) ?_ rfl (lnPost_no a v' HO (((below_drewN B1 n).setCell (p := ⟨w.heap.size, 0, none⟩) (Nat.le_refl _) _).setCell (p := ⟨w.heap.size, 1, none⟩) (Nat.le_refl _) _))
              simp [results, Tryz.results108, go_sem]
            | true =>
              rw [h1] at A1
              cases h2 : (c :: v').all showB with
              | false =>
                have HO := N4 h2
                rw [h2] at A2
                clear N1 N2 N3 N4 N5 hc
                go_enter Tryz.func108, Tryz.ntmps108
                go_wp2_with (first | (go_at_call 106; refine (C.out _ (by omega) (by simp) (by simp)).mono ?_; rintro e w' ⟨rfl, n, rfl⟩) | (go_at_call 151; refine (A1.out _ (by omega) name_len).mono ?_; rintro e w' ⟨rfl, rfl⟩) | (go_at_call 152; refine (A2.out _ (by first | omega | (simp only [List.length_cons]; omega))).mono ?_; rintro e w' ⟨rfl, rfl⟩))
                refine bodyPost_ret (v := .tuple #[.agg #[str a, str v'], .bool false]) ?_ rfl (lnPost_no a v' HO (((below_drewN B1 n).setCell (p := ⟨w.heap.size, 0, none⟩) (Nat.le_refl _) _).setCell (p := ⟨w.heap.size, 1, none⟩) (Nat.le_refl _) _))
                simp [results, Tryz.results108, go_sem]
              | true =>
                have HO := N5 rfl (by rw [hn, h1]) (by rw [hc'.out]) h2
                rw [h2] at A2
                clear N1 N2 N3 N4 N5 hc
                go_enter Tryz.func108, Tryz.ntmps108
                go_wp2_with (first | (go_at_call 106; refine (C.out _ (by omega) (by simp) (by simp)).mono ?_; rintro e w' ⟨rfl, n, rfl⟩) | (go_at_call 151; refine (A1.out _ (by omega) name_len).mono ?_; rintro e w' ⟨rfl, rfl⟩) | (go_at_call 152; refine (A2.out _ (by first | omega | (simp only [List.length_cons]; omega))).mono ?_; rintro e w' ⟨rfl, rfl⟩))
                refine bodyPost_ret (v := .tuple #[.agg #[str a, str v'], .bool true]) ?_ rfl (lnPost_ok a v' HO (((below_drewN B1 n).setCell (p := ⟨w.heap.size, 0, none⟩) (Nat.le_refl _) _).setCell (p := ⟨w.heap.size, 1, none⟩) (Nat.le_refl _) _))
                simp [results, Tryz.results108, go_sem]
          · have HO := N3 (by intro h; apply hc; simp at h; rw [h]; rfl)
            have t32 : ((c.toNat : Int) != 32) = true := by simp; omega
            clear N1 N2 N3 N4 N5 hc
            go_enter Tryz.func108, Tryz.ntmps108
            go_wp2_with (first | (go_at_call 106; refine (C.out _ (by omega) (by simp) (by simp)).mono ?_; rintro e w' ⟨rfl, n, rfl⟩) | (go_at_call 151; refine (A1.out _ (by omega) name_len).mono ?_; rintro e w' ⟨rfl, rfl⟩) | (go_at_call 152; refine (A2.out _ (by first | omega | (simp only [List.length_cons]; omega))).mono ?_; rintro e w' ⟨rfl, rfl⟩))
            refine bodyPost_ret (v := .tuple #[.agg #[str [], str []], .bool false]) ?_ rfl (lnPost_no [] [] HO (((below_drewN B1 n).setCell (p := ⟨w.heap.size, 0, none⟩) (Nat.le_refl _) _).setCell (p := ⟨w.heap.size, 1, none⟩) (Nat.le_refl _) _))
            simp [results, Tryz.results108, go_sem]
end Go.Proofs.YtinnliapfdpfpaaGreatDoor.R
