/-
  CANONICAL FORMS, the program's: what must be signed, what a list picks.
-/
import Derived.Test.YtinnliapfdpfpaaGreatDoorFSort
import Derived.Test.YtinnliapfdpfpaaGreatDoorSTop
namespace Go.Proofs.YtinnliapfdpfpaaGreatDoor.R
open Go.RowKit
open Go.Proofs.YtinnliapfdpfpaaGreatDoor.C (ret_bool ret_int)

set_option maxHeartbeats 400000 in
theorem must_any (n : Bs) (w : World) : Calls Tryz.prog 102 #[str n] w fun e w' => e = .returned (.bool (must n)) ∧ w = w' := by
  have HM : Hid (must n = (n == [104, 111, 115, 116] || n == [108, 101, 110, 103, 116, 104] || ([120, 45] : Bs).isPrefixOf n)) := rfl
  have C : Hid (_) := pre_r n [120, 45]
  by_cases h1 : n = [104, 111, 115, 116]
  · subst h1
    go_enter Tryz.func102, Tryz.ntmps102
    go_wp2
    go_ret
    exact ⟨rfl, rfl⟩
  · by_cases h2 : n = [108, 101, 110, 103, 116, 104]
    · subst h2
      go_enter Tryz.func102, Tryz.ntmps102
      go_wp2
      go_ret
      exact ⟨rfl, rfl⟩
    · have e1 : (n == [104, 111, 115, 116]) = false := by simpa using h1
      have e2 : (n == [108, 101, 110, 103, 116, 104]) = false := by simpa using h2
      clear h1 h2
      rw [e1, e2] at HM
      go_enter Tryz.func102, Tryz.ntmps102
      go_wp2_with (go_at_call 137; refine (C.out _).mono ?_; rintro e w' ⟨rfl, rfl⟩)
      go_ret
      exact ⟨ret_bool HM.out.symm, rfl⟩

theorem find_r (v : Value) (l : Ps) (n : Bs) (B : Nat) (w : World) (h : phold w B v l) (hB : B ≤ w.heap.size) (hl : l.length ≤ 1000000000) :
    Calls Tryz.prog 101 #[v, str n] w fun e w' => e = .returned (.tuple #[str ((findP l n).getD []), .bool (findP l n).isSome]) ∧ Below w.heap.size w w' := by
  rw [← findEnd_eq]; exact find_any v l n B w h hB hl
theorem misses_take {hs s : Ps} {k : Nat} (h : k < hs.length) (h0 : misses (hs.take k) s = false) : misses (hs.take (k + 1)) s = (must hs[k].1 && (findP s hs[k].1).isNone) := by
  rw [List.take_succ_eq_append_getElem h, misses, List.any_append]
  unfold misses at h0
  rw [h0]; simp
theorem misses_hit {hs s : Ps} {k : Nat} (h : k < hs.length) (h0 : (must hs[k].1 && (findP s hs[k].1).isNone) = true) : misses hs s = true := by
  unfold misses
  rw [List.any_eq_true]
  exact ⟨hs[k], List.getElem_mem h, h0⟩

set_option maxHeartbeats 1000000 in
theorem misses_any (v sv : Value) (hs s : Ps) (w : World) (h : phold w w.heap.size v hs) (h2 : phold w w.heap.size sv s) (hl : hs.length ≤ 1000000) (hl2 : s.length ≤ 3000000) :
    Calls Tryz.prog 60 #[v, sv] w fun e w' => e = .returned (.bool (misses hs s)) ∧ Below w.heap.size w w' := by
  rcases h with ⟨rfl, rfl⟩ | ⟨g, cap, rfl, hg, hc⟩
  · go_enter Tryz.func60, Tryz.ntmps60
    go_wp2
    go_loop [11] (fun i => i = .int .i64 0) (fun _ => 0)
    case atStart => rfl
    case round =>
      subst hrel
      go_wp2
      go_ret
      exact ⟨rfl, Below.refl _ _⟩
  · go_enter Tryz.func60, Tryz.ntmps60
    go_wp2
    go_loopw [11] (fun i wr => ∃ k : Nat, k ≤ hs.length ∧ i = .int .i64 k ∧ misses (hs.take k) s = false ∧ Below w.heap.size w wr) (fun i _ => hs.length - (intOf i).toNat)
    case atStart => exact ⟨0, Nat.zero_le _, rfl, by simp [misses], Below.refl _ _⟩
    case round =>
      obtain ⟨k, hk, rfl, hno, hb⟩ := hrel
      have HN : Hid (misses (hs.take k) s = false) := hno
      clear hno
      have hsz := hb.size
      by_cases hlt : k < hs.length
      · obtain ⟨c1, c2⟩ := hc k hlt
        replace c1 := (hb.cell (p := ⟨g, k * 2, none⟩) (show g < w.heap.size by omega)).trans c1
        replace c2 := (hb.cell (p := ⟨g, k * 2 + 1, none⟩) (show g < w.heap.size by omega)).trans c2
        have HS : Hid (misses (hs.take (k + 1)) s = (must hs[k].1 && (findP s hs[k].1).isNone)) := misses_take hlt HN.out
        have HH : Hid ((must hs[k].1 && (findP s hs[k].1).isNone) = true → misses hs s = true) := misses_hit hlt
        clear hc
        generalize hs[k] = p at *
        obtain ⟨pn, pv⟩ := p
        simp only at c1 c2 HS HH
        have C : Hid (_) := find_r sv s pn
        have M : Hid (_) := must_any pn
        have hb1 : Below w.heap.size w (wr.alloc (.cells #[str pn, str pv] 117)) := hb.alloc hsz _
        go_wp2_with fail
        refine (C.out w.heap.size _ (h2.below hb1) (by simp; omega) (by omega)).mono ?_
        rintro e w2 ⟨rfl, hb2⟩
        have hb3 : Below w.heap.size w w2 := hb1.trans (hb2.mono (by simp; omega))
        have c3 : w2.cell? ⟨wr.heap.size, 0, none⟩ = some (str pn) := (hb2.cell (p := ⟨wr.heap.size, 0, none⟩) (by simp)).trans (by simp [go_sem])
        have hz2 := hb2.size
        clear hb1 hb2
        cases hf : findP s pn with
        | some u =>
          rw [hf] at HS
          simp only [Option.getD_some, Option.isSome_some]
          go_wp2
          go_roundw
          case rel => exact ⟨k + 1, by omega, by go_num, by rw [HS.out]; simp, hb3⟩
          case measure => simp [intOf]; omega
        | none =>
          rw [hf] at HS HH
          simp only [Option.getD_none, Option.isSome_none]
          cases hm : must pn with
          | true =>
            rw [hm] at M
            go_wp2_with (go_at_call 102; refine (M.out _).mono ?_; rintro e w' ⟨rfl, rfl⟩)
            go_ret
            exact ⟨ret_bool (HH.out (by rw [hm]; rfl)).symm, hb3⟩
          | false =>
            rw [hm] at M
            go_wp2_with (go_at_call 102; refine (M.out _).mono ?_; rintro e w' ⟨rfl, rfl⟩)
            go_roundw
            case rel => exact ⟨k + 1, by omega, by go_num, by rw [HS.out, hm]; rfl, hb3⟩
            case measure => simp [intOf]; omega
      · have HT : Hid (misses hs s = false) := by have := HN.out; rwa [List.take_of_length_le (by omega)] at this
        go_wp2
        go_ret
        exact ⟨ret_bool HT.out.symm, hb⟩

theorem pick_no {hs : Ps} {la n : Bs} {r : List Bs} (h : findP hs n = none) : pickFrom hs la (n :: r) = none := by unfold pickFrom; rw [h]
theorem pick_bad {hs : Ps} {la n v : Bs} {r : List Bs} (h : findP hs n = some v) (k : n ≤ la ∨ n = [97, 117, 116, 104]) : pickFrom hs la (n :: r) = none := by unfold pickFrom; rw [h]; simp only; rw [if_pos k]
theorem pick_ok {hs : Ps} {la n v : Bs} {r : List Bs} (h : findP hs n = some v) (k1 : ¬ n ≤ la) (k2 : n ≠ [97, 117, 116, 104]) : pickFrom hs la (n :: r) = (pickFrom hs n r).map ((n, v) :: ·) := by
  conv => lhs; unfold pickFrom
  rw [h]; simp only; rw [if_neg (fun k => k.elim k1 k2)]
theorem map_app {x y : Option Ps} {o : Ps} {p : Bs × Bs} {z : Option Ps} (h1 : x = y.map (o ++ ·)) (h2 : y = z.map (p :: ·)) : x = z.map ((o ++ [p]) ++ ·) := by
  rw [h1, h2]; cases z <;> simp

set_option maxRecDepth 20000 in
set_option maxHeartbeats 2000000 in
theorem pick_any (v : Value) (hs : Ps) (l : Bs) (w : World) (h : phold w w.heap.size v hs) (E : Env w) (hl : hs.length ≤ 1000000) (hl2 : l.length ≤ 2000000) :
    Calls Tryz.prog 59 #[v, str l] w fun e w' => prPost w (pickFrom hs [] (namesOf l)) e w' := by
  have hE := E.sz
  have h0 : (l = [] ∧ namesOf l = []) ∨ (l ≠ [] ∧ namesOf l = Lib.split l [59]) := by
    by_cases h : l = []
    · exact .inl ⟨h, by simp [namesOf, h]⟩
    · exact .inr ⟨h, by simp [namesOf, h]⟩
  have C : Hid (_) := fun x => cut_r x [59]
  have F : Hid (_) := find_r v hs
  generalize hN : pickFrom hs [] (namesOf l) = N at *
  rcases h0 with ⟨rfl, hn⟩ | ⟨hne, hn⟩
  · have HX : Hid (N = some []) := by show _ = _; rw [← hN, hn]; rfl
    clear hN hn
    go_enter Tryz.func59, Tryz.ntmps59
    go_wp2
    go_loop [1, 6, 7, 8] (fun x v la m => x = str [] ∧ v = nilP ∧ la = str [] ∧ m = .bool false) (fun _ _ _ _ => 0)
    case atStart => exact ⟨rfl, rfl, rfl, rfl⟩
    case round =>
      obtain ⟨rfl, rfl, rfl, rfl⟩ := hrel
      go_wp2
      go_ret2
      rw [HX.out]
      exact ⟨Below.refl _ _, _, rfl, prow_nil _ _⟩
  · have HX : Hid (N = (pickFrom hs [] (Lib.split l [59])).map ([] ++ ·)) := by show _ = _; rw [← hN, hn]; simp
    clear hN hn
    have e0 : (l == []) = false := by simpa using hne
    go_enter Tryz.func59, Tryz.ntmps59
    go_wp2
    go_loopw [1, 6, 7, 8] (fun x v la m wr => (∃ (o : Ps) (r a : Bs), x = str r ∧ prow wr w.heap.size v o ∧ la = str a ∧ m = .bool true ∧ Below w.heap.size w wr ∧ N = (pickFrom hs a (Lib.split r [59])).map (o ++ ·) ∧ r.length ≤ 2000000 ∧ o.length + r.length ≤ l.length) ∨
      (∃ (o : Ps) (a : Bs), x = str [] ∧ prow wr w.heap.size v o ∧ la = str a ∧ m = .bool false ∧ Below w.heap.size w wr ∧ N = some o)) (fun x _ _ m _ => 2 * lenS x + moreN m)
    case atStart => exact .inl ⟨[], l, [], rfl, prow_nil _ _, rfl, rfl, Below.refl _ _, HX.out, hl2, by simp⟩
    case round =>
      clear HX
      rcases hrel with ⟨o, r, a, rfl, hrow, rfl, rfl, hb, hsp, hr, hor⟩ | ⟨o, a, rfl, hrow, rfl, rfl, hb, hsp⟩
      · have HS : Hid (N = (pickFrom hs a (Lib.split r [59])).map (o ++ ·)) := hsp
        clear hsp
        obtain ⟨W, rfl⟩ : ∃ W, W = wr := ⟨_, rfl⟩
        have hcl := cut_len [59] r
        have S1 := @split_more r [59] (by simp)
        have S2 := @split_last r [59] (by simp)
        have S3 := @cut_rest r [59]
        have hsz := hb.size
        have C2 : Hid (_) := C.out r
        have HL : Hid (lenS (str r) = r.length) := lenS_str r
        have EW := E.below hb hE
        generalize Lib.cut r [59] = c at *
        obtain ⟨n, b, f⟩ := c
        simp only at S1 S2 S3 hcl
        have HSP : Hid (∃ rs, Lib.split r [59] = n :: rs ∧ (f = true → rs = Lib.split b [59]) ∧ (f = false → rs = [] ∧ b = [])) := by
          cases f with
          | true => exact ⟨_, S1 rfl, fun _ => rfl, fun h => absurd h (by simp)⟩
          | false => exact ⟨[], S2 rfl, fun h => absurd h (by simp), fun _ => ⟨rfl, S3 rfl⟩⟩
        clear S1 S2 S3
        obtain ⟨rs, hr1, hr2, hr3⟩ := HSP.out
        have HSQ : Hid (N = (pickFrom hs a (n :: rs)).map (o ++ ·)) := by show _ = _; rw [HS.out, hr1]
        clear HSP HS hr1
        have F2 : Hid (_) := F.out n
        go_wp2_with (go_at_call 100; refine (C2.out _ EW (by omega)).mono ?_; rintro e w' ⟨rfl, k, rfl⟩)
        have hb0 : Below w.heap.size w (W.drewN k) := below_drewN hb k
        refine (F2.out w.heap.size _ (h.below hb0) (by simp; omega) (by omega)).mono ?_
        rintro e w2 ⟨rfl, hb2⟩
        have row2 : prow w2 w.heap.size u6 o := (show prow (W.drewN k) w.heap.size u6 o from hrow).below hb2
        have hb3 : Below w.heap.size w w2 := hb0.trans (hb2.mono (by simp; omega))
        have hz3 := hb3.size
        clear hb0 hb2 hb hrow EW C2 F2
        cases hf : findP hs n with
        | none =>
          have HP : Hid (N = none) := by show _ = _; rw [HSQ.out, pick_no hf]; rfl
          simp only [Option.getD_none, Option.isSome_none]
          go_wp2
          go_ret2
          exact prPost_no HP.out hb3
        | some u =>
          simp only [Option.getD_some, Option.isSome_some]
          rcases le_cases n a with ⟨hle, hbl⟩ | ⟨hle, hbl1, hbl2⟩ | ⟨hle, hbl1, hbl2⟩
          · have HP : Hid (N = none) := by show _ = _; rw [HSQ.out, pick_bad hf (.inl hle)]; rfl
            clear hle
            go_wp2
            go_ret2
            exact prPost_no HP.out hb3
          · have HP : Hid (N = none) := by show _ = _; rw [HSQ.out, pick_bad hf (.inl hle)]; rfl
            clear hle
            go_wp2
            go_ret2
            exact prPost_no HP.out hb3
          · by_cases ha : n = [97, 117, 116, 104]
            · have HP : Hid (N = none) := by show _ = _; rw [HSQ.out, pick_bad hf (.inr ha)]; rfl
              have ha' : (n == [97, 117, 116, 104]) = true := by simpa using ha
              clear hle ha
              go_wp2
              go_ret2
              exact prPost_no HP.out hb3
            · have HP : Hid (N = (pickFrom hs n rs).map ((o ++ [(n, u)]) ++ ·)) := map_app HSQ.out (pick_ok hf hle ha)
              have ha' : (n == [97, 117, 116, 104]) = false := by simpa using ha
              clear hle ha
              cases f with
              | true =>
                have HQ : Hid (N = (pickFrom hs n (Lib.split b [59])).map ((o ++ [(n, u)]) ++ ·)) := by show _ = _; rw [← hr2 rfl]; exact HP.out
                simp only [if_true, List.length_cons, List.length_nil] at hcl
                clear hr2 hr3 HP HSQ
                go_wp2_with (at_builtin; refine papp_law rfl _ _ rfl w.heap.size o (n, u) _ rfl (row2.alloc _) _ rfl _ (heap_alloc_new _ _) (by omega) (by simp; omega) ?_; intro v' w7 row7 hb7)
                go_roundw
                case rel => exact .inl ⟨o ++ [(n, u)], b, n, rfl, row7, rfl, rfl, (hb3.alloc (by omega) _).trans hb7, HQ.out, by omega, by simp; omega⟩
                case measure => rw [HL.out, lenS_str, moreN_t]; omega
              | false =>
                obtain ⟨rfl, rfl⟩ := hr3 rfl
                have HQ : Hid (N = some (o ++ [(n, u)])) := by show _ = _; rw [HP.out]; simp [pickFrom]
                simp only [Bool.false_eq_true, if_false] at hcl
                clear hr2 hr3 HP HSQ
                go_wp2_with (at_builtin; refine papp_law rfl _ _ rfl w.heap.size o (n, u) _ rfl (row2.alloc _) _ rfl _ (heap_alloc_new _ _) (by omega) (by simp; omega) ?_; intro v' w7 row7 hb7)
                go_roundw
                case rel => exact .inr ⟨o ++ [(n, u)], n, rfl, row7, rfl, rfl, (hb3.alloc (by omega) _).trans hb7, HQ.out⟩
                case measure => rw [HL.out, lenS_str, moreN_f, moreN_t]; omega
      · have HX : Hid (prPost w N (.returned (.tuple #[u6, .bool true])) wr) := by
          show prPost _ _ _ _
          rw [hsp]; exact ⟨hb, _, rfl, hrow⟩
        go_wp2
        go_ret2
        exact HX.out
end Go.Proofs.YtinnliapfdpfpaaGreatDoor.R
